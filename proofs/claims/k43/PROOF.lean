import PyProof.Rows.All
import Wide.All
import OpenK.AllK
import Wide.FinOn
import Lean
import PyProof.EqAt
import PyProof.EqKinds
import PyProof.TupleCall
import PySem.Challenge.RW_dots_k43_hinges
set_option tactic.hygienic false
open Option renaming some->a_,none->b_
open Bool renaming true->c_,false->d_
noncomputable section
set_option bootstrap.genMatcherCode false
set_option genInjectivity false
set_option genSizeOf false
open And renaming intro->uq
open Array renaming getElem?_eq_getElem->aF,length_toList->ba,getElem?_eq_some_iff->bR,getD_eq_getD_getElem?->di,getElem?_toList->dM,getElem?_eq_none->fG,forIn_toList->lJ,replicate->oo,getElem_toList->ph,getD->v3,ext_getElem?->Gf,toList_push->HJ
open Bool renaming and_eq_true->aj,false_eq_true->bH,or_true->gu,and_true->iF,and_eq_true_iff->i8,not_eq_true'->jX,and_self->kG,or_eq_true->kW,false_ne_true->lU,and_false->lV,not_false->pz,true_and->zy,and_assoc->Pu
open Classical renaming propDecidable->mf,em->Ie
open Eq renaming symm->kN
open False renaming elim->iZ
open ForInStep renaming yield->i9
open Int renaming ofNat_le->dB,ofNat->e8,le_trans->fK,lt_of_le_of_lt->fW,eq_ofNat_of_zero_le->jI,ofNat_zero_le->j5,ofNat_lt->oA,not_le->rJ,toNat_natCast->tF,toNat->um,not_le_of_gt->uo,natCast_pos->vZ,emod_lt_of_pos->Ic,emod_nonneg->Pt
open Int.ofNat renaming inj->HI
open List renaming getElem?_eq_getElem->af,mem_append_right->ag,length_map->ai,mem_append->ao,mem_append_left->aq,mem_cons->aw,map_cons->ax,length_append->az,mem_singleton->aA,append_assoc->aE,getElem?_append_right->aH,append_nil->aM,getElem?_map->aN,size_toArray->aO,getElem?_eq_some_iff->aP,getElem?_append_left->aQ,range->aT,mem_of_getElem?->aU,take_append_drop->aY,nodup_cons->aZ,length_cons->a8,length_range->a9,mem_range->bf,getElem_mem->bh,all_eq_true->bo,mem_filter->bJ,getElem?_cons_succ->bO,not_mem_nil->bP,mem_of_mem_take->bS,getElem?_take->bX,mem_map->cg,nodup_append->ck,pairwise_cons->cv,map_map->cB,mem_iff_getElem->cH,map_congr_left->cP,mem_map_of_mem->de,length_filter_le->df,getElem?_eq_none->dh,replicate->dt,mem_of_mem_drop->du,all_cons->dv,pairwise_iff_getElem->dC,perm_append_comm->dO,map_append->dS,pairwise_append->eh,mem_flatMap->eo,length_take->eA,getElem?_replicate->eB,flatMap_append->eO,drop_eq_getElem_cons->eR,lookup_cons->eW,length_drop->eX,nodup_nil->fh,getElem?_set_ne->fi,drop_zero->fj,pairwise_map->fu,drop_sublist->fx,length_pos_iff->fD,take_of_length_le->fI,nodup_range->fO,perm_ext_iff_of_nodup->fS,reverse_perm->gn,mem_of_mem_tail->gp,getElem?_of_mem->gr,filterMap_cons->gZ,isEmpty_iff->g8,mem_filterMap->ig,of_mem_zip->iC,length_replicate->iJ,getElem?_toArray->iL,take_sublist->iP,any_cons->jj,length_eq_zero_iff->jA,length->jB,take_zero->jN,take_take->jO,getElem?_set->jP,getElem?_inj->jQ,flatMap_singleton->jR,flatMap_cons->jS,ext_getElem?->jT,drop_left->jU,drop_eq_nil_of_le->jV,drop_drop->jW,pairwise_reverse->ko,ext_getElem->kB,take_append_of_le_length->kK,length_nil->kU,getElem_of_mem->kZ,getElem?_drop->lS,getD_eq_getElem?_getD->lT,flatten_cons->mK,map_take->m6,prefix_iff_eq_take->nO,pairwise_singleton->nP,mem_reverse->nQ,getElem?_cons_zero->nR,flatMap_nil->nU,cons_append->nV,pairwise_lt_range->oj,getElem?_set_self->om,forIn_cons->ox,mem_iff_getElem?->oS,getElem?_range->qd,map_drop->ql,getElem_range->qZ,set_eq_take_append_cons_drop->rH,zipWith->sH,map_inj_left->sJ,zipIdx_cons->tP,getElem_map->tQ,drop_length->tR,any_eq_true->tS,eq_nil_of_length_eq_zero->uk,take_left->wC,setIfInBounds_toArray->wD,length_eraseIdx_of_lt->wF,drop_take->wG,find?_range_eq_none->zw,pairwise_filterMap->zH,zipWith_cons_cons->BP,range_succ_eq_map->BQ,length_eq_one_iff->BR,append_eq_nil_iff->BS,getElem?_reverse->B8,cons_lt_cons_iff->B9,flatten_append->Gc,filter_sublist->Ge,zip_cons_cons->HD,map_inj_right->HE,length_modify->HF,filter_append->HG,filterMap_map->HH,tail_sublist->Ib,take_length->LQ,reverse_nil->LR,range'_succ->LS,perm_middle->LU,map_toArray->LV,flatten_nil->LW,zip_append->Ml,zipIdx_nil->Mm,nil_append->Mn,length_zip->Mo,head?_cons->Mp,foldl_cons->Mq,filter_nil->Mr,map->Pq,forIn_nil->Pr
open List.Nodup renaming sublist->zx
open List.Pairwise renaming imp_of_mem->iQ,nil->oy,imp->oz
open List.Perm renaming append_left->jH,eq_of_pairwise->lI,trans->DR
open List.cons renaming inj->c6,injEq->fT
open Nat renaming le_trans->aa,le_of_eq->ae,le_refl->au,lt_of_le_of_lt->aG,zero_le->aR,not_le_of_lt->aV,le_add_right->aX,le_of_lt->bb,lt_of_lt_of_le->bc,le_of_succ_le_succ->bp,lt_irrefl->bq,ne_of_lt->br,le_antisymm->bA,succ_le_succ->bC,le_of_not_lt->bF,le_succ_of_le->bW,lt_trans->cR,add_sub_cancel_left->cU,min_eq_left->dz,lt_of_le_of_ne->dX,add_sub_of_le->eN,lt_succ_self->eZ,add_le_add_left->fF,pos_of_ne_zero->fV,min_le_left->gm,zero_add->gG,add_le_of_le_sub->gH,sub_self->iq,lt_or_ge->iu,add_assoc->iH,mod_lt->jx,add_right_comm->jy,ne_of_gt->j2,lt_succ_of_lt->j3,add_le_add->j4,min_le_right->kF,lt_trichotomy->mY,lt_of_succ_lt->mZ,sub_lt_of_lt->nZ,lt_of_not_le->n4,le_succ->pS,le_sub_of_add_le->pT,add_lt_of_lt_sub->pU,sub_add_cancel->rG,not_lt_zero->vX,le_add_left->vY,eq_of_lt_succ_of_not_lt->wA,sub_le->yk,le_of_add_le_add_left->zv,le_add_right_of_le->B6,add_comm->B7,lt_add_right->Mj
open Ne renaming symm->eK
open Option renaming bind_some->bw,bind->bD,map_some->bV,isNone_iff_eq_none->eQ,map->hX,isSome_iff_ne_none->lR,isSome_iff_exists->mF,getD_some->sG,isSome->wz,bind_eq_some_iff->yj,map_eq_some_iff->zu,bind_eq_bind->B5,join_some->HB,getD_none->HC,map_map->LP
open Option.some renaming inj->aW,injEq->hV
open Prod renaming ext->DQ
open Prod.mk renaming injEq->vW
open PyProof.Rows renaming SortSt->bN,callWith_type1->c7,slot_tuple_getitem->dc,Keyed->ju,lt_int->nN,AllBare->oi,SortKind->pf,callWith_builtin1->px,StrsAre->pQ,getItem_tuple->qY,len_tuple->tO,IsTup->zt,IntsAre->BO,listUpdate_at->Gb,subscriptTail_builtinR->HZ,tail_any->Mh,seqEpoch_at->Mi
open PyProof.Rows.F renaming entry_set_update_loop->eV,plain_set_update_loop->iA
open PyProof.Rows.IsTup renaming new->Ia
open PyProof.Rows.SortSt renaming mk'->ji
open PySem renaming Value->ah,Shared->ak,sizeLine->aB,wpAny->aC,model->aD,Addr->aI,starEach->aS,Expr->be,Str->bu,SetTable->bB,wpAny_setField_rec->bI,wpAny_call_entry->bK,Around->bT,wpAny_holding->bZ,Heap->cx,wpAny_newObj_type->cy,Program->cz,wpAny_callSpecial?_slot->cF,wpAny_field->cV,wpAny_seqItems->cW,World->c5,cLine->dk,wpAny_mono->dm,wpAny_setState_of->dq,wpAny_isInstance->dF,codeAny_builtin->eE,sizeLine_eq->eM,wpAny_Call_Name_kw->fo,wpAny_specialOf->fJ,Builtin->fU,plainId_quiet->fY,wpAny_rule->gf,mem_of_lookup->gX,wpAny_truthy_bool->gY,wpAny_forIn_list->ik,Paired->ip,wpAny_typeOf->iN,IsPair->iO,wpAny_updateSeq->iW,wpAny_passesOwn->iX,wpAny_attempt->i6,FuncData->jK,wpAny_tupleItemsOf->j1,wpAny_of_eq->kh,wpAny_getItem_str_slice->ki,codeAny_mono->kC,NameKind->kE,Obj->kM,Stmt->kX,wpAny_letGo->lG,codeAny_call_builtin->lH,Scope->mE,KeyKind->mH,wpAny_pyIter_strU->oh,wpAny_loadPart'->qa,post_val_or_str->qb,isSubtype_tuple_tuple->qf,wpAny_updateSeq_pair->rk,wpAny_runValue->rl,IsZip->rn,IsPart->rq,PassesOwn->sD,wpAny_onRaise->tM,wpAny_pyIter_slot->vP,wpAny_pyIter_list->vQ,concat_meets->vS,wpAny_askSetting->x4,scanBound->x5,noFill_tuple_add->x6,Pos->zp,wpAny_execs_nil->zA,placed->zB,Sem->zE,wpAny_richCompare_same_room->BM,BindsTo->BN,wpAny_tryCatch->BV,wpAny_newTuple->BW,isSubtype_stop->BX,entryFor_alias->BY,call_meets->BZ,Operator->B2,MulOk->B3,GenState->B4,Tok->DL,wpAny_standAt->FV,wpAny_newList->FW,wpAny_comprehension_free->FX,seq_tuple_add->FY,call->FZ,wpAny_pyNext_range_end->HS,wpAny_pyIter_rangeiter->HU,seqIndex_neg->HV,pyIter->HW,callType_new->HX,seqIndex_of->Mb,codeAny_extend_loopS->Md,Slot->Me,IsRangeIter->Mf,wpAny_setEntries_of->Pj,Env->Po,ElemsOf->Pp
open PySem.Builtin renaming bitAnd->uh,bitOr->LN
open PySem.Builtin.Frozenset renaming updateFrom->ou,sizeOf->pP,isAnySet->Mg
open PySem.Builtin.List renaming listTooLong->fR,listLengthHint->qj,listExtendWith->qk,listSameRef->sE
open PySem.Builtin.Range renaming rangeSize->i7,small->vN
open PySem.Builtin.Slice renaming slicePlaces->iy,sliceAdjust->qX
open PySem.Builtin.SmallTypes renaming nextOf->ee,ownedTupleHandOut->qW,ownedTupleIsFree->rC
open PySem.Builtin.Str renaming occurrences->gh
open PySem.Builtin.Tuple renaming tupleHashOf->eJ,tupleItemsOf->kn,tupleIsExact->qi
open PySem.Calls renaming spliced_nil->rB,Name_function_global->vV,call_function_entry->wx,callWith_builtin->zG,spliced_cons->Ga
open PySem.Challenge renaming rw_dots_k43_hinges->nc
open PySem.Env renaming kindOf->rA
open PySem.F renaming slot_tuple_iterator_next->f7,slot_tuple_hash->gP,slot_list_extend->ja,plain_min_loop->jv,entry_set_init->jw,slot_zip_next->jM,called_set->kY,slot_list_append->l9,args_tuple_add_2->me,plainAttrs_list->mI,entry_tuple_add->mJ,slot_tuple_add->m8,plainAttrs_str->m9,slot_tuple_eq->nY,args_tuple_iterator_next_1->pO,entry_tuple_iterator_next->qc,args_list_extend_2->qh,entry_list_extend->rz,entry_proto_collect->tN,slot_tuple_getitem->uf,args_object_init_2->ug,slot_dict_getitem->vL,plain_extend_loop->vM,type_list_append->vU,plain_list_iadd->wq,entry_list_iadd->wt,args_zip_next_1->wu,typeCall_set_1->yg,entry_zip_next->yh,entry_min_loop->yi,slot_tuple_lt->zq,slot_set_iter->zr
open PySem.Heap renaming get?_push_size->aJ,SameBut->cA,size_push->c8,get?_update_other->dA,get?_update_self->eU,get?_none_of_le->pv,ExtBut->DP
open PySem.Heap.SameBut renaming update->nM,refl->x9
open PySem.IsRange renaming new->Pn
open PySem.ItemsOf renaming nil->Pl
open PySem.Manifest renaming owners->F9
open PySem.NameKind renaming free->eG,cell->lQ
open PySem.Obj renaming mapSeq->eY,data_mapFields->HY
open PySem.Paired renaming length->pN
open PySem.PassesOwn renaming never->DO
open PySem.ScopeKind renaming function->zF
open PySem.SeqAt renaming RcNeAt->zD,RcAt->F7,EqAt->F8
open PySem.SetTable renaming below->aK,Probe->bG,insertAt->cQ,grown->dE,runEnd->dJ,advance->dR,bits->eF,toList_insertAt->eT,sizeAbove->fH,leap->ic,turns->kT,slot->lN,laid->lO,fits->lP,fill->pe,has->wo,layClean->B1,tooFull->DN,relaid->F6,Met->LM
open PySem.SetTable.below renaming go->kD
open PySem.SetTable.layClean renaming free->c9
open PySem.SetTable.probe renaming go->bQ
open PySem.Shared renaming TypeIs->pL
open PySem.Str renaming ofString->ab
open PySem.StrLaws renaming found_one->DM
open PySem.Txt renaming slice->fe,startswith3->hZ,upper->rm,join->tD,slice_le->zC
open PySem.Unicode renaming upperOf->tz
open PySem.Value renaming ref->cG,none->dU,type->iY,isStrOf->Pk
open PySem.Value.type renaming inj->nL
open PySem.W renaming Frag->aL,kia_one->fZ,keepIn->gJ,OpenLaw->je,nsIn->m7,fnOf->qg,codeIn->ue,WalkO->vT,cellsFrom_some->x8,kas_item->B0,kitx_dict->DK,mg_of->LL
open PySem.pickOrder renaming go->vR
open String renaming ofList->Ma
open Sum renaming inr->cj,inl->tw
open Sum.inl renaming inj->sy
open Sum.inr renaming inj->lM
open True renaming intro->kA
set_option Elab.async false
set_option compiler.extract_closed false
set_option linter.all false
set_option maxRecDepth 100000
set_option maxHeartbeats 4000000
def cY{α β:Type _}{x:Option α}{f:α->Option β}{b:β}(h:x.bind f=a_ b):∃a,x=a_ a/\f a=a_ b:=yj.mp h
def eD{α β:Type _}{x:Option α}{f:α->β}{b:β}(h:x.map f=a_ b):∃a,x=a_ a/\f a=b:=zu.mp h
open PySem PySem.Spec in def wb9:=@wpAny_bind
open PySem PySem.Spec in def wu9:=@wpAny_pure
open PySem in def hp9:=@Heap.get?_push_of_some
open PySem in def hl9:=@Heap.lt_size
def g7{α:Type _}{a:α}{l:List α}:a∈a::l:=List.mem_cons_self
def iE{α:Type _}(y:α){a:α}{l:List α}(h:a∈l):a∈y::l:=List.mem_cons_of_mem y h
namespace L2
open PySem PySem.Spec PyProof.Rows
abbrev Key:=Sum Int bu
noncomputable def sU:Key->ah->Bool
 |.inl k,v=>Value.isInt k v
 |.inr x,v=>Pk x v
noncomputable def YS(w:c5):Key->Int
 |.inl k=>hashInt k
 |.inr x=>hashStr w x
def cO:∀{k:Key}{v:ah},sU k v=c_->(∃i t,k=tw i/\v=Value.int i t)\/(∃x t,k=cj x/\v=Value.str x t)
 |.inl i,v,h=>by
   obtain⟨t,e⟩:=Value.isInt_shape h;exact .inl ⟨i,t,rfl,e⟩
 |.inr x,v,h=>by
   obtain⟨t,e⟩:=Value.isStrOf_shape h;exact .inr ⟨x,t,rfl,e⟩
def G7(i:Int)(t:DL):sU (.inl i) (.int i t)=c_:=by simp[sU,Value.isInt]
def xr(x:bu)(t:DL):sU (.inr x) (.str x t)=c_:=by simp[sU,Pk]
def TC(a b:Int):decide ((tw a:Key)=tw b)=(a == b):=by
 by_cases e:a=b
 ·subst e;simp
 ·have h:¬(tw a:Key)=tw b:=λq=>e (sy q);rw[decide_eq_false h];exact(beq_eq_false_iff_ne.mpr e).symm
def Tw(a b:bu):decide ((cj a:Key)=cj b)=decide (a=b):=by
 by_cases e:a=b
 ·simp
 ·have h:¬(cj a:Key)=cj b:=λq=>e (lM q);rw[decide_eq_false h,decide_eq_false e]
def TB(a:Int)(b:bu):decide ((tw a:Key)=cj b)=d_:=decide_eq_false (λq=>nomatch q)
def Tx(a:bu)(b:Int):decide ((cj a:Key)=tw b)=d_:=decide_eq_false (λq=>nomatch q)
def cD(prog:cz)(w:c5):mH prog w Key where
 is:=sU
 hash:=YS w
 inj:=λv a b ha hb=>by
  rcases cO ha with⟨i,t,rfl,rfl⟩|⟨x,t,rfl,rfl⟩
  ·rcases cO hb with⟨j,u,rfl,e⟩|⟨y,u,rfl,e⟩
   ·injection e with e1 _;rw[e1]
   ·exact nomatch e
  ·rcases cO hb with⟨j,u,rfl,e⟩|⟨y,u,rfl,e⟩
   ·exact nomatch e
   ·injection e with e1 _;rw[e1]
 byValue:=λk v h=>by
  rcases cO h with⟨i,t,rfl,rfl⟩|⟨x,t,rfl,rfl⟩<;>rfl
 pyHash:=λc h=>by
  rcases cO c with⟨i,t,rfl,rfl⟩|⟨x,t,rfl,rfl⟩
  ·exact wpAny_pyHash_int h
  ·exact wpAny_pyHash_str h
 eqBool:=λd c h=>by
  rcases cO d with⟨i,t,rfl,rfl⟩|⟨x,t,rfl,rfl⟩
  ·rcases cO c with⟨j,u,rfl,rfl⟩|⟨y,u,rfl,rfl⟩
   ·rw[TC]at h;exact wpAny_eqBool_int h
   ·rw[TB]at h;exact SeqAt.EqAt.int_str i t y u _ _ _ _ h
  ·rcases cO c with⟨j,u,rfl,rfl⟩|⟨y,u,rfl,rfl⟩
   ·rw[Tx]at h;exact SeqAt.EqAt.str_int x t j u _ _ _ _ h
   ·rw[Tw]at h;exact wpAny_eqBool_str h
 «strs» :=λk x t v h=>by
  rcases cO h with⟨i,u,rfl,e⟩|⟨y,u,rfl,e⟩
  ·exact nomatch e
  ·injection e with e1 _
   subst e1;cases v<;>rfl
def AD(prog:cz)(w:c5)(i:Int)(t:DL):(cD prog w).is (.inl i) (.int i t)=c_:=G7 i t
def AB(prog:cz)(w:c5)(x:bu)(t:DL):(cD prog w).is (.inr x) (.str x t)=c_:=xr x t
def Pc(h h':cx):Prop:=∀b o,h.get? b=a_ o->o.cls=.type "tuple"->(∃its n,o.data=.seq its n)->h'.get? b=a_ o
structure Ik(P:cz)(w:c5) where
 κ:Type
 d:Nat
 is:cx->κ->ah->Prop
 hash:κ->Int
 draw:κ->Nat
 inj:∀{h:cx}{x y:κ}{v:ah},is h x v->is h y v->x=y
 n6:∀{h h':cx}{k:κ}{v:ah},Pc h h'->is h k v->is h' k v
 hsh:∀{A:bT}{E:ah->ak->Prop}{s:ak}{k:κ}{v:ah}{Q:Int->ak->Prop},A.units+d<=dk->is s.heap k v->Q (hash k) { s with toks:=s.toks+draw k }->aC (aD P w) A (pyHash v) Q E s
 eqb:∀{A:bT}{E:ah->ak->Prop}{s:ak}{x y:κ}{u v:ah}{Q:Bool->ak->Prop},A.units+d<=dk->is s.heap x u->is s.heap y v->(x=y->Q c_ s)->(x≠y->Q d_ s)->aC (aD P w) A (eqBool u v) Q E s
 qui:∀{A:bT}{E:ah->ak->Prop}{s:ak}{k:κ}{v:ah}{Q:Bool->ak->Prop}{n:Nat},d<=n->is s.heap k v->Q c_ s->aC (aD P w) A (eqIsQuiet n v) Q E s
 cla:∀{A:bT}{E:ah->ak->Prop}{s:ak}{k:κ}{v:ah}{Q:Bool->ak->Prop}{n:Nat},d<=n->is s.heap k v->Q d_ s->aC (aD P w) A (ofAClassStatement n v) Q E s
 hbv:∀{A:bT}{E:ah->ak->Prop}{s:ak}{k:κ}{v:ah}{Q:Bool->ak->Prop}{n:Nat},d<=n->is s.heap k v->(∀b,Q b s)->aC (aD P w) A (hashByValue n v) Q E s
section
variable{P:cz}{w:c5}{A:bT}{E:ah->ak->Prop}{z0:ak}{I:Ik P w}
def Li(c:carriedByValue v=c_)(h:Q d_ z0):aC (aD P w) A (ofAClassStatement n v) Q E z0:=by
 cases v<;>first|(cases c;done)|(exact wu9 h)|(cases n<;>(exact wu9 h))
def TV(c:carriedByValue v=c_)(h:∀b,Q b z0):aC (aD P w) A (hashByValue n v) Q E z0:=by
 cases v<;>first|(cases c;done)|(unfold hashByValue;exact wu9 (h _))|(cases n<;>(exact wu9 (h _)))
abbrev C3(P:cz)(w:c5):Ik P w where
 κ:=Key
 d:=0
 is:=λ_ k v=>(cD P w).is k v=c_
 hash:=(cD P w).hash
 draw:=λ_=>1
 inj:=λex g=>(cD P w).inj _ _ _ ex g
 n6:=λ_ x=>x
 hsh:=λ_ c h=>(cD P w).pyHash c h
 eqb:=λ{A E s x y u v Q}_ ex g h1 h2=>(cD P w).eqBool ex g (by
  by_cases e:x=y
  ·rw[decide_eq_true e];exact h1 e
  ·rw[decide_eq_false e];exact h2 e)
 qui:=λ_ c h=>by rw[eqIsQuiet_byValue _ ((cD P w).byValue _ _ c)];exact wu9 h
 cla:=λ_ c h=>Li ((cD P w).byValue _ _ c) h
 hbv:=λ_ c h=>TV ((cD P w).byValue _ _ c) h
inductive rh (I:Ik P w) (h:cx):List I.κ->List ah->Prop
 |nil:rh I h [] []
 |cons {k:I.κ} {v:ah} {ks:List I.κ} {vs:List ah}:I.is h k v->rh I h ks vs->rh I h (k::ks) (v::vs)
def rj(I:Ik P w)(h:cx)(ks:List I.κ)(p:aI):Prop:=∃o c n,h.get? p=a_ o/\o.cls=.type "tuple"/\o.data=.seq c n/\rh I h ks c.toList
theorem rh.inj(ex:rh I h x vs)(c:rh I h y vs):x=y:=by
 induction ex generalizing y with
 |nil=>cases c;rfl
 |cons h1 _ d=>
   cases c with
   |cons h2 g=>rw[I.inj h1 h2,d g]
theorem rh.length(x:rh I h ks vs):vs.length=ks.length:=by
 induction x with
 |nil=>rfl
 |cons _ _ c=>simp[c]
theorem rh.n6(k:Pc h h')(x:rh I h ks vs):rh I h' ks vs:=by
 induction x with
 |nil=>exact .nil
 |cons h1 _ c=>exact .cons (I.n6 k h1) c
def rj.typeIs(x:rj I z0.heap ks p):z0.TypeIs (.ref p) "tuple":=let ⟨o,_,_,go,gc,_⟩:=x;⟨o,go,gc⟩
def rj.inj(ex:rj I h x p)(l:rj I h y p):x=y:=by
 obtain⟨o,k,n,go,_,q,v⟩:=ex;obtain⟨o',d,z,g,_,c,j⟩:=l;obtain rfl:o=o':=aW (go.symm.trans g);rw[q]at c
 injection c with h1 _
 subst h1;exact v.inj j
def rj.n6(k:Pc h h')(x:rj I h ks p):rj I h' ks p:=
 let ⟨o,its,n,h1,h2,h3,h4⟩:=x;⟨o,its,n,k p o h1 h2 ⟨_,_,h3⟩,h2,h3,h4.n6 k⟩
def Xn{h h':cx}(go:h.get? d=a_ o)(g:o.cls≠.type "tuple")(k:∀b o,b≠d->h.get? b=a_ o->h'.get? b=a_ o):Pc h h':=λb o' e c _=>
 k b o' (λz=>by
   subst z;obtain rfl:o'=o:=aW (e.symm.trans go)
   exact g c) e
noncomputable def E8(I:Ik P w)(ks:List I.κ):Int:=reduceHash (eJ (ks.map I.hash))
def Dg(B:A.units+(I.d+1)<=dk)(y:rj I z0.heap ks p)(h:Q (E8 I ks) { z0 with toks:=z0.toks+((ks.map I.draw).sum+1) }) :
  aC (aD P w) A (pyHash (.ref p)) Q E z0:=by
 have gt:=y.typeIs;obtain⟨o,z,n,go,_,D,J⟩:=y
 first|unfold pyHashByItsType|skip
 first|refine wb9 (wpAny_cRoomFor_or (.inr (aG (aX _ _) B)) ?_)|skip
 refine wb9 (fJ gt gP.lookup ?_);refine wb9 (fJ gt gP.lookup ?_);refine wb9 (wpAny_callSpecialIfBoundUnlessNone?_slot gt gP (bK gP gt PySem.F.entry_tuple_hash ?_ (PySem.F.args_tuple_hash_1 _)));show aC _ _ (kn (.ref p) >>= _) _ _ z0;refine wb9 (j1 go D ?_);refine wb9 ?_;rw[<-lJ]
 refine ik _
  (λtl(b)q=>∃pre c,ks=pre++c/\rh I z0.heap c tl/\b.toList=pre.map I.hash/\q={ z0 with toks:=z0.toks+(pre.map I.draw).sum })
  _ ?_ ?_ _ _ ⟨[],ks,rfl,J,rfl,rfl⟩
 ·rintro x tl b q ⟨pre,c,rfl,v,l,rfl⟩
  cases v with
  | @cons k _ g _ h1 j=>
    refine wb9 (I.hsh ?_ h1 ?_)
    ·show A.units+1+I.d<=dk;omega
    first
     |exact wu9 ⟨pre++[k],g,by simp,j,by simp[l],by simp[iH]⟩
     |exact wb9 (wu9 (wu9 ⟨pre++[k],g,by simp,j,by simp[l],by simp[iH]⟩))
 ·rintro b q ⟨pre,c,rfl,v,l,rfl⟩;cases v;rw[aM]at h;show aC _ _ (retInt (eJ b.toList)) _ _ _;rw[l];refine wpAny_ret_mkInt ?_;show aC _ _ (if(decide (-(2) ^ 63<=eJ (pre.map I.hash)) && decide (eJ (pre.map I.hash)<2 ^ 63))=c_ then _ else _) Q E _;unfold E8 reduceHash at h;by_cases ge:(decide (-(2) ^ 63<=eJ (pre.map I.hash)) && decide (eJ (pre.map I.hash)<2 ^ 63))=c_
  ·rw[if_pos ge];rw[if_pos ge]at h;exact wu9 (by simpa [iH]using h)
  ·rw[if_neg ge];rw[if_neg ge]at h;exact wb9 (gf (wu9 (by simpa [iH]using h)))
def K3(i_:A.units+I.d<=dk)(ex:rj I z0.heap x p)(ey:rj I z0.heap y b)(h1:x=y->R (.done (.ret (.bool c_))) z0)(h2:x≠y->R (.done (.ret (.bool d_))) z0) :
  aC (aD P w) A (fU.«tuple.__eq__» ⟨[.ref p,.ref b],[]⟩) R E z0:=by
 have D:=ey.typeIs;obtain⟨oa,xs,na,J,_,L,M⟩:=ex;obtain⟨ob,ys,nb,O,_,U,W⟩:=ey;show aC _ _ (isInstance (.ref b) (.type "tuple") >>= _) _ _ z0;refine wb9 (dF D qf ?_);refine wb9 (j1 J L ?_);refine wb9 (j1 O U ?_);refine wb9 ?_
 refine ik _
  (λtl r q=>r.1=b_/\q=z0/\∃z B c ys',tl=List.zip c ys'/\rh I z0.heap z c/\rh I z0.heap B ys'/\(z=B↔x=y)/\(c.length == ys'.length)=(xs.size == ys.size))
  _ ?_ ?_ _ _ ⟨rfl,rfl,x,y,xs.toList,ys.toList,rfl,M,W,Iff.rfl,by simp⟩
 ·rintro⟨u,v⟩ tl r q ⟨ge,rfl,z,B,c,ys',gz,hx',hy',gdec,glen⟩
  cases hx' with
  |nil=>simp at gz
  | @cons k1 u' Y g q1 j=>
    cases hy' with
    |nil=>simp at gz
    | @cons k2 v' Z k q2 l=>
      obtain⟨⟨rfl,rfl⟩,rfl⟩:=gz;refine wb9 (I.eqb i_ q1 q2 (λgk=>?_) λgk=>?_)
      ·subst gk;refine wu9 ⟨rfl,rfl,Y,Z,g,k,rfl,j,l,?_,by simpa using glen⟩;rw[<-gdec];exact⟨λe=>by rw[e],λe=>(c6 e).2⟩
      ·exact wb9 (wu9 (wu9 (wu9 (h2 λe=>gk (c6 (gdec.mpr e)).1))))
 ·rintro⟨r1,r2⟩ q ⟨ge,rfl,z,B,c,ys',gz,hx',hy',gdec,glen⟩;subst ge;refine wu9 ?_;show R (.done (.ret (.bool (xs.size == ys.size)))) q;rw[<-glen]
  cases hx' with
  |nil=>
    cases hy' with
    |nil=>exact h1 (gdec.mp rfl)
    |cons _ _=>exact h2 λe=>nomatch gdec.mpr e
  |cons _ _=>
    cases hy' with
    |nil=>exact h2 λe=>nomatch gdec.mpr e
    |cons _ _=>simp at gz
def W8(j:A.units+(I.d+1)<=dk)(ex:rj I z0.heap x p)(g:rj I z0.heap y b)(h1:x=y->Q c_ z0)(h2:x≠y->Q d_ z0) :
  aC (aD P w) A (eqBool (.ref p) (.ref b)) Q E z0:=by
 unfold eqBool
 try with_reducible refine bZ ?_
 by_cases c:(cG p == cG b)=c_
 ·rw[if_pos c];have e:p=b:=by have:=eq_of_beq c;injection this
  subst e;obtain rfl:=ex.inj g;exact wb9 (gf (wu9 (h1 rfl)))
 ·rw[if_neg c]
  exact wb9 (BM ex.typeIs g.typeIs nY
   (bK nY ex.typeIs PySem.F.entry_tuple_eq (K3 (by show A.units+1+I.d<=dk;omega) ex g (λe=>⟨_,rfl,(λe=>nomatch e),gY (h1 e)⟩) λe=>⟨_,rfl,(λe=>nomatch e),gY (h2 e)⟩) (PySem.F.args_tuple_eq_2 _ _)) (by omega))
def tX(z:I.d<=n)(q:rj I z0.heap ks p)(h:Q c_ z0):aC (aD P w) A (eqIsQuiet (n+1) (.ref p)) Q E z0:=by
 have gt:=q.typeIs;obtain⟨o,y,m,go,_,B,D⟩:=q;unfold eqIsQuiet;refine wb9 (fJ gt nY.lookup ?_);refine wb9 (dF gt qf ?_);refine wb9 (cW go B ?_);refine wb9 ?_;rw[<-lJ];refine ik _ (λtl r c=>r.1=b_/\c=z0/\∃l,rh I z0.heap l tl) _ ?_ ?_ _ _ ⟨rfl,rfl,_,D⟩
 ·rintro v tl r c ⟨ge,rfl,l,J⟩
  cases J with
  | @cons k _ g _ h1 j=>
    refine wb9 (I.qui z h1 ?_);exact wu9 ⟨rfl,rfl,g,j⟩
 ·rintro⟨r1,r2⟩ c ⟨ge,rfl,_⟩;subst ge;exact wu9 h
def ze(y:I.d<=n)(z:rj I z0.heap ks p)(h:Q d_ z0):aC (aD P w) A (ofAClassStatement (n+1) (.ref p)) Q E z0:=by
 obtain⟨o,q,m,go,B,D,J⟩:=z;unfold ofAClassStatement;refine wb9 (wpAny_typeOf_ref go ?_);rw[B];refine wb9 (wu9 ?_);refine wb9 (cW go D ?_);refine wb9 ?_;rw[<-lJ];refine ik _ (λtl r c=>r.1=b_/\c=z0/\∃l,rh I z0.heap l tl) _ ?_ ?_ _ _ ⟨rfl,rfl,_,J⟩
 ·rintro v tl r c ⟨ge,rfl,l,L⟩
  cases L with
  | @cons k _ g _ h1 j=>
    refine wb9 (I.cla y h1 ?_);exact wu9 ⟨rfl,rfl,g,j⟩
 ·rintro⟨r1,r2⟩ c ⟨ge,rfl,_⟩;subst ge;exact wu9 h
def P9(z:I.d<=n)(q:rj I z0.heap ks p)(h:∀b,Q b z0):aC (aD P w) A (hashByValue (n+1) (.ref p)) Q E z0:=by
 have gt:=q.typeIs;obtain⟨o,y,m,go,L,B,D⟩:=q;refine wb9 (fJ gt gP.lookup ?_);refine wb9 (cW go B ?_);refine wb9 ?_;rw[<-lJ];refine ik _ (λtl r c=>r.1=b_/\c=z0/\∃l,rh I z0.heap l tl) _ ?_ ?_ _ _ ⟨rfl,rfl,_,D⟩
 ·rintro v tl r c ⟨ge,rfl,l,J⟩
  cases J with
  | @cons k _ g _ h1 j=>
    refine wb9 (I.hbv z h1 λb=>?_);cases b
    ·exact wu9 (wu9 (h _))
    ·exact wu9 ⟨rfl,rfl,g,j⟩
 ·rintro⟨r1,r2⟩ c ⟨ge,rfl,_⟩;subst ge;exact wu9 (h _)
abbrev tupI(I:Ik P w):Ik P w where
 κ:=Sum Key (List I.κ)
 d:=I.d+1
 is:=λh k v=>match k with
  |.inl k=>(cD P w).is k v=c_
  |.inr ks=>∃b,v=.ref b/\rj I h ks b
 hash:=λk=>match k with
  |.inl k=>(cD P w).hash k
  |.inr ks=>E8 I ks
 draw:=λk=>match k with
  |.inl _=>1
  |.inr ks=>(ks.map I.draw).sum+1
 inj:=λ{h x y v}ex g=>by
  cases x with
  |inl k=>
    cases y with
    |inl k'=>exact congrArg _ ((cD P w).inj _ _ _ ex g)
    |inr ks=>obtain⟨b,rfl,_⟩:=g;exact nomatch ((cD P w).byValue _ _ ex)
  |inr ks=>
    obtain⟨b,rfl,q⟩:=ex
    cases y with
    |inl k'=>exact nomatch ((cD P w).byValue _ _ g)
    |inr B=>obtain⟨M,e,D⟩:=g;cases e;exact congrArg _ (q.inj D)
 n6:=λ{h h' k v}q x=>by
  cases k with
  |inl k=>exact x
  |inr ks=>obtain⟨b,e,z⟩:=x;exact⟨b,e,z.n6 q⟩
 hsh:=λ{A E s k v Q}l c h=>by
  cases k with
  |inl k=>exact(cD P w).pyHash c h
  |inr ks=>obtain⟨b,rfl,z⟩:=c;exact Dg l z h
 eqb:=λ{A E s x y u v Q}l ex g h1 h2=>by
  cases x with
  |inl k=>
    cases y with
    |inl k'=>exact(C3 P w).eqb (by show A.units+0<=dk;exact aa (aX _ _) l) ex g (λe=>h1 (by rw[e])) λe=>h2 λz=>e (sy z)
    |inr ks=>
      obtain⟨b,rfl,o,its,n,go,J,L,_⟩:=g;have ht:s.heap.IsTuple b its:=⟨o,go,J,n,L⟩
      rcases cO ex with⟨i,t,rfl,rfl⟩|⟨z,t,rfl,rfl⟩
      ·exact SeqAt.EqAt.int_tuple i t ht (aG (aX _ _) l) _ _ _ _ (h2 λe=>nomatch e)
      ·exact SeqAt.EqAt.str_tuple z t ht (by omega) _ _ _ _ (h2 λe=>nomatch e)
  |inr ks=>
    obtain⟨b,rfl,q⟩:=ex
    cases y with
    |inl k'=>
      obtain⟨o,its,n,go,J,L,_⟩:=q;have ht:s.heap.IsTuple b its:=⟨o,go,J,n,L⟩
      rcases cO g with⟨i,t,rfl,rfl⟩|⟨z,t,rfl,rfl⟩
      ·exact SeqAt.EqAt.tuple_int i t ht (by omega) _ _ _ _ (h2 λe=>nomatch e)
      ·exact SeqAt.EqAt.tuple_str z t ht (by omega) _ _ _ _ (h2 λe=>nomatch e)
    |inr B=>
      obtain⟨M,rfl,D⟩:=g;exact W8 l q D (λe=>h1 (by rw[e])) λe=>h2 λz=>e (lM z)
 qui:=λ{A E s k v Q n}j c h=>by
  cases k with
  |inl k=>exact(C3 P w).qui (aR _) c h
  |inr ks=>
    obtain⟨b,rfl,z⟩:=c
    cases n with
    |zero=>exact((aV j (aR _))).elim
    |succ n=>exact tX (bp j) z h
 cla:=λ{A E s k v Q n}j c h=>by
  cases k with
  |inl k=>exact(C3 P w).cla (aR _) c h
  |inr ks=>
    obtain⟨b,rfl,z⟩:=c
    cases n with
    |zero=>omega
    |succ n=>exact ze (bp j) z h
 hbv:=λ{A E s k v Q n}j c h=>by
  cases k with
  |inl k=>exact(C3 P w).hbv (aR _) c h
  |inr ks=>
    obtain⟨b,rfl,z⟩:=c
    cases n with
    |zero=>omega
    |succ n=>exact P9 (bp j) z h
end
abbrev N2:=Sum Key (List Key)
abbrev NK:=Sum Key (List N2)
noncomputable instance ZS:DecidableEq N2:=instDecidableEqSum
instance ZR:DecidableEq NK:=instDecidableEqSum
abbrev i2(P:cz)(w:c5):Ik P w:=tupI (C3 P w)
abbrev i3(P:cz)(w:c5):Ik P w:=tupI (i2 P w)
abbrev YG(P:cz)(w:c5):cx->NK->ah->Prop:=(i3 P w).is
abbrev UR(P:cz)(w:c5):cx->List NK->List ah->Prop:=rh (i3 P w)
abbrev qe(P:cz)(w:c5):cx->List NK->aI->Prop:=rj (i3 P w)
abbrev dZ(P:cz)(w:c5):List NK->Int:=E8 (i3 P w)
section
variable{A:bT}{z0:ak}
def Gi:(i3 P w).d<=7:=by show 2<=7;simp
def W7(c:A.units+3<=dk)(ex:qe P w z0.heap x p)(d:qe P w z0.heap y b)(h:Q (decide (x=y)) z0) :
  aC (aD P w) A (eqBool (.ref p) (.ref b)) Q E z0:=
 W8 c ex d (λe=>by rw[decide_eq_true e]at h;exact h) λe=>by rw[decide_eq_false e]at h;exact h
end
def PZ(P:cz)(w:c5):HeapKind P w (List NK) where
 is:=qe P w
 hash:=dZ P w
 draws:=λks=>(ks.map (i3 P w).draw).sum+1
 room:=λA=>A.units+3<=dk
 inj:=λex c=>ex.inj c
 keeps:=λ{h h' k a d o es ep}x go v g=>x.n6 λb o' e _ ⟨y,B,q⟩=>(g.2 b λz=>by
  subst z;rw[go]at e;cases e
  rw[v]at q;cases q).trans e
 pyHash:=λj l h=>Dg j l h
 eqBool:=λj ex c h=>W7 j ex c h
 quiet:=λl h=>tX Gi l h
inductive V where
 |non|bl (b:Bool)|int (i:Int)|str (x:bu)|byt (b:Array UInt8)|flt (b:UInt64)|ref (a:aI)|ty (n:String)
 deriving DecidableEq
def RelV:V->ah->Prop
 |.non,u=>u=dU
 |.bl b,u=>u=Value.bool b
 |.int i,u=>∃t,u=Value.int i t
 |.str x,u=>∃t,u=Value.str x t
 |.byt b,u=>∃t,u=Value.bytes b t
 |.flt b,u=>∃t,u=Value.float b t
 |.ref a,u=>u=cG a
 |.ty n,u=>u=iY n
abbrev cM:List V->List ah->Prop:=ip RelV
def cM.length(r:cM xs us):xs.length=us.length:=pN r
theorem cM.get:∀{xs:List V}{us:List ah}{i:Nat}{x:V},cM xs us->xs[i]?=a_ x->∃u,us[i]?=a_ u/\RelV x u
 |_,_,_,_,.nil,e=>by simp at e
 |_,_,0,_,.cons r _,e=>by simp at e;subst e;exact⟨_,rfl,r⟩
 |_,_,i+1,x,.cons _ t,e=>by
   obtain⟨u,h1,h2⟩:=cM.get t (by simpa using e);exact⟨u,by simpa using h1,h2⟩
theorem cM.set(r:RelV x u):∀{xs:List V}{us:List ah}(i:Nat),cM xs us->cM (xs.set i x) (us.set i u)
 |_,_,_,.nil=>.nil
 |_,_,0,.cons _ t=>.cons r t
 |_,_,i+1,.cons q t=>.cons q (cM.set r i t)
theorem cM.append:∀{xs ys:List V}{us ws:List ah},cM xs us->cM ys ws->cM (xs++ys) (us++ws)
 |_,_,_,_,.nil,s=>s
 |_,_,_,_,.cons r t,s=>.cons r (cM.append t s)
theorem cM.take:∀{xs:List V}{us:List ah}(n:Nat),cM xs us->cM (xs.take n) (us.take n)
 |_,_,0,_=>.nil
 |_,_,_+1,.nil=>.nil
 |_,_,n+1,.cons r t=>.cons r (cM.take n t)
theorem cM.drop:∀{xs:List V}{us:List ah}(n:Nat),cM xs us->cM (xs.drop n) (us.drop n)
 |_,_,0,r=>r
 |_,_,_+1,.nil=>.nil
 |_,_,n+1,.cons _ t=>cM.drop n t
def wm:Option V->Option ah->Prop
 |some v,a_ u=>RelV v u
 |none,b_=>True
 |_,_=>False
def KV{κ:Type}:List (κ×V)->List (κ×ah)->Prop:=ip λ(p:κ×V)(q:κ×ah)=>p.1=q.1/\RelV p.2 q.2
noncomputable def kV:Key->V
 |.inl i=>.int i
 |.inr x=>.str x
inductive HO where
 |lst (xs:List V)
 |tup (xs:List V)
 |dK (k_:List (Key×V))|dT (k_:List (List Key×V))
 |dN (xs:List (List NK×aI))
 |set (S:Int->Bool) (n:Nat)
 |ins (C dx:aI) (fs:List (bu×V))
 |own (x:aI)
 |xd (fs:List (bu×V))
 |met (f x:aI)
 |rng (lo hi:Int)
 |mG (o:kM) (u:HO)
 |tbl (ps:Array ah)
 |ext (φ:cx->Prop)
abbrev Hp:=aI->Option HO
noncomputable def upd(H:Hp)(a:aI)(o:HO):Hp:=λb=>if b=a then a_ o else H b
def cC:upd H a o a=a_ o:=by unfold upd;rw[if_pos rfl]
def cL(h:b≠a):upd H a o b=H b:=by unfold upd;rw[if_neg h]
def WB{H:Hp}{a b:aI}{o u:HO}(h:H a=a_ o)(h':H b=a_ u)(d:o≠u):a≠b:=by
 intro e;subst e;rw[h]at h';exact d (aW h')
def eL{H:Hp}{a b:aI}{o:HO}(h:H a=a_ o)(h':H b=b_):a≠b:=by
 intro e;subst e;rw[h]at h';cases h'
section
variable(P:cz)(w:c5)
def jZ(H:Hp)(h:cx)(a:aI):HO->Prop
 |.lst xs=>xs.length<=aB/\∃(its:List ah) (n:Nat),cM xs its/\h.get? a=a_ { cls:=.type "list",data:=.seq its.toArray n }
 |.tup xs=>xs.length<=aB/\∃its:List ah,cM xs its/\zt h a its.toArray
 |.dK k_=>k_.length<=aB/\(a == sysModules)=d_/\∃vs,KV k_ vs/\h.DictOf (cD P w) a vs
 | .dT k_=>k_.length<=aB/\(a == sysModules)=d_/\∃xs:List (List Key×aI×ah),
   ip (λ(p:List Key×V)(q:List Key×aI×ah)=>p.1=q.1/\H q.2.1=a_ (.tup (p.1.map kV))/\RelV p.2 q.2.2) k_ xs/\
   ∃o es ep,h.get? a=a_ o/\o.ExactDict/\o.data=.dict es ep/\es.toList=xs.map (entryOfKey (tupleKind (cD P w)))/\(xs.map (·.1)).Nodup
 |.dN xs=>xs.length<=aB/\(a == sysModules)=d_/\∃o es ep,h.get? a=a_ o/\o.ExactDict/\o.data=.dict es ep/\es.toList=xs.map (λx=>entryOfKey (PZ P w) (x.1,x.2,.bool c_))/\(xs.map (·.1)).Nodup
 |.set S n=>h.SetOf (intKind P w) a S n
 | .ins C dx fs=>H dx=a_ (.own a)/\fs.length<=1000/\dx≠a/\h.get? a=a_ (PySem.W.instObj C dx)/\
   ∃c,h.Ns1 dx c/\(∀f,wm (fs.lookup f) (c f))/\PySem.Within c (fs.map (·.1))
 |.own _=>∃o,h.get? a=a_ o
 |.xd fs=>∃c,h.Ns1 a c/\∀f,wm (fs.lookup f) (c f)
 |.rng lo hi=>∃t u v,h.get? a=a_ { cls:=.type "range",data:=.fields #[.int lo t,.int hi u,.int 1 v] }
 |.mG o u=>h.get? a=a_ o/\jZ H h a u
 |.tbl ps=>h.get? a=a_ { cls:=.none,data:=.fields ps }
 |.met f x=>h.get? a=a_ (PySem.W.methodObj (.ref f) (.ref x))
 |.ext φ=>φ h/\(∃o,h.get? a=a_ o)/\∀h1 h2:cx,φ h1->(∀o,h1.get? a=a_ o->h2.get? a=a_ o)->φ h2
def qT(H:Hp)(h:cx):Prop:=∀a o,H a=a_ o->jZ P w H h a o
end
section
variable{P:cz}{w:c5}{H:Hp}{h h':cx}{a:aI}{o:HO}
theorem jZ.lt(x:jZ P w H h a o):a<h.objs.size:=by
 cases o with
 |lst xs=>obtain⟨_,_,_,_,e⟩:=x;exact hl9 e
 |tup xs=>obtain⟨_,_,_,p⟩:=x;exact p.lt
 |dK k_=>obtain⟨_,_,_,_,o,_,_,e,_⟩:=x;exact hl9 e
 |dT k_=>obtain⟨_,_,_,_,o,_,_,e,_⟩:=x;exact hl9 e
 |dN xs=>obtain⟨_,_,o,_,_,e,_⟩:=x;exact hl9 e
 |set S n=>obtain⟨o,_,_,_,e,_⟩:=x;exact hl9 e
 |ins C dx fs=>obtain⟨_,_,_,e,_⟩:=x;exact hl9 e
 |own y=>obtain⟨_,e⟩:=x;exact hl9 e
 |xd fs=>obtain⟨_,⟨_,_,_,e,_⟩,_⟩:=x;exact hl9 e
 |rng lo hi=>obtain⟨_,_,_,e⟩:=x;exact hl9 e
 |mG c u=>obtain⟨e,_⟩:=x;exact hl9 e
 |tbl ps=>exact hl9 (x)
 |met f y=>exact hl9 (x)
 |ext φ=>obtain⟨_,⟨_,e⟩,_⟩:=x;exact hl9 e
theorem Paired.Tf{α β:Type}{F G:α->β->Prop}:∀{l₁:List α}{c:List β},ip F l₁ c->(∀a b,F a b->G a b)->ip G l₁ c
 |_,_,.nil,_=>.nil
 |_,_,.cons r t,f=>.cons (f _ _ r) (Paired.Tf t f)
def jZ.n6(x:jZ P w H h a o)(k:∀b u,(b=a\/H b=a_ (.own a))->h.get? b=a_ u->h'.get? b=a_ u)
  (ho:∀b,H b=a_ (.own a)->H' b=a_ (.own a))(ht:∀b xs,H b=a_ (.tup xs)->H' b=a_ (.tup xs)):jZ P w H' h' a o:=by
 induction o with
 |lst xs=>obtain⟨z,its,n,r,e⟩:=x;exact⟨z,its,n,r,k _ _ (.inl rfl) e⟩
 |tup xs=>obtain⟨z,its,r,g,e,c⟩:=x;exact⟨z,its,r,g,k _ _ (.inl rfl) e,c⟩
 |dK k_=>obtain⟨z,y,vs,r,g,es,ep,e,c⟩:=x;exact⟨z,y,vs,r,g,es,ep,k _ _ (.inl rfl) e,c⟩
 |dT k_=>
   obtain⟨z,y,xs,r,g,es,ep,e,c⟩:=x;exact⟨z,y,xs,Paired.Tf r λp q z=>⟨z.1,ht _ _ z.2.1,z.2.2⟩,g,es,ep,k _ _ (.inl rfl) e,c⟩
 |dN xs=>obtain⟨z,y,g,es,ep,e,c⟩:=x;exact⟨z,y,g,es,ep,k _ _ (.inl rfl) e,c⟩
 |set S n=>obtain⟨g,es,ep,t,e,c⟩:=x;exact⟨g,es,ep,t,k _ _ (.inl rfl) e,c⟩
 |ins C dx fs=>
   obtain⟨d,z,ne,e,j,⟨od,es,ep,e2,c⟩,r⟩:=x;exact⟨ho _ d,z,ne,k _ _ (.inl rfl) e,j,⟨od,es,ep,k _ _ (.inr d) e2,c⟩,r⟩
 |own y=>obtain⟨g,e⟩:=x;exact⟨g,k _ _ (.inl rfl) e⟩
 |xd fs=>obtain⟨j,⟨od,es,ep,e,c⟩,r⟩:=x;exact⟨j,⟨od,es,ep,k _ _ (.inl rfl) e,c⟩,r⟩
 |rng lo hi=>obtain⟨t,u,v,e⟩:=x;exact⟨t,u,v,k _ _ (.inl rfl) e⟩
 |mG g u l=>obtain⟨e,q⟩:=x;exact⟨k _ _ (.inl rfl) e,l q⟩
 |tbl ps=>
   have e :=x;exact k a _ (.inl rfl) e
 |met f y=>
   have e :=x;exact k a _ (.inl rfl) e
 |ext φ=>obtain⟨p,⟨o,e⟩,st⟩:=x;exact⟨st _ _ p λo q=>k _ _ (.inl rfl) q,⟨o,k _ _ (.inl rfl) e⟩,st⟩
def qT.lt(x:qT P w H h)(e:H a=a_ o):a<h.objs.size:=(x a o e).lt
def qT.fresh(x:qT P w H h)(e:h.objs.size<=a):H a=b_:=by
 cases q:H a with
 |none=>rfl
 |some u=>exact absurd (bc (x.lt q) e) (bq _)
def qT.kept(x:qT P w H h)(k:∀b u,h.get? b=a_ u->h'.get? b=a_ u):qT P w H h':=λa o e=>
 (x a o e).n6 (λb u _ q=>k b u q) (λ_ q=>q) λ_ _ q=>q
def qT.laid(x:qT P w H h)(k:∀b u,h.get? b=a_ u->h'.get? b=a_ u)(hp:h.objs.size<=a)(new:jZ P w (upd H a o) h' a o):qT P w (upd H a o) h':=λb u e=>by
 have d:=x.fresh hp;by_cases hb:b=a
 ·subst hb;rw[cC]at e;cases e;exact new
 ·rw[cL hb]at e;exact(x b u e).n6 (λc v _ q=>k c v q) (λc q=>by rw[cL (eL q d)];exact q) λc xs q=>by rw[cL (eL q d)];exact q
end
def Rd(H:Hp)(a:aI)(u:HO):Prop:=H a=a_ u\/∃o,H a=a_ (.mG o u)
def Rd.ok(r:Rd H a u)(x:qT P w H h):jZ P w H h a u:=by
 rcases r with r|⟨o,r⟩
 ·exact x a u r
 ·obtain⟨_,q⟩:=x a _ r;exact q
def XC:Option HO->Prop
 |some (.lst _)=>True
 |some (.dK _)=>True
 |some (.dT _)=>True
 |some (.dN _)=>True
 |some (.set _ _)=>True
 |some (.ins _ _ _)=>True
 |some (.ext _)=>True
 |_=>False
section
variable{h':cx}
def qT.write(ok:qT P w H h)(l:XC (H x))(he:e=x\/H e=a_ (.own x))(k:∀b u,b≠e->h.get? b=a_ u->h'.get? b=a_ u)(B:∃u,h'.get? e=a_ u)
  (new:jZ P w (upd H x o') h' x o'):qT P w (upd H x o') h':=λb u q=>by
 have g:∀c y,H c=a_ (.own y)->c≠x:=λc y r z=>by subst z;rw[r]at l;exact l
 have j:∀c xs,H c=a_ (.tup xs)->c≠x:=λc xs r z=>by subst z;rw[r]at l;exact l
 by_cases hb:b=x
 ·subst hb;rw[cC]at q;cases q;exact new
 ·rw[cL hb]at q;by_cases d:b=e
  ·have D:H b=a_ (.own x):=by
    rcases he with z|z
    ·exact absurd (d.trans z) hb
    ·rw[d];exact z
   rw[q]at D;cases D;obtain⟨v,J⟩:=B;exact⟨v,by rw[d];exact J⟩
  ·refine(ok b u q).n6 (λc v hc r=>k c v ?_ r) (λc r=>by rw[cL (g c b r)];exact r) λc xs r=>by rw[cL (j c xs r)];exact r
   rcases hc with rfl|hc
   ·exact d
   ·rintro rfl
    rcases he with z|z
    ·exact g c b hc z
    ·rw[hc]at z;cases z;exact hb rfl
end
structure Un(fs ex:List aI)(H H':Hp)(h h':cx):Prop where
 keep:∀b o,h.get? b=a_ o->H b=b_->b∉fs->b∉ex->h'.get? b=a_ o
 slot:∀b o,h.get? b=a_ o->H b=b_->b∈fs->b∉ex->∃sl,h'.get? b=a_ { o with slots:=sl }
 free:∀b o,h.get? b=a_ o->H b=b_->b∉ex->H' b=b_
 there:∀b o,h.get? b=a_ o->b∉ex->∃o',h'.get? b=a_ o'
 tups:∀b xs,H b=a_ (.tup xs)->H' b=a_ (.tup xs)
 frzs:∀b o u,H b=a_ (.mG o u)->H' b=a_ (.mG o u)
 tbls:∀b ps,H b=a_ (.tbl ps)->∃more,H' b=a_ (.tbl (ps++more))
section
variable{h h':cx}
def Un.any(u:Un fs ex H H1 h h1)(q:h.get? b=a_ ob)(n:H b=b_)(c:b∉ex):∃sl,h1.get? b=a_ { ob with slots:=sl }:=by
 by_cases hb:b∈fs
 ·exact u.slot b ob q n hb c
 ·exact⟨ob.slots,u.keep b ob q n hb c⟩
def Un.kept(k:∀b u,h.get? b=a_ u->h'.get? b=a_ u):Un fs ex H H h h':=
 ⟨λb c q _ _ _=>k b c q,λb c q _ _ _=>⟨c.slots,k b c q⟩,λ_ _ _ n _=>n,λb c q _=>⟨c,k b c q⟩,λ_ _ q=>q,λ_ _ _ q=>q,λ_ ps q=>⟨#[],by rw[q];simp⟩⟩
def Un.refl:Un fs ex H H h h:=Un.kept λ_ _ q=>q
def Un.laid(k:∀b u,h.get? b=a_ u->h'.get? b=a_ u)(hp:h.objs.size<=a)(c:H a=b_):Un fs ex H (upd H a o) h h' where
 keep:=λb u q _ _ _=>k b u q
 slot:=λb u q _ _ _=>⟨u.slots,k b u q⟩
 free:=λb u q n _=>by rw[cL (br (bc (hl9 q) hp))];exact n
 there:=λb u q _=>⟨u,k b u q⟩
 tups:=λb xs q=>by rw[cL (eL q c)];exact q
 frzs:=λb u xs q=>by rw[cL (eL q c)];exact q
 tbls:=λb ps q=>⟨#[],by rw[cL (eL q c),q];simp⟩
def Un.write(d:XC (H x))(he:e=x\/H e=a_ (.own x))(k:∀b u,b≠e->h.get? b=a_ u->h'.get? b=a_ u)(g:∃u,h'.get? e=a_ u):Un fs ex H (upd H x o) h h':=by
 have l:∀b,H b=b_->b≠x:=λb n z=>by subst z;rw[n]at d;exact d
 have hb:∀b,H b=b_->b≠e:=λb n z=>by
  subst z
  rcases he with r|r
  ·exact l b n r
  ·rw[n]at r;cases r
 have j:∀b u,H b=a_ u->¬XC (a_ u)->b≠x:=λb u q nm z=>by subst z;rw[q]at d;exact nm d
 refine⟨λb u q n _ _=>k b u (hb b n) q,λb u q n _ _=>⟨u.slots,k b u (hb b n) q⟩,λb u q n _=>by rw[cL (l b n)];exact n,λb u q _=>?_,
  λb xs q=>by rw[cL (j b _ q λz=>z)];exact q,λb u xs q=>by rw[cL (j b _ q λz=>z)];exact q,λb ps q=>⟨#[],by rw[cL (j b _ q λz=>z),q];simp⟩⟩
 by_cases c:b=e
 ·subst c;exact g
 ·exact⟨u,k b u c q⟩
end
noncomputable def XJ(h:cx)(H:Hp):List aI:=(aT h.objs.size).filter λa=>(H a).isSome
def AV(h:cx)(H:Hp):cx:=PySem.W.hideAll h (XJ h H)
def Hf(h:cx)(H:Hp):(AV h H).objs.size=h.objs.size:=PySem.W.hideAll_size _ _
def KE{h:cx}(e:h.get? b=a_ o)(n:H b=b_):(AV h H).get? b=a_ o:=
 PySem.W.hideAll_get _ e λc=>by
  have q :=(bJ.mp c).2;rw[n]at q;simp at q
def NU(e:(AV h H).get? b=a_ o):h.get? b=a_ o/\H b=b_:=by
 have c :=PySem.W.of_hideAll (XJ h H) e;refine⟨c,?_⟩
 cases q:H b with
 |none=>rfl
 |some x=>
   have d:b∈XJ h H:=bJ.mpr ⟨bf.mpr (hl9 c),by simp[q]⟩;have z:(AV h H).get? b=b_:=PySem.W.hideAll_none (XJ h H) d;rw[z]at e;cases e
noncomputable def Pb(g h:cx)(L:aI):List (aI×kM):=(aT h.objs.size).filterMap λa=>if a=L\/(g.get? a).isSome=c_ then b_ else(h.get? a).map λo=>(a,o)
def rest(g h:cx)(L d:aI):List (aI×kM):=(Pb g h L).filter λp=>decide (p.1≠d)
structure Mod(K:aL)(mg:bu->Option ah)(base:cx):Prop where
 kin:K.In base
 glob:base.Ns mainGlobals mg
 blt:∃mb,base.Ns builtinsNs mb/\∀x:bu,x≠"__name__"->mb x=bootBuiltins x
 nolimit:base.NoLimit
structure Cx where
 prog:cz
 w:c5
 K:aL
 mg:bu->Option ah
 base:cx
 A:bT
 N:List bu
 s₀:ak
 H₀:Hp
 env:Po
 outer:List Po
 stack:List Po
 ex:List aI
 fn:bu->Bool
 calm:Bool
 pn:List (aI×kM)
 xe:ah->ak->Prop
noncomputable def HL(l:List Po):List aI:=l.filterMap (·.frame)
abbrev Cx.fs(X:Cx):List aI:=HL X.outer
def Qu(sc:mE)(x:bu):Prop:=sc.names.lookup x=a_ .local\/sc.names.lookup x=a_ .cell\/sc.names.lookup x=a_ .free
def Loc(sc:mE)(x:bu):Prop:=sc.names.lookup x=a_ .local\/sc.names.lookup x=a_ .cell
def Look(env:Po)(h:cx)(m:bu->Option ah)(x:bu)(u:ah):Prop:=
 (env.kindOf x=a_ .local/\m x=a_ u)\/((env.kindOf x=a_ .cell\/env.kindOf x=a_ .free)/\∃c,env.cells.lookup x=a_ c/\h.IsCell c (a_ u))
structure Cx.Ok(X:Cx):Prop where
 mod:Mod X.K X.mg X.base
 kind:X.env.scope.kind=.function
 glob:X.env.globals=mainGlobals
 blt:X.env.builtins=builtinsNs
 above:X.s₀.heap.objs.size<=X.env.locals
 inj:∀x y c,X.env.cells.lookup x=a_ c->X.env.cells.lookup y=a_ c->x=y
 has:∀x,(X.env.kindOf x=a_ .cell\/X.env.kindOf x=a_ .free)->∃c,X.env.cells.lookup x=a_ c
 cab:∀x c,X.fn x=c_->X.env.cells.lookup x=a_ c->X.s₀.heap.objs.size<=c
 hd:X.calm=c_->X.A.handled=b_
 frames:X.A.frames=a_ X.stack
 LX:X.stack=X.outer\/(X.stack=X.env::X.outer/\X.env.frame=a_ X.env.locals)
 exf:∀b∈X.ex,b≠X.env.locals/\∀x c,X.env.cells.lookup x=a_ c->c≠b
 bs:∀b o,X.base.get? b=a_ o->X.s₀.heap.get? b=a_ o/\X.H₀ b=b_
 bsz:X.base.objs.size<=X.s₀.heap.objs.size
 noex:∀b o,X.base.get? b=a_ o->b∉X.ex
 exfs:∀b∈X.ex,b∉X.fs
 vq:X.s₀.heap.FunFrames X.base X.outer
 frf:∀b∈X.fs,X.H₀ b=b_
structure Inv(X:Cx)(h_:List (aI×kM))(σ:List (Option V))(H:Hp)(s:ak):Prop where
 ok:X.Ok
 os:s.os=X.s₀.os
 bare:oi s.gens
 base:Un X.fs X.ex X.H₀ H X.s₀.heap s.heap
 loc:∃m,s.heap.Ns X.env.locals m/\∀(i:Nat)(x:bu)(v:V),X.N[i]?=a_ x->σ[i]?=a_ (a_ v)->Qu X.env.scope x->∃u,RelV v u/\Look X.env s.heap m x u
 cell:∀x c,X.env.cells.lookup x=a_ c->∃v,s.heap.IsCell c v
 free:H X.env.locals=b_
 freeC:∀x c,X.env.cells.lookup x=a_ c->H c=b_
 pin:∀p∈X.pn++h_,s.heap.get? p.1=a_ p.2/\H p.1=b_/\p.1≠X.env.locals/\p.1∉X.fs/\∀v,p.2.data≠.cell v
 hok:qT X.prog X.w H s.heap
 len:σ.length=X.N.length
section
variable{X:Cx}{h_:List (aI×kM)}{σ:List (Option V)}{H:Hp}{s:ak}{h':cx}
def Cx.Ok.YC(ok:X.Ok)(e:X.base.get? b=a_ o):b∉X.fs:=λhb=>by
 have:=(ok.vq.mem hb).1;rw[e]at this;cases this
def Inv.bs(I:Inv X h_ σ H s):∀b o,X.base.get? b=a_ o->s.heap.get? b=a_ o/\H b=b_:=λb o e=>
 ⟨I.base.keep b o (I.ok.bs b o e).1 (I.ok.bs b o e).2 (I.ok.YC e) (I.ok.noex b o e),I.base.free b o (I.ok.bs b o e).1 (I.ok.bs b o e).2 (I.ok.noex b o e)⟩
def Inv.bk(I:Inv X h_ σ H s):∀b o,X.base.get? b=a_ o->s.heap.get? b=a_ o:=λb o e=>(I.bs b o e).1
def Inv.mod(I:Inv X h_ σ H s):Mod X.K X.mg X.base:=I.ok.mod
def Inv.C4(I:Inv X h_ σ H s):X.K.In s.heap:=I.ok.mod.kin.keeps I.bk
def Inv.fr(I:Inv X h_ σ H s):∃m,Fr X.base X.env.locals s.heap m:=
 let ⟨m,hn,_⟩:=I.loc
 ⟨m,hn,I.bk,aa I.ok.bsz I.ok.above⟩
def Inv.lt(I:Inv X h_ σ H s):X.env.locals<s.heap.objs.size:=let ⟨_,hn,_⟩:=I.loc;hn.lt
def Inv.sz(I:Inv X h_ σ H s):X.s₀.heap.objs.size<=s.heap.objs.size:=aa I.ok.above (bb I.lt)
def Inv.Ww(I:Inv X h_ σ H s)(h:s.heap.objs.size<=a):a∉X.fs:=λhb=>by
 obtain⟨_,o,ho,_⟩:=I.ok.vq.mem hb;exact absurd (bc (hl9 ho) (aa I.sz h)) (bq _)
def Inv.Ut(I:Inv X h_ σ H s):∀x c,X.env.cells.lookup x=a_ c->c≠X.env.locals:=λx c e z=>by
 obtain⟨v,o,ho,hd⟩:=I.cell x c e;obtain⟨m,⟨o',es,ep,d,g,_⟩,_⟩:=I.loc;rw[z,d]at ho;cases ho;rw[g]at hd;cases hd
theorem Inv.vq(I:Inv X h_ σ H s):s.heap.FunFrames X.base X.outer:=by
 have all:∀(l:List Po),(∀b∈HL l,b∈X.fs)->X.s₀.heap.FunFrames X.base l->s.heap.FunFrames X.base l:=by
  intro l
  induction l with
  |nil=>intro _ _;trivial
  |cons env r d=>
    intro hs hl;obtain⟨g,⟨L,o,hf,j,ho,hd⟩,k⟩:=hl;have c :=hs L (by unfold HL;rw[gZ,hf];exact g7);obtain⟨sl,e⟩:=I.base.slot L o ho (I.ok.frf L c) c λz=>I.ok.exfs L z c;exact⟨g,⟨L,_,hf,j,e,hd⟩,d (λb hb=>hs b (by unfold HL;rw[gZ,hf];exact iE _ hb)) k⟩
 exact all X.outer (λ_ hb=>hb) I.ok.vq
def Inv.stack(I:Inv X h_ σ H s):s.heap.FunFrames X.base X.stack:=by
 rcases I.ok.LX with e|⟨e,hf⟩
 ·rw[e];exact I.vq
 ·rw[e];obtain⟨m,c,_⟩:=I.loc;refine .cons (by rw[I.ok.kind];decide) hf c ?_ I.vq;exact pv (aa I.ok.bsz I.ok.above)
def Inv.ux(I:Inv X h_ σ H s):∀b∈HL X.stack,b∈X.env.locals::X.fs:=λb hb=>by
 rcases I.ok.LX with e|⟨e,hf⟩
 ·rw[e]at hb;exact iE _ hb
 ·rw[e]at hb;unfold HL at hb;rw[gZ,hf]at hb;exact hb
def Inv.DZ(I:Inv X h_ σ H s):∀b∈HL X.stack,H b=b_:=λb hb=>by
 rcases aw.mp (I.ux b hb)with e|hb
 ·rw[e];exact I.free
 ·obtain⟨_,o,ho,_⟩:=I.ok.vq.mem hb;exact I.base.free b o ho (I.ok.frf b hb) λz=>I.ok.exfs b z hb
def Inv.step{g':Array B4}{t':Nat}{d':Drawn}{ch:List aI}(I:Inv X h_ σ H s)
  (j:∀b∈ch,(b∈X.ex\/X.s₀.heap.objs.size<=b)/\b≠X.env.locals/\(∀x c,X.env.cells.lookup x=a_ c->c≠b)/\∀p∈X.pn++h_,p.1≠b)
  (keep:∀b o,b≠X.env.locals->b∉X.fs->b∉ch->s.heap.get? b=a_ o->H b=b_->h'.get? b=a_ o)
  (slot:∀b o,b≠X.env.locals->b∈X.fs->b∉ch->s.heap.get? b=a_ o->H b=b_->∃sl,h'.get? b=a_ { o with slots:=sl })(free:∀b o,b∉ch->s.heap.get? b=a_ o->H b=b_->H' b=b_)
  (there:∀b o,b∉ch->s.heap.get? b=a_ o->∃o',h'.get? b=a_ o')
  (tups:∀b xs,H b=a_ (.tup xs)->H' b=a_ (.tup xs))(frzs:∀b o u,H b=a_ (.mG o u)->H' b=a_ (.mG o u))(tbls:∀b ps,H b=a_ (.tbl ps)->∃more,H' b=a_ (.tbl (ps++more)))
  (ns:∀m,s.heap.Ns X.env.locals m->h'.Ns X.env.locals m)(hok:qT X.prog X.w H' h')(L:oi g') :
  Inv X h_ σ H' { s with heap:=h',gens:=g',drawn:=d',toks:=t' }:=by
 have D:∀b o,X.s₀.heap.get? b=a_ o->b≠X.env.locals:=λb o e=>br (bc (hl9 e) I.ok.above)
 have B:∀b o,X.s₀.heap.get? b=a_ o->b∉X.ex->b∉ch:=λb o e g hb=>by
  rcases(j b hb).1 with z|z
  ·exact g z
  ·exact absurd (bc (hl9 e) z) (bq _)
 have cellK:∀x c,X.env.cells.lookup x=a_ c->∀v,s.heap.IsCell c v->h'.IsCell c v:=λx c e v M=>by
  obtain⟨o,ho,hd⟩:=M;have y :=λz=>(j c z).2.2.1 x c e rfl;by_cases hc:c∈X.fs
  ·obtain⟨sl,q⟩:=slot c o (I.Ut x c e) hc y ho (I.freeC x c e);exact⟨_,q,hd⟩
  ·exact⟨o,keep c o (I.Ut x c e) hc y ho (I.freeC x c e),hd⟩
 refine⟨I.ok,I.os,L,⟨λb o e n hb g=>?_,λb o e n hb g=>?_,λb o e n g=>?_,λb o e g=>?_,λb xs e=>tups b xs (I.base.tups b xs e),λb o xs e=>frzs b o xs (I.base.frzs b o xs e),λb ps e=>?_⟩,?_,λx c e=>?_,?_,λx c e=>?_,λp hp=>?_,hok,I.len⟩
 ·exact keep b o (D b o e) hb (B b o e g) (I.base.keep b o e n hb g) (I.base.free b o e n g)
 ·obtain⟨sl,e1⟩:=I.base.slot b o e n hb g;obtain⟨J,e2⟩:=slot b _ (D b o e) hb (B b o e g) e1 (I.base.free b o e n g);exact⟨J,e2⟩
 ·obtain⟨o',e1⟩:=I.base.there b o e g;exact free b o' (B b o e g) e1 (I.base.free b o e n g)
 ·obtain⟨o',e1⟩:=I.base.there b o e g;exact there b o' (B b o e g) e1
 ·obtain⟨m1,e1⟩:=I.base.tbls b ps e;obtain⟨m2,e2⟩:=tbls b _ e1;exact⟨m1++m2,by rw[e2,Array.append_assoc]⟩
 ·obtain⟨m,O,hl⟩:=I.loc;refine⟨m,ns m O,λi x v e1 e2 e3=>?_⟩;obtain⟨u,r,l⟩:=hl i x v e1 e2 e3;refine⟨u,r,?_⟩
  rcases l with l|⟨k,c,e,z⟩
  ·exact .inl l
  ·exact .inr ⟨k,c,e,cellK x c e _ z⟩
 ·obtain⟨v,z⟩:=I.cell x c e;exact⟨v,cellK x c e v z⟩
 ·obtain⟨m,⟨o,_,_,ho,_⟩,_⟩:=I.loc;exact free _ o (λz=>(j _ z).2.1 rfl) ho I.free
 ·obtain⟨v,o,ho,hd⟩:=I.cell x c e;exact free c o (λz=>(j c z).2.2.1 x c e rfl) ho (I.freeC x c e)
 ·obtain⟨e,n,ne,nf,d⟩:=I.pin p hp;have y :=λz=>(j p.1 z).2.2.2 p hp rfl;exact⟨keep p.1 p.2 ne nf y e n,free p.1 p.2 y e n,ne,nf,d⟩
def Inv.un(I:Inv X h_ σ H s)(u:Un X.fs [] H H' s.heap h')(hok:qT X.prog X.w H' h'):Inv X h_ σ H' { s with heap:=h',toks:=t' }:=by
 obtain⟨m,⟨o,es,ep,ho,r⟩,_⟩:=id I.loc;obtain⟨sl,g⟩:=u.any ho I.free (by simp)
 exact I.step (ch:=[]) (λ_ z=>nomatch z) (λb o _ hb _ e n=>u.keep b o e n hb (by simp)) (λb o _ hb _ e n=>u.slot b o e n hb (by simp)) (λb o _ e n=>u.free b o e n (by simp)) (λb o _ e=>u.there b o e (by simp)) u.tups u.frzs u.tbls (λl j=>by
  obtain⟨o',es',d,c,k⟩:=j;rw[ho]at c;cases c
  exact⟨_,es',d,g,k⟩) hok I.bare
def Inv.call(I:Inv X h_ σ H s)(u:Un (HL X.stack) ch H H' s.heap h')(hok:qT X.prog X.w H' h')(l:oi g')
  (d:∀b∈ch,(b∈X.ex\/X.s₀.heap.objs.size<=b)/\b≠X.env.locals/\(∀x c,X.env.cells.lookup x=a_ c->c≠b)/\∀p∈X.pn++h_,p.1≠b) :
  Inv X h_ σ H' { s with heap:=h',gens:=g',drawn:=d',toks:=t' }:=by
 obtain⟨m,⟨o,es,ep,ho,r⟩,_⟩:=id I.loc;obtain⟨sl,j⟩:=u.any ho I.free λz=>(d _ z).2.1 rfl
 exact I.step d (λb o j hb hc e n=>u.keep b o e n (λz=>(aw.mp (I.ux b z)).elim j hb) hc) (λb o _ _ hc e n=>u.any e n hc) (λb o hc e n=>u.free b o e n hc) (λb o hc e=>u.there b o e hc) u.tups u.frzs u.tbls (λy q=>by
  obtain⟨o',es',k,g,v⟩:=q;rw[ho]at g;cases g
  exact⟨_,es',k,j,v⟩) hok l
def Inv.turned(I:Inv X h_ σ H s)(k:∀b o,b≠it->s.heap.get? b=a_ o->h'.get? b=a_ o)(j:H it=b_)(g:it≠X.env.locals)
  (h1:it∈X.ex\/X.s₀.heap.objs.size<=it)(h2:∀x c,X.env.cells.lookup x=a_ c->c≠it)(h3:∀p∈X.pn++h_,p.1≠it):Inv X h_ σ H { s with heap:=h',toks:=t' }:=by
 have d:∀b u,H b=a_ u->b≠it:=λb u e z=>by rw[z,j]at e;cases e
 refine I.step (ch:=[it]) (λb hb=>?_) (λb o _ _ hc e _=>k b o (λz=>hc (by simp[z])) e) (λb o _ _ hc e _=>⟨o.slots,k b o (λz=>hc (by simp[z])) e⟩) (λ_ _ _ _ n=>n)
  (λb o hc e=>⟨o,k b o (λz=>hc (by simp[z])) e⟩) (λ_ _ e=>e) (λ_ _ _ e=>e) (λb ps e=>⟨#[],by rw[e];simp⟩) (λm l=>?_) (λb u e=>?_) I.bare
 ·have e:b=it:=by simpa using hb
  subst e;exact⟨h1,g,h2,h3⟩
 ·obtain⟨o,es,ep,ho,r⟩:=l;exact⟨o,es,ep,k _ o (eK g) ho,r⟩
 ·refine(I.hok b u e).n6 (λc v hc q=>k c v ?_ q) (λ_ q=>q) λ_ _ q=>q
  rcases hc with z|z
  ·rw[z];exact d b u e
  ·exact d c _ z
def Inv.tok(I:Inv X h_ σ H s)(t:Nat):Inv X h_ σ H { s with toks:=t }:=I.un Un.refl I.hok
def Inv.kept(I:Inv X h_ σ H s)(k:∀b u,s.heap.get? b=a_ u->h'.get? b=a_ u):Inv X h_ σ H { s with heap:=h',toks:=t' }:=I.un (Un.kept k) (I.hok.kept k)
def Inv.laid(I:Inv X h_ σ H s)(k:∀b u,s.heap.get? b=a_ u->h'.get? b=a_ u)(hp:s.heap.objs.size<=a)(new:jZ X.prog X.w (upd H a o) h' a o) :
  Inv X h_ σ (upd H a o) { s with heap:=h',toks:=t' }:=I.un (Un.laid k hp (I.hok.fresh hp)) (I.hok.laid k hp new)
def Inv.write(I:Inv X h_ σ H s)(d:XC (H x))(he:e=x\/H e=a_ (.own x))(k:∀b u,b≠e->s.heap.get? b=a_ u->h'.get? b=a_ u)(c:∃u,h'.get? e=a_ u)
  (new:jZ X.prog X.w (upd H x o) h' x o):Inv X h_ σ (upd H x o) { s with heap:=h',toks:=t' }:=I.un (Un.write d he k c) (I.hok.write d he k c new)
def Inv.weak{c:List (Option V)}(I:Inv X h_ σ H s)(hl:c.length=σ.length)(w:∀(i:Nat)v,c[i]?=a_ (a_ v)->σ[i]?=a_ (a_ v)):Inv X h_ c H s:=
 ⟨I.ok,I.os,I.bare,I.base,let ⟨m,hn,hl'⟩:=I.loc;⟨m,hn,λi x v e1 e2 e3=>hl' i x v e1 (w i v e2) e3⟩,I.cell,I.free,I.freeC,I.pin,I.hok,hl.trans I.len⟩
def Inv.qy(I:Inv X h_ σ H s)(h:∀p∈pins',s.heap.get? p.1=a_ p.2/\H p.1=b_/\p.1≠X.env.locals/\p.1∉X.fs/\∀v,p.2.data≠.cell v):Inv X pins' σ H s:=
 ⟨I.ok,I.os,I.bare,I.base,I.loc,I.cell,I.free,I.freeC,λp hp=>(ao.mp hp).elim (λz=>I.pin p (aq _ z)) (h p),I.hok,I.len⟩
def Ax{N:List bu}(c:N.Nodup){i j:Nat}{x:bu}(a:N[i]?=a_ x)(b:N[j]?=a_ x):i=j:=by
 obtain⟨h1,e1⟩:=aP.mp a;obtain⟨h2,e2⟩:=aP.mp b;exact(List.getElem_inj c).mp (e1.trans e2.symm)
def Gv(I:Inv X h_ σ H s)(hN:X.N.Nodup)(hi:X.N[i]?=a_ x)(g:Loc X.env.scope x)(r:RelV v u)
  (h:∀s',Inv X h_ (σ.set i (a_ v)) H s'->(∃a,cA a s.heap s'.heap/\(a=X.env.locals\/X.env.cells.lookup x=a_ a))->Q () s')(hf:X.fn x=c_\/X.env.scope.names.lookup x=a_ .local):aC M A (storeName X.env x u) Q E s:=by
 obtain⟨m,hn,hl⟩:=id I.loc;have O:(X.env.scope.kind == .class || (X.env.scope.kind == .module && X.env.locals != X.env.globals))=d_:=by rw[I.ok.kind];rfl
 have B:i<σ.length:=by rw[I.len];exact(aP.mp hi).1
 have Ut:=I.Ut
 have tracked:∀{a:aI}{h':cx},(∃o,s.heap.get? a=a_ o/\H a=b_)->cA a s.heap h'->qT X.prog X.w H h':=λ{a h'}ha hs b ob e=>by
  obtain⟨_,_,l⟩:=ha;refine(I.hok b ob e).n6 (λc Z hc q=>(hs.2 c ?_).trans q) (λ_ q=>q) λ_ _ q=>q;rintro rfl
  rcases hc with rfl|hc
  ·rw[l]at e;cases e
  ·rw[l]at hc;cases hc
 rcases g with D|D
 ·refine wpAny_storeName_local D hn (λh' hn' hs=>?_) O;obtain⟨oL,_,_,hoL,_⟩:=id hn;refine h _ ⟨I.ok,I.os,I.bare,⟨λb o e n hb g=>?_,λb o e n hb g=>?_,I.base.free,λb o e g=>?_,I.base.tups,I.base.frzs,I.base.tbls⟩,⟨_,hn',λj y v' e1 e2 e3=>?_⟩,λy c e=>?_,I.free,I.freeC,λp hp=>?_,tracked ⟨oL,hoL,I.free⟩ hs,by simpa using I.len⟩ ⟨_,hs,.inl rfl⟩
  ·exact(hs.2 b (br (bc (hl9 e) I.ok.above))).trans (I.base.keep b o e n hb g)
  ·obtain⟨sl,e1⟩:=I.base.slot b o e n hb g;exact⟨sl,(hs.2 b (br (bc (hl9 e) I.ok.above))).trans e1⟩
  ·obtain⟨o',e1⟩:=I.base.there b o e g;exact⟨o',(hs.2 b (br (bc (hl9 e) I.ok.above))).trans e1⟩
  ·by_cases J:j=i
   ·subst J;rw[hi]at e1;cases e1;rw[om B]at e2;cases e2;exact⟨u,r,.inl ⟨D,by simp⟩⟩
   ·rw[fi (eK J)]at e2;obtain⟨u',r',q⟩:=hl j y v' e1 e2 e3;refine⟨u',r',?_⟩
    rcases q with⟨k,e⟩|⟨k,c,e,z⟩
    ·refine .inl ⟨k,?_⟩;have:y≠x:=λe=>J (Ax hN e1 (e▸hi));simp[this,e]
    ·exact .inr ⟨k,c,e,z.sameBut hs (Ut y c e)⟩
  ·obtain⟨Z,z⟩:=I.cell y c e;exact⟨Z,z.sameBut hs (Ut y c e)⟩
  ·obtain⟨e,n,ne,nf,d⟩:=I.pin p hp;exact⟨(hs.2 p.1 ne).trans e,n,ne,nf,d⟩
 ·have L:X.fn x=c_:=by
   rcases hf with z|z
   ·exact z
   ·rw[z]at D;cases D
  obtain⟨c,hc⟩:=I.ok.has x (.inl D);obtain⟨Z,z⟩:=I.cell x c hc;refine wpAny_storeName_cell I.ok.kind D hc z (λh' R hs=>?_);obtain⟨oc,U,W⟩:=id z;refine h { s with heap:=h' } ⟨I.ok,I.os,I.bare,⟨λb o e n hb g=>?_,λb o e n hb g=>?_,I.base.free,λb o e g=>?_,I.base.tups,I.base.frzs,I.base.tbls⟩,⟨m,hn.sameBut hs (eK (Ut x c hc)),λj y v' e1 e2 e3=>?_⟩,λy c' e=>?_,I.free,I.freeC,λp hp=>?_,tracked ⟨oc,U,I.freeC x c hc⟩ hs,by simpa using I.len⟩ ⟨c,hs,.inr hc⟩
  ·exact(hs.2 b (br (bc (hl9 e) (I.ok.cab x c L hc)))).trans (I.base.keep b o e n hb g)
  ·obtain⟨sl,e1⟩:=I.base.slot b o e n hb g;exact⟨sl,(hs.2 b (br (bc (hl9 e) (I.ok.cab x c L hc)))).trans e1⟩
  ·obtain⟨o',e1⟩:=I.base.there b o e g;exact⟨o',(hs.2 b (br (bc (hl9 e) (I.ok.cab x c L hc)))).trans e1⟩
  ·by_cases J:j=i
   ·subst J;rw[hi]at e1;cases e1;rw[om B]at e2;cases e2;exact⟨u,r,.inr ⟨.inl D,c,hc,R⟩⟩
   ·rw[fi (eK J)]at e2;obtain⟨u',r',q⟩:=hl j y v' e1 e2 e3;refine⟨u',r',?_⟩
    rcases q with q|⟨k,c',e,z'⟩
    ·exact .inl q
    ·refine .inr ⟨k,c',e,z'.sameBut hs ?_⟩;rintro rfl;exact J (Ax hN e1 (I.ok.inj _ _ _ e hc▸hi))
  ·by_cases Y:c'=c
   ·subst Y;exact⟨_,R⟩
   ·obtain⟨w2,z2⟩:=I.cell y c' e;exact⟨w2,z2.sameBut hs Y⟩
  ·obtain⟨e,n,ne,nf,d⟩:=I.pin p hp;refine⟨(hs.2 p.1 ?_).trans e,n,ne,nf,d⟩;intro q;rw[q,U]at e;have q' :=aW e;exact d Z (by rw[<-q'];exact W)
def uw(I:Inv X h_ σ H s)(c:X.N.Nodup)(hi:X.N[i]?=a_ x)(d:Loc X.env.scope x)(r:RelV v u)
  (h:∀s',Inv X h_ (σ.set i (a_ v)) H s'->Q () s')(hf:X.fn x=c_\/X.env.scope.names.lookup x=a_ .local):aC M A (storeName X.env x u) Q E s:=
 Gv I c hi d r (λs' I' _=>h s' I') hf
def Inv.Xg{s':ak}(I:Inv X h_ σ H s)(ho:s'.os=s.os)(u:Un (HL X.stack) ch H H' s.heap s'.heap)(hok:qT X.prog X.w H' s'.heap)(g:oi s'.gens)
  (d:∀b∈ch,(b∈X.ex\/X.s₀.heap.objs.size<=b)/\b≠X.env.locals/\(∀x c,X.env.cells.lookup x=a_ c->c≠b)/\∀p∈X.pn++h_,p.1≠b):Inv X h_ σ H' s':=by
 obtain⟨h',g',d',t',o'⟩:=s';have e :=ho;subst e;exact I.call u hok g d
end
abbrev XK:=ah->Option aI->Hp->Prop
abbrev St:=List (Option V)
abbrev VK:=V->Hp->Prop
abbrev TE:=St->Hp->VK->Prop
abbrev TT:=St->Hp->(Bool->Hp->Prop)->Prop
abbrev TA:=St->Hp->(List V->Hp->Prop)->Prop
structure Ends where
 nx:St->Hp->Prop
 rt:VK
 bk:St->Hp->Prop:=λ_ _=>False
 ct:St->Hp->Prop:=λ_ _=>False
abbrev TS:=Ends->St->Hp->Prop
def EP(X:Cx)(h_:List (aI×kM))(σ:St)(Q:VK)(u:ah)(s':ak):Prop:=∃v H',Inv X h_ σ H' s'/\RelV v u/\Q v H'
def TP(X:Cx)(h_:List (aI×kM))(σ:St)(Q:Bool->Hp->Prop)(b:Bool)(s':ak):Prop:=∃H',Inv X h_ σ H' s'/\Q b H'
def AP(X:Cx)(h_:List (aI×kM))(σ:St)(Q:List V->Hp->Prop)(us:List ah)(s':ak):Prop:=∃vs H',Inv X h_ σ H' s'/\cM vs us/\Q vs H'
def SP(X:Cx)(h_:List (aI×kM))(D:Ends)(f:Flow)(s':ak):Prop:=
 match f with
 |.next=>∃c H',Inv X h_ c H' s'/\D.nx c H'
 |.brk=>∃c H',Inv X h_ c H' s'/\D.bk c H'
 |.cont=>∃c H',Inv X h_ c H' s'/\D.ct c H'
 |.ret u=>∃v c H',Inv X h_ c H' s'/\RelV v u/\D.rt v H'
def PE(X:Cx)(e:be)(t:TE):Prop:=
 ∀(h_:List (aI×kM))(s:ak)(σ:St)(H:Hp)(Q:VK),Inv X h_ σ H s->t σ H Q->aC (aD X.prog X.w) X.A (eval e X.env) (EP X h_ σ Q) X.xe s
def PT(X:Cx)(e:be)(t:TT):Prop:=
 ∀(h_:List (aI×kM))(s:ak)(σ:St)(H:Hp)(Q:Bool->Hp->Prop),Inv X h_ σ H s->t σ H Q->aC (aD X.prog X.w) X.A (isTrue e X.env (eval e X.env)) (TP X h_ σ Q) X.xe s
def PW(X:Cx)(e:be)(t:TT):Prop:=
 ∀(whole:zE ah)(h_:List (aI×kM))(s:ak)(σ:St)(H:Hp)(Q:Bool->Hp->Prop),Inv X h_ σ H s->t σ H Q->aC (aD X.prog X.w) X.A (isTrue e X.env whole) (TP X h_ σ Q) X.xe s
def PW.pt(h:PW X e t):PT X e t:=h _
def PA(X:Cx)(es:List be)(t:TA):Prop:=
 ∀(pos:zp)(h_:List (aI×kM))(s:ak)(σ:St)(H:Hp)(Q:List V->Hp->Prop),Inv X h_ σ H s->t σ H Q->aC (aD X.prog X.w) X.A (spliced (backTo pos (aS es X.env))) (AP X h_ σ Q) X.xe s
def PS(X:Cx)(st:kX)(t:TS):Prop:=
 ∀(h_:List (aI×kM))(s:ak)(σ:St)(H:Hp)(D:Ends),Inv X h_ σ H s->t D σ H->aC (aD X.prog X.w) X.A (exec st X.env) (SP X h_ D) X.xe s
def zz(X:Cx)(st:List kX)(t:TS):Prop:=
 ∀(h_:List (aI×kM))(s:ak)(σ:St)(H:Hp)(D:Ends),Inv X h_ σ H s->t D σ H->aC (aD X.prog X.w) X.A (execs st X.env) (SP X h_ D) X.xe s
def iM (h:aC M A t Q E s)(c:∀a s,Q a s->Q' a s):aC M A t Q' E s:=dm h c λ_ _ x=>x
section
variable{X:Cx}
def bin{a b:be}{ta tb:TE}(ha:PE X a ta)(hb:PE X b tb){h_:List (aI×kM)}{s:ak}{σ:St}{H:Hp}{R:V->V->Hp->Prop}(I:Inv X h_ σ H s)(h:ta σ H λx H1=>tb σ H1 λy H2=>R x y H2)
  {α:Type}{Q:α->ak->Prop}{f:ah->ah->zE α}
  (hf:∀v u s2 x y H2,Inv X h_ σ H2 s2->RelV x v->RelV y u->R x y H2->aC (aD X.prog X.w) X.A (f v u) Q X.xe s2) :
  aC (aD X.prog X.w) X.A (eval a X.env) (λv s₁=>aC (aD X.prog X.w) X.A (eval b X.env) (λu c=>aC (aD X.prog X.w) X.A (f v u) Q X.xe c) X.xe s₁) X.xe s:=by
 refine iM (ha h_ s σ H _ I h) λv s1 ⟨x,H1,d,g,j⟩=>?_;refine iM (hb h_ s1 σ H1 _ d j) λu s2 ⟨y,H2,k,l,q⟩=>?_;exact hf v u s2 x y H2 k g l q
def Gs(i:Nat):TE:=λσ H Q=>∃v,σ[i]?=a_ (a_ v)/\Q v H
def tC(v:V):TE:=λ_ H Q=>Q v H
def rR(k:X.N[i]?=a_ x)(q:Qu X.env.scope x)(hd:(x == ("__debug__":bu))=d_)(j:(x == ("__classdict__":bu))=d_):PE X (.Name x pos) (Gs i):=by
 intro h_ s σ H Q I h;obtain⟨v,e,h⟩:=h;obtain⟨m,y,hl⟩:=I.loc;obtain⟨u,r,l⟩:=hl i x v k e q;have fin:EP X h_ σ Q u s:=⟨v,H,I,r,h⟩
 rcases l with⟨g,z⟩|⟨g,c,hc,d⟩
 ·exact wpAny_Name (wpAny_loadName_local I.ok.kind g y z fin) hd
 ·rcases g with g|g
  ·exact wpAny_Name (wpAny_loadName_cell I.ok.kind g hc d fin) hd
  ·exact wpAny_Name (wpAny_loadName_free I.ok.kind g hc d fin j) hd
def R9{i j pos}:PE X (.Constant (.int i) j pos) (tC (.int i)):=λ_ _ _ H _ I h=>wpAny_Constant_int ⟨.int i,H,I.tok _,⟨_,rfl⟩,h⟩
def Wm{b j pos}:PE X (.Constant (.bool b) j pos) (tC (.bl b)):=λ_ _ _ H _ I h=>Constant_bool ⟨.bl b,H,I,rfl,h⟩
def R7{j pos}:PE X (.Constant .none j pos) (tC .non):=λ_ _ _ H _ I h=>Constant_none ⟨.non,H,I,rfl,h⟩
def R3{x j pos}:PE X (.Constant (.str x) j pos) (tC (.str x)):=λ_ _ _ H _ I h=>Calls.Constant_str ⟨.str x,H,I.tok _,⟨_,rfl⟩,h⟩
def Gl(X:Cx)(x:bu):Prop:=X.env.kindOf x=a_ .globalImplicit
def yK(I:Inv X h_ σ H s)(c:Gl X x)(d:X.mg x=a_ u)(h:Q u s)
  (hd:(x == ("__debug__":bu))=d_):aC (aD X.prog X.w) X.A (eval (.Name x pos) X.env) Q E s:=
 vV I.ok.kind c (Calls.loadGlobal_global (by rw[I.ok.glob];exact I.mod.glob.keeps I.bk) d h) hd
def lu(I:Inv X h_ σ H s)(c:Gl X x)(d:X.mg x=b_)(g:bootBuiltins x=a_ u)(h:Q u s)
  (j:x≠"__name__":=by decide)(hd:(x == ("__debug__":bu))=d_:=by decide):aC (aD X.prog X.w) X.A (eval (.Name x pos) X.env) Q E s:=by
 obtain⟨mb,h1,h2⟩:=I.mod.blt;exact vV I.ok.kind c (Calls.loadGlobal_builtin (by rw[I.ok.glob];exact I.mod.glob.keeps I.bk) d (by rw[I.ok.blt];exact h1.keeps I.bk) ((h2 x j).trans g) h) hd
def NB(c:Gl X x)(d:X.mg x=a_ u)(r:RelV v u)(hd:(x == ("__debug__":bu))=d_):PE X (.Name x pos) (tC v):=
 λ_ _ _ H _ I h=>yK I c d ⟨v,H,I,r,h⟩ hd
def NG(c:Gl X x)(d:X.mg x=b_)(g:bootBuiltins x=a_ u)(r:RelV v u)(j:x≠"__name__")(hd:(x == ("__debug__":bu))=d_):PE X (.Name x pos) (tC v):=
 λ_ _ _ H _ I h=>lu I c d g ⟨v,H,I,r,h⟩ j hd
variable{ta tb:TE}
def tB(t:TE):TT:=λσ H Q=>t σ H λx H1=>∃c,x=.bl c/\Q c H1
variable{rest:List be}
def Yk(t u:TT):TT:=λσ H Q=>t σ H λc H1=>if c=c_ then u σ H1 Q else Q d_ H1
def tOr(t u:TT):TT:=λσ H Q=>t σ H λc H1=>if c=c_ then Q c_ H1 else u σ H1 Q
def Yg(t:TT):TT:=λσ H Q=>t σ H λc H1=>Q (!c) H1
def Nr(ha:PT X a tA):PW X (.BoolOp .And [a] pos) tA:=by
 intro d h_ s σ H Q I h;refine isTrue_and (iM (ha h_ s σ H Q I h) λc s1 e=>?_)
 cases c with
 |true=>exact isTrue_and_nil e
 |false=>exact e
def RQ(ha:PT X a tA):PW X (.BoolOp .Or [a] pos) tA:=by
 intro d h_ s σ H Q I h;refine isTrue_or (iM (ha h_ s σ H Q I h) λc s1 e=>?_)
 cases c with
 |false=>exact isTrue_or_nil e
 |true=>exact e
def RR(ha:PT X a tA)(hb:PW X (.BoolOp .And (b::rest) pos) tB'):PW X (.BoolOp .And (a::b::rest) pos) (Yk tA tB'):=by
 intro j h_ s σ H Q I h;refine isTrue_and (iM (ha h_ s σ H _ I h) λc s1 ⟨H1,d,g⟩=>?_)
 cases c with
 |true=>exact hb j h_ s1 σ H1 Q d g
 |false=>exact⟨H1,d,g⟩
def Wf(ha:PT X a tA)(hb:PW X (.BoolOp .Or (b::rest) pos) tB'):PW X (.BoolOp .Or (a::b::rest) pos) (tOr tA tB'):=by
 intro j h_ s σ H Q I h;refine isTrue_or (iM (ha h_ s σ H _ I h) λc s1 ⟨H1,d,g⟩=>?_)
 cases c with
 |true=>exact⟨H1,d,g⟩
 |false=>exact hb j h_ s1 σ H1 Q d g
def RU(ha:PT X a tA):PT X (.UnaryOp .Not a pos) (Yg tA):=by
 intro h_ s σ H Q I h;exact isTrue_not (ha h_ s σ H (λc H1=>Q (!c) H1) I h)
def VH(ta tb:TE):TE:=λσ H Q=>ta σ H λx H1=>∃c,x=.bl c/\if c=c_ then tb σ H1 Q else Q (.bl d_) H1
def Yf(ta tb:TE):TE:=λσ H Q=>ta σ H λx H1=>∃c,x=.bl c/\if c=c_ then Q (.bl c_) H1 else tb σ H1 Q
def R6{op}(h:PE X a t):PE X (.BoolOp op [a] pos) t:=λh_ s σ H Q I c=>BoolOp_one (h h_ s σ H Q I c)
def Sd(ha:PE X a ta)(hb:PE X (.BoolOp .And (b::rest) pos) tb):PE X (.BoolOp .And (a::b::rest) pos) (VH ta tb):=by
 intro h_ s σ H Q I h;refine BoolOp_and (iM (ha h_ s σ H _ I h) λv s1 ⟨x,H1,g,j,d⟩=>?_);obtain⟨c,rfl,d⟩:=d;cases j;refine gY ?_
 cases c with
 |true=>exact hb h_ s1 σ H1 Q g d
 |false=>exact⟨.bl d_,H1,g,rfl,d⟩
def Wl(ha:PE X a ta)(hb:PE X (.BoolOp .Or (b::rest) pos) tb):PE X (.BoolOp .Or (a::b::rest) pos) (Yf ta tb):=by
 intro h_ s σ H Q I h;refine BoolOp_or (iM (ha h_ s σ H _ I h) λv s1 ⟨x,H1,g,j,d⟩=>?_);obtain⟨c,rfl,d⟩:=d;cases j;refine gY ?_
 cases c with
 |false=>exact hb h_ s1 σ H1 Q g d
 |true=>exact⟨.bl c_,H1,g,rfl,d⟩
def tIf(t:TT)(ta tb:TE):TE:=λσ H Q=>t σ H λc H1=>if c=c_ then ta σ H1 Q else tb σ H1 Q
def JB(hc:PT X c tA)(ha:PE X a ta)(hb:PE X b tb):PE X (.IfExp c a b pos) (tIf tA ta tb):=by
 intro h_ s σ H Q I h;refine wpAny_IfExp (iM (hc h_ s σ H _ I h) λd s1 ⟨H1,g,j⟩=>?_)
 cases d with
 |true=>exact ha h_ s1 σ H1 Q g j
 |false=>exact hb h_ s1 σ H1 Q g j
end
def mV(K:aL)(H:Hp)(a:aI)(xs:List V):Prop:=
 Rd H a (.lst xs)\/
  ∃(o:kM) (its:Array ah) (n:Nat),K.lookup a=a_ o/\o.cls=.type "list"/\o.dict=b_/\o.data=.seq its n/\its.size<=aB/\cM xs its.toList
def sx(K:aL)(H:Hp)(a:aI)(xs:List V):Prop:=
 Rd H a (.tup xs)\/
  ∃(o:kM) (its:Array ah) (n:Nat),K.lookup a=a_ o/\o.cls=.type "tuple"/\o.data=.seq its n/\its.size<=aB/\cM xs its.toList
noncomputable def Zn:ah->Option V
 |.none=>a_ .non
 |.bool b=>a_ (.bl b)
 |.int i _=>a_ (.int i)
 |.str x _=>a_ (.str x)
 |.bytes b _=>a_ (.byt b)
 |.float b _=>a_ (.flt b)
 |.ref a=>a_ (.ref a)
 |.type n=>a_ (.ty n)
 |_=>b_
def RelV.abs(r:RelV x u):Zn u=a_ x:=by
 cases x with
 |non=>cases r;rfl
 |bl _=>cases r;rfl
 |int _=>obtain⟨t,rfl⟩:=r;rfl
 |str _=>obtain⟨t,rfl⟩:=r;rfl
 |byt _=>obtain⟨t,rfl⟩:=r;rfl
 |flt _=>obtain⟨t,rfl⟩:=r;rfl
 |ref _=>cases r;rfl
 |ty _=>cases r;rfl
def RelV.inj(r:RelV x u)(q:RelV y u):x=y:=aW (r.abs.symm.trans q.abs)
theorem cM.inj:∀{xs ys:List V}{us:List ah},cM xs us->cM ys us->xs=ys
 |_,_,_,.nil,.nil=>rfl
 |_,_,_,.cons r t,.cons c t'=>by rw[r.inj c,cM.inj t t']
section
def mV.of{K:aL}(h:H a=a_ (.lst xs)):mV K H a xs:=.inl (.inl h)
def Inv.list(I:Inv X h_ σ H s)(h:mV X.K H a xs):∃its:List ah,cM xs its/\PlainL s.heap a its.toArray/\xs.length<=aB:=by
 rcases h with h|⟨o,its,n,c,hc,hd,hs,hz,r⟩
 ·obtain⟨z,its,n,r,e⟩:=h.ok I.hok;exact⟨its,r,⟨_,n,e,rfl,rfl,rfl⟩,z⟩
 ·refine⟨its.toList,r,⟨o,n,I.C4 a o c,hc,hd,by simpa using hs⟩,?_⟩;have e:=r.length;exact aa (ae e) hz
def Inv.tuple(I:Inv X h_ σ H s)(h:sx X.K H a xs):∃its:List ah,cM xs its/\zt s.heap a its.toArray/\xs.length<=aB:=by
 rcases h with h|⟨o,its,n,c,hc,hs,hz,r⟩
 ·obtain⟨z,its,r,p⟩:=h.ok I.hok;exact⟨its,r,p,z⟩
 ·refine⟨its.toList,r,⟨o,I.C4 a o c,hc,n,by simpa using hs⟩,?_⟩;have e:=r.length;exact aa (ae e) hz
def Inv.mR(I:Inv X h_ σ H s)(h:mV X.K H a xs)(h':mV X.K H a ys):xs=ys:=by
 obtain⟨its,r,⟨o,n,e,_,_,d⟩,_⟩:=I.list h;obtain⟨its',g,⟨o',j,c,_,_,d'⟩,_⟩:=I.list h';rw[e]at c;cases c;rw[d]at d'
 injection d' with d1 _
 have:its=its':=by simpa using congrArg Array.toList d1
 subst this;exact r.inj g
def Inv.mN(I:Inv X h_ σ H s)(h:sx X.K H a xs)(h':sx X.K H a ys):xs=ys:=by
 obtain⟨its,r,⟨o,e,_,n,d⟩,_⟩:=I.tuple h;obtain⟨its',g,⟨o',c,_,j,d'⟩,_⟩:=I.tuple h';rw[e]at c;cases c;rw[d]at d'
 injection d' with d1 _
 have:its=its':=by simpa using congrArg Array.toList d1
 subst this;exact r.inj g
end
noncomputable abbrev Cx.v5(X:Cx)(E:ah->ak->Prop):Cx:={ X with xe:=E }
abbrev Cx.U6(X:Cx):Cx:=X.v5 λ_ _=>False
def Cx.Ok.v5{X:Cx}(ok:X.Ok)(E:ah->ak->Prop):(X.v5 E).Ok:=
 ⟨ok.mod,ok.kind,ok.glob,ok.blt,ok.above,ok.inj,ok.has,ok.cab,ok.hd,ok.frames,ok.LX,ok.exf,ok.bs,ok.bsz,ok.noex,ok.exfs,ok.vq,ok.frf⟩
def Cx.Ok.oF{X:Cx}(ok:(X.v5 E).Ok):X.Ok:=
 ⟨ok.mod,ok.kind,ok.glob,ok.blt,ok.above,ok.inj,ok.has,ok.cab,ok.hd,ok.frames,ok.LX,ok.exf,ok.bs,ok.bsz,ok.noex,ok.exfs,ok.vq,ok.frf⟩
section
variable{X:Cx}
def Inv.v5(I:Inv X h_ σ H s)(E:ah->ak->Prop):Inv (X.v5 E) h_ σ H s:=⟨I.ok.v5 E,I.os,I.bare,I.base,I.loc,I.cell,I.free,I.freeC,I.pin,I.hok,I.len⟩
def Inv.oF(I:Inv (X.v5 E) h_ σ H s):Inv X h_ σ H s:=⟨I.ok.oF,I.os,I.bare,I.base,I.loc,I.cell,I.free,I.freeC,I.pin,I.hok,I.len⟩
theorem SP.oF{D:Ends}(h:SP (X.v5 E) h_ D f s'):SP X h_ D f s':=by
 cases f with
 |next=>obtain⟨c,H',I,q⟩:=h;exact⟨c,H',I.oF,q⟩
 |brk=>obtain⟨c,H',I,q⟩:=h;exact⟨c,H',I.oF,q⟩
 |cont=>obtain⟨c,H',I,q⟩:=h;exact⟨c,H',I.oF,q⟩
 |ret u=>obtain⟨v,c,H',I,r,q⟩:=h;exact⟨v,c,H',I.oF,r,q⟩
def zz.U6{st:List kX}(h:zz X.U6 st t):zz X st t:=λh_ s σ H D I c=>
 dm (h h_ s σ H D (I.v5 _) c) (λ_ _ q=>q.oF) λ_ _ z=>iZ z
end
section
variable{st:kX}{rest:List kX}{t u:TS}{te:TE}{pos:zp}
def VD:TS:=λD σ H=>D.nx σ H
def Yd(t u:TS):TS:=λD σ H=>t { D with nx:=u D } σ H
def Nw:zz X [] VD:=λ_ _ σ H _ I h=>zA ⟨σ,H,I,h⟩
def Jm(h1:PS X st t)(h2:zz X rest u):zz X (st::rest) (Yd t u):=by
 intro h_ s σ H D I h;refine wpAny_execs_cons (iM (h1 h_ s σ H { D with nx:=u D } I h) λf s1 q=>?_)
 cases f with
 |next=>
   obtain⟨c,H',I',q⟩:=q;exact h2 h_ s1 c H' D I' q
 |ret v=>exact q
 |brk=>exact q
 |cont=>exact q
def Inv.quiet(I:Inv X h_ σ H s):interactive X.env=d_:=by simp[interactive,I.ok.kind]
def DV(te:TE):TS:=λD σ H=>te σ H λ_ H1=>D.nx σ H1
def tY(he:PE X e te)(hs:swapsWith e b_ pos.line X.env=pure d_):PS X (.Expr e pos) (DV te):=by
 intro h_ s σ H D I h;exact wpAny_Expr_any (iM (he h_ s σ H _ I h) λv s1 ⟨x,H1,c,g,d⟩=>⟨σ,H1,c,d⟩) I.quiet hs
def Ye(te:TE):TS:=λD σ H=>te σ H D.rt
def Jo(he:PE X e te):PS X (.Return (a_ e) pos) (Ye te):=by
 intro h_ s σ H D I h;exact wpAny_Return_some (iM (he h_ s σ H _ I h) λv s1 ⟨x,H1,c,d,g⟩=>⟨x,σ,H1,c,d,g⟩)
def Yi(c:TT)(t u:TS):TS:=λD σ H=>c σ H λb H1=>if b=c_ then t D σ H1 else u D σ H1
def Wg(hc:PT X c tc)(ha:zz X a t)(hb:zz X b u):PS X (.If c a b pos) (Yi tc t u):=by
 intro h_ s σ H D I h;refine wpAny_If (iM (hc h_ s σ H _ I h) λd s1 ⟨H1,g,j⟩=>?_)
 cases d with
 |true=>exact ha h_ s1 σ H1 D g j
 |false=>exact hb h_ s1 σ H1 D g j
end
abbrev TG:=V->St->Hp->(St->Hp->Prop)->Prop
abbrev Qy:=List V->St->Hp->(St->Hp->Prop)->Prop
def PG(X:Cx)(target:be)(t:TG):Prop:=
 ∀(h_:List (aI×kM))(s:ak)(σ:St)(H:Hp)(v:V)(u:ah)(Q:St->Hp->Prop),Inv X h_ σ H s->RelV v u->t v σ H Q->
  aC (aD X.prog X.w) X.A (assign target X.env u) (λ_ s'=>∃c H',Inv X h_ c H' s'/\Q c H') X.xe s
def Vl(X:Cx)(d:List be)(t:Qy):Prop:=
 ∀(h_:List (aI×kM))(s:ak)(σ:St)(H:Hp)(vs:List V)(us:List ah)(Q:St->Hp->Prop),Inv X h_ σ H s->cM vs us->t vs σ H Q->
  aC (aD X.prog X.w) X.A (assignInOrder ((assignEach d X.env).map (·.2)) us) (λ_ s'=>∃c H',Inv X h_ c H' s'/\Q c H') X.xe s
abbrev Xz:=V->V->V->Hp->(Hp->Prop)->Prop
def UP(X:Cx)(t:Xz):Prop:=
 ∀(h_:List (aI×kM))(s:ak)(σ:St)(H:Hp)(o i v:V)(c d u:ah)(Q:Hp->Prop),Inv X h_ σ H s->RelV o c->RelV i d->RelV v u->t o i v H Q->
  aC (aD X.prog X.w) X.A (setItem c d u) (λ_ s'=>∃H',Inv X h_ σ H' s'/\Q H') X.xe s
section
variable{X:Cx}{pos:zp}
def kL(i:Nat):TG:=λv σ H Q=>Q (σ.set i (a_ v)) H
def EA(c:X.N.Nodup)(hi:X.N[i]?=a_ x)(d:Loc X.env.scope x)(hf:X.fn x=c_\/X.env.scope.names.lookup x=a_ .local):PG X (.Name x pos) (kL i):=by
 intro h_ s σ H v u Q I r h;exact wpAny_assign_Name (uw I c hi d r (λs' I'=>⟨_,H,I',h⟩) hf)
def Hi:Qy:=λvs σ H Q=>vs=[]/\Q σ H
def xD(t:TG)(u:Qy):Qy:=λvs σ H Q=>∃v r,vs=v::r/\t v σ H λc H'=>u r c H' Q
def Ez:Vl X [] Hi:=by
 intro h_ s σ H vs us Q I r h;obtain⟨e,h⟩:=h;subst e;cases r;exact assignInOrder_nil ⟨σ,H,I,h⟩
def Ao(h1:PG X e t)(h2:Vl X es u)
  (hs:(assignEach (e::es) X.env).map (·.2)=assign e X.env::(assignEach es X.env).map (·.2):=by rfl):Vl X (e::es) (xD t u):=by
 intro h_ s σ H vs us Q I r h;obtain⟨v,k,e1,h⟩:=h;subst e1
 cases r with
 |cons r d=>
   rw[hs];refine assignInOrder_cons (iM (h1 h_ s σ H _ _ _ I r h) λ_ s1 ⟨c,H1,g,j⟩=>?_);exact h2 h_ s1 c H1 _ _ Q g d j
def KJ(K:aL)(n:Nat)(t:Qy):TG:=λv σ H Q=>∃a xs,v=.ref a/\sx K H a xs/\xs.length=n/\t xs σ H Q
def Jv(hc:X.calm=c_)(h:Vl X es t)
  (j:(assignEach es X.env).length=n)(c:(assignEach es X.env).findIdx? (·.1)=b_):PG X (.Tuple es k pos) (KJ X.K n t):=by
 intro h_ s σ H v u Q I r d;obtain⟨a,xs,e1,l,hl,d⟩:=d;subst e1;cases r;obtain⟨its,g,ht,hz⟩:=I.tuple l;refine assign_Tuple_tuple (I.ok.hd hc) ht (by simp[j,<-hl,g.length]) c λh' q=>?_;have y:Inv X h_ σ H { s with heap:=h' }:=I.kept λb o e=>q b o (br (hl9 e)) e;exact h h_ _ σ H xs _ Q y (by simpa using g) d
def TZ(c d:TE)(t:Xz):TG:=λv σ H Q=>c σ H λo H1=>d σ H1 λi H2=>t o i v H2 λg=>Q σ g
def Jx(ho:PE X o to)(hi:PE X i ti)(hs:UP X t)
  (ha:∀v,assign (.Subscript o i pos) X.env v=(do
   let c <-holding [v] (eval o X.env);let d <-holding [v,c] (eval i X.env)
   standAt pos
   holding [v,c,d] (setItem c d v)
   release [v,c,d] []):=by intro _;rfl):PG X (.Subscript o i pos) (TZ to ti t):=by
 intro h_ s σ H v u Q I r h;rw[ha];refine wb9 (bZ (iM (ho h_ s σ H _ I h) λc s1 ⟨x,H1,g,j,k⟩=>?_));refine wb9 (bZ (iM (hi h_ s1 σ H1 _ g k) λd s2 ⟨y,H2,l,q,z⟩=>?_));refine wb9 (FV (wb9 (bZ (iM (hs h_ s2 σ H2 x y v c d u _ l j q r z) λ_ s3 ⟨B,D,J⟩=>?_))));exact wpAny_release ⟨σ,B,D,J⟩
def Gu(te:TE)(g:TG):TS:=λD σ H=>te σ H λx H1=>g x σ H1 D.nx
def CG(he:PE X e te)(c:PG X tg g)(hs:swapsWithSole [tg] e pos.line X.env=pure d_)(d:swappedStores [tg] e X.env=pure b_)
  (h1:(assignEach [tg] X.env).map (·.2)=[assign tg X.env]):PS X (.Assign [tg] e pos) (Gu te g):=by
 intro h_ s σ H D I h;refine wpAny_Assign_stores (iM (he h_ s σ H _ I h) λv s1 ⟨x,H1,j,k,l⟩=>?_) hs d;rw[h1];exact iM (c h_ s1 σ H1 x v _ j k l) λ_ s2 q=>q
def RV(c:X.N.Nodup)(hi:X.N[i]?=a_ x)(d:Loc X.env.scope x)(he:PE X e te)(hs:swapsWith e (a_ (.Name x pos')) pos.line X.env=pure d_)(hf:X.fn x=c_\/X.env.scope.names.lookup x=a_ .local) :
  PS X (.Assign [.Name x pos'] e pos) (Gu te (kL i)):=by
 intro h_ s σ H D I h;refine wpAny_Assign_Name (iM (he h_ s σ H _ I h) λv s1 ⟨y,H1,g,j,k⟩=>?_) hs;exact uw g c hi d j (λs2 l=>⟨_,H1,l,k⟩) hf
end
section
variable{X:Cx}
def QL(c:TT)(tb:TS):TS:=λD σ H=>∃W:Nat->St->Hp->Prop,(∃m,W m σ H)/\∀m σ H,W m σ H->
 c σ H λb H1=>if b=c_ then ∃N:St->Hp->Prop,(∀d H',N d H'->∃g,g<m/\W g d H')/\tb { D with nx:=N,ct:=N,bk:=D.nx } σ H1 else D.nx σ H1
def Jn{tb:TS}(hp:sD (aD X.prog X.w) X.A X.env X.xe)(hc:PT X c tc)(hb:zz X body tb):PS X (.While c body [] pos) (QL tc tb):=by
 intro h_ s σ H D I h;obtain⟨W,⟨m0,R⟩,turn⟩:=h;refine wpAny_While (codeAny_whileLoop (λn s'=>∃j H',Inv X h_ j H' s'/\W n j H') ?_ m0 ⟨σ,H,I,R⟩);rintro n s1 ⟨g,H1,U,Y⟩;refine iX hp (iM (hc h_ s1 g H1 _ U (turn n g H1 Y)) λb s2 ⟨H2,M,l⟩=>?_)
 cases b with
 |true=>
   obtain⟨N,O,l⟩:=l;refine iX hp (iM (hb h_ s2 g H2 _ M l) λf s3 q=>?_)
   cases f with
   |next=>
     obtain⟨d,k,y,z⟩:=q;obtain⟨B,J,L⟩:=O d k z;exact⟨B,J,d,k,y,L⟩
   |cont=>
     obtain⟨d,k,y,z⟩:=q;obtain⟨B,J,L⟩:=O d k z;exact⟨B,J,d,k,y,L⟩
   |brk=>exact q
   |ret v=>exact q
 |false=>
   exact zA ⟨g,H2,M,l⟩
end
structure It where
 go:Nat->Hp->Prop
 yld:Nat->Hp->V->Hp->Prop
 stop:Nat->Hp->Prop
def qU(X:Cx)(h_:List (aI×kM))(H:Hp)(b:aI):Prop:=
 H b=b_/\b≠X.env.locals/\b∉X.fs/\(b∈X.ex\/X.s₀.heap.objs.size<=b)/\(∀x c,X.env.cells.lookup x=a_ c->c≠b)/\∀p∈X.pn++h_,p.1≠b
def Inv.wd(I:Inv X h_ σ H s)(hb:s.heap.objs.size<=b)(d:H' b=b_):qU X h_ H' b:=by
 refine⟨d,j2 (bc I.lt hb),I.Ww hb,.inr (aa I.sz hb),λx c e z=>?_,λp hp z=>?_⟩
 ·obtain⟨v,q⟩:=I.cell x c e;exact absurd (bc q.lt (by rw[z];exact hb)) (bq _)
 ·exact absurd (bc (hl9 (I.pin p hp).1) (by rw[z];exact hb)) (bq _)
structure Turn(P:cz)(w:c5)(K:aL)(tg:be)(J:It)(fp:List aI)(it:aI)(tn:Nat->cx->Prop):Prop where
 mem:it∈fp
 obj:∀i h,tn i h->∀b∈fp,∃o,h.get? b=a_ o/\∀v,o.data≠.cell v
 keep:∀i h h',tn i h->(∀b∈fp,∀o,h.get? b=a_ o->h'.get? b=a_ o)->tn i h'
 item:∀(X:Cx),X.prog=P->X.w=w->X.K=K->X.calm=c_->∀(i:Nat)(h_:List (aI×kM))(s:ak)(σ:St)(H:Hp)(E:ah->ak->Prop),Inv X h_ σ H s->(∀b∈fp,qU X h_ H b)->tn i s.heap->J.go i H->
  aC (aD P w) X.A (pyNext (.ref it)) (λr s1=>∃u,r=a_ u/\
   aC (aD P w) X.A (letOwnedTupleGo tg (.ref it) u) (λ_ s2=>∃x H',Inv X h_ σ H' s2/\RelV x u/\J.yld i H x H'/\tn (i+1) s2.heap/\∀b∈fp,H' b=b_) E s1) E s
 done:∀(X:Cx),X.prog=P->X.w=w->X.K=K->X.calm=c_->∀(i:Nat)(h_:List (aI×kM))(s:ak)(σ:St)(H:Hp)(E:ah->ak->Prop),Inv X h_ σ H s->(∀b∈fp,qU X h_ H b)->tn i s.heap->J.stop i H->
  aC (aD P w) X.A (pyNext (.ref it)) (λr s1=>r=b_/\Inv X h_ σ H s1) E s
 self:∀(A:bT)(i:Nat)(s:ak)(Q:ah->ak->Prop)(E:ah->ak->Prop),tn i s.heap->Q (.ref it) s->aC (aD P w) A (HW (.ref it)) Q E s
abbrev TI:=St->Hp->(It->Hp->Prop)->Prop
def Zq(X:Cx)(h_:List (aI×kM))(σ:St)(tg:be)(R:It->Hp->Prop)(itv:ah)(s2:ak):Prop:=
 ∃(it:aI) (fp:List aI) (tn:Nat->cx->Prop) (J:It) (H':Hp),itv=.ref it/\Inv X h_ σ H' s2/\Turn X.prog X.w X.K tg J fp it tn/\tn 0 s2.heap/\(∀b∈fp,qU X h_ H' b)/\R J H'
def PI(X:Cx)(tg iter:be)(wi:TI):Prop:=
 ∀(h_:List (aI×kM))(s:ak)(σ:St)(H:Hp)(R:It->Hp->Prop),Inv X h_ σ H s->wi σ H R->
  aC (aD X.prog X.w) X.A (eval iter X.env) (λv s1=>aC (aD X.prog X.w) X.A (HW v) (Zq X h_ σ tg R) X.xe s1) X.xe s
def vm{s:ak}(ho:s.heap.get? it=a_ o)(hc:o.cls=.type n)(hd:o.data=.fields vs)
  (d:["enumerate","zip","dict_itemiterator","dict_reverseitemiterator","odict_iterator","itertools.zip_longest","itertools.pairwise"].contains n=d_)(c:Q () s):aC M A (letOwnedTupleGo tg (.ref it) u) Q E s:=by
 cases tg<;>first
  |exact wu9 c
  | (cases u<;>first
    |exact wu9 c
    | (refine wb9 (wpAny_load ho ?_)
       rw[hc,hd];show aC M A (if(["enumerate","zip","dict_itemiterator","dict_reverseitemiterator","odict_iterator","itertools.zip_longest","itertools.pairwise"].contains n && vs[0]? == a_ (rawInt _))=c_ then _ else _) Q E s;rw[if_neg (by intro h;rw[d]at h;cases h)]
       exact wu9 c))
noncomputable def Zw(K:aL)(a:aI):It:=
 ⟨λi H=>∃xs x,mV K H a xs/\xs[i]?=a_ x,λi H x H'=>H'=H/\∀xs,mV K H a xs->xs[i]?=a_ x,λi H=>∃xs,mV K H a xs/\xs.length<=i⟩
noncomputable def Zv(K:aL)(a:aI):It:=
 ⟨λi H=>∃xs x,sx K H a xs/\xs[i]?=a_ x,λi H x H'=>H'=H/\∀xs,sx K H a xs->xs[i]?=a_ x,λi H=>∃xs,sx K H a xs/\xs.length<=i⟩
noncomputable def X3(lo:Int)(n:Nat):It:=⟨λi _=>i<n,λi H x H'=>H'=H/\x=.int (lo+i),λi _=>n<=i⟩
def Gk{K:aL}(a it:aI):Turn P w K tg (Zw K a) [it] it (λi h=>h.IsListIter it a i) where
 mem:=by simp
 obj:=λi h st b hb=>by
  have e:b=it:=by simpa using hb
  subst e;obtain⟨o,e,c,d⟩:=st;exact⟨o,e,λv z=>by rw[d]at z;cases z⟩
 keep:=λi h h' st k=>st.at λo e=>k it (by simp) o e
 item:=by
  intro X q y B hc i h_ s σ H E I hf st D;subst q y B;obtain⟨xs,x,j,l⟩:=D;obtain⟨its,J,p,hz⟩:=I.list j;obtain⟨u,W,Y⟩:=J.get l;obtain⟨L,M,Z,O,R,U⟩:=hf it (by simp);refine wpAny_pyNext_list_item st p.isList (x:=u) (by simpa using W) λh' g sb=>?_;have I1:Inv X h_ σ H { s with heap:=h' }:=I.turned (t':=s.toks) (λb o hb e=>(sb.2 b hb).trans e) L M O R U;obtain⟨o,e,c,d⟩:=id g;exact⟨u,rfl,vm (s:={ s with heap:=h' }) e c d (by decide) ⟨x,H,I1,Y,⟨rfl,λys hy=>by rw[I.mR hy j];exact l⟩,g,λb hb=>(hf b hb).1⟩⟩
 done:=by
  intro X q y B hc i h_ s σ H E I hf st D;subst q y B;obtain⟨xs,j,l⟩:=D;obtain⟨its,J,p,hz⟩:=I.list j;obtain⟨L,M,Z,O,R,U⟩:=hf it (by simp);have hl:=J.length;exact wpAny_pyNext_list_end (I.ok.hd hc) st p.isList (by simp;exact aa (ae hl.symm) l) λh' eb=>⟨rfl,I.turned (t':=s.toks) (λb o hb e=>eb b o hb e) L M O R U⟩
 self:=λ_ _ _ _ _ st h=>wpAny_pyIter_listiter st h
def Cf{K:aL}(a it:aI):Turn P w K tg (Zv K a) [it] it (λi h=>h.IsTupleIter it a i) where
 mem:=by simp
 obj:=λi h st b hb=>by
  have e:b=it:=by simpa using hb
  subst e;obtain⟨o,e,c,d⟩:=st;exact⟨o,e,λv z=>by rw[d]at z;cases z⟩
 keep:=λi h h' st k=>st.at λo e=>k it (by simp) o e
 item:=by
  intro X q y B hc i h_ s σ H E I hf st D;subst q y B;obtain⟨xs,x,j,l⟩:=D;obtain⟨its,J,p,hz⟩:=I.tuple j;obtain⟨u,W,Y⟩:=J.get l;obtain⟨L,M,Z,O,R,U⟩:=hf it (by simp);refine wpAny_pyNext_tuple_item st (show s.heap.IsTuple a its.toArray from p) (x:=u) (by simpa using W) λh' g sb=>?_;have I1:Inv X h_ σ H { s with heap:=h' }:=I.turned (t':=s.toks) (λb o hb e=>(sb.2 b hb).trans e) L M O R U;obtain⟨o,e,c,d⟩:=id g;exact⟨u,rfl,vm (s:={ s with heap:=h' }) e c d (by decide) ⟨x,H,I1,Y,⟨rfl,λys hy=>by rw[I.mN hy j];exact l⟩,g,λb hb=>(hf b hb).1⟩⟩
 done:=by
  intro X q y B hc i h_ s σ H E I hf st D;subst q y B;obtain⟨xs,j,l⟩:=D;obtain⟨its,J,p,hz⟩:=I.tuple j;obtain⟨L,M,Z,O,R,U⟩:=hf it (by simp);have hl:=J.length;exact wpAny_pyNext_tuple_end (I.ok.hd hc) st (show s.heap.IsTuple a its.toArray from p) (by simp;exact aa (ae hl.symm) l) λh' eb=>⟨rfl,I.turned (t':=s.toks) (λb o hb e=>eb b o hb e) L M O R U⟩
 self:=λ_ _ _ _ _ st h=>wpAny_pyIter_tupleiter st h
def Cg{K:aL}(it:aI)(lo:Int)(n:Nat):Turn P w K tg (X3 lo n) [it] it (λi h=>Mf h it (lo+(i:Nat) * 1) ((n:Int) - (i:Nat)) 1) where
 mem:=by simp
 obj:=λi h st b hb=>by
  have e:b=it:=by simpa using hb
  subst e
  exact⟨_,st,λv z=>by
   have M:Data.fields _=Data.cell v:=z
   cases M⟩
 keep:=λi h h' st k=>k it (by simp) _ st
 item:=by
  intro X d g j hc i h_ s σ H E I hf st l;subst d g j;obtain⟨q,y,O,B,D,J⟩:=hf it (by simp);have W:=Walks.range (prog:=X.prog) (w:=X.w) (I.ok.hd hc) it lo 1 n;refine W.item i s _ _ l st λv h' L R c kk=>?_;obtain⟨t,rfl⟩:=R;have U:Inv X h_ σ H { s with heap:=h',toks:=L }:=I.turned (λb o hb e=>kk b o (by simpa using hb) e) q y B D J;refine⟨_,rfl,vm (s:={ s with heap:=h',toks:=L }) (n:="range_iterator") c rfl rfl (by decide) ⟨.int (lo+i),H,U,⟨t,?_⟩,⟨rfl,rfl⟩,c,λb hb=>(hf b hb).1⟩⟩;rw[Int.mul_one]
 done:=by
  intro X d g j hc i h_ s σ H E I hf st l;subst d g j;obtain⟨q,y,O,B,D,J⟩:=hf it (by simp);exact HS (I.ok.hd hc) st (by have:n<=i:=l;omega) λh' Y=>⟨rfl,I.turned (t':=s.toks) (λb o hb e=>Y b o hb e) q y B D J⟩
 self:=λ_ _ _ _ _ st h=>HU st h
section
variable{X:Cx}
def WZ(K:aL)(tl:TE):TI:=λσ H R=>tl σ H λx H1=>∃a,x=.ref a/\(∃xs,mV K H1 a xs)/\R (Zw K a) H1
def Y1(K:aL)(tl:TE):TI:=λσ H R=>tl σ H λx H1=>∃a,x=.ref a/\(∃xs,sx K H1 a xs)/\R (Zv K a) H1
def Ey(hl:PE X l tl):PI X tg l (WZ X.K tl):=by
 intro h_ s σ H R I h;refine iM (hl h_ s σ H _ I h) λv s1 ⟨x,H1,c,d,g⟩=>?_;obtain⟨a,e,⟨xs,j⟩,q⟩:=g;subst e;cases d;obtain⟨its,k,p,hz⟩:=c.list j;refine vQ p.isList ?_;refine⟨s1.heap.objs.size,[s1.heap.objs.size],_,_,H1,rfl,c.kept λb o e=>hp9 _ e,Gk a _,⟨_,aJ _ rfl,rfl,rfl⟩,λb hb=>?_,q⟩;have e:b=s1.heap.objs.size:=by simpa using hb
 subst e;exact c.wd (au _) (c.hok.fresh (au _))
def Jt(hl:PE X l tl):PI X tg l (Y1 X.K tl):=by
 intro h_ s σ H R I h;refine iM (hl h_ s σ H _ I h) λv s1 ⟨x,H1,c,d,g⟩=>?_;obtain⟨a,e,⟨xs,j⟩,q⟩:=g;subst e;cases d;obtain⟨its,k,p,hz⟩:=c.tuple j;refine wpAny_pyIter_tuple (p) ?_;refine⟨s1.heap.objs.size,[s1.heap.objs.size],_,_,H1,rfl,c.kept λb o e=>hp9 _ e,Cf a _,⟨_,aJ _ rfl,rfl,rfl⟩,λb hb=>?_,q⟩;have e:b=s1.heap.objs.size:=by simpa using hb
 subst e;exact c.wd (au _) (c.hok.fresh (au _))
def Jh{lo:Int}(I:Inv X h_ σ H s)(h1:-(2 ^ 62)<=lo)(h2:lo<2 ^ 62)(h3:-(2 ^ 62)<=hi)(d:hi<2 ^ 62)
  (q:R (X3 lo (hi - lo).toNat) H):aC (aD X.prog X.w) X.A (HW (.ref s.heap.objs.size)) (Zq X h_ σ tg R) E { s with heap:=s.heap.push { cls:=.type "range",data:=.fields #[.int lo t,.int hi u,.int 1 v] },toks:=tk }:=by
 refine wpAny_pyIter_range (Pn ..) (small_one h1 h2 h3 d) ?_;have c:Inv X h_ σ H { s with heap:=s.heap.push { cls:=.type "range",data:=.fields #[.int lo t,.int hi u,.int 1 v] },toks:=tk }:=I.kept λb o e=>hp9 _ e
 refine⟨(s.heap.push { cls:=.type "range",data:=.fields #[.int lo t,.int hi u,.int 1 v] }).objs.size,[(s.heap.push { cls:=.type "range",data:=.fields #[.int lo t,.int hi u,.int 1 v] }).objs.size],_,_,H,rfl,
  c.kept λb o e=>hp9 _ e,Cg _ lo (hi - lo).toNat,?_,λb hb=>?_,q⟩
 ·have e1:lo+((0:Nat)) * 1=lo:=by simp
  have e2:(((hi - lo).toNat):Int) - ((0:Nat))=i7 lo hi 1:=by rw[rangeSize_one];split<;>omega
  rw[e1,e2];exact aJ _ rfl
 ·have e:b=(s.heap.push { cls:=.type "range",data:=.fields #[.int lo t,.int hi u,.int 1 v] }).objs.size:=by simpa using hb
  subst e;exact c.wd (au _) (c.hok.fresh (au _))
def WX(ta:TA):TI:=λσ H R=>ta σ H λvs H1=>∃j:Int,vs=[.int j]/\-(2 ^ 62)<=j/\j<2 ^ 62/\R (X3 0 j.toNat) H1
def GY(d:Gl X "range")(g:X.mg "range"=b_)(ha:PA X [a] ta)(hs:aS [a] X.env=[(d_,eval a X.env)]):PI X tg (.Call (.Name "range" p) [a] [] pos) (WX ta):=by
 intro h_ s σ H R I h;refine Call_ (lu I d g boot_range (c7 (iM (ha pos h_ s σ H _ I h) λus s1 ⟨vs,H1,k,l,c⟩=>?_) hs rfl));obtain⟨j,e,c,v,q⟩:=c;subst e
 cases l with
 |cons r y=>
   cases y;obtain⟨t,rfl⟩:=r;exact call_range_1 (Jh k (by simp) (by simp) c v (by simpa using q))
def Yj(wi:TI)(g:TG)(tb:TS):TS:=λD σ H=>wi σ H λJ H1=>∃W:Nat->Nat->St->Hp->Prop,(∃m,W 0 m σ H1)/\∀i m σ H,W i m σ H->
 (J.stop i H/\D.nx σ H)\/(J.go i H/\∃N:St->Hp->Prop,(∀c H',N c H'->∃d,d<m/\W (i+1) d c H')/\∀x H',J.yld i H x H'->g x σ H' λσ2 H2=>tb { D with nx:=N,ct:=N,bk:=D.nx } σ2 H2)
noncomputable def mm(fp:List aI)(h:cx):List (aI×kM):=fp.filterMap λb=>(h.get? b).map λo=>(b,o)
def nu{h:cx}(hb:b∈fp)(e:h.get? b=a_ o):(b,o)∈mm fp h:=ig.mpr ⟨b,hb,by rw[e];rfl⟩
def w5(hp:p∈mm fp h):p.1∈fp/\h.get? p.1=a_ p.2:=by
 obtain⟨b,hb,e⟩:=ig.mp hp
 cases q:h.get? b with
 |none=>rw[q]at e;cases e
 |some o=>
   rw[q]at e;have c :=aW e;subst c;exact⟨hb,q⟩
def Inv.pinned(I:Inv X h_ σ H s)(hf:∀b∈fp,qU X h_ H b)(ho:∀b∈fp,∃o,s.heap.get? b=a_ o/\∀v,o.data≠.cell v):Inv X (h_++mm fp s.heap) σ H s:=
 I.qy λp hp=>(ao.mp hp).elim (λz=>I.pin p (ag _ z)) λz=>by
  obtain⟨hb,e⟩:=w5 z;obtain⟨g,j,k,_⟩:=hf p.1 hb;obtain⟨o,c,d⟩:=ho p.1 hb;rw[e]at c;cases c;exact⟨e,g,j,k,d⟩
def Inv.mM(I:Inv X (h_++pl) σ H s):Inv X h_ σ H s:=I.qy λp hp=>I.pin p (ag _ (aq _ hp))
def Jp{iter:be}{tb:TS}(hp:sD (aD X.prog X.w) X.A X.env X.xe)(hc:X.calm=c_)(hi:PI X tg iter wi)(hg:PG X tg g)(hb:zz X body tb)
  (hs:∀x,foldedSetIterable iter X.env x=pure x):PS X (.For tg iter body [] pos) (Yj wi g tb):=by
 intro h_ s σ H D I h;refine wpAny_For (iM (hi h_ s σ H _ I h) λv s1 h1=>iM h1 λitv s2 h2=>?_) hs;obtain⟨it,fp,tn,J,H2,e,I2,T,U,f2,W,⟨m0,w0⟩,turn⟩:=h2;subst e;have j:∀{H':Hp},(∀b∈fp,H' b=b_)->∀b∈fp,qU X h_ H' b:=λhn b hb=>⟨hn b hb,(f2 b hb).2⟩
 refine codeAny_forLoop_any (λn s'=>∃i k H',Inv X h_ k H' s'/\tn i s'.heap/\(∀b∈fp,H' b=b_)/\W i n k H') ?_ m0 ⟨0,σ,H2,I2,U,λb hb=>(f2 b hb).1,w0⟩;rintro n s3 ⟨i,l,R,I3,L,M,w3⟩
 rcases turn i n l R w3 with⟨stop,qn⟩|⟨go,N,hN,step⟩
 ·refine iX hp (iM (T.done X rfl rfl rfl hc i h_ s3 l R X.xe I3 (j M) L stop) λr s4 ⟨Y,I4⟩=>?_);subst Y;exact zA ⟨l,R,I4,qn⟩
 ·refine iX hp (iM (T.item X rfl rfl rfl hc i h_ s3 l R X.xe I3 (j M) L go) λr s4 ⟨u,Y,h4⟩=>?_);subst Y;refine iX hp (iM h4 λ_ s5 ⟨x,H5,I5,r5,y5,B,Z⟩=>?_);have I5':=I5.pinned (j Z) (T.obj _ _ B);refine iX hp (iM (hg _ s5 l H5 x u _ I5' r5 (step x H5 y5)) λ_ s6 ⟨σ6,H6,I6,q6⟩=>?_);refine iX hp (iM (hb _ s6 σ6 H6 _ I6 q6) λf s7 z=>?_)
  have again:∀{c:St}{q:Hp},Inv X (h_++mm fp s5.heap) c q s7->N c q->∃m,m<n/\∃i k H',Inv X h_ k H' s7/\tn i s7.heap/\(∀b∈fp,H' b=b_)/\W i m k H':=λ{c q}y O=>by
   obtain⟨m',hm,w7⟩:=hN c q O;refine⟨m',hm,i+1,c,q,y.mM,T.keep _ _ _ B λb hb o e=>(y.pin (b,o) (ag _ (ag _ (nu hb e)))).1,λb hb=>?_,w7⟩;obtain⟨o,e,d⟩:=T.obj _ _ B b hb;exact(y.pin (b,o) (ag _ (ag _ (nu hb e)))).2.1
  cases f with
  |next=>obtain⟨c,q,y,O⟩:=z;exact again y O
  |cont=>obtain⟨c,q,y,O⟩:=z;exact again y O
  |brk=>obtain⟨c,q,y,z⟩:=z;exact⟨c,q,y.mM,z⟩
  |ret v=>obtain⟨x7,c,q,y,r7,z⟩:=z;exact⟨x7,c,q,y.mM,r7,z⟩
end
abbrev R2:=V->V->Hp->VK->Prop
def jJ(X:Cx)(f:ah->ah->zE ah)(r:R2):Prop:=
 ∀(h_:List (aI×kM))(s:ak)(σ:St)(H:Hp)(x y:V)(v u:ah)(Q:VK),Inv X h_ σ H s->RelV x v->RelV y u->r x y H Q->
  aC (aD X.prog X.w) X.A (f v u) (EP X h_ σ Q) X.xe s
def Zo(X:Cx)(f:ah->zE ah)(r:V->Hp->VK->Prop):Prop:=
 ∀(h_:List (aI×kM))(s:ak)(σ:St)(H:Hp)(x:V)(v:ah)(Q:VK),Inv X h_ σ H s->RelV x v->r x H Q->
  aC (aD X.prog X.w) X.A (f v) (EP X h_ σ Q) X.xe s
def lF(X:Cx)(f:ah)(r:List V->Hp->VK->Prop):Prop:=
 ∀(h_:List (aI×kM))(s:ak)(σ:St)(H:Hp)(xs:List V)(us:List ah)(Q:VK),Inv X h_ σ H s->cM xs us->r xs H Q->
  aC (aD X.prog X.w) X.A (call f us) (EP X h_ σ Q) X.xe s
def Zp(X:Cx)(r:V->Hp->(Bool->Hp->Prop)->Prop):Prop:=
 ∀(h_:List (aI×kM))(s:ak)(σ:St)(H:Hp)(x:V)(v:ah)(Q:Bool->Hp->Prop),Inv X h_ σ H s->RelV x v->r x H Q->
  aC (aD X.prog X.w) X.A (truthy v) (TP X h_ σ Q) X.xe s
def QM(r:R2)(ta tb:TE):TE:=λσ H Q=>ta σ H λx H1=>tb σ H1 λy H2=>r x y H2 Q
def tUn(r:V->Hp->VK->Prop)(ta:TE):TE:=λσ H Q=>ta σ H λx H1=>r x H1 Q
def rI(C:Int->Int->Prop)(g:Int->Int->V):R2:=λx y H Q=>∃i j,x=.int i/\y=.int j/\C i j/\Q (g i j) H
def LY(g:Int->Int->V):R2:=λx y H Q=>∃i j,x=.int i/\y=.int j/\Q (g i j) H
def rU(g:Int->V):V->Hp->VK->Prop:=λx H Q=>∃i,x=.int i/\Q (g i) H
section
variable{X:Cx}{tb:TE}
def UH(ha:PE X a ta)(hb:PE X b tb){h_:List (aI×kM)}{s:ak}{σ:St}{H:Hp}{R:V->V->Hp->Prop}(I:Inv X h_ σ H s)
  (h:ta σ H λx H1=>tb σ H1 λy H2=>R x y H2){Q:ah->ak->Prop}{f:ah->ah->zE ah}
  (hf:∀v u s2 x y H2,Inv X h_ σ H2 s2->RelV x v->RelV y u->R x y H2->aC (aD X.prog X.w) X.A (f v u) Q X.xe s2) :
  aC (aD X.prog X.w) X.A (eval a X.env) (λv s₁=>aC (aD X.prog X.w) X.A (eval b X.env) (λu c=>aC (aD X.prog X.w) X.A (f v u) Q X.xe c) X.xe s₁) X.xe s:=by
 refine iM (ha h_ s σ H _ I h) λv s1 ⟨x,H1,d,g,j⟩=>?_;refine iM (hb h_ s1 σ H1 _ d j) λu s2 ⟨y,H2,k,l,q⟩=>?_;exact hf v u s2 x y H2 k g l q
def PK(ho:jJ X (binaryOp op) r)(ha:PE X a ta)(hb:PE X b tb):PE X (.BinOp a op b pos) (QM r ta tb):=by
 intro h_ s σ H Q I h;exact wpAny_BinOp (UH ha hb I h λv u s2 x y H2 c d g q=>ho h_ s2 σ H2 x y v u Q c d g q)
def Wk(ho:Zo X (unaryOp op) r)(ha:PE X a ta):PE X (.UnaryOp op a pos) (tUn r ta):=by
 intro h_ s σ H Q I h;exact UnaryOp_ (iM (ha h_ s σ H _ I h) λv s1 ⟨x,H1,c,d,g⟩=>ho h_ s1 σ H1 x v Q c d g)
def YB{f:ah->ah->zE ah}{C:Int->Int->Prop}{g:Int->Int->Int}
  (rule:∀(i j:Int)(t u:DL)(s:ak)(Q:ah->ak->Prop)(E:ah->ak->Prop),C i j->Q (.int (g i j) s.toks) { s with toks:=s.toks+1 }->aC (aD X.prog X.w) X.A (f (.int i t) (.int j u)) Q E s) :
  jJ X f (rI C λi j=>.int (g i j)):=by
 intro h_ s σ H x y v u Q I c d h;obtain⟨i,j,rfl,rfl,hc,q⟩:=h;obtain⟨t,rfl⟩:=c;obtain⟨t',rfl⟩:=d;exact rule i j t t' s _ _ hc ⟨.int (g i j),H,I.tok _,⟨_,rfl⟩,q⟩
def Sz{f:ah->ah->zE ah}{g:Int->Int->Int}
  (rule:∀(i j:Int)(t u:DL)(s:ak)(Q:ah->ak->Prop)(E:ah->ak->Prop),Q (.int (g i j) s.toks) { s with toks:=s.toks+1 }->aC (aD X.prog X.w) X.A (f (.int i t) (.int j u)) Q E s) :
  jJ X f (LY λi j=>.int (g i j)):=by
 intro h_ s σ H x y v u Q I c d h;obtain⟨i,j,rfl,rfl,q⟩:=h;obtain⟨t,rfl⟩:=c;obtain⟨t',rfl⟩:=d;exact rule i j t t' s _ _ ⟨.int (g i j),H,I.tok _,⟨_,rfl⟩,q⟩
def SD{f:ah->ah->zE ah}{g:Int->Int->Bool}
  (rule:∀(i j:Int)(t u:DL)(s:ak)(Q:ah->ak->Prop)(E:ah->ak->Prop),Q (.bool (g i j)) s->aC (aD X.prog X.w) X.A (f (.int i t) (.int j u)) Q E s) :
  jJ X f (LY λi j=>.bl (g i j)):=by
 intro h_ s σ H x y v u Q I c d h;obtain⟨i,j,rfl,rfl,q⟩:=h;obtain⟨t,rfl⟩:=c;obtain⟨t',rfl⟩:=d;exact rule i j t t' s _ _ ⟨.bl (g i j),H,I,rfl,q⟩
def U1(i j:Int):Prop:=0<j/\j<1073741824
def Ph(i j:Int):Prop:=0<=j/\j<=1000000/\i.natAbs<2 ^ 64
def HA(i j:Int):Prop:=(-(2 ^ 64)<i/\i<2 ^ 64)\/(-(2 ^ 64)<j/\j<2 ^ 64)
def HA.ok(h:HA i j):IntMulOk i j:=by
 rcases h with⟨h1,h2⟩|⟨h1,h2⟩
 ·exact .of_left (intBits_le_64 h1 h2)
 ·exact .of_right (intBits_le_64 h1 h2)
def Ce(k:Nat):(0:Int)<=2 ^ k:=by
 exact Int.natCast_nonneg _
def Sy:jJ X (binaryOp .Add) (LY λi j=>.int (i+j)):=Sz λ_ _ _ _ _ _ _ q=>add_int q
def Sh:jJ X (binaryOp .Sub) (LY λi j=>.int (i - j)):=Sz λ_ _ _ _ _ _ _ q=>sub_int q
def Sk:jJ X (binaryOp .Mult) (rI HA λi j=>.int (i * j)):=YB λ_ _ _ _ _ _ _ hc q=>mul_int q hc.ok
def Sl:jJ X (binaryOp .Mod) (rI (λ_ j=>0<j) λi j=>.int (i % j)):=YB λi j _ _ _ _ _ hc q=>by
 have h1 :=hc;exact mod_int' (Int.ne_of_gt h1) (by rw[Int.fmod_eq_emod_of_nonneg i (Int.le_of_lt h1)];exact q)
def Si:jJ X (binaryOp .RShift) (rI (λ_ j=>0<=j) λi j=>.int (i / 2 ^ j.toNat)):=YB λi j _ _ _ _ _ hc q=>
 rshift_int hc (by rw[Int.fdiv_eq_ediv_of_nonneg i (Ce _)];exact q)
def Sw:jJ X (binaryOp .BitAnd) (LY λi j=>.int (uh i j)):=Sz λ_ _ _ _ _ _ _ q=>and_int q
def unI{f:ah->zE ah}{g:Int->Int}
  (rule:∀(i:Int)(t:DL)(s:ak)(Q:ah->ak->Prop)(E:ah->ak->Prop),Q (.int (g i) s.toks) { s with toks:=s.toks+1 }->aC (aD X.prog X.w) X.A (f (.int i t)) Q E s) :
  Zo X f (rU λi=>.int (g i)):=by
 intro h_ s σ H x v Q I c h;obtain⟨i,rfl,q⟩:=h;obtain⟨t,rfl⟩:=c;exact rule i t s _ _ ⟨.int (g i),H,I.tok _,⟨_,rfl⟩,q⟩
def QI:Zo X (unaryOp .USub) (rU λi=>.int (-i)):=unI λ_ _ _ _ _ q=>neg_int q
end
section
variable{b:be}{tb:TE}
def Dk(I:Inv X h_ σ H s)(q:Q (.bl k) H)(e:k=k'):EP X h_ σ Q (.bool k') s:=by
 subst e;exact⟨.bl k,H,I,rfl,q⟩
def Wn:jJ X (compareOp .Lt) (LY λi j=>.bl (decide (i<j))):=SD λ_ _ _ _ _ _ _ q=>nN q
def Wo:jJ X (compareOp .Gt) (LY λi j=>.bl (decide (j<i))):=SD λ_ _ _ _ _ _ _ q=>gt_int q
def Wp:jJ X (compareOp .GtE) (LY λi j=>.bl (decide (j<=i))):=SD λ_ _ _ _ _ _ _ q=>ge_int q
def G0:jJ X (compareOp .In) (λx y H Q=>∃i j,x=.str i/\y=.str j/\Q (.bl (!(gh j i 0 j.length 1).isEmpty)) H):=by
 intro h_ s σ H x y v u Q I c d h;obtain⟨i,j,rfl,rfl,q⟩:=h;obtain⟨t,rfl⟩:=c;obtain⟨t',rfl⟩:=d;exact in_str (Dk I q rfl)
def Sn:jJ X (compareOp .Is) (λx y H Q=>y=.non/\Q (.bl (decide (x=.non))) H):=by
 intro h_ s σ H x y v u Q I c d h;obtain⟨rfl,q⟩:=h;cases d;refine is_none_gen (Dk I q ?_)
 cases x<;>first
  |(cases c;rfl)
  |(obtain⟨t,rfl⟩:=c;rfl)
def NL:jJ X (compareOp .IsNot) (λx y H Q=>y=.non/\Q (.bl (!decide (x=.non))) H):=by
 intro h_ s σ H x y v u Q I c d h;obtain⟨rfl,q⟩:=h;cases d;refine isnot_none_gen (Dk I q ?_)
 cases x<;>first
  |(cases c;rfl)
  |(obtain⟨t,rfl⟩:=c;rfl)
def ND(ho:jJ X (compareOp op) r)(ha:PE X a ta)(hb:PE X b tb)(c:behindInMarks op b=d_):PE X (.Compare a [op] [b] pos) (QM r ta tb):=by
 intro h_ s σ H Q I h;exact wpAny_Compare1 (UH ha hb I h λv u s2 x y H2 d g j q=>ho h_ s2 σ H2 x y v u Q d g j q) c
def VA(t:TE):TT:=λσ H Q=>t σ H λx H'=>∃k,x=.bl k/\Q k H'
def Nv(ho:jJ X (compareOp op) r)(ha:PE X a ta)(hb:PE X b tb)(d:behindInMarks op b=d_):PT X (.Compare a [op] [b] pos) (VA (QM r ta tb)):=by
 intro h_ s σ H Q I h
 refine wpAny_isTrue_Compare1 (iM (ha h_ s σ H _ I h) λv s1 ⟨x,H1,g,j,l⟩=>iM (hb h_ s1 σ H1 _ g l) λu s2 ⟨y,H2,q,B,D⟩=>
  iM (ho h_ s2 σ H2 x y v u _ q j B D) λc s3 ⟨z,J,L,M,k,e,O⟩=>?_) d
 subst e;cases M;exact gY ⟨J,L,O⟩
def UM(K:aL)(x:V)(H:Hp)(k:Bool):Prop:=
 match x with
 |.non=>k=d_
 |.bl b=>k=b
 |.int i=>k=(i != 0)
 |.str y=>y.length<=aB/\k=((y.length:Int) != 0)
 |.byt y=>y.size<=aB/\k=((y.size:Int) != 0)
 |.ref p=>(∃xs,mV K H p xs/\k=!xs.isEmpty)\/(∃xs,sx K H p xs/\k=!xs.isEmpty)\/∃k_,H p=a_ (.dK k_)/\k=!k_.isEmpty
 |_=>False
def Dc{κ:Type}{k_:List (κ×V)}{vs:List (κ×ah)}(r:KV k_ vs):(!vs.isEmpty)=!k_.isEmpty:=by
 cases r<;>rfl
def vg(r:cM xs its):(!its.toArray.isEmpty)=!xs.isEmpty:=by
 cases r<;>simp
def rZ:(aB:Nat)<2 ^ 63:=by decide
def Iu:Zp X (λx H Q=>∃k,UM X.K x H k/\Q k H):=by
 intro h_ s σ H x v Q I d h;obtain⟨k,e,q⟩:=h;have hs :=eM
 cases x with
 |non=>
   cases d;have c :=e;subst c;exact truthy_none ⟨H,I,q⟩
 |bl b=>
   cases d;have c :=e;subst c;exact gY ⟨H,I,q⟩
 |int i=>
   obtain⟨t,rfl⟩:=d;have c :=e;subst c;exact PySem.P.truthy_int ⟨H,I,q⟩
 |str y=>
   obtain⟨t,rfl⟩:=d;obtain⟨j,c⟩:y.length<=aB/\k=((y.length:Int) != 0):=e;subst c;exact PySem.P.truthy_str (by omega) ⟨H,I.tok _,q⟩
 |byt y=>
   obtain⟨t,rfl⟩:=d;obtain⟨j,c⟩:y.size<=aB/\k=((y.size:Int) != 0):=e;subst c;exact PySem.W.truthy_bytes (aa j (by decide)) ⟨H,I.tok _,q⟩
 |ref p=>
   cases d;have c :=e
   rcases c with⟨xs,g,c⟩|⟨xs,g,c⟩|⟨k_,g,c⟩
   ·subst c;obtain⟨its,r,pl,hz⟩:=I.list g;have hlen:=r.length;exact wpAny_truthy_list pl.isList (by simp only[aO];omega) ⟨H,I.tok _,by rw[vg r];exact q⟩
   ·subst c;obtain⟨its,r,pl,hz⟩:=I.tuple g;have hlen:=r.length;exact truthy_tuple pl (by simp only[aO];omega) ⟨H,I.tok _,by rw[vg r];exact q⟩
   ·subst c;obtain⟨hz,l,vs,r,m⟩:k_.length<=aB/\(p == sysModules)=d_/\∃vs,KV k_ vs/\s.heap.DictOf (cD X.prog X.w) p vs:=I.hok p _ g;have hlen :=pN r;exact wpAny_truthy_dict l m (by omega) ⟨H,I.tok _,by rw[Dc r];exact q⟩
 |_=>exact(e).elim
def Jl(ha:PE X a ta)(he:∀whole,isTrue a X.env whole=(do let v <-whole;standAt a.pos;holding [v] (truthy v))) :
  PT X a (λσ H Q=>ta σ H λx H'=>∃k,UM X.K x H' k/\Q k H'):=by
 intro h_ s σ H Q I h;exact isTrue_plain (iM (ha h_ s σ H _ I h) λv s1 ⟨x,H1,c,d,g⟩=>Iu h_ s1 σ H1 x v Q c d g) (he _)
def CL:jJ X (binaryOp .Add) (λx y H Q=>∃i j,x=.str i/\y=.str j/\i.length+j.length<=aB/\Q (.str (i++j)) H):=by
 intro h_ s σ H x y v u Q I c d h;obtain⟨i,j,rfl,rfl,hz,q⟩:=h;obtain⟨t,rfl⟩:=c;obtain⟨t',rfl⟩:=d;exact add_str (λt' g=>⟨.str (i++j),H,I.tok _,⟨_,rfl⟩,q⟩) hz
def vals1(r:cM [x] us):∃u,us=[u]/\RelV x u:=by
 cases r with
 |cons c d=>cases d;exact⟨_,rfl,c⟩
def vals2(r:cM [x,y] us):∃u c,us=[u,c]/\RelV x u/\RelV y c:=by
 cases r with
 |cons d g=>
   cases g with
   |cons j k=>cases k;exact⟨_,_,rfl,d,j⟩
def zf:lF X (.type "str") (λxs H Q=>∃i,xs=[.int i]/\i.natAbs.log2<1920/\Q (.str (toString i)) H):=by
 intro h_ s σ H xs us Q I r h;obtain⟨i,rfl,hz,q⟩:=h;obtain⟨u,rfl,t,rfl⟩:=vals1 r;exact PySem.P.str_of_int hz ⟨.str _,H,I.tok _,⟨_,rfl⟩,q⟩
end
section
variable{K:aL}
end
noncomputable def rN(f:bu)(v:V):List (bu×V)->List (bu×V)
 |[]=>[(f,v)]
 |(g,x)::r=>if g=f then(g,v)::r else(g,x)::rN f v r
def wm.some_of(r:wm (a_ v) o):∃u,o=a_ u/\RelV v u:=by
 cases o with
 |none=>exact(r).elim
 |some u=>exact⟨u,rfl,r⟩
section
end
section
end
section
end
section
end
structure mW(k:Nat)(A:bT):Prop where
 hd:A.handled=b_
 dp:A.depth+3 * k+5<recursionLimit
 un:A.units+16 * k+200<dk
def mW.deeper(r:mW (k+1) A)(env:Po):mW k (A.deeper env):=
 ⟨r.hd,by have:=r.dp;show A.depth+1+3 * k+5<_;omega,by have:=r.un;show A.units+3+16 * k+200<_;omega⟩
def mW.depth(r:mW k A):A.depth<recursionLimit:=by have:=r.dp;omega
def mW.units(r:mW k A):A.units+64<dk:=by have:=r.un;omega
def VC:TA:=λ_ H Q=>Q [] H
def VE(ta:TE)(tr:TA):TA:=λσ H Q=>ta σ H λx H1=>tr σ H1 λxs H2=>Q (x::xs) H2
section
variable{t:TA}
def CK:PA X [] VC:=λ_ _ _ _ H Q I h=>rB ⟨[],H,I,.nil,h⟩
def t4(ha:PE X e te)(c:PA X es t)(hs:aS (e::es) X.env=(d_,eval e X.env)::aS es X.env:=by rfl):PA X (e::es) (VE te t):=by
 intro pos h_ s σ H Q I h;rw[hs];refine Ga (iM (ha h_ s σ H _ I h) λu s1 ⟨x,H1,d,g,j⟩=>?_);exact iM (c pos h_ s1 σ H1 _ d j) λus s2 ⟨xs,H2,k,l,q⟩=>⟨x::xs,H2,k,.cons g l,q⟩
def Yc(t:TA):TE:=λσ H Q=>t σ H λxs H1=>xs.length<=aB/\∀p,H1 p=b_->Q (.ref p) (upd H1 p (.tup xs))
def Yh(t:TA):TE:=λσ H Q=>t σ H λxs H1=>xs.length<=aB/\∀p,H1 p=b_->Q (.ref p) (upd H1 p (.lst xs))
def R0{x1}(h:PA X es t):PE X (.Tuple es x1 pos) (Yc t):=by
 intro h_ s σ H Q I d;refine wpAny_Tuple_spliced (iM (h pos h_ s σ H _ I d) λus s1 ⟨xs,H1,c,r,z,q⟩=>⟨by rw[<-r.length];exact z,?_⟩);have hf :=c.hok.fresh (au _);refine⟨.ref s1.heap.objs.size,upd H1 s1.heap.objs.size (.tup xs),c.laid (λb u e=>hp9 _ e) (au _) ?_,rfl,q _ hf⟩;exact⟨z,us,r,⟨_,aJ _ rfl,rfl,_,rfl⟩⟩
def R8(h:PA X es t):PE X (.List es pos) (Yh t):=by
 intro h_ s σ H Q I d;refine wpAny_List_spliced (iM (h pos h_ s σ H _ I d) λus s1 ⟨xs,H1,c,r,z,q⟩=>⟨by rw[<-r.length];exact z,?_⟩);have hf :=c.hok.fresh (au _);refine⟨.ref s1.heap.objs.size,upd H1 s1.heap.objs.size (.lst xs),c.laid (λb u e=>hp9 _ e) (au _) ?_,rfl,q _ hf⟩;exact⟨z,us,0,r,aJ _ rfl⟩
end
abbrev Sp:=List V->Hp->VK->XK->Prop
abbrev Vo:=List Po->Hp->ak->XK->ah->ak->Prop
structure iG(P:cz)(w:c5)(K:aL)(mg:bu->Option ah)(base:cx)(A:bT)(outer:List Po)(s:ak)(H:Hp):Prop where
 frames:A.frames=a_ outer
 mod:Mod K mg base
 bs:∀b o,base.get? b=a_ o->s.heap.get? b=a_ o/\H b=b_
 bsz:base.objs.size<=s.heap.objs.size
 vq:s.heap.FunFrames base outer
 frf:∀b∈HL outer,H b=b_
 hok:qT P w H s.heap
 bare:oi s.gens
def CE(outer:List Po)(P:cz)(w:c5)(H:Hp)(s:ak)(Q:VK)(u:ah)(s':ak):Prop:=
 ∃v H',s'.os=s.os/\oi s'.gens/\Un (HL outer) [] H H' s.heap s'.heap/\qT P w H' s'.heap/\RelV v u/\Q v H'
def CR(CX:Vo)(outer:List Po)(P:cz)(w:c5)(H:Hp)(s:ak)(Q:VK)(E:XK)(r:Result)(s':ak):Prop:=
 match r with
 |.ok (.ret u)=>CE outer P w H s Q u s'
 |.ok _=>False
 |.error e=>CX outer H s E e s'
structure nK(P:cz)(w:c5)(K:aL)(mg:bu->Option ah)(base:cx)(CX:Vo)(k:Nat)(f:aI)(fd:jK)(ps:List bu)(sp:Sp):Prop where
 len:∀vs H Q E,sp vs H Q E->vs.length=ps.length
 run:∀(A:bT)(outer:List Po)(s:ak)(H:Hp)(args:Args)(us:List ah)(vs:List V)(Q:VK)(E:XK),mW k A->iG P w K mg base A outer s H->BN s fd args (ps.zip us)->cM vs us->sp vs H Q E->
  codeAny (aD P w) A (.call (.ref f) args) (CR CX outer P w H s Q E) s
def nK.imp{K:aL}{base:cx}(F:nK P w K mg base CX k f fd ps sp)
  (h:∀vs H Q E,sp' vs H Q E->sp vs H Q E):nK P w K mg base CX k f fd ps sp':=
 ⟨λvs H Q E q=>F.len vs H Q E (h _ _ _ _ q),λA outer s H args us vs Q E c he hb d hs=>F.run A outer s H args us vs Q E c he hb d (h _ _ _ _ hs)⟩
section
def Inv.Y7(I:Inv X h_ σ H s):iG X.prog X.w X.K X.mg X.base X.A X.stack s H:=
 ⟨I.ok.frames,I.ok.mod,I.bs,aa I.ok.bsz I.sz,I.stack,I.DZ,I.hok,I.bare⟩
def Inv.after(I:Inv X h_ σ H s)(h:CE X.stack X.prog X.w H s Q u s'):EP X h_ σ Q u s':=by
 obtain⟨v,H',os,bare,un,hok,r,q⟩:=h;obtain⟨hh,g,d,t,c⟩:=s';obtain rfl:c=s.os:=os;exact⟨v,H',I.call un hok bare (λb z=>absurd z (by simp)),r,q⟩
end
def Py(sp:Sp)(c:List V)(E:XK)(t:TA):TE:=λσ H Q=>t σ H λvs H1=>sp (vs++c) H1 Q E
def Binds(K:aL)(fd:jK)(ps:List bu)(ds:List ah):Prop:=
 ∀(s:ak)(us:List ah),K.In s.heap->(us++ds).length=ps.length->BN s fd ⟨us,[]⟩ (ps.zip (us++ds))
def Binds.all{K:aL}{ps:List bu}(h:∀us:List ah,us.length=ps.length->bindArgs fd ⟨us,[]⟩=pure (ps.zip us)):Binds K fd ps []:=λs us _ hl=>by
 rw[aM]at hl ⊢;exact .of_eq (h us hl)
def zo(CX:Vo)(X:Cx)(E:XK):Prop:=∀(h_:List (aI×kM))(σ:St)(H:Hp)(s:ak)(e:ah)(s':ak),Inv X h_ σ H s->CX X.stack H s E e s'->X.xe e s'
section
variable{X:Cx}{f C:aI}
def Ja(F:nK X.prog X.w X.K X.mg X.base CX k f fd ps sp)(g:mW k X.A)(hb:Binds X.K fd ps ds)(hd:cM dvs ds)(j:zo CX X E)
  (I:Inv X h_ σ H s)(r:cM vs us)(h:sp (vs++dvs) H Q E):aC (aD X.prog X.w) X.A (call (.ref f) us) (EP X h_ σ Q) X.xe s:=by
 have d :=r.append hd;have hl:(us++ds).length=ps.length:=by rw[<-d.length];exact F.len _ _ _ _ h
 refine wpAny_call (kC (F.run X.A X.stack s H ⟨us,[]⟩ (us++ds) (vs++dvs) Q E g I.Y7 (hb s us I.C4 hl) d h) λr s' c=>?_)
 cases r with
 |error e=>exact j h_ σ H s e s' I c
 |ok fl=>
   cases fl with
   |ret u=>exact I.after c
   |next=>exact iZ c
   |brk=>exact iZ c
   |cont=>exact iZ c
def NF(F:nK X.prog X.w X.K X.mg X.base CX k f fd ps sp)(j:mW k X.A)(l:Gl X x)(v:X.mg x=a_ (.ref f))(y:gJ X.K (.ref f)=c_)(hb:Binds X.K fd ps ds)(hd:cM dvs ds)(z:zo CX X E)
  (ha:PA X (e::es) t)(c:(x == ("__debug__":bu))=d_)(he:aS (e::es) X.env=(d_,eval e X.env)::aS es X.env)(d:(backTo pos (aS es X.env)).any (·.1)=d_) :
  PE X (.Call (.Name x p) (e::es) [] pos) (Py sp dvs E t):=by
 intro h_ s σ H Q I h;refine fo (yK I l v ?_ c);refine PySem.W.callWith_K I.ok.mod.kin y (iM (ha pos h_ s σ H _ I h) λus s1 ⟨vs,H1,g,r,q⟩=>⟨g.C4,?_⟩) he d;exact Ja F j hb hd z g r q
def JD(F:nK X.prog X.w X.K X.mg X.base CX k f fd ps sp)(d:mW k X.A)(g:Gl X x)(j:X.mg x=a_ (.ref f))(l:gJ X.K (.ref f)=c_)(hb:Binds X.K fd ps ds)(hd:cM dvs ds)(q:zo CX X E)
  (c:(x == ("__debug__":bu))=d_):PE X (.Call (.Name x p) [] [] pos) (Py sp dvs E VC):=by
 intro h_ s σ H Q I h;refine fo (yK I g j ?_ c);exact PySem.W.callWith_K0 I.C4 l (Ja F d hb hd q I .nil h)
structure Mk(K:aL)(C f:aI):Prop where
 makes:PySem.W.makesIn K C=c_
 init:PySem.W.findIn K (.ref C) "__init__"=a_ (a_ (.ref f))
 fn:PySem.W.isFn K (.ref f)=c_
 kp:gJ K (.ref C)=c_
end
section
end
structure qV(N P:List bu)(sc:mE):Prop where
 kind:sc.kind=.function
 co:sc.isCoroutine=d_
 gen:sc.isGenerator=d_
 nd:N.Nodup
 pre:N.take P.length=P
 par:∀x∈P,sc.names.lookup x=a_ .local\/sc.names.lookup x=a_ .cell
 nofree:∀y∈sc.names,y.2≠.free
theorem xS{kindOf:bu->Option kE}:∀{binds:List (bu×ah)}{m:bu->Option ah},(∀v,(x,v)∉binds)->bindL kindOf binds m x=m x
 |[],_,_=>rfl
 |(n,v)::r,m,h=>by
   unfold bindL;rw[xS λw c=>h w (iE _ c)];split
   ·have:x≠n:=by rintro rfl;exact h v g7
    simp[this]
   ·rfl
theorem xU{kindOf:bu->Option kE}:∀{binds:List (bu×ah)}{m:bu->Option ah},(∀v,(x,v)∉binds)->bindC kindOf binds m x=m x
 |[],_,_=>rfl
 |(n,v)::r,m,h=>by
   unfold bindC;rw[xU λw c=>h w (iE _ c)];split
   ·rfl
   ·have:x≠n:=by rintro rfl;exact h v g7
    simp[this]
theorem xT{kindOf:bu->Option kE}:∀{P:List bu} {vs:List ah} {i:Nat} {m:bu->Option ah},P.Nodup->P[i]?=a_ x->vs[i]?=a_ v->kindOf x=a_ .local->
  bindL kindOf (P.zip vs) m x=a_ v
 |[],_,_,_,_,h,_,_=>by simp at h
 |_::_,[],_,_,_,_,h,_=>by simp at h
 |p::P,w::vs,0,m,nd,h1,h2,c=>by
   simp at h1 h2;subst h1;subst h2;show bindL kindOf ((p,w)::P.zip vs) m p=_;unfold bindL;rw[xS λv d=>(aZ.mp nd).1 (iC d).1,if_pos c];simp
 |p::P,w::vs,i+1,m,nd,h1,h2,c=>by
   show bindL kindOf ((p,w)::P.zip vs) m x=_;exact xT (aZ.mp nd).2 (by simpa using h1) (by simpa using h2) c
theorem xV{kindOf:bu->Option kE}:∀{P:List bu} {vs:List ah} {i:Nat} {m:bu->Option ah},P.Nodup->P[i]?=a_ x->vs[i]?=a_ v->kindOf x≠a_ .local->
  bindC kindOf (P.zip vs) m x=a_ v
 |[],_,_,_,_,h,_,_=>by simp at h
 |_::_,[],_,_,_,_,h,_=>by simp at h
 |p::P,w::vs,0,m,nd,h1,h2,c=>by
   simp at h1 h2;subst h1;subst h2;show bindC kindOf ((p,w)::P.zip vs) m p=_;unfold bindC;rw[xU λv d=>(aZ.mp nd).1 (iC d).1,if_neg c];simp
 |p::P,w::vs,i+1,m,nd,h1,h2,c=>by
   show bindC kindOf ((p,w)::P.zip vs) m x=_;exact xV (aZ.mp nd).2 (by simpa using h1) (by simpa using h2) c
noncomputable def start(N:List bu)(vs:List V):St:=vs.map a_++dt (N.length - vs.length) b_
noncomputable def Bo(CX:Vo)(P:cz)(w:c5)(K:aL)(mg:bu->Option ah)(base:cx)(N:List bu)(qual:bu)(scope:mE)(f:aI)(d:ah)(A:bT)(outer:List Po)(s:ak)(H:Hp)(E:XK):Cx where
 prog:=P
 w:=w
 K:=K
 mg:=mg
 base:=base
 A:=A.deeper (envOfC qual scope s.heap.objs.size f d)
 N:=N
 s₀:=s
 H₀:=H
 env:=envOfC qual scope s.heap.objs.size f d
 outer:=outer
 stack:=envOfC qual scope s.heap.objs.size f d::outer
 ex:=[]
 calm:=c_
 fn:=λ_=>c_
 pn:=[]
 xe:=λe s'=>aC (aD P w) (A.deeper (envOfC qual scope s.heap.objs.size f d)) (leaving (envOfC qual scope s.heap.objs.size f d) e) (λ_ c=>CX outer H s E e c) (λg c=>CX outer H s E g c) s'
def Bt{sc:mE}(h:sc.names.lookup x=a_ .cell):∃c,(cellsFrom n sc.names []).lookup x=a_ c:=by
 have q:=x8 sc.names n [] (.inl h);exact mF.mp q
def He{K:aL}{base:cx}{A:bT}{s1:ak}{vs:List V}
  (S:qV N ps scope)(hd:A.handled=b_)(d:iG P w K mg base A outer s H)(hl:vs.length=ps.length)(r:cM vs us)
  (x:InCallC s s.heap.objs.size (bindL (envOfC qual scope s.heap.objs.size f cd).kindOf (ps.zip us) λ_=>b_) (cellsFrom (s.heap.objs.size+1) scope.names []) (bindC (envOfC qual scope s.heap.objs.size f cd).kindOf (ps.zip us) λ_=>b_) s1) :
  Inv (Bo CX P w K mg base N qual scope f cd A outer s H E) [] (start N vs) H s1:=by
 have B:ps.length<=N.length:=by have:=congrArg jB S.pre;rw[eA]at this;exact aa (ae this.symm) (kF _ _)
 obtain⟨h1,M,rfl,D⟩:=x.done;have g:∀b:aI,b∉(Bo CX P w K mg base N qual scope f cd A outer s H E).ex:=λb z=>absurd (show b∈([])from z) (by simp)
 refine⟨⟨d.mod,S.kind,rfl,rfl,au _,λy z c h1 h2=>?_,λy j=>?_,λy c _ h=>?_,λ_=>hd,Around.frames_deeper d.frames,.inr ⟨rfl,rfl⟩,λb z=>absurd z (g b),d.bs,d.bsz,λb _ _=>g b,λb z=>absurd z (g b),d.vq,d.frf⟩,
  rfl,d.bare,Un.kept D,⟨_,x.toInCall.ns,λi y v h1 h2 h3=>?_⟩,λy c h=>⟨_,x.cell y c h⟩,d.hok.fresh (au _),λy c h=>?_,λp hp=>absurd (show p∈([])from hp) (by simp),d.hok.kept D,?_⟩
 ·exact name_of_addr x.apart (gX h1) (gX h2)
 ·rcases j with j|j
  ·exact Bt j
  ·exact absurd rfl (S.nofree _ (gX j))
 ·exact bb (x.above y c (gX h))
 ·have hi:i<vs.length:=by
   unfold start at h2;by_cases hi:i<vs.length
   ·exact hi
   ·rw[aH (by simpa using hi)]at h2;rw[eB]at h2;split at h2<;>cases h2
  have ha:vs[i]?=a_ v:=by
   unfold start at h2;rw[aQ (by simpa using hi),aN]at h2
   cases e:vs[i]? with
   |none=>rw[e]at h2;cases h2
   |some a=>rw[e]at h2;cases h2;rfl
  obtain⟨u,J,L⟩:=r.get ha
  have hp:ps[i]?=a_ y:=by
   rw[<-S.pre,List.getElem?_take_of_lt (aa hi (ae hl))];exact h1
  have l:ps.Nodup:=by rw[<-S.pre];exact S.nd.sublist (iP _ _)
  refine⟨u,L,?_⟩
  rcases S.par y (aU hp)with k|k
  ·exact .inl ⟨k,xT l hp J k⟩
  ·obtain⟨c,e⟩:=Bt k;refine .inr ⟨.inl k,c,e,?_⟩;have q:=x.cell y c e;rw[xV l hp J (by show scope.names.lookup y≠_;rw[k];decide)]at q;exact q
 ·exact d.hok.fresh (bb (x.above y c (gX h)))
 ·unfold start;rw[az,ai,iJ];exact eN (aa (ae hl) B)
def W3{K:aL}{base:cx}{kV:ah}
  (O:K.lookup f=a_ ⟨oc,od,.func (qg name qual params body scope dV kV doc pm an cdv ct),osl⟩)(z:ue K cdv qual=c_)(S:qV N ps scope)
  (len:∀vs H Q E,sp vs H Q E->vs.length=ps.length)
  (d:∀(A:bT)(outer:List Po)(s:ak)(H:Hp)(vs:List V)(Q:VK)(E:XK),mW k (A.deeper (envOfC qual scope s.heap.objs.size f cdv))->sp vs H Q E->
   ∃t,zz (Bo CX P w K mg base N qual scope f cdv A outer s H E) body t/\t { nx:=λ_ H'=>Q .non H',rt:=Q } (start N vs) H) :
  nK P w K mg base CX (k+1) f (qg name qual params body scope dV kV doc pm an cdv ct) ps sp:=by
 refine⟨len,λA outer s H args us vs Q E B j hb r l=>?_⟩;have hl:=len _ _ _ _ l;have M :=j.mod.kin.keeps λb o e=>(j.bs b o e).1;have D :=j.mod.nolimit.keeps λb o e=>(j.bs b o e).1
 have g:∀y∈ps.zip us,scope.names.lookup y.1=a_ .local\/(scope.names.lookup y.1=a_ .cell/\((cellsFrom (s.heap.objs.size+1) scope.names []).lookup y.1).isSome=c_):=λz0 R=>by
  obtain⟨n,v⟩:=z0
  rcases S.par n (iC R).1 with q|q
  ·exact .inl q
  ·exact .inr ⟨q,x8 _ _ _ (.inl q)⟩
 refine codeAny_call_function B.depth (M _ _ O) rfl S.co S.gen rfl (PySem.W.codeRec_of M z) (hb _ _ _ _ ?_);refine wpAny_newFunctionEnv_cells S.kind g λenv he s1 x=>?_;subst he;refine⟨D.keeps x.toInCall.keep,codeAny_func ?_⟩;obtain⟨t,ht,U⟩:=d A outer s H vs Q E (B.deeper _) l;have I:Inv (Bo CX P w K mg base N qual scope f cdv A outer s H E) [] (start N vs) H s1:=He S B.hd j hl r x;refine dm (ht [] s1 (start N vs) H _ I U) (λfl s' hs=>?_) λe s' hs=>hs
 have fin:∀{c:St}{H':Hp}{v:V}{u:ah},Inv (Bo CX P w K mg base N qual scope f cdv A outer s H E) [] c H' s'->RelV v u->Q v H'->CE outer P w H s Q u s':=
  λ{c H' v u}J L q=>⟨v,H',J.os,J.bare,J.base,J.hok,L,q⟩
 cases fl with
 |ret u=>
   obtain⟨v,c,H',J,L,q⟩:=hs;exact fin J L q
 |next=>
   obtain⟨c,H',J,q⟩:=hs;exact fin (v:=V.non) J rfl q
 |brk=>
   obtain⟨_,_,_,q⟩:=hs;exact iZ q
 |cont=>
   obtain⟨_,_,_,q⟩:=hs;exact iZ q
section
variable{t:TA}{id T:String}{r:List V->Hp->VK->Prop}
def XM(r:List V->Hp->VK->Prop)(t:TA):TE:=λσ H Q=>t σ H λvs H1=>r vs H1 Q
def Ap(hc:lF X (.builtin id) r)(g:Gl X x)(j:X.mg x=b_)(k:bootBuiltins x=a_ (.builtin id))(ha:PA X (e::es) t)(l:x≠"__name__")(c:(x == ("__debug__":bu))=d_)
  (he:aS (e::es) X.env=(d_,eval e X.env)::aS es X.env)(d:(backTo pos (aS es X.env)).any (·.1)=d_):PE X (.Call (.Name x p) (e::es) [] pos) (XM r t):=by
 intro h_ s σ H Q I h;refine fo (lu I g j k ?_ l c);exact px (iM (ha pos h_ s σ H _ I h) λus s1 ⟨vs,H1,q,v,y⟩=>hc h_ s1 σ H1 vs us Q q v y) he d
def GZ(hc:lF X (.type T) r)(g:Gl X x)(j:X.mg x=b_)(k:bootBuiltins x=a_ (.type T))(ha:PA X (e::es) t)(l:x≠"__name__")(c:(x == ("__debug__":bu))=d_)
  (he:aS (e::es) X.env=(d_,eval e X.env)::aS es X.env)(d:(backTo pos (aS es X.env)).any (·.1)=d_):PE X (.Call (.Name x p) (e::es) [] pos) (XM r t):=by
 intro h_ s σ H Q I h;refine fo (lu I g j k ?_ l c);exact c7 (iM (ha pos h_ s σ H _ I h) λus s1 ⟨vs,H1,q,v,y⟩=>hc h_ s1 σ H1 vs us Q q v y) he d
end
end L2
namespace HT
open PySem PyProof.Rows
section
open PySem.SeqAt
open PySem.AutoSeq1 (wpAny_loadPart')
open PySem.MeetsSeq PySem.MeetsSeq2 PySem.MeetsSeq3
end
section
variable{s:ak}
def OR{vs ws:List ah}(ht:zt s.heap t vs.toArray)(hb:zt s.heap b ws.toArray)(l:vs≠[])
  (h1:ws=[]->Q (.ref t) s)(h2:ws≠[]->Q (.ref s.heap.objs.size) { s with heap:=s.heap.push { cls:=.type "tuple",data:=.seq (vs++ws).toArray } })
  (hsz:vs.length+ws.length<=aB):aC (aD prog w) A (binaryOp .Add (.ref t) (.ref b)) Q E s:=by
 obtain⟨⟨cls,q,data,sl⟩,ho,hc,n,hd⟩:=id ht;obtain⟨⟨v,d,data2,yt⟩,c,j,y,k⟩:=id hb;subst hc hd j k;have e:vs.toArray++ws.toArray=(vs++ws).toArray:=by simp
 by_cases g:ws=[]
 ·exact vS ⟨_,ho,rfl⟩ ⟨_,c,rfl⟩ x6 FY m8 mJ (me _ _)
   (tuple_addW1 t b vs.toArray ws.toArray n y q d sl yt (by simpa using l) (by simp[g])) ⟨ho,c,h1 g⟩
 ·refine vS ⟨_,ho,rfl⟩ ⟨_,c,rfl⟩ x6 FY m8 mJ (me _ _)
   (tuple_addW2 t b vs.toArray ws.toArray n y q d sl yt (by simpa using l) (by simpa using g) (by exact hsz)) ⟨ho,c,?_⟩
  rw[e];exact h2 g
noncomputable def iS(n d:Nat):Option Int->Nat
 |none=>d
 |some v=>if v<0 then(v+(n:Int)).toNat else min v.toNat n
def Ae(n d:Nat):iS n d b_=d:=rfl
def XN(n d k:Nat):iS n d (a_ (k:Int))=min k n:=by
 show(if(k)<0 then((k:Int)+(n)).toNat else min (k:Int).toNat n)=min k n;rw[if_neg (by simp),tF]
def RH(n d:Nat)(hd:d<=n)(o:Option Int):iS n d o<=n:=by
 cases o with
 |none=>exact hd
 |some v=>
   show(if v<0 then(v+(n)).toNat else min v.toNat n)<=n;by_cases c:v<0
   ·rw[if_pos c];omega
   ·rw[if_neg c];exact kF _ _
def FD(v:Int)(n d:Nat):(if v<0 then max (v+(n:Int)) 0 else min v (n:Int))=((iS n d (a_ v):Nat):Int):=by
 show(if v<0 then max (v+(n)) 0 else min v (n))=(((if v<0 then(v+(n)).toNat else min v.toNat n):Nat):Int)
 by_cases c:v<0
 ·simp only[if_pos c];simp
 ·simp only[if_neg c];omega
def DD(lo hi:Option Int)(n:Nat):qX lo hi 1 (n:Int)=(((iS n 0 lo:Nat):Int),((iS n n hi:Nat):Int)):=by
 refine DQ ?_ ?_
 ·cases lo with
  |none=>rfl
  |some v=>exact FD v n 0
 ·cases hi with
  |none=>rfl
  |some v=>exact FD v n n
def CH(i j:Nat):iy (i:Int) (j:Int) 1=j - i:=by
 unfold iy;have h1:(1:Int) > 0:=by decide
 simp only[h1,if_true,Int.ediv_one];split<;>omega
def uD(p:rq v o)(h:Q o s):aC (aD prog w) A (Builtin.Slice.slicePartIndex v) Q E s:=by
 cases p with
 |none=>exact slicePart_none h
 |int i t=>exact slicePart_int h
def mO{sl:aI}{g j:ah}{lo hi:Option Int}{n:Nat}{Q:Int×Int×Nat->ak->Prop}(hs:s.heap.IsSliceOf sl g j .none)(pl:rq g lo)(k:rq j hi)
  (h:Q (((iS n 0 lo:Nat):Int),1,iS n n hi - iS n 0 lo) s):aC (aD prog w) A (Builtin.Slice.sliceApplied (.ref sl) (pure (n:Int))) Q E s:=by
 obtain⟨os,c,l,d⟩:=id hs;refine wb9 (wb9 (cV c d (x:=g) rfl (wb9 (cV c d (x:=j) rfl (wb9 (cV c d rfl (wu9 ?_)))))));refine wb9 (slicePart_none ?_);refine wb9 (uD pl (wb9 (uD k (wb9 (wu9 ?_)))));show aC _ _ (match qX lo hi 1 (n)with|(lo,hi)=>pure (lo,(1:Int),iy lo hi 1)) _ _ s;rw[DD lo hi n];show aC _ _ (pure (((iS n 0 lo):Int),(1),iy ((iS n 0 lo):Int) ((iS n n hi):Int) 1)) _ _ s;rw[CH];exact wu9 h
def Js(xs:Array ah)(i k:Nat):((aT k).filterMap λ(m:Nat)=>xs[((i:Int)+(m:Int) * 1).toNat]?).toArray=((xs.toList.drop i).take k).toArray:=by
 have e:(λ(m:Nat)=>xs[((i:Int)+(m) * 1).toNat]?)=λm=>xs[i+m]? :=by
  funext m;have:((i:Int)+(m) * 1).toNat=i+m:=by omega
  rw[this]
 rw[e];have:=pick_run xs i k;rw[HH]at this;have e2:((λx=>xs[x]?) ∘ λx=>i+x)=λm=>xs[i+m]? :=rfl;rw[e2]at this;rw[this]
def qI{sl:aI}{lo:Option Int}(ht:zt s.heap t items)(hs:s.heap.IsSliceOf sl vl vu .none)(pl:rq vl lo)(l:rq vu hi)
  (v:¬(iS items.size 0 lo=0/\iS items.size items.size hi=items.size))
  (h:Q (.ref s.heap.objs.size) { s with heap:=s.heap.push { cls:=.type "tuple",data:=.seq ((items.toList.drop (iS items.size 0 lo)).take (iS items.size items.size hi - iS items.size 0 lo)).toArray } })
  (hsz:items.size<=aB):aC (aD prog w) A (getItem (.ref t) (.ref sl)) Q E s:=by
 have c:sizeOk (.seq ((items.toList.drop (iS items.size 0 lo)).take (iS items.size items.size hi - iS items.size 0 lo)).toArray):=by
  show((items.toList.drop (iS items.size 0 lo)).take (iS items.size items.size hi - iS items.size 0 lo)).toArray.size<=aB;rw[aO,eA,eX,ba];omega
 have y:iS items.size items.size hi<=items.size:=RH _ _ (au _) hi;obtain⟨os,d,g,z⟩:=id hs;have j:s.TypeIs (.ref sl) "slice":=⟨os,d,g⟩
 unfold getItem
 try with_reducible refine bZ ?_
 first|refine wb9 (wu9 ?_)|skip
 refine wb9 (wpAny_sequenceKey ht.typeIs (by decide) ?_)
 refine wb9 (cF ht.typeIs dc
  (bK dc ht.typeIs entry_tuple_getitem ?_ (args_tuple_getitem _ _)))
 show aC _ _ (kn (.ref t) >>= _) _ _ s;refine wb9 (tupleItemsOf_ ht ?_);refine wb9 (iN j ?_);refine wb9 (mO hs pl l ?_)
 have k:¬((((iS items.size 0 lo):Int) == 0 && (1:Int) == 1 && (iS items.size items.size hi - iS items.size 0 lo) == items.size)=c_):=by
  intro q;rw[aj,aj]at q;have D :=eq_of_beq q.1.1;have B :=eq_of_beq q.2;exact v ⟨by omega,bA y (aa (ae B.symm) (yk _ _))⟩
 show aC _ _ (if(((iS items.size 0 lo):Int) == 0 && (1) == 1 && (iS items.size items.size hi - iS items.size 0 lo) == items.size)=c_ then _ else _) _ _ s;rw[if_neg k,Js]
 first
  |exact wb9 (cy (wu9 ⟨_,rfl,wu9 h⟩) c)
  |exact wb9 (cy (wb9 (wu9 (wu9 ⟨_,rfl,wu9 h⟩))) c)
  |exact wb9 (wb9 (cy (wu9 (wu9 ⟨_,rfl,wu9 h⟩)) c))
  |exact wb9 (wb9 (cy (wu9 ⟨_,rfl,wu9 h⟩) c))
end
end HT
namespace L2
open PySem PySem.Spec PyProof.Rows
abbrev TO:=St->Hp->(Option Int->Hp->Prop)->Prop
def PO(X:Cx)(e:Option be)(t:TO):Prop:=
 ∀(h_:List (aI×kM))(s:ak)(σ:St)(H:Hp)(Q:Option Int->Hp->Prop),Inv X h_ σ H s->t σ H Q->
  aC (aD X.prog X.w) X.A (evalPart e X.env) (λu s'=>∃o H',Inv X h_ σ H' s'/\rq u o/\Q o H') X.xe s
def MC:TO:=λ_ H Q=>Q b_ H
def VB(t:TE):TO:=λσ H Q=>t σ H λx H1=>∃i,x=.int i/\Q (a_ i) H1
section
variable{X:Cx}{te:TE}{lo hi:Option be}{tl th:TO}
def Nz:PO X b_ MC:=by
 intro h_ s σ H Q I h;exact wu9 ⟨b_,H,I,.none,h⟩
def Ny(h:PE X e te):PO X (a_ e) (VB te):=by
 intro h_ s σ H Q I c;refine iM (h h_ s σ H _ I c) λu s1 ⟨x,H1,d,g,j⟩=>?_;obtain⟨i,rfl,q⟩:=j;obtain⟨t,rfl⟩:=g;exact⟨a_ i,H1,d,.int i t,q⟩
def X0(X:Cx)(r:V->Option Int->Option Int->Hp->VK->Prop):Prop:=
 ∀(h_:List (aI×kM))(s:ak)(σ:St)(H:Hp)(x:V)(v c d:ah)(lo hi:Option Int)(sl:aI)(Q:VK),Inv X h_ σ H s->RelV x v->s.heap.IsSliceOf sl c d .none->rq c lo->rq d hi->r x lo hi H Q->
  ∃T id,typeLookup (.type T) "__getitem__"=pure (a_ (.builtin id))/\s.TypeIs v T/\aC (aD X.prog X.w) X.A (getItem v (.ref sl)) (EP X h_ σ Q) X.xe s
def tSl(r:V->Option Int->Option Int->Hp->VK->Prop)(te:TE)(tl th:TO):TE:=λσ H Q=>te σ H λx H1=>tl σ H1 λl H2=>th σ H2 λu c=>r x l u c Q
def Jz(j:X0 X r)(he:PE X e te)(hl:PO X lo tl)(k:PO X hi th):PE X (.Subscript e (.Slice lo hi b_ p2) pos) (tSl r te tl th):=by
 intro h_ s σ H Q I h;refine Subscript_ (iM (he h_ s σ H _ I h) λv s1 ⟨x,H1,y,z,B⟩=>?_);refine wpAny_Slice (iM (hl h_ s1 σ H1 _ y B) λc s2 ⟨l,H2,D,pl,J⟩=>iM (k h_ s2 σ H2 _ D J) λd s3 ⟨u,g,L,M,O⟩=>?_);refine wu9 ?_;have R:Inv X h_ σ g { s3 with heap:=s3.heap.push { cls:=.type "slice",data:=.fields #[c,d,.none] } }:=L.kept λb Y q=>hp9 _ q;obtain⟨T,id,U,ht,W⟩:=j h_ { s3 with heap:=s3.heap.push { cls:=.type "slice",data:=.fields #[c,d,.none] } } σ g x v c d l u s3.heap.objs.size Q R z (Heap.IsSliceOf.new ..) pl M O;exact Mh ht U W (by with_unfolding_all rfl)
def Ds(xs:List V)(lo hi:Option Int):List V:=(xs.drop (HT.iS xs.length 0 lo)).take (HT.iS xs.length xs.length hi - HT.iS xs.length 0 lo)
def tf(xs:List V)(lo hi:Option Int):(Ds xs lo hi).length<=xs.length:=by
 unfold Ds;rw[eA,eX];exact aa (kF _ _) (yk _ _)
def Yt(K:aL):V->Option Int->Option Int->Hp->VK->Prop:=λx lo hi H Q=>∃a xs,x=.ref a/\sx K H a xs/\
 ¬(HT.iS xs.length 0 lo=0/\HT.iS xs.length xs.length hi=xs.length)/\∀p,H p=b_->Q (.ref p) (upd H p (.tup (Ds xs lo hi)))
def Ri:X0 X (Yt X.K):=by
 intro h_ s σ H x v k l lo hi sl Q I c hs pl d h;obtain⟨a,xs,rfl,g,j,q⟩:=h;cases c;obtain⟨its,r,ht,hz⟩:=I.tuple g;have hlen:its.toArray.size=xs.length:=by exact r.length.symm
 refine⟨"tuple",_,dc.lookup,ht.typeIs,?_⟩;refine HT.qI ht hs pl d (by rw[hlen];exact j) ?_ (by rw[hlen];exact hz);rw[hlen];refine⟨.ref s.heap.objs.size,_,I.laid (λb y q=>hp9 _ q) (au _) ?_,rfl,q _ (I.hok.fresh (au _))⟩;exact⟨aa (tf xs lo hi) hz,_,(r.drop (HT.iS xs.length 0 lo)).take (HT.iS xs.length xs.length hi - HT.iS xs.length 0 lo),Ia _ _⟩
def Wd(K:aL):R2:=λx y H Q=>∃a b xs ys,x=.ref a/\y=.ref b/\sx K H a xs/\sx K H b ys/\xs≠[]/\xs.length+ys.length<=aB/\
 (ys=[]->Q (.ref a) H)/\(ys≠[]->∀p,H p=b_->Q (.ref p) (upd H p (.tup (xs++ys))))
def cM.yB(r:cM xs us):us=[]↔xs=[]:=by
 cases r with
 |nil=>simp
 |cons _ _=>simp
def NQ:jJ X (binaryOp .Add) (Wd X.K):=by
 intro h_ s σ H x y v u Q I g j h;obtain⟨a,b,xs,ys,rfl,rfl,ha,hb,k,hz,l,B⟩:=h;cases g;cases j;obtain⟨its,d,D,_⟩:=I.tuple ha;obtain⟨L,c,J,_⟩:=I.tuple hb;refine HT.OR D J (λz=>k (d.yB.mp z)) (λz=>⟨.ref a,H,I,rfl,l (c.yB.mp z)⟩) (λz=>?_) (by rw[<-d.length,<-c.length];exact hz);refine⟨.ref s.heap.objs.size,_,I.laid (λb M q=>hp9 _ q) (au _) ?_,rfl,B (λw=>z (c.yB.mpr w)) _ (I.hok.fresh (au _))⟩;exact⟨by rw[az];exact hz,_,d.append c,Ia _ _⟩
end
noncomputable def C5(n:Nat)(i:Int):Option Nat:=if 0<=i then(if i<n then a_ i.toNat else b_)else if -(n:Int)<=i then a_ (i+n).toNat else b_
def rd{α:Type}(xs:List α)(i:Int):Option α:=(C5 xs.length i).bind λj=>xs[j]?
def yM(h:C5 n i=a_ j):seqIndex? i n=a_ j/\j<n/\-(n:Int)<=i/\i<n:=by
 unfold C5 at h;by_cases h0:0<=i
 ·rw[if_pos h0]at h;by_cases h1:i<n
  ·rw[if_pos h1]at h;have e :=aW h;exact⟨by rw[Mb h0 h1,e],by omega,by omega,h1⟩
  ·rw[if_neg h1]at h;cases h
 ·rw[if_neg h0]at h;by_cases h1:-(n)<=i
  ·rw[if_pos h1]at h;have e :=aW h;exact⟨by rw[HV (rJ.mp h0) h1,e],by omega,h1,fK (rJ.mp h0) (j5 _)⟩
  ·rw[if_neg h1]at h;cases h
def zj (h:rd xs i=a_ v):∃j,seqIndex? i xs.length=a_ j/\xs[j]?=a_ v/\j<xs.length/\-(xs.length:Int)<=i/\i<xs.length:=by
 unfold rd at h
 cases e:C5 xs.length i with
 |none=>rw[e]at h;cases h
 |some j=>
   rw[e]at h;obtain⟨h1,h2,h3,c⟩:=yM e;exact⟨j,h1,h,h2,h3,c⟩
def km{α:Type}{xs:List α}{j:Nat}{v:α}(h:xs[j]?=a_ v):rd xs (j:Int)=a_ v:=by
 have c :=(aP.mp h).1
 have e:C5 xs.length (j)=a_ j:=by
  unfold C5;rw[if_pos (oA.mpr c)];simp
 unfold rd;rw[e];exact h
def zm(b:be):Prop:=∀o i,subscripted b d_ o i=operate [o,i] (getItem o i)
def UT(X:Cx)(r:R2):Prop:=
 ∀(value slice:be)(h_:List (aI×kM))(s:ak)(σ:St)(H:Hp)(x y:V)(v u:ah)(Q:VK),Inv X h_ σ H s->RelV x v->RelV y u->r x y H Q->
  subscripted slice d_ v u=operate [v,u] (getItem v u)->aC (aD X.prog X.w) X.A (subscriptTail value slice v u) (EP X h_ σ Q) X.xe s
def Qz(X:Cx)(id:String)(r:V->List V->Hp->VK->Prop):Prop:=
 ∀(h_:List (aI×kM))(s:ak)(σ:St)(H:Hp)(x:V)(xs:List V)(v:ah)(us:List ah)(Q:VK),Inv X h_ σ H s->RelV x v->cM xs us->r x xs H Q->
  aC (aD X.prog X.w) X.A (call (.builtin id) (v::us)) (EP X h_ σ Q) X.xe s
section
variable{a:be}{tb:TE}
def JA(c:UT X r)(ha:PE X a ta)(hb:PE X b tb)(hs:zm b):PE X (.Subscript a b pos) (QM r ta tb):=by
 intro h_ s σ H Q I h;exact Subscript_ (UH ha hb I h λv u s2 x y H2 d g j q=>c a b h_ s2 σ H2 x y v u Q d g j q (hs _ _))
def Wa(K:aL):R2:=λx y H Q=>∃p xs i v,x=.ref p/\y=.int i/\mV K H p xs/\rd xs i=a_ v/\Q v H
def Yv(K:aL):R2:=λx y H Q=>∃p xs i v,x=.ref p/\y=.int i/\sx K H p xs/\rd xs i=a_ v/\Q v H
def Yw:R2:=λx y H Q=>∃z i c,x=.str z/\y=.int i/\z.length<=aB/\rd z.cps.toList i=a_ c/\Q (.str ⟨#[c]⟩) H
def EY:UT X (Wa X.K):=by
 intro value slice h_ s σ H x y v u Q I k l h hs;obtain⟨p,xs,i,z,rfl,rfl,B,he,q⟩:=h;cases k;obtain⟨t,rfl⟩:=l;obtain⟨its,r,pl,hz⟩:=I.list B;obtain⟨j,h1,h2,h3,D,h5⟩:=zj he;obtain⟨w,g,c⟩:=r.get h2;have hl:=r.length;have J:=rZ;have fin:EP X h_ σ Q w s:=⟨z,H,I,c,q⟩
 by_cases h0:0<=i
 ·have d:i.toNat=j:=by
   rw[Mb h0 h5]at h1;exact aW h1
  exact item_listR pl.isList h0 (fK h5 (fK (dB.mpr hz) (by decide))) (by rw[d];simpa using g) fin hs
 ·have d:(i+(its.toArray.size)).toNat=j:=by
   rw[HV (rJ.mp h0) D]at h1;rw[aO,<-hl];exact aW h1
  exact HZ pl.isList.typeIs slot_list_getitem.lookup
   (wpAny_getItem_list_neg pl.isList (by omega) (by rw[aO]<;>omega) (by omega) (by rw[d];simpa using g) ⟨rfl,fin⟩) hs
def TJ:UT X (Yv X.K):=by
 intro value slice h_ s σ H x y v u Q I d g h hs;obtain⟨p,xs,i,z,rfl,rfl,k,he,q⟩:=h;cases d;obtain⟨t,rfl⟩:=g;obtain⟨its,r,pl,hz⟩:=I.tuple k;obtain⟨j,h1,h2,h3,B,h5⟩:=zj he;obtain⟨w,l,c⟩:=r.get h2;have hl:=r.length;have D:=rZ;have fin:EP X h_ σ Q w s:=⟨z,H,I,c,q⟩
 exact HZ pl.typeIs slot_tuple_getitem.lookup
  (qY pl (by omega) (fK h5 (fK (dB.mpr hz) (by decide))) (by rw[aO,<-hl];exact h1) (by simpa using l) ⟨rfl,fin⟩) hs
def TK:UT X Yw:=by
 intro value slice h_ s σ H x y v u Q I d g h hs;obtain⟨z,i,c,rfl,rfl,hz,he,q⟩:=h;obtain⟨t,rfl⟩:=d;obtain⟨t',rfl⟩:=g;obtain⟨j,h1,h2,h3,k,h5⟩:=zj he;have hl:z.cps.toList.length=z.length:=by simp[Str.length]
 rw[hl]at h1 k h5;have l:=rZ
 exact Mh (typeIs_str s z t) slot_str_getitem.lookup (getItem_str (by
  have e1:decide (i < -(2 ^ 63))=d_:=decide_eq_false (by omega);have e2:decide (i>=2 ^ 63)=d_:=decide_eq_false (by omega)
  rw[e1,e2,Bool.or_false]) (by rw[h1];simpa using h2) ⟨.str ⟨#[c]⟩,H,I.tok _,⟨_,rfl⟩,q⟩) hs
def CW(its:List ah)(n j:Nat)(u:ah):eY (·.setIfInBounds j u) { cls:=.type "list",data:=.seq its.toArray n }={ cls:=.type "list",data:=.seq (its.set j u).toArray n }:=by
 simp[eY]
def Inv.lst(I:Inv X h_ σ H s)(h:H p=a_ (.lst xs)) :
  ∃(its:List ah) (n:Nat),cM xs its/\s.heap.get? p=a_ { cls:=.type "list",data:=.seq its.toArray n }/\xs.length<=aB:=by
 obtain⟨z,its,n,r,e⟩:=I.hok p _ h;exact⟨its,n,r,e,z⟩
def Inv.Tn{its its':List ah}(I:Inv X h_ σ H s)(h:H p=a_ (.lst xs))
  (ho:s.heap.get? p=a_ { cls:=.type "list",data:=.seq its.toArray n })(hf:f { cls:=.type "list",data:=.seq its.toArray n }={ cls:=.type "list",data:=.seq its'.toArray n' })(r:cM ys its')(hz:ys.length<=aB)(t:Nat) :
  Inv X h_ σ (upd H p (.lst ys)) { s with heap:=s.heap.update p f,toks:=t }:=by
 have e:(s.heap.update p f).get? p=a_ { cls:=.type "list",data:=.seq its'.toArray n' }:=by
  rw[eU f ho (by rw[hf]<;>rfl),hf]
 refine I.write (by rw[h];trivial) (.inl rfl) (λb u hb q=>(dA _ _ (eK hb)).trans q) ⟨_,e⟩ ?_;exact⟨hz,its',n',r,e⟩
def Em:V->V->V->Hp->(Hp->Prop)->Prop:=λo i v H Q=>∃p xs k j,o=.ref p/\i=.int k/\H p=a_ (.lst xs)/\C5 xs.length k=a_ j/\Q (upd H p (.lst (xs.set j v)))
def set_list:UP X Em:=by
 intro h_ s σ H o i v B D u Q I g l y h;obtain⟨p,xs,k,j,rfl,rfl,hp,z,q⟩:=h;cases g;obtain⟨t,rfl⟩:=l;obtain⟨its,n,r,ho,hz⟩:=I.lst hp;obtain⟨h1,h2,h3,c⟩:=yM z;have hl:=r.length;have J:=rZ
 have I' :=
  I.Tn hp ho (CW its n j u) (r.set y j) (by rw[List.length_set];exact hz) s.toks
 by_cases h0:0<=k
 ·have d:k.toNat=j:=by
   rw[Mb h0 c]at h1;exact aW h1
  exact PySem.W.ki_setAt ho h0 (fK c (fK (dB.mpr hz) (by decide))) (by rw[aO,<-hl];exact c) (by rw[d];exact⟨_,I',q⟩)
 ·have d:(k+(its.toArray.size)).toNat=j:=by
   rw[HV (rJ.mp h0) h3]at h1;rw[aO,<-hl];exact aW h1
  exact PySem.W.ki_setBack ho (by omega) (by rw[aO,<-hl];exact h3) (by omega) (by rw[d];exact⟨_,I',q⟩)
def yr(lo hi:Option Int)(n:Nat):(sliceBounds lo hi b_ n).1=((HT.iS n 0 lo:Nat):Int)/\(sliceBounds lo hi b_ n).2.1=((HT.iS n n hi:Nat):Int)/\(sliceBounds lo hi b_ n).2.2=1:=by
 refine⟨?_,?_,rfl⟩
 ·cases lo with
  |none=>simp[sliceBounds,HT.iS]
  |some i=>
    simp only[sliceBounds,HT.iS,HC,show(1:Int) > 0 by decide,if_true];by_cases h:i<0
    ·simp only[h,if_true]<;>omega
    ·simp only[h,if_false]<;>omega
 ·cases hi with
  |none=>simp[sliceBounds,HT.iS]
  |some i=>
    simp only[sliceBounds,HT.iS,HC,show(1:Int) > 0 by decide,if_true];by_cases h:i<0
    ·simp only[h,if_true]<;>omega
    ·simp only[h,if_false]<;>omega
def v7(its:List ah)(lo hi:Option Int):slicePick its.toArray lo hi b_=((its.drop (HT.iS its.length 0 lo)).take (HT.iS its.length its.length hi - HT.iS its.length 0 lo)).toArray:=by
 obtain⟨h1,h2,h3⟩:=yr lo hi its.toArray.size;unfold slicePick;rw[h1,h2,h3];simp only[sliceRange_one,pick_run,aO]<;>rfl
def Yu(K:aL):V->Option Int->Option Int->Hp->VK->Prop:=λx lo hi H Q=>∃a xs,x=.ref a/\mV K H a xs/\∀p,H p=b_->Q (.ref p) (upd H p (.lst (Ds xs lo hi)))
def MX:X0 X (Yu X.K):=by
 intro h_ s σ H x v j k lo hi sl Q I c hs pl d h;obtain⟨a,xs,rfl,g,q⟩:=h;cases c;obtain⟨its,r,ht,hz⟩:=I.list g;have hlen:=r.length;refine⟨"list",_,slot_list_getitem.lookup,ht.isList.typeIs,?_⟩;refine wpAny_getItem_list_slice ht.isList hs pl d .none (by simp) ?_ (by rw[aO]<;>exact aa (ae hlen.symm) hz);rw[v7,<-hlen];refine⟨.ref s.heap.objs.size,_,I.laid (λb l q=>hp9 _ q) (au _) ?_,rfl,q _ (I.hok.fresh (au _))⟩;exact⟨aa (tf xs lo hi) hz,_,0,(r.drop (HT.iS xs.length 0 lo)).take (HT.iS xs.length xs.length hi - HT.iS xs.length 0 lo),aJ _ rfl⟩
def yA:jJ X (compareOp .NotIn) (λx y H Q=>∃i j,x=.str i/\y=.str j/\Q (.bl (!(!(gh j i 0 j.length 1).isEmpty))) H):=by
 intro h_ s σ H x y v u Q I c d h;obtain⟨i,j,rfl,rfl,q⟩:=h;obtain⟨t,rfl⟩:=c;obtain⟨t',rfl⟩:=d;exact notIn_str ⟨.bl _,H,I,rfl,q⟩
def qQ:lF X (.builtin "len") (λxs H Q=>∃p ys,xs=[.ref p]/\(mV X.K H p ys\/sx X.K H p ys)/\Q (.int ys.length) H):=by
 intro h_ s σ H xs us Q I r h;obtain⟨p,ys,rfl,c,q⟩:=h;obtain⟨u,rfl,g⟩:=vals1 r;cases g;have j:=rZ
 rcases c with c|c
 ·obtain⟨its,d,pl,hz⟩:=I.list c;have hlen:=d.length;exact Calls.call_len_list pl.isList (by simp only[aO]<;>omega) ⟨.int ys.length,H,I.tok _,⟨s.toks+1,by rw[aO,hlen]⟩,q⟩
 ·obtain⟨its,d,pl,hz⟩:=I.tuple c;have hlen:=d.length;exact tO pl (by simp only[aO]<;>omega) ⟨.int ys.length,H,I.tok _,⟨s.toks+1,by rw[aO,hlen]⟩,q⟩
def zh:lF X (.builtin "len") (λxs H Q=>∃z,xs=[.str z]/\z.length<=aB/\Q (.int z.length) H):=by
 intro h_ s σ H xs us Q I r h;obtain⟨z,rfl,hz,q⟩:=h;obtain⟨u,rfl,t,rfl⟩:=vals1 r;have c:=rZ;exact len_str (by omega) ⟨.int z.length,H,I.tok _,⟨_,rfl⟩,q⟩
def qP:lF X (.type "list") (λxs H Q=>∃p ys,xs=[.ref p]/\(mV X.K H p ys\/sx X.K H p ys)/\∀l,H l=b_->Q (.ref l) (upd H l (.lst ys))):=by
 intro h_ s σ H xs us Q I r h;obtain⟨p,ys,rfl,g,q⟩:=h;obtain⟨u,rfl,j⟩:=vals1 r;cases j
 have fin:∀(its:List ah),cM ys its->ys.length<=aB->∀(h':cx) (c:Nat),(∀b o',s.heap.get? b=a_ o'->h'.get? b=a_ o')->
   h'.get? s.heap.objs.size=a_ { cls:=.type "list",dict:=b_,data:=.seq its.toArray c,slots:=#[] }->EP X h_ σ Q (.ref s.heap.objs.size) { s with heap:=h' }:=λits d hz h' c kp e=>
  ⟨.ref s.heap.objs.size,_,I.laid kp (au _) (show jZ X.prog X.w _ h' _ (.lst ys)from⟨hz,its,c,d,e⟩),rfl,q _ (I.hok.fresh (au _))⟩
 rcases g with g|g
 ·obtain⟨its,d,pl,hz⟩:=I.list g;have hlen:=d.length;obtain⟨o,ho,hc,n,hd⟩:=pl.isList;exact call_list_seq p (.inl rfl) ho hc hd (λh' c kp e=>fin its d hz h' c kp e) (by simp only[aO]<;>omega)
 ·obtain⟨its,d,pl,hz⟩:=I.tuple g;have hlen:=d.length;obtain⟨o,ho,hc,n,hd⟩:=pl;exact call_list_seq p (.inr rfl) ho hc hd (λh' c kp e=>fin its d hz h' c kp e) (by simp only[aO]<;>omega)
def pH:lF X (.type "tuple") (λxs H Q=>∃p ys,xs=[.ref p]/\((mV X.K H p ys/\∀l,H l=b_->Q (.ref l) (upd H l (.tup ys)))\/(sx X.K H p ys/\Q (.ref p) H))):=by
 intro h_ s σ H xs us Q I r h;obtain⟨p,ys,rfl,h⟩:=h;obtain⟨u,rfl,j⟩:=vals1 r;cases j
 rcases h with⟨c,q⟩|⟨c,q⟩
 ·obtain⟨its,d,pl,hz⟩:=I.list c;have hlen:=d.length;refine call_tuple_list pl.isList (λh' kp=>?_) (by simp only[aO]<;>omega);have g:Inv X h_ σ H { s with heap:=h' }:=I.kept kp
  have k:Inv X h_ σ (upd H h'.objs.size (.tup ys)) { s with heap:=h'.push { cls:=.type "tuple",data:=.seq its.toArray } }:=
   g.laid (λb o e=>hp9 _ e) (au _) (⟨hz,its,d,Ia _ _⟩)
  exact⟨.ref h'.objs.size,_,k,rfl,q _ (g.hok.fresh (au _))⟩
 ·obtain⟨its,d,pl,hz⟩:=I.tuple c;exact call_tuple_same pl ⟨.ref p,H,I,rfl,q⟩
def Yb(K:aL)(T:String)(x:V)(H:Hp):Prop:=match x with
 |.str _=>T="str"
 |.int _=>T="int"
 | .ref p=>(T="list"/\∃xs,mV K H p xs)\/(T="tuple"/\∃o,K.lookup p=a_ o/\o.cls=.type "tuple"/\o.dict=b_)\/
   (T="dict"/\((∃k_,H p=a_ (.dK k_))\/∃k_,H p=a_ (.dT k_)))\/(T="set"/\∃S n,H p=a_ (.set S n))
 |_=>False
def Io{T:String}(I:Inv X h_ σ H s)(r:RelV x v)(ty:Yb X.K T x H) :
  s.TypeIs v T/\∀a,v=.ref a->∃g,s.heap.get? a=a_ g/\g.dict=b_:=by
 cases x with
 |str z=>
   obtain⟨t,rfl⟩:=r;cases(ty);exact⟨typeIs_str s z t,λ_ e=>nomatch e⟩
 |int i=>
   obtain⟨t,rfl⟩:=r;cases(ty);exact⟨typeIs_int s i t,λ_ e=>nomatch e⟩
 |ref p=>
   cases r
   rcases ty with⟨rfl,xs,j⟩|⟨rfl,o,d,hc,hd⟩|⟨rfl,d⟩|⟨rfl,S,n,d⟩
   ·obtain⟨its,_,pl,_⟩:=I.list j;refine⟨pl.isList.typeIs,λa e=>?_⟩;cases e;obtain⟨o,n,e,c,hd,_⟩:=pl;exact⟨o,e,hd⟩
   ·refine⟨⟨o,I.C4 p o d,hc⟩,λa e=>?_⟩;cases e;exact⟨o,I.C4 _ o d,hd⟩
   ·have z:∃o,s.heap.get? p=a_ o/\o.ExactDict:=by
     rcases d with⟨k_,d⟩|⟨k_,d⟩
     ·obtain⟨_,_,_,_,o,_,_,e,ex,_⟩:=I.hok p _ d;exact⟨o,e,ex⟩
     ·obtain⟨_,_,_,_,o,_,_,e,ex,_⟩:=I.hok p _ d;exact⟨o,e,ex⟩
    obtain⟨o,e,ex⟩:=z;refine⟨⟨o,e,ex.1⟩,λa e2=>?_⟩;cases e2;exact⟨o,e,ex.2.1⟩
   ·obtain⟨o,_,_,_,e,ex,_⟩:=I.hok p _ d;refine⟨⟨o,e,ex.1⟩,λa e2=>?_⟩;cases e2;exact⟨o,e,ex.2.1⟩
 |_=>exact iZ ty
def VF(K:aL)(T:String)(r:V->List V->Hp->VK->Prop)(c:TE):TE:=λσ H Q=>c σ H λx H1=>Yb K T x H1/\r x [] H1 Q
def VG(K:aL)(T:String)(r:V->List V->Hp->VK->Prop)(c:TE)(t:TA):TE:=λσ H Q=>c σ H λx H1=>Yb K T x H1/\t σ H1 λxs H2=>r x xs H2 Q
variable{apos cpos:zp}{T id:String}
def Sa(l:PlainAttrs T)(slot:Me T name id)(g:typeOf (.builtin id)=pure (.type "method_descriptor"))(q:Qz X id r)(ho:PE X o to)
  (c:attributeBase o name X.env (eval o X.env)=eval o X.env)(d:(apos.endLine == cpos.line)=c_):PE X (.Call (.Attribute o name apos) [] [] cpos) (VF X.K T r to):=by
 intro h_ s σ H Q I h;refine wpAny_Call_method0_late c d (iM (ho h_ s σ H _ I h) λv s1 ⟨x,H1,j,k,ty,y⟩=>?_);obtain⟨h1,h2⟩:=Io j k ty;exact⟨T,id,l,slot,g,h1,h2,zG rfl (PySem.evalArgs_none (q h_ s1 σ H1 x [] v [] Q j k .nil y))⟩
def Aq(z:PlainAttrs T)(slot:Me T name id)(k:typeOf (.builtin id)=pure (.type "method_descriptor"))(B:Qz X id r)(ho:PE X o to)(ha:PA X (e::es) t)
  (d:attributeBase o name X.env (eval o X.env)=eval o X.env)
  (j:((backTo cpos (aS (e::es) X.env)).all (λx=>!x.1) && (backToKw cpos (keywordEach [] X.env)).all (λx=>x.1.isSome)
   && decide ((e::es).length+([]:List Keyword).length+(if([]:List Keyword).isEmpty then 0 else 1)<30))=c_:=by rfl)
  (g:(apos.endLine == cpos.line)=c_:=by rfl)(hs:aS (e::es) X.env=(d_,eval e X.env)::aS es X.env:=by rfl)(c:(backTo cpos (aS es X.env)).any (·.1)=d_:=by rfl) :
  PE X (.Call (.Attribute o name apos) (e::es) [] cpos) (VG X.K T r to t):=by
 intro h_ s σ H Q I h;refine wpAny_Call_method_late d j g rfl (iM (ho h_ s σ H _ I h) λv s1 ⟨x,H1,l,q,ty,D⟩=>?_);obtain⟨h1,h2⟩:=Io l q ty;refine⟨T,id,z,slot,k,h1,h2,?_⟩;have y:=ha cpos h_ s1 σ H1 _ l D;rw[hs]at y ⊢;refine zG (by show(d_ || (backTo cpos (aS es X.env)).any (·.1))=d_;rw[c]<;>rfl) (Calls.evalArgs_plain ?_);exact iM y λus s2 ⟨vs,H2,J,L,M⟩=>B h_ s2 σ H2 x vs v us Q J q L M
end
def Zr(X:Cx)(id:String)(r:V->List V->Hp->VK->Prop):Prop:=
 ∀(h_:List (aI×kM))(s:ak)(σ:St)(H:Hp)(x:V)(xs:List V)(v:ah)(us:List ah)(Q:VK),Inv X h_ σ H s->RelV x v->cM xs us->r x xs H Q->
  aC (aD X.prog X.w) X.A (call (.builtin id) (v::us)) (EP X h_ σ Q) X.xe s
def cM.one:∀{x:V}{us:List ah},cM [x] us->∃u,us=[u]/\RelV x u
 |_,_,.cons r .nil=>⟨_,rfl,r⟩
section
def Inv.To{its its':List ah}(I:Inv X h_ σ H s)(c:H l=a_ (.lst xs))
  (e:s.heap.get? l=a_ { cls:=.type "list",data:=.seq its.toArray n })(hf:f its.toArray=its'.toArray)(d:cM ys its')(hz:ys.length<=aB) :
  Inv X h_ σ (upd H l (.lst ys)) { s with heap:=s.heap.update l (eY f),toks:=t' }:=by
 have q:=PySem.IsL.update e f;rw[hf]at q;refine I.write (by rw[c];exact trivial) (.inl rfl) (λj u hb g=>(dA s.heap (eY f) (eK hb)).trans g) ⟨_,q⟩ ?_;exact⟨hz,its',_,d,q⟩
def Inv.WK(I:Inv X h_ σ H s)(c:cM ys its)(hz:ys.length<=aB) :
  Inv X h_ σ (upd H s.heap.objs.size (.lst ys)) { s with heap:=s.heap.push { cls:=.type "list",data:=.seq its.toArray },toks:=t' }:=
 I.laid (λ_ _ q=>hp9 _ q) (au _) ⟨hz,its,0,c,aJ _ rfl⟩
def Inv.fresh(I:Inv X h_ σ H s):H s.heap.objs.size=b_:=I.hok.fresh (au _)
def Inv.G6(I:Inv X h_ σ H s)(c:H l=a_ (.lst xs)):xs.length<=aB/\∃(its:List ah) (n:Nat),cM xs its/\xs.length=its.length/\s.heap.get? l=a_ { cls:=.type "list",data:=.seq its.toArray n }:=by
 obtain⟨z,its,n,r,e⟩:=I.hok l _ c;exact⟨z,its,n,r,r.length,e⟩
def Aw(h:n<=aB):fR n=d_:=by
 exact decide_eq_false (λz=>(aV z h))
end
section
def En:V->List V->Hp->VK->Prop:=λx vs H Q=>∃l xs y,x=.ref l/\vs=[y]/\H l=a_ (.lst xs)/\xs.length<aB/\Q .non (upd H l (.lst (xs++[y])))
def xg:Zr X "list.append" En:=by
 intro h_ s σ H x vs v us Q I d g h;obtain⟨l,xs,y,rfl,rfl,c,hz,q⟩:=h;cases d;obtain⟨u,rfl,j⟩:=g.one;obtain⟨z,its,n,r,hl,e⟩:=I.G6 c;refine BZ l9 ⟨_,e,rfl⟩ F.entry_list_append (F.args_list_append_2 _ _) (PySem.list_append l its.toArray n u (by exact aa (ae hl.symm) z)) ⟨e,?_⟩;refine⟨.non,_,I.To c e (by simp) (r.append (.cons j .nil)) ?_,rfl,q⟩;rw[az];exact hz
def Np:V->List V->Hp->VK->Prop:=λx vs H Q=>∃l b xs c,x=.ref l/\vs=[.ref b]/\H l=a_ (.lst xs)/\H b=a_ (.lst c)/\xs.length+c.length<=aB/\Q .non (upd H l (.lst (xs++c)))
def U8:Zr X "list.extend" Np:=by
 intro h_ s σ H x vs v us Q I k y h;obtain⟨l,b,xs,L,rfl,rfl,j,hB,hz,q⟩:=h;cases k;obtain⟨u,rfl,B⟩:=y.one;cases B;obtain⟨z,its,n,r,hl,e⟩:=I.G6 j;obtain⟨M,d,D,J,g,e2⟩:=I.G6 hB;have hsz:its.toArray.size+d.toArray.size<=aB:=by exact aa (j4 (ae hl.symm) (ae g.symm)) hz
 have c:¬(!its.toArray.isEmpty && fR (its.toArray.size+d.toArray.size))=c_:=by
  rw[Aw hsz,lV];exact lU
 refine BZ ja ⟨_,e,rfl⟩ rz (qh _ _)
  (AutoSeq1.list_extend_list_list_0 l its.toArray n b d.toArray D c (by exact aa (ae hl.symm) z) (bW hsz)) ⟨e,e2,?_⟩
 refine⟨.non,_,I.To j e (by simp) (r.append J) ?_,rfl,q⟩;rw[az];omega
def Yy:R2:=λx y H Q=>∃l b xs c,x=.ref l/\y=.ref b/\H l=a_ (.lst xs)/\H b=a_ (.lst c)/\xs.length+c.length<=aB/\∀p,H p=b_->Q (.ref p) (upd H p (.lst (xs++c)))
def Sv:jJ X (binaryOp .Add) Yy:=by
 intro h_ s σ H x y v u Q I d g h;obtain⟨l,b,xs,J,rfl,rfl,j,hB,hz,q⟩:=h;cases d;cases g;obtain⟨z,its,n,r,hl,e⟩:=I.G6 j;obtain⟨L,c,M,k,B,e2⟩:=I.G6 hB;refine PySem.P.add_list e e2 ?_ (by rw[aO,aO];omega);have D:its.toArray++c.toArray=(its++c).toArray:=by simp
 rw[D];exact⟨.ref _,_,I.WK (r.append k) (by rw[az];omega),rfl,q _ I.fresh⟩
end
section
end
section
end
end L2
namespace Att
open PySem PySem.W PySem.Calls PyProof.Rows
def tJ:∀(ns:List Int)(vs:List ah),WellAll P h vs (ns.map WData.int)->BO vs ns:=by
 intro ns
 induction ns with
 |nil=>
   intro vs w;cases w;exact .nil
 |cons n ns c=>
   intro vs w
   cases w with
   |cons a b=>
     cases a;exact .cons _ _ (c _ b)
def GC{l:je}(v:l.most=a_ n)
  (c:l.row.toRowW.claim.pre args=c_)(k:WellAll P h vals args) :
  ∃a vs ns,vals=[cG a]/\args=[WData.list (ns.map WData.int)]/\h.get? a=a_ { cls:=.type "list",data:=.seq vs.toArray }/\BO vs ns/\ns.length<=n:=by
 have hsh :=(pre_splitW c).1;have hc :=(pre_splitW c).2;obtain⟨d,r,rfl,h1,h2⟩:=hasAllW_cons hsh;obtain rfl:=hasAllW_nil h2;obtain⟨xs,rfl,h3⟩:=hasW_list h1;obtain⟨ns,rfl⟩:=items_int h3
 have hlen:ns.length<=n:=by
  have j:(WTm.not (.lt (.lit (.int (n))) (.len (.arg 0)))).holds [] { args:=[.list (ns.map .int)] }=c_:=by
   have j:=(holds_andW hc).1;rw[v]at j;exact j
  have h5:=condW_of j (w_not (w_lt w_lit (w_len_list (w_arg rfl))));rw[ai]at h5;refine bF λq=>?_;have y :=oA.mpr q
  first
   |(rw[decide_eq_true y]at h5;exact absurd h5 (by decide))
   |(omega)
 cases k with
 |cons z B=>
   cases B
   cases z with
   |list ho g=>exact⟨_,_,ns,rfl,rfl,ho,tJ ns _ g,hlen⟩
def GV(l:je)(args:List WData):l.row.toRowW.claim.post args (.bool c_) args=c_:=
 postW_of
  (by first|rfl|decide|simp[WShape.has,WShape.arms,WShape.armsAll])
  (w_eq_bool (w_res rfl) w_lit) rfl
def BD{l:je}{d:DefRec}
  (L:l.most=a_ n)(v:d.params.defaults=[])
  (call:∀(w:c5)(s₀ s₁:ak)(mg mb:bu->Option ah)(c:aI)(o:kM)(pm k doc:ah)(a:aI)(vs:List ah)(ns:List Int),
   Ground q loose [] XP w s₀ mg mb s₁.heap->YP w s₁.heap->
   s₁.heap.get? c=a_ o->o.data=.func (docDef d.name d.params d.body d.scope pm k doc)->s₁.heap.CodeRec k d.name->mg d.name=a_ (.ref c)->
   s₁.heap.get? a=a_ { cls:=.type "list",data:=.seq vs.toArray }->BO vs ns->ns.length<=n->s₁.gens=#[]->
   codeAny (aD l.prog w) callerA (.call (.ref c) ⟨[.ref a],[]⟩) (λr s'=>r=.ok (.ret (.bool c_))/\OldK s₁.heap s'.heap/\s'.os=s₁.os/\oi s'.gens) s₁) :
  vT q loose XP YP l.row.toRowW d [] (λf vs=>FZ f vs):=by
 intro w s₀ s₁ mg mb G Y c o pm k doc M kV ho hd y D z O args vals as g J R B U;obtain rfl:M=.none:=Dflts.none D v;obtain rfl:kV=.none:=Dflts.noKw D;obtain⟨a,vs,ns,rfl,rfl,j,hints,hlen⟩:=GC L g B;refine enter_call (kC (call w s₀ s₁ mg mb c o pm k doc a vs ns G Y ho (fd_plain hd) y z j hints hlen O) λr s' W=>?_);obtain⟨rfl,h2,h3,Z⟩:=W;exact⟨.inl ⟨.bool c_,.bool c_,[],rfl,λ_=>rfl,.bool c_,GV l _,λ_=>⟨oy,λ_ hm=>(nomatch hm)⟩⟩,h2,h3,Z⟩
section
variable{K:aL}
end
end Att
namespace L2
open PySem PySem.Spec PyProof.Rows
theorem wI:∀{vs:List ah}{ns:List Int},BO vs ns->cM (ns.map V.int) vs
 |_,_,.nil=>.nil
 |_,_,.cons n t h=>.cons ⟨t,rfl⟩ (wI h)
def UQ(H:Hp):Prop:=∀b,H b=b_\/∃o xs,H b=a_ (.mG o (.lst xs))
def Ke{K:aL}{s₁:ak}{vs:List ah}
  (Z:K.In s₁.heap)(l:s₁.heap.Ns mainGlobals mg)(hb:s₁.heap.Ns builtinsNs mb)(M:∀x:bu,x≠"__name__"->mb x=bootBuiltins x)(y:s₁.heap.NoLimit)(hg:s₁.gens=#[])
  (ha:s₁.heap.get? a=a_ { cls:=.type "list",data:=.seq vs.toArray })(hi:BO vs ns)(hl:ns.length<=aB)(hr:mW k callerA)
  (F:∀base:cx,K.In base->base.Ns mainGlobals mg->nK P w K mg base CX k fa fd [x] sp)(j:∀(s:ak)(u:ah),BN s fd ⟨[u],[]⟩ [(x,u)])
  (O:∀H:Hp,UQ H->mV K H a (ns.map V.int)->sp [.ref a] H (λv _=>v=.bl c_) λ_ _ _=>False)
  (R:∀H e s',CX [] H s₁ (λ_ _ _=>False) e s'->False) :
  codeAny (aD P w) callerA (.call (.ref fa) ⟨[.ref a],[]⟩) (λr s'=>r=.ok (.ret (.bool c_))/\OldK s₁.heap s'.heap/\s'.os=s₁.os/\oi s'.gens) s₁:=by
 have rv:=wI hi;have B:=hi.length
 have core:∀H:Hp,UQ H->mV K H a (ns.map V.int)->qT P w H s₁.heap->(∀b,H b≠b_->b=a)->(H a≠b_->K.lookup a=b_)->
   codeAny (aD P w) callerA (.call (.ref fa) ⟨[.ref a],[]⟩) (λr s'=>r=.ok (.ret (.bool c_))/\OldK s₁.heap s'.heap/\s'.os=s₁.os/\oi s'.gens) s₁:=by
  intro H hO hS hok hA hK;have c:∀{b:aI}{o:kM},s₁.heap.get? b=a_ o->H b=b_->(AV s₁.heap H).get? b=a_ o:=λe n=>KE e n
  have U:∀{b:aI}{o:kM}{es:Array DictEntry}{ep:Nat},s₁.heap.get? b=a_ o->o.data=.dict es ep->H b=b_:=λ{b o es ep}e d=>by
   cases q:H b with
   |none=>rfl
   |some u=>
     have W :=hA b (by rw[q];simp);subst W;rw[ha]at e;cases e;have d' :=d;cases d'
  have g:∀{b:aI}{m:bu->Option ah},s₁.heap.Ns b m->(AV s₁.heap H).Ns b m:=λ{b m} ⟨o,es,ep,e,d,r⟩=>⟨o,es,ep,c e (U e d),d,r⟩
  have D :=λb o e=>c (Z b o e) (by
   cases q:H b with
   |none=>rfl
   |some u=>
     have W :=hA b (by rw[q];simp);subst W
     rw[hK (by rw[q];simp)]at e;cases e)
  have hM:Mod K mg (AV s₁.heap H):=⟨D,g l,⟨mb,g hb,M⟩,let ⟨mc,h1,h2⟩:=y;⟨mc,g h1,h2⟩⟩
  have e0:iG P w K mg (AV s₁.heap H) callerA [] s₁ H:=⟨rfl,hM,λb o e=>NU e,ae (Hf _ _),trivial,λb hb=>absurd (show b∈([])from hb) (by simp),hok,.of_eq hg⟩
  refine kC ((F _ D (g l)).run callerA [] s₁ H ⟨[.ref a],[]⟩ [.ref a] [.ref a] _ _ hr e0 (j s₁ (.ref a)) (.cons rfl .nil) (O H hO hS)) λr s' h=>?_
  cases r with
  |error e=>exact(R H e s' h).elim
  |ok fl=>
    cases fl with
    |next=>exact iZ h
    |brk=>exact iZ h
    |cont=>exact iZ h
    |ret u=>
      obtain⟨v,H',os,bare,un,J,r',q⟩:=h;have q' :=q;subst q';obtain rfl:u=Value.bool c_:=r';refine⟨rfl,OldK.of_keep λb o e=>?_,os,bare⟩
      cases q:H b with
      |none=>exact un.keep b o e q (by intro z;exact absurd (show b∈([])from z) (by simp)) (by simp)
      |some u=>
        rcases hO b with z|⟨ob,xs,z⟩
        ·rw[q]at z;cases z
        ·have z2:=un.frzs b ob _ z;obtain⟨e1,_⟩:=hok b _ z;obtain⟨e2,_⟩:=J b _ z2;rw[e]at e1;cases e1;exact e2
 cases Y:K.lookup a with
 |some o=>
   have e:=Z a o Y;rw[ha]at e;cases e;refine core (λ_=>b_) (λ_=>.inl rfl) (.inr ⟨_,vs.toArray,_,Y,rfl,rfl,rfl,by rw[aO,B];exact hl,by simpa using rv⟩) (λb u z=>by have L :=z;cases L) (λb z=>absurd rfl z) λz=>absurd rfl z
 |none=>
   refine core (λb=>if b=a then a_ (.mG { cls:=.type "list",data:=.seq vs.toArray } (.lst (ns.map V.int)))else b_) (λb=>?_) (.inl (.inr ⟨{ cls:=.type "list",data:=.seq vs.toArray },if_pos rfl⟩)) (λb u z=>?_) (λb z=>?_) λ_=>Y
   ·by_cases hb:b=a
    ·exact .inr ⟨_,_,if_pos hb⟩
    ·exact .inl (if_neg hb)
   ·by_cases hb:b=a
    ·have L:=(if_pos hb).symm.trans z;cases L;subst hb;exact⟨ha,by rw[ai];exact hl,vs,_,rv,ha⟩
    ·have L:=(if_neg hb).symm.trans z;cases L
   ·by_cases hb:b=a
    ·exact hb
    ·exact absurd (if_neg hb) z
noncomputable abbrev KOf{K:aL}{h:cx}(_:K.In h):aL:=K
def Mv{l:je}{n k:Nat}{q:cz}{loose:List bu}{M:(bu->Option ah)->cx->Prop}{YP:c5->cx->Prop}{d:DefRec}{K:Params->aL}{CX:c5->Vo}{sp:c5->Sp}{x:bu}
  (O:l.most=a_ n)(y:n<=aB)(z:d.params.defaults=[])(R:mW k callerA)
  (U:∀(w:c5)(h:cx),YP w h->(K w.params).In h)
  (F:∀(w:c5)(mg:bu->Option ah)(j:aI)(h:cx),(K w.params).In h->h.Ns mainGlobals mg->mg d.name=a_ (.ref j)->
   ∃fd:jK,(∀(s:ak)(u:ah),BN s fd ⟨[u],[]⟩ [(x,u)])/\
    ∀base:cx,(K w.params).In base->base.Ns mainGlobals mg->nK l.prog w (K w.params) mg base (CX w) k j fd [x] (sp w))
  (B:∀(w:c5)(H:Hp)(a:aI)(ns:List Int),ns.length<=n->UQ H->mV (K w.params) H a (ns.map V.int)->sp w [.ref a] H (λv _=>v=.bl c_) λ_ _ _=>False)
  (D:∀(w:c5)(H:Hp)(s:ak)(e:ah)(s':ak),CX w [] H s (λ_ _ _=>False) e s'->False) :
  vT q loose M YP l.row.toRowW d [] (λf vs=>FZ f vs):=by
 refine Att.BD O z λw s₀ s₁ mg mb j o pm cd doc a vs ns G Y ho hd W J c hints hlen Z=>?_;have L:=U w _ Y;obtain⟨fd,hb,hF⟩:=F w mg j _ L G.T.g J;exact Ke L G.T.g G.T.b G.T.builtins G.T.nolimit Z c hints (aa hlen y) R hF hb (λH hO hS=>B w H a ns hlen hO hS) λH e s'=>D w H s₁ e s'
end L2
namespace L2
open PySem PySem.Spec PyProof.Rows
noncomputable def yZ(s:kX):Arguments:=match s with
 |.FunctionDef _ a _ _ _ _ _ _ _ _=>a
 |_=>{ posonlyargs:=[],args:=[],vararg:=b_,kwonlyargs:=[],kw_defaults:=[],kwarg:=b_,defaults:=[] }
noncomputable def o7(s:kX):List kX:=match s with
 |.FunctionDef _ _ b _ _ _ _ _ _ _=>b
 |_=>[]
noncomputable def dW(s:kX):mE:=match s with
 |.FunctionDef _ _ _ _ _ _ sc _ _ _=>sc
 |_=>{ kind:=.function,names:=[],isGenerator:=d_,isCoroutine:=d_ }
abbrev Hz:Vo:=λ_ _ _ _ _ _=>False
abbrev E0:XK:=λ_ _ _=>False
def PL:zo Hz X E0:=λ_ _ _ _ _ _ _ h=>h.elim
structure X5(K:aL)(x qual:bu)(st:kX)(f:aI)(fd:jK):Prop where
 ex:∃(oc:ah) (od:Option aI) (kV doc pm:ah) (an:Option aI) (cdv ct:ah) (osl:Array (Option ah)),
  fd=qg x qual (yZ st) (o7 st) (dW st) .none kV doc pm an cdv ct/\K.lookup f=a_ ⟨oc,od,.func fd,osl⟩/\ue K cdv qual=c_
 kp:gJ K (.ref f)=c_
section
variable{K:aL}{base:cx}
def X5.ok{st:kX}(F:X5 K x qual st f fd)(S:qV N ps (dW st))(len:∀vs H Q E,sp vs H Q E->vs.length=ps.length)
  (c:∀(cdv:ah)(A:bT)(outer:List Po)(s:ak)(H:Hp)(vs:List V)(Q:VK)(E:XK),mW k (A.deeper (envOfC qual (dW st) s.heap.objs.size f cdv))->sp vs H Q E->
   ∃t,zz (Bo Hz P w K mg base N qual (dW st) f cdv A outer s H E).U6 (o7 st) t/\t { nx:=λ_ H'=>Q .non H',rt:=Q } (start N vs) H):nK P w K mg base Hz (k+1) f fd ps sp:=by
 obtain⟨oc,od,kV,doc,pm,an,cdv,ct,osl,rfl,j,d⟩:=F.ex;refine W3 j d S len λA outer s H vs Q E l g=>?_;obtain⟨t,h,q⟩:=c cdv A outer s H vs Q E l g;exact⟨t,h.U6,q⟩
end
section
end
def C8{A B:Prop}(h:B):if d_=c_ then A else B:=by
 exact h
def C7{A B:Prop}(h:A):if c_=c_ then A else B:=by
 exact h
def bY(H H':Hp):Prop:=∀b o,H b=a_ o->H' b=a_ o
def bY.refl(H:Hp):bY H H:=λ_ _ h=>h
def bY.trans(a:bY H H1)(b:bY H1 H2):bY H H2:=λc o h=>b c o (a c o h)
def bY.free(e:bY H H')(h:H' l=Option.none):H l=Option.none:=by
 cases q:H l with
 |none=>rfl
 |some o=>
   rw[e l o q]at h;cases h
def bY.seq{K:aL}(e:bY H H')(h:mV K H a xs):mV K H' a xs:=by
 rcases h with(h|⟨o,h⟩)|h
 ·exact .inl (.inl (e _ _ h))
 ·exact .inl (.inr ⟨o,e _ _ h⟩)
 ·exact .inr h
section
variable{κ:Type}[DecidableEq κ]
noncomputable def oD(k_:List (κ×V))(k:κ):Option V:=(k_.find? λc=>decide (c.1=k)).map (·.2)
noncomputable def putK(k_:List (κ×V))(k:κ)(v:V):List (κ×V):=
 if(k_.any λc=>decide (c.1=k))=c_ then k_.map (λc=>if c.1=k then(c.1,v)else c)else k_++[(k,v)]
def qo{p:κ×V}{r:List (κ×V)}{k:κ}(e:p.1=k):oD (p::r) k=a_ p.2:=by simp[oD,e]
def qp{p:κ×V}{r:List (κ×V)}{k:κ}(e:¬p.1=k):oD (p::r) k=oD r k:=by simp[oD,e]
theorem zP(k:κ):∀k_:List (κ×V),(k_.any λc=>decide (c.1=k))=(oD k_ k).isSome
 |[]=>rfl
 |p::r=>by
   rw[jj];by_cases e:p.1=k
   ·simp only[qo e,decide_eq_true e,Bool.true_or,Option.isSome_some]
   ·rw[qp e,decide_eq_false e];exact zP k r
def sS(k_:List (κ×V))(k:κ)(v:V):(putK k_ k v).length<=k_.length+1:=by
 unfold putK;split
 ·simp
 ·rw[az,a8];exact au _
def wm.Hb(r:wm o u):o.isSome=u.isSome:=by
 cases o with
 | none=>cases u with
   |none=>rfl
   |some _=>exact(r).elim
 | some _=>cases u with
   |none=>exact(r).elim
   |some _=>rfl
def KV.val(r:KV k_ vs)(k:κ):wm (oD k_ k) (valueAt vs k):=by
 induction r with
 |nil=>exact kA
 | @cons p q ps c h t g=>
   obtain⟨h1,h2⟩:=h;by_cases e:p.1=k
   ·have d :=h1.symm.trans e;have b:valueAt (q::c) k=a_ q.2:=by simp[valueAt,d]
    rw[qo e,b];exact h2
   ·have d:¬q.1=k:=λz=>e (h1.trans z);have b:valueAt (q::c) k=valueAt c k:=by simp[valueAt,d]
    rw[qp e,b];exact g
theorem KV.any(r:KV k_ vs)(k:κ):(k_.any λc=>decide (c.1=k))=vs.any λc=>decide (c.1=k):=by
 induction r with
 |nil=>rfl
 |cons h t d=>rw[jj,jj,d,h.1]
def KV.RP(r:KV k_ vs)(k:κ)(d:RelV y u) :
  KV (k_.map λc=>if c.1=k then(c.1,y)else c) (vs.map λc=>if c.1=k then(c.1,u)else c):=by
 induction r with
 |nil=>exact .nil
 | @cons p q ps j h t g=>
   rw[ax,ax];refine .cons ?_ g;obtain⟨h1,h2⟩:=h;by_cases e:p.1=k
   ·rw[if_pos e,if_pos (h1.symm.trans e)];exact⟨h1,d⟩
   ·rw[if_neg e,if_neg (λz=>e (h1.trans z))];exact⟨h1,h2⟩
def KV.put(r:KV k_ vs)(k:κ)(c:RelV y u):KV (putK k_ k y) (stored vs k u):=by
 unfold putK stored;rw[r.any k];by_cases e:(vs.any λd=>decide (d.1=k))=c_
 ·rw[if_pos e,if_pos e];exact r.RP k c
 ·rw[if_neg e,if_neg e];exact Paired.snoc r ⟨rfl,c⟩
def KV.length{k_:List (κ×V)}{vs:List (κ×ah)}(r:KV k_ vs):k_.length=vs.length:=pN r
end
def xt(r:RelV (kV k) u):(cD P w).is k u=c_:=by
 cases k with
 |inl i=>obtain⟨t,e⟩:=(r);subst e;exact AD P w i t
 |inr x=>obtain⟨t,e⟩:=(r);subst e;exact AB P w x t
theorem xv:∀{ks:List Key}{us:List ah},cM (ks.map kV) us->ItemsAre (cD P w) ks us
 |[],_,r=>by cases r;exact .nil
 |k::ks,_,r=>by
   cases r with
   |cons h t=>exact .cons (xt h) (xv t)
abbrev KT(H:Hp):List (List Key×V)->List (List Key×aI×ah)->Prop:=ip λp q=>p.1=q.1/\H q.2.1=a_ (.tup (p.1.map kV))/\RelV p.2 q.2.2
def KT.val(r:KT H k_ xs)(k:List Key):wm (oD k_ k) ((atKey xs k).map (·.2)):=by
 induction r with
 |nil=>exact kA
 | @cons p q ps c h t g=>
   obtain⟨h1,_,h2⟩:=h;by_cases e:p.1=k
   ·have d :=h1.symm.trans e;have b:atKey (q::c) k=a_ q.2:=by simp[atKey,d]
    rw[qo e,b];exact h2
   ·have d:¬q.1=k:=λz=>e (h1.trans z);have b:atKey (q::c) k=atKey c k:=by simp[atKey,d]
    rw[qp e,b];exact g
def KT.RP(r:KT H k_ xs)(k:List Key)(d:RelV y u) :
  KT H (k_.map λc=>if c.1=k then(c.1,y)else c) (xs.map (putAt k u)):=by
 induction r with
 |nil=>exact .nil
 | @cons p q ps j h t g=>
   rw[ax];refine .cons ?_ g;obtain⟨h1,h2,h3⟩:=h;unfold putAt;by_cases e:p.1=k
   ·rw[if_pos e,if_pos (h1.symm.trans e)];exact⟨h1,h2,d⟩
   ·rw[if_neg e,if_neg (λz=>e (h1.trans z))];exact⟨h1,h2,h3⟩
def KT.put(r:KT H k_ xs)(k:List Key)(hb:H b=a_ (.tup (k.map kV)))(c:RelV y u) :
  KT H (putK k_ k y) (storedH xs k b u):=by
 have e:(k_.any λd=>decide (d.1=k))=(atKey xs k).isSome:=by
  rw[zP,(r.val k).Hb,Option.isSome_map]
 unfold putK storedH;rw[e];by_cases q:(atKey xs k).isSome=c_
 ·rw[if_pos q,if_pos q];exact r.RP k c
 ·rw[if_neg q,if_neg q];exact Paired.snoc r ⟨rfl,hb,c⟩
def KT.keeps(r:KT H k_ xs)(ht:∀b ys,H b=a_ (.tup ys)->H' b=a_ (.tup ys)):KT H' k_ xs:=
 Paired.Tf r λ_ _ z=>⟨z.1,ht _ _ z.2.1,z.2.2⟩
section
def PH(ok:qT P w H h)(e:Rd H a u):jZ P w H h a u:=e.ok ok
def Fo(ok:qT P w H h)(e:Rd H a (.dK k_)):k_.length<=aB/\(a == sysModules)=d_/\∃vs,KV k_ vs/\h.DictOf (cD P w) a vs:=
 PH ok e
def Xa(ok:qT P w H h)(e:H a=a_ (.dK k_)):k_.length<=aB/\(a == sysModules)=d_/\∃vs,KV k_ vs/\h.DictOf (cD P w) a vs:=Fo ok (.inl e)
def C2{ks:List Key}(ok:qT P w H h)(e:H a=a_ (.tup (ks.map kV))):(tupleKind (cD P w)).is h ks a:=by
 obtain⟨_,its,r,o,h1,h2,n,h3⟩:=(ok a _ e)
 exact⟨o,its.toArray,n,h1,h2,h3,by simpa using xv r⟩
def K8(ok:qT P w H h)(e:Rd H a (.dT k_)):k_.length<=aB/\(a == sysModules)=d_/\
  ∃xs,KT H k_ xs/\h.DictOfH (tupleKind (cD P w)) a xs:=by
 obtain⟨z,y,xs,r,o,es,ep,h1,h2,h3,g,h5⟩:=(PH ok e)
 refine⟨z,y,xs,r,o,es,ep,h1,h2,h3,g,λx c=>?_,h5⟩
 have all:∀{l:List (List Key×V)}{m:List (List Key×aI×ah)},KT H l m->∀x∈m,(tupleKind (cD P w)).is h x.1 x.2.1:=by
  intro l m q
  induction q with
  |nil=>intro x c;exact nomatch c
  | @cons p q ps k d t j=>
    intro x c
    rcases aw.mp c with e|c
    ·subst e;exact C2 ok (by rw[<-d.1];exact d.2.1)
    ·exact j x c
 exact all r x c
def W9(ok:qT P w H h)(e:H a=a_ (.dT k_)):k_.length<=aB/\(a == sysModules)=d_/\
  ∃xs,KT H k_ xs/\h.DictOfH (tupleKind (cD P w)) a xs:=K8 ok (.inl e)
end
def BK(H:Hp)(a:aI)(y:V)(r:Option V):Prop:=
 (∃k_ k,Rd H a (.dK k_)/\y=kV k/\r=oD k_ k)\/∃k_ k b,Rd H a (.dT k_)/\y=.ref b/\H b=a_ (.tup (k.map kV))/\r=oD k_ k
def Pg(H:Hp)(a:aI)(y v:V)(H':Hp):Prop:=
 (∃k_ k,H a=a_ (.dK k_)/\y=kV k/\k_.length<aB/\H'=upd H a (.dK (putK k_ k v)))\/
 ∃k_ k b,H a=a_ (.dT k_)/\y=.ref b/\H b=a_ (.tup (k.map kV))/\k_.length<aB/\H'=upd H a (.dT (putK k_ k v))
def BK.k{H:Hp}{a:aI}{k_:List (Key×V)}{k:Key}(e:H a=a_ (.dK k_)):BK H a (kV k) (oD k_ k):=.inl ⟨k_,k,.inl e,rfl,rfl⟩
def Pg.k{H:Hp}{a:aI}{k_:List (Key×V)}{k:Key}{v:V}(e:H a=a_ (.dK k_))(hl:k_.length<aB):Pg H a (kV k) v (upd H a (.dK (putK k_ k v))):=.inl ⟨k_,k,e,rfl,hl,rfl⟩
section
variable{A:bT}
def Inv.big(I:Inv X h_ σ H s):sysModules<s.heap.objs.size:=by
 have h :=(I.mod.glob.keeps I.bk).lt;exact cR (by decide) h
def xN(L:A.units+1<dk)(I:Inv X h_ σ H s)(g:BK H a y (a_ v))(J:RelV y u)(h:∀d s',Inv X h_ σ H s'->RelV v d->Q d s') :
  aC (aD X.prog X.w) A (getItem (.ref a) u) Q E s:=by
 rcases g with⟨k_,k,e,j,l⟩|⟨k_,k,b,e,j,M,l⟩
 ·subst j;obtain⟨z,hd,vs,rel,q⟩:=Fo I.hok e;obtain⟨d,B,c⟩:=wm.some_of (by rw[l];exact rel.val k);exact wpAny_getItem_of (xt J) q.mapOf B (h d _ (I.tok _) c)
 ·subst j;cases(J);obtain⟨z,hd,xs,rel,q⟩:=K8 I.hok e;obtain⟨d,B,c⟩:=wm.some_of (by rw[l];exact rel.val k);obtain⟨p,hp,D⟩:=eD B;refine wpAny_getItem_heap (tupleKind_room_in1 L) (C2 I.hok M) q hp ?_;rw[D];exact h d _ (I.tok _) c
def Fv(I:Inv X h_ σ H s)(c:XC (H a))(hs:cA a s.heap h')(he:∃q,h'.get? a=a_ q)(new:jZ X.prog X.w (upd H a ob) h' a ob) :
  Inv X h_ σ (upd H a ob) { s with heap:=h',toks:=t' }:=
 I.write c (.inl rfl) (λb q hb z=>(hs.2 b hb).trans z) he new
def Uk{h':cx}{k_:List (Key×V)}(z:k_.length<=aB)(hd:(a == sysModules)=d_)(rel:KV k_ vs)(c:h'.DictOf (cD P w) a vs) :
  jZ P w H' h' a (.dK k_):=⟨z,hd,vs,rel,c⟩
def Ho(U:A.units+1<dk)(I:Inv X h_ σ H s)(g:Pg H a y v H')(L:RelV y u)(M:RelV v r)(h:∀s',Inv X h_ σ H' s'->Q () s') :
  aC (aD X.prog X.w) A (setItem (.ref a) u r) Q E s:=by
 rcases g with⟨k_,k,e,B,l,D⟩|⟨k_,k,b,e,B,O,l,D⟩
 ·subst B D;obtain⟨z,hd,vs,rel,J⟩:=Xa I.hok e;have hz:vs.length<=aB:=by rw[<-rel.length];exact z
  have hl :=aa (sS k_ k v) l;refine wpAny_setItem_pairs (xt L) J λh' d hs=>h _ ?_;have he:∃q,h'.get? a=a_ q:=let ⟨q,_,_,j,_⟩:=d;⟨q,j⟩;exact Fv I (by rw[e];exact kA) hs he (Uk hl hd (rel.put k M) d)
 ·subst B D;cases(L);obtain⟨z,hd,xs,rel,J⟩:=W9 I.hok e;have hz:xs.length<=aB:=by rw[<-pN rel];exact z
  have hl :=aa (sS k_ k v) l;refine wpAny_setItem_heap (tupleKind_room_in1 U) (C2 I.hok O) J λh' d hs=>h _ ?_;obtain⟨q,es,ep,j,h2,h3,W,_,h5⟩:=d;refine Fv I (by rw[e];exact kA) hs ⟨q,j⟩ ⟨hl,hd,_,(rel.put k O M).keeps λc ys R=>?_,q,es,ep,j,h2,h3,W,h5⟩;rw[cL (WB R e (λz=>nomatch z))];exact R
end
section
def Xb(I:Inv X h_ σ H s)(e:Rd H a (.dK k_))(h:∀t s',Inv X h_ σ H s'->Q (.int k_.length t) s'):aC (aD X.prog X.w) A (call (.builtin "len") [.ref a]) Q E s:=by
 obtain⟨z,hd,vs,rel,c⟩:=Fo I.hok e;refine call_len_dict hd c (by rw[<-rel.length];exact fW (dB.mpr z) (by decide)) ?_;rw[<-rel.length];exact h _ _ (I.tok _)
end
def td(I:Inv X h_ σ H s)(g:BK H a y o):s.TypeIs (.ref a) "dict":=by
 rcases g with⟨k_,k,e,_,_⟩|⟨k_,k,b,e,_,_,_⟩
 ·obtain⟨_,_,vs,_,c⟩:=Fo I.hok e;exact c.typeIs
 ·obtain⟨_,_,xs,_,c⟩:=K8 I.hok e;exact c.typeIs
section
end
def La(h:cx)(hb:sysModules<h.objs.size):jZ P w H (h.push { cls:=.type "dict",data:=.dict #[] }) h.objs.size (.dK []):=
 ⟨aR _,beq_eq_false_iff_ne.mpr (eK (br hb)),[],.nil,Heap.DictOf.new h⟩
def QN:TE:=λ_ H Q=>∀p,H p=b_->Q (.ref p) (upd H p (.dK []))
section
def JC:PE X (.Dict [] [] pos) QN:=λh_ s σ H Q I h=>
 wpAny_Dict_empty ⟨.ref s.heap.objs.size,_,I.laid (λ_ _ q=>hp9 _ q) (au _) (La s.heap I.big),rfl,h _ (I.hok.fresh (au _))⟩
end
section
end
section
end
section
end
section
end
end L2
namespace M
open PySem PySem.Spec PyProof.Rows L2
set_option genInjectivity true in
inductive Dat where
 |non|bl (b:Bool)|int (i:Int)|str (x:bu)|tup (xs:List Dat)|lst (xs:List Dat)|dct (ks:List Key) (vs:List Dat)|dcn (ks:List (List NK))
 deriving Inhabited
abbrev Fg:=aL
def Tq(K:Fg)(F:Hp)(a:aI)(vs:List V):Prop:=F a=a_ (.tup vs)\/∃(o:kM) (its:Array ah) (n:Nat),K.lookup a=a_ o/\o.cls=.type "tuple"/\o.data=.seq its n/\its.size<=aB/\cM vs its.toList
def Tq.sq{K:Fg}(h:Tq K F a vs):sx K F a vs:=by
 rcases h with h|h
 ·exact .inl (.inl h)
 ·exact .inr h
def Tq.mono{K:Fg}(s:bY F F')(h:Tq K F a vs):Tq K F' a vs:=by
 rcases h with h|h
 ·exact .inl (s _ _ h)
 ·exact .inr h
def L9(K:Fg)(F:Hp):List N2->List V->Prop
 |[],vs=>vs=[]
 |.inl k::ks,vs=>∃r,vs=kV k::r/\L9 K F ks r
 |.inr q::ks,vs=>∃b r,vs=.ref b::r/\Tq K F b (q.map kV)/\L9 K F ks r
def L8(K:Fg)(F:Hp):List NK->List V->Prop
 |[],vs=>vs=[]
 |.inl k::ks,vs=>∃r,vs=kV k::r/\L8 K F ks r
 |.inr q::ks,vs=>∃b r us,vs=.ref b::r/\Tq K F b us/\L9 K F q us/\L8 K F ks r
def X1(K:Fg)(F:Hp)(k:List NK)(a:aI):Prop:=∃vs,Tq K F a vs/\L8 K F k vs
def LJ(K:Fg)(F:Hp)(ks:List (List NK))(xs:List (List NK×aI)):Prop:=xs.map (·.1)=ks/\∀x∈xs,X1 K F x.1 x.2
theorem L9.imp{K:Fg}(f:∀b vs,Tq K F b vs->Tq K F' b vs):∀{ks:List N2}{vs:List V},L9 K F ks vs->L9 K F' ks vs
 |[],_,h=>h
 |.inl k::ks,_,h=>by obtain⟨r,e,h⟩:=h;exact⟨r,e,L9.imp f h⟩
 |.inr q::ks,_,h=>by obtain⟨b,r,e,t,h⟩:=h;exact⟨b,r,e,f _ _ t,L9.imp f h⟩
theorem L8.imp{K:Fg}(f:∀b vs,Tq K F b vs->Tq K F' b vs):∀{ks:List NK}{vs:List V},L8 K F ks vs->L8 K F' ks vs
 |[],_,h=>h
 |.inl k::ks,_,h=>by obtain⟨r,e,h⟩:=h;exact⟨r,e,L8.imp f h⟩
 |.inr q::ks,_,h=>by obtain⟨b,r,us,e,t,u,h⟩:=h;exact⟨b,r,us,e,f _ _ t,u.imp f,L8.imp f h⟩
def LJ.imp{K:Fg}(f:∀b vs,Tq K F b vs->Tq K F' b vs)(h:LJ K F ks xs):LJ K F' ks xs:=
 ⟨h.1,λx c=>let ⟨vs,t,r⟩:=h.2 x c;⟨vs,f _ _ t,r.imp f⟩⟩
mutual
def Rep(K:Fg)(F:Hp):Dat->V->Prop
 |.non,v=>v=.non
 |.bl b,v=>v=.bl b
 |.int i,v=>v=.int i
 |.str x,v=>v=.str x
 |.tup ds,v=>∃a vs,v=.ref a/\Tq K F a vs/\cT K F ds vs
 |.lst ds,v=>∃a vs,v=.ref a/\mV K F a vs/\cT K F ds vs
 |.dct ks ds,v=>∃a k_,v=.ref a/\F a=a_ (.dK k_)/\k_.map (·.1)=ks/\cT K F ds (k_.map (·.2))
 |.dcn ks,v=>∃a xs,v=.ref a/\F a=a_ (.dN xs)/\LJ K F ks xs
def cT(K:Fg)(F:Hp):List Dat->List V->Prop
 |[],vs=>vs=[]
 |d::ds,vs=>∃v r,vs=v::r/\Rep K F d v/\cT K F ds r
end
mutual
theorem Rep.mono{K:Fg}(s:bY F F'):∀(d:Dat){v:V},Rep K F d v->Rep K F' d v
 |.non,_,h=>h
 |.bl _,_,h=>h
 |.int _,_,h=>h
 |.str _,_,h=>h
 |.tup ds,_,⟨a,vs,e,t,r⟩=>⟨a,vs,e,t.mono s,cT.mono s ds r⟩
 |.lst ds,_,⟨a,vs,e,t,r⟩=>⟨a,vs,e,s.seq t,cT.mono s ds r⟩
 |.dct _ ds,_,⟨a,k_,e,t,k,r⟩=>⟨a,k_,e,s _ _ t,k,cT.mono s ds r⟩
 |.dcn _,_,⟨a,xs,e,t,r⟩=>⟨a,xs,e,s _ _ t,r.imp λ_ _ q=>q.mono s⟩
theorem cT.mono{K:Fg}(s:bY F F'):∀(ds:List Dat){vs:List V},cT K F ds vs->cT K F' ds vs
 |[],_,h=>h
 |d::ds,_,⟨v,r,e,h1,h2⟩=>⟨v,r,e,Rep.mono s d h1,cT.mono s ds h2⟩
end
theorem cT.length{K:Fg}:∀{ds:List Dat}{vs:List V},cT K F ds vs->vs.length=ds.length
 |[],_,h=>by rw[h];rfl
 |d::ds,_,c=>by obtain⟨v,r,e,_,h2⟩:=c;rw[e,a8,a8,cT.length h2]
theorem cT.get{K:Fg}:∀{ds:List Dat}{vs:List V}{i:Nat}{d:Dat},cT K F ds vs->ds[i]?=a_ d->∃v,vs[i]?=a_ v/\Rep K F d v
 |[],_,_,_,_,e=>by simp at e
 |d::ds,_,0,_,c,z=>by obtain⟨v,r,e,h1,_⟩:=c;simp at z;subst z;subst e;exact⟨v,rfl,h1⟩
 |d::ds,_,i+1,_,c,z=>by
   obtain⟨v,r,e,_,h2⟩:=c;subst e;obtain⟨w,g,j⟩:=cT.get h2 (by simpa using z);exact⟨w,by simpa using g,j⟩
theorem cT.append{K:Fg}:∀{ds es:List Dat}{vs us:List V},cT K F ds vs->cT K F es us->cT K F (ds++es) (vs++us)
 |[],_,_,_,h,h'=>by rw[h];exact h'
 |d::ds,_,_,_,c,h'=>by obtain⟨v,r,e,h1,h2⟩:=c;subst e;exact⟨v,r++_,rfl,h1,cT.append h2 h'⟩
def cT.one{K:Fg}(h:Rep K F d v):cT K F [d] [v]:=⟨v,[],rfl,h,rfl⟩
theorem cT.take{K:Fg}:∀(n:Nat){ds:List Dat}{vs:List V},cT K F ds vs->cT K F (ds.take n) (vs.take n)
 |0,_,_,_=>by simp[cT]
 |n+1,[],_,h=>by rw[h];exact rfl
 |n+1,d::ds,_,z3=>by obtain⟨v,r,e,h1,h2⟩:=z3;subst e;exact⟨v,r.take n,rfl,h1,cT.take n h2⟩
theorem cT.drop{K:Fg}:∀(n:Nat){ds:List Dat}{vs:List V},cT K F ds vs->cT K F (ds.drop n) (vs.drop n)
 |0,_,_,h=>h
 |n+1,[],_,h=>by rw[h];exact rfl
 |n+1,d::ds,_,z3=>by obtain⟨v,r,e,h1,h2⟩:=z3;subst e;exact cT.drop n h2
mutual
noncomputable def im:Dat->Bool
 |.lst _=>d_
 |.dct _ _=>d_
 |.dcn _=>d_
 |.tup ds=>jL ds
 |_=>c_
noncomputable def jL:List Dat->Bool
 |[]=>c_
 |d::ds=>im d && jL ds
end
structure Good(F H:Hp):Prop where
 sub:bY F H
 tup:∀a vs,H a=a_ (.tup vs)->F a=a_ (.tup vs)
structure Step(F H F' H':Hp):Prop where
 good:Good F' H'
 ff:bY F F'
 hh:bY H H'
 un:∀a o,H a=a_ o->F a=b_->F' a=b_
def Step.refl(g:Good F H):Step F H F H:=⟨g,bY.refl _,bY.refl _,λ_ _ _ n=>n⟩
def Step.trans(a:Step F H F1 H1)(b:Step F1 H1 F2 H2):Step F H F2 H2:=
 ⟨b.good,a.ff.trans b.ff,a.hh.trans b.hh,λx o h n=>b.un x o (a.hh x o h) (a.un x o h n)⟩
def bY.upd(hp:H p=b_):bY H (upd H p o):=λb u e=>by rw[cL (eL e hp)];exact e
def Step.alloc(g:Good F H)(hp:H p=b_):Step F H (upd F p o) (upd H p o):=by
 have c:F p=b_:=by
  cases q:F p with
  |none=>rfl
  |some u=>rw[g.sub p u q]at hp;cases hp
 refine⟨⟨λb u e=>?_,λa vs e=>?_⟩,bY.upd c,bY.upd hp,λa u h n=>?_⟩
 ·by_cases hb:b=p
  ·subst hb;rw[cC]at e ⊢;exact e
  ·rw[cL hb]at e ⊢;exact g.sub b u e
 ·by_cases hb:a=p
  ·subst hb;rw[cC]at e ⊢;exact e
  ·rw[cL hb]at e ⊢;exact g.tup a vs e
 ·rw[cL (eL h hp)];exact n
noncomputable def shr(F H F1:Hp):Hp:=λa=>match F a,H a with
 |none,a_ _=>b_
 |_,_=>F1 a
def Rq(h:shr F H F1 a=a_ o):F1 a=a_ o:=by
 unfold shr at h
 cases q:F a with
 |none=>
   cases c:H a with
   |none=>rw[q,c]at h;exact h
   |some u=>rw[q,c]at h;cases h
 |some u=>rw[q]at h;exact h
def Cs(h:F a≠b_\/H a=b_):shr F H F1 a=F1 a:=by
 unfold shr
 cases q:F a with
 |none=>
   cases c:H a with
   |none=>rfl
   | some u=>rcases h with h|h
             ·exact absurd q h
             ·rw[c]at h;cases h
 |some u=>rfl
def Step.shrink(g:Good F H)(s:bY F Fp)(st:Step Fp H F1 H1):Step F H (shr F H F1) H1:=by
 refine⟨⟨λa o e=>st.good.sub a o (Rq e),λa vs e=>?_⟩,λa o e=>?_,st.hh,λa o h n=>?_⟩
 ·have e1:=st.good.tup a vs e;rw[Cs ?_]
  ·exact e1
  ·cases q:H a with
   |none=>exact .inr rfl
   |some u=>
     have:=st.hh a u q;rw[e]at this;cases this;exact .inl (by rw[g.tup a vs q];simp)
 ·rw[Cs (.inl (by rw[e];simp))];exact st.ff a o (s a o e)
 ·unfold shr;rw[n,h]
def Tq.shrink{K:Fg}(g:Good F H)(st:Step Fp H F1 H1)(h:Tq K F1 a vs):Tq K (shr F H F1) a vs:=by
 rcases h with h|h
 ·refine .inl ?_;rw[Cs ?_]
  ·exact h
  ·cases q:H a with
   |none=>exact .inr rfl
   |some u=>
     have:=st.hh a u q;rw[st.good.sub a _ h]at this;cases this;exact .inl (by rw[g.tup a vs q];simp)
 ·exact .inr h
mutual
theorem Rep.shrink{K:Fg}(g:Good F H)(st:Step Fp H F1 H1):∀(d:Dat){v:V},im d=c_->Rep K F1 d v->Rep K (shr F H F1) d v
 |.non,_,_,h=>h
 |.bl _,_,_,h=>h
 |.int _,_,_,h=>h
 |.str _,_,_,h=>h
 |.tup ds,_,m,⟨a,vs,e,t,r⟩=>⟨a,vs,e,t.shrink g st,cT.shrink g st ds m r⟩
 |.lst ds,_,m,_=>nomatch m
 |.dct _ _,_,m,_=>nomatch m
 |.dcn _,_,m,_=>nomatch m
theorem cT.shrink{K:Fg}(g:Good F H)(st:Step Fp H F1 H1):∀(ds:List Dat){vs:List V},jL ds=c_->cT K F1 ds vs->cT K (shr F H F1) ds vs
 |[],_,_,h=>h
 |d::ds,_,m,z3=>by
   obtain⟨v,r,e,h1,h2⟩:=z3;have c:im d=c_/\jL ds=c_:=by simpa [jL]using m
   exact⟨v,r,e,Rep.shrink g st d c.1 h1,cT.shrink g st ds c.2 h2⟩
end
mutual
def lL(K:Fg)(H:Hp):Dat->V->List aI->Prop
 |.non,v,S=>v=.non/\S=[]
 |.bl b,v,S=>v=.bl b/\S=[]
 |.int i,v,S=>v=.int i/\S=[]
 |.str x,v,S=>v=.str x/\S=[]
 |.tup ds,v,S=>∃a vs,v=.ref a/\Tq K H a vs/\cZ K H ds vs S
 |.lst ds,v,S=>∃a vs S',v=.ref a/\H a=a_ (.lst vs)/\cZ K H ds vs S'/\S=a::S'
 |.dct ks ds,v,S=>∃a k_ S',v=.ref a/\H a=a_ (.dK k_)/\k_.map (·.1)=ks/\cZ K H ds (k_.map (·.2)) S'/\S=a::S'
 |.dcn ks,v,S=>∃a xs,v=.ref a/\H a=a_ (.dN xs)/\LJ K H ks xs/\S=[a]
def cZ(K:Fg)(H:Hp):List Dat->List V->List aI->Prop
 |[],vs,S=>vs=[]/\S=[]
 |d::ds,vs,S=>∃v r c g,vs=v::r/\lL K H d v c/\cZ K H ds r g/\S=c++g
end
mutual
theorem lL.mono{K:Fg}(s:bY H H'):∀(d:Dat){v:V}{S:List aI},lL K H d v S->lL K H' d v S
 |.non,_,_,h=>h
 |.bl _,_,_,h=>h
 |.int _,_,_,h=>h
 |.str _,_,_,h=>h
 |.tup ds,_,_,⟨a,vs,e,t,r⟩=>⟨a,vs,e,t.mono s,cZ.mono s ds r⟩
 |.lst ds,_,_,⟨a,vs,S',e,t,r,q⟩=>⟨a,vs,S',e,s _ _ t,cZ.mono s ds r,q⟩
 |.dct _ ds,_,_,⟨a,k_,S',e,t,k,r,q⟩=>⟨a,k_,S',e,s _ _ t,k,cZ.mono s ds r,q⟩
 |.dcn _,_,_,⟨a,xs,e,t,r,q⟩=>⟨a,xs,e,s _ _ t,r.imp λ_ _ z=>z.mono s,q⟩
theorem cZ.mono{K:Fg}(s:bY H H'):∀(ds:List Dat){vs:List V}{S:List aI},cZ K H ds vs S->cZ K H' ds vs S
 |[],_,_,h=>h
 |d::ds,_,_,⟨v,r,c,g,e,h1,h2,q⟩=>⟨v,r,c,g,e,lL.mono s d h1,cZ.mono s ds h2,q⟩
end
def Hy:HO->Prop
 |.lst _=>True
 |.dK _=>True
 |.dN _=>True
 |_=>False
mutual
theorem lL.vA{K:Fg}:∀(d:Dat){v:V}{S:List aI},lL K H d v S->∀a∈S,∃o,H a=a_ o/\Hy o
 |.non,_,_,h=>by rw[h.2];intro a m;cases m
 |.bl _,_,_,h=>by rw[h.2];intro a m;cases m
 |.int _,_,_,h=>by rw[h.2];intro a m;cases m
 |.str _,_,_,h=>by rw[h.2];intro a m;cases m
 |.tup ds,_,_,⟨a,vs,e,t,r⟩=>cZ.vA ds r
 |.lst ds,_,_,z3=>by
   obtain⟨a,vs,S',e,t,r,q⟩:=z3;subst q;intro b m
   rcases aw.mp m with rfl|m
   ·exact⟨_,t,trivial⟩
   ·exact cZ.vA ds r b m
 |.dct _ ds,_,_,z3=>by
   obtain⟨a,k_,S',e,t,k,r,q⟩:=z3;subst q;intro b m
   rcases aw.mp m with rfl|m
   ·exact⟨_,t,trivial⟩
   ·exact cZ.vA ds r b m
 |.dcn _,_,_,z3=>by
   obtain⟨a,xs,e,t,r,q⟩:=z3;subst q;intro b m;rw[aA.mp m];exact⟨_,t,trivial⟩
theorem cZ.vA{K:Fg}:∀(ds:List Dat){vs:List V}{S:List aI},cZ K H ds vs S->∀a∈S,∃o,H a=a_ o/\Hy o
 |[],_,_,h=>by rw[h.2];intro a m;cases m
 |d::ds,_,_,z3=>by
   obtain⟨v,r,c,g,e,h1,h2,q⟩:=z3;subst q;intro b m
   rcases ao.mp m with m|m
   ·exact lL.vA d h1 b m
   ·exact cZ.vA ds h2 b m
end
noncomputable def fz(F H:Hp)(S:List aI):Hp:=λa=>if a∈S then H a else F a
def A3(h:a∈S):fz F H S a=H a:=if_pos h
def sj(h:a∉S):fz F H S a=F a:=if_neg h
def T5(g:bY F H):bY (fz F H S) H:=λa o e=>by
 by_cases m:a∈S
 ·rw[A3 m]at e;exact e
 ·rw[sj m]at e;exact g a o e
def si(g:bY F H):bY F (fz F H S):=λa o e=>by
 by_cases m:a∈S
 ·rw[A3 m];exact g a o e
 ·rw[sj m];exact e
def yQ(g:Good F H):Good (fz F H S) H:=⟨T5 g.sub,λa vs e=>si g.sub a _ (g.tup a vs e)⟩
mutual
theorem lL.mG{K:Fg}(g:Good F H):∀(d:Dat){v:V}{S T:List aI},lL K H d v S->(∀a∈S,a∈T)->Rep K (fz F H T) d v
 |.non,_,_,_,h,_=>h.1
 |.bl _,_,_,_,h,_=>h.1
 |.int _,_,_,_,h,_=>h.1
 |.str _,_,_,_,h,_=>h.1
 |.tup ds,_,_,_,c,m=>by
   obtain⟨a,vs,e,t,r⟩:=c;refine⟨a,vs,e,?_,cZ.mG g ds r m⟩
   rcases t with t|t
   ·exact .inl (si g.sub _ _ (g.tup _ _ t))
   ·exact .inr t
 |.lst ds,_,_,_,c,m=>by
   obtain⟨a,vs,S',e,t,r,q⟩:=c;subst q;refine⟨a,vs,e,.inl (.inl ?_),cZ.mG g ds r λb hb=>m b (iE _ hb)⟩;rw[A3 (m a g7)];exact t
 |.dct _ ds,_,_,_,c,m=>by
   obtain⟨a,k_,S',e,t,k,r,q⟩:=c;subst q;refine⟨a,k_,e,?_,k,cZ.mG g ds r λb hb=>m b (iE _ hb)⟩;rw[A3 (m a g7)];exact t
 |.dcn _,_,_,_,c,m=>by
   obtain⟨a,xs,e,t,r,q⟩:=c;subst q;refine⟨a,xs,e,?_,r.imp λb vs z=>?_⟩
   ·rw[A3 (m a g7)];exact t
   ·rcases z with z|z
    ·exact .inl (si g.sub _ _ (g.tup _ _ z))
    ·exact .inr z
theorem cZ.mG{K:Fg}(g:Good F H):∀(ds:List Dat){vs:List V}{S T:List aI},cZ K H ds vs S->(∀a∈S,a∈T)->cT K (fz F H T) ds vs
 |[],_,_,_,h,_=>h.1
 |d::ds,_,_,_,c,m=>by
   obtain⟨v,r,j,k,e,h1,h2,q⟩:=c;subst q;exact⟨v,r,e,lL.mG g d h1 λa ha=>m a (aq _ ha),cZ.mG g ds h2 λa ha=>m a (ag _ ha)⟩
end
mutual
theorem lL.jY{K:Fg}(g:bY F H):∀(d:Dat){v:V},im d=c_->Rep K F d v->lL K H d v []
 |.non,_,_,h=>⟨h,rfl⟩
 |.bl _,_,_,h=>⟨h,rfl⟩
 |.int _,_,_,h=>⟨h,rfl⟩
 |.str _,_,_,h=>⟨h,rfl⟩
 |.tup ds,_,m,⟨a,vs,e,t,r⟩=>⟨a,vs,e,t.mono g,cZ.jY g ds m r⟩
 |.lst ds,_,m,_=>nomatch m
 |.dct _ _,_,m,_=>nomatch m
 |.dcn _,_,m,_=>nomatch m
theorem cZ.jY{K:Fg}(g:bY F H):∀(ds:List Dat){vs:List V},jL ds=c_->cT K F ds vs->cZ K H ds vs []
 |[],_,_,h=>⟨h,rfl⟩
 |d::ds,_,m,z3=>by
   obtain⟨v,r,e,h1,h2⟩:=z3;have c:im d=c_/\jL ds=c_:=by simpa [jL]using m
   exact⟨v,r,[],[],e,lL.jY g d c.1 h1,cZ.jY g ds c.2 h2,rfl⟩
end
mutual
theorem lL.upd{K:Fg}(hp:∀vs,H p≠a_ (.tup vs)):∀(d:Dat){v:V}{S:List aI},lL K H d v S->p∉S->lL K (upd H p o) d v S
 |.non,_,_,h,_=>h
 |.bl _,_,_,h,_=>h
 |.int _,_,_,h,_=>h
 |.str _,_,_,h,_=>h
 |.tup ds,_,_,z3,n=>by
   obtain⟨a,vs,e,t,r⟩:=z3;refine⟨a,vs,e,?_,cZ.upd hp ds r n⟩
   rcases t with t|t
   ·refine .inl ?_;rw[cL (λz=>hp vs (by rw[<-z];exact t))];exact t
   ·exact .inr t
 |.lst ds,_,_,z3,n=>by
   obtain⟨a,vs,S',e,t,r,q⟩:=z3;subst q;have c:a≠p:=λz=>n (z▸g7);exact⟨a,vs,S',e,(cL c).trans t,cZ.upd hp ds r (λm=>n (iE _ m)),rfl⟩
 |.dct _ ds,_,_,z3,n=>by
   obtain⟨a,k_,S',e,t,k,r,q⟩:=z3;subst q;have c:a≠p:=λz=>n (z▸g7);exact⟨a,k_,S',e,(cL c).trans t,k,cZ.upd hp ds r (λm=>n (iE _ m)),rfl⟩
 |.dcn _,_,_,z3,n=>by
   obtain⟨a,xs,e,t,r,q⟩:=z3;subst q;have c:a≠p:=λz=>n (z▸g7);refine⟨a,xs,e,(cL c).trans t,r.imp λb vs z=>?_,rfl⟩
   rcases z with z|z
   ·refine .inl ?_;rw[cL (λy=>hp vs (by rw[<-y];exact z))];exact z
   ·exact .inr z
theorem cZ.upd{K:Fg}(hp:∀vs,H p≠a_ (.tup vs)):∀(ds:List Dat){vs:List V}{S:List aI},cZ K H ds vs S->p∉S->cZ K (upd H p o) ds vs S
 |[],_,_,h,_=>h
 |d::ds,_,_,z3,n=>by
   obtain⟨v,r,c,g,e,h1,h2,q⟩:=z3;subst q;exact⟨v,r,c,g,e,lL.upd hp d h1 (λm=>n (aq _ m)),cZ.upd hp ds h2 (λm=>n (ag _ m)),rfl⟩
end
theorem cZ.length{K:Fg}:∀{ds:List Dat}{vs:List V}{S:List aI},cZ K H ds vs S->vs.length=ds.length
 |[],_,_,h=>by rw[h.1];rfl
 |d::ds,_,_,z3=>by obtain⟨v,r,c,g,e,_,h2,_⟩:=z3;rw[e,a8,a8,cZ.length h2]
theorem cZ.append{K:Fg}:∀{ds es:List Dat}{vs us:List V}{S T:List aI},cZ K H ds vs S->cZ K H es us T->cZ K H (ds++es) (vs++us) (S++T)
 |[],_,_,_,_,_,h,h'=>by rw[h.1,h.2];exact h'
 |d::ds,_,_,_,_,_,c,h'=>by obtain⟨v,r,g,j,e,h1,h2,q⟩:=c;subst e q;exact⟨v,r++_,g,j++_,rfl,h1,cZ.append h2 h',by rw[aE]⟩
def cZ.one{K:Fg}(h:lL K H d v S):cZ K H [d] [v] S:=⟨v,[],S,[],rfl,h,⟨rfl,rfl⟩,by simp⟩
abbrev St:=L2.St
abbrev iG:=List (Option Dat)
def mX(K:Fg)(F:Hp)(σ:St)(ρ:iG):Prop:=∀(i:Nat)d,ρ[i]?=a_ (a_ d)->∃v,σ[i]?=a_ (a_ v)/\Rep K F d v
def mX.mono{K:Fg}(s:bY F F')(h:mX K F σ ρ):mX K F' σ ρ:=λi d e=>let ⟨v,q1,q2⟩:=h i d e;⟨v,q1,q2.mono s⟩
def gD(K:Fg)(H H':Hp)(d:Dat)(v:V):Prop:=∃S:List aI,S.Nodup/\(∀a∈S,H a=b_)/\lL K H' d v S
def fB(K:Fg)(H H':Hp)(ds:List Dat)(vs:List V):Prop:=∃S:List aI,S.Nodup/\(∀a∈S,H a=b_)/\cZ K H' ds vs S
def gD.back{K:Fg}{F:Hp}(s:bY H0 H)(h:gD K H H' d v):gD K H0 H' d v:=by
 obtain⟨S,n,e,r⟩:=h;exact⟨S,n,λa m=>s.free (e a m),r⟩
def fB.back{K:Fg}{F:Hp}(s:bY H0 H)(h:fB K H H' ds vs):fB K H0 H' ds vs:=by
 obtain⟨S,n,e,r⟩:=h;exact⟨S,n,λa m=>s.free (e a m),r⟩
def gD.jY{K:Fg}(g:Good F H')(m:im d=c_)(r:Rep K F d v):gD K H H' d v:=⟨[],fh,(λa z=>by cases z),lL.jY g.sub d m r⟩
def fB.jY{K:Fg}(g:Good F H')(m:jL ds=c_)(r:cT K F ds vs):fB K H H' ds vs:=⟨[],fh,(λa z=>by cases z),cZ.jY g.sub ds m r⟩
def fB.cons{K:Fg}{H H1 H2:Hp}{d:Dat}{ds:List Dat}{v:V}{vs:List V}(s:bY H H1)(s':bY H1 H2)(h:gD K H H1 d v)(hs:fB K H1 H2 ds vs):fB K H H2 (d::ds) (v::vs):=by
 obtain⟨S,n,e,r⟩:=h;obtain⟨T,g,c,j⟩:=hs;refine⟨S++T,ck.mpr ⟨n,g,λa ha b hb z=>?_⟩,λa m=>?_,v,vs,S,T,rfl,r.mono s',j,rfl⟩
 ·subst z;obtain⟨o,ho,_⟩:=r.vA _ a ha;rw[c a hb]at ho;cases ho
 ·rcases ao.mp m with m|m
  ·exact e a m
  ·exact s.free (c a m)
def fB.snoc{K:Fg}(s:bY H H1)(s':bY H1 H2)(hs:fB K H H1 ds vs)(h:gD K H1 H2 d v):fB K H H2 (ds++[d]) (vs++[v]):=by
 obtain⟨S,n,e,r⟩:=hs;obtain⟨T,g,c,j⟩:=h;refine⟨S++T,ck.mpr ⟨n,g,λa ha b hb z=>?_⟩,λa m=>?_,(r.mono s').append (.one j)⟩
 ·subst z;obtain⟨o,ho,_⟩:=r.vA _ a ha;rw[c a hb]at ho;cases ho
 ·rcases ao.mp m with m|m
  ·exact e a m
  ·exact s.free (c a m)
def fB.mono{K:Fg}(s:bY H1 H')(h:fB K H H1 ds vs):fB K H H' ds vs:=by
 obtain⟨S,n,e,r⟩:=h;exact⟨S,n,e,r.mono s⟩
def fB.nil{K:Fg}:fB K H H1 [] []:=⟨[],fh,(λa z=>by cases z),rfl,rfl⟩
def gD.lst{K:Fg}(s:bY H H1)(hp:H1 p=b_)(h:fB K H H1 ds vs):gD K H (L2.upd H1 p (.lst vs)) (.lst ds) (.ref p):=by
 obtain⟨S,n,e,r⟩:=h;refine⟨p::S,aZ.mpr ⟨λm=>?_,n⟩,λa m=>?_,p,vs,S,rfl,cC,r.mono (bY.upd hp),rfl⟩
 ·obtain⟨o,ho,_⟩:=r.vA _ p m;rw[hp]at ho;cases ho
 ·rcases aw.mp m with rfl|m
  ·exact s.free hp
  ·exact e a m
def gD.tup{K:Fg}(hp:H1 p=b_)(h:fB K H H1 ds vs):gD K H (L2.upd H1 p (.tup vs)) (.tup ds) (.ref p):=by
 obtain⟨S,n,e,r⟩:=h;exact⟨S,n,e,p,vs,rfl,.inl cC,r.mono (bY.upd hp)⟩
def tE(K:Fg)(ρ:iG)(d:Dat)(fr:Bool):TE:=λσ H Q=>∃F,Good F H/\mX K F σ ρ/\∀v F' H',Step F H F' H'->Rep K F' d v->(fr=c_->gD K H H' d v)->Q v H'
def tEs(K:Fg)(ρ:iG)(ds:List Dat):TA:=λσ H Q=>∃F,Good F H/\mX K F σ ρ/\∀vs F' H',Step F H F' H'->cT K F' ds vs->Q vs H'
def tT(K:Fg)(ρ:iG)(b:Bool):TT:=λσ H Q=>∃F,Good F H/\mX K F σ ρ/\∀F' H',Step F H F' H'->Q b H'
def tFs(K:Fg)(ρ:iG)(ds:List Dat)(c:Bool):TA:=λσ H Q=>∃F,Good F H/\mX K F σ ρ/\∀vs F' H',Step F H F' H'->cT K F' ds vs->(c=c_->fB K H H' ds vs)->Q vs H'
def rD(K:Fg)(da c:Dat)(d:Dat)(fr:Bool):R2:=λx y H Q=>∃F,Good F H/\Rep K F da x/\Rep K F c y/\∀v F' H',Step F H F' H'->Rep K F' d v->(fr=c_->gD K H H' d v)->Q v H'
def rDs(K:Fg)(ds:List Dat)(d:Dat)(fr:Bool):List V->Hp->VK->Prop:=λxs H Q=>∃F,Good F H/\cT K F ds xs/\∀v F' H',Step F H F' H'->Rep K F' d v->(fr=c_->gD K H H' d v)->Q v H'
section
def PE.imp(h:PE X e t)(f:∀σ H Q,t' σ H Q->t σ H Q):PE X e t':=λh_ s σ H Q I q=>h h_ s σ H Q I (f _ _ _ q)
def PT.imp(h:PT X e t)(f:∀σ H Q,t' σ H Q->t σ H Q):PT X e t':=λh_ s σ H Q I q=>h h_ s σ H Q I (f _ _ _ q)
def PA.imp(h:PA X e t)(f:∀σ H Q,t' σ H Q->t σ H Q):PA X e t':=λp h_ s σ H Q I q=>h p h_ s σ H Q I (f _ _ _ q)
def PS.imp(h:PS X e t)(f:∀D σ H,t' D σ H->t D σ H):PS X e t':=λh_ s σ H D I q=>h h_ s σ H D I (f _ _ _ q)
def zz.imp(h:zz X e t)(f:∀D σ H,t' D σ H->t D σ H):zz X e t':=λh_ s σ H D I q=>h h_ s σ H D I (f _ _ _ q)
def jJ.imp(h:jJ X f r)(g:∀x y H Q,r' x y H Q->r x y H Q):jJ X f r':=λh_ s σ H x y v u Q I c d q=>h h_ s σ H x y v u Q I c d (g _ _ _ _ q)
end
end M
namespace L2
open PySem PySem.Spec PyProof.Rows
def BH(xs:Array Nat):Prop:=xs.toList.Pairwise (·< ·)
def BH.get(h:BH xs)(d:j<xs.size)(c:i<j):xs[i]'(cR c d)<xs[j]:=by
 have:=(dC.mp h) i j (by simpa using(by omega)) (by simpa using d) c;simpa using this
theorem DB(hs:BH xs):∀(fuel lo hi:Nat),lo<=hi->hi<=xs.size->hi - lo<=fuel->(∀i (h:i<xs.size),i<lo->xs[i]<j)->(∀i (h:i<xs.size),hi<=i->j<=xs[i])->
  kD xs j fuel lo hi<=xs.size/\(∀i(h:i<xs.size),i<kD xs j fuel lo hi->xs[i]<j)/\∀i(h:i<xs.size),kD xs j fuel lo hi<=i->j<=xs[i]
 |0,lo,hi,h1,h2,h3,g,h5=>by
   have e:lo=hi:=by omega
   subst e;exact⟨h2,g,h5⟩
 |fuel+1,lo,hi,h1,h2,h3,g,h5=>by
   simp only[kD];by_cases hl:lo<hi
   ·rw[if_pos hl];have k:(lo+hi) / 2<xs.size:=by omega
    have l:xs.getD ((lo+hi) / 2) j=xs[(lo+hi) / 2]:=by rw[di,aF k];rfl
    rw[l];by_cases d:xs[(lo+hi) / 2]<j
    ·rw[if_pos d];refine DB hs fuel _ hi (by omega) h2 (by omega) (λi h q=>?_) h5;by_cases c:i=(lo+hi) / 2
     ·subst c;exact d
     ·exact cR (hs.get k (by omega)) d
    ·rw[if_neg d];refine DB hs fuel lo _ (by omega) (bb k) (by omega) g (λi h q=>?_);by_cases c:(lo+hi) / 2=i
     ·subst c;exact bF d
     ·have:=hs.get h ((dX q c));exact bb (aa (n4 d) this)
   ·rw[if_neg hl];have e :=bA h1 (bF hl);subst e;exact⟨h2,g,h5⟩
def Lz(hs:BH xs)(j:Nat):aK xs j<=xs.size/\(∀i(h:i<xs.size),i<aK xs j->xs[i]<j)/\∀i(h:i<xs.size),aK xs j<=i->j<=xs[i]:=
 DB hs xs.size 0 xs.size (aR _) (au _) (by simp) (λi _ q=>absurd q (vX _)) (λi h q=>((aV h q)).elim)
def Lx(hs:BH xs):aK xs 0=0:=by
 obtain⟨h1,h2,_⟩:=Lz hs 0
 cases q:aK xs 0 with
 |zero=>rfl
 |succ n=>exact absurd (h2 0 (aa (aG (aR _) (ae q.symm)) h1) (aG (aR _) (ae q.symm))) (vX _)
def Ly(hs:BH xs)(hi:i<xs.size):aK xs (xs[i]+1)=i+1:=by
 obtain⟨h1,h2,h3⟩:=Lz hs (xs[i]+1)
 rcases mY (aK xs (xs[i]+1)) (i+1)with h|h|h
 ·have:=h3 i hi (bp h);omega
 ·exact h
 ·have a:=h2 (i+1) (aa h h1) h;have b:=hs.get (j:=i+1) (by omega) (au _);omega
def Nk(hs:BH xs)(D:xs[aK xs j]?≠a_ j):BH (cQ xs (aK xs j) j):=by
 obtain⟨h1,h2,h3⟩:=Lz hs j;unfold BH;rw[eT];have g :=hs;refine eh.mpr ⟨g.sublist (iP _ _),cv.mpr ⟨λy l=>?_,g.sublist (fx _ _)⟩,λx J y l=>?_⟩
 ·obtain⟨k,v,rfl⟩:=cH.mp l;have d:aK xs j+k<xs.size:=by simpa [B7]using(by simp at v;omega)
  have a:=h3 (aK xs j+k) d (aX _ _)
  have L:xs[aK xs j+k]≠j:=by
   intro e
   cases k with
   |zero=>exact D (by rw[aF (by simpa using d)];simpa using e)
   |succ k=>
     have b:=hs.get d ((bC (aX _ _)));have c:=h3 (aK xs j) (aG (aX _ _) d) (au _);exact aV b (aa (ae e) c)
  have:j<xs[aK xs j+k]:=by omega
  simpa using this
 ·obtain⟨k,v,rfl⟩:=cH.mp J;rw[List.getElem_take];have q:k<aK xs j:=by simp at v;exact aa v (gm _ _)
  have a:=h2 k (aa q h1) q;have B:xs.toList[k]'(by simp;omega)<j:=by simpa using a
  rcases aw.mp l with rfl|l
  ·exact B
  ·obtain⟨m,M,rfl⟩:=cH.mp l;rw[List.getElem_drop];have z:aK xs j+m<xs.size:=by simp at M;omega
   have b:=h3 (aK xs j+m) z (aX _ _);have O:j<=xs.toList[aK xs j+m]'(by omega):=by simpa using b
   exact aa B O
structure pK(led:Bool)(t:bB):Prop where
 d:t.dummies=#[]
 r:BH t.place
 l:t.led=led
def GP(n:Nat):BH (Array.range n):=by
 unfold BH;rw[Array.toList_range];exact oj
def pK.fresh(led:Bool):pK led (.fresh 0 0 led):=⟨rfl,by exact oy,rfl⟩
def pK.qq(h:pK led t)(n:Nat):pK led (t.standIn n):=⟨rfl,GP n,h.l⟩
def pK.off(h:pK led t):pK led { t with plain:=d_ }:=⟨h.d,h.r,h.l⟩
def E9(j:Nat):wo #[] j=d_:=by simp[wo]
def uC{t:bB}(hd:t.dummies=#[])(h:t.slot j=.empty):t.place[aK t.place j]?≠a_ j:=by
 intro e;unfold lN at h;simp only[e,beq_self_eq_true,if_true]at h;cases h
def k7{t:bB}(hd:t.dummies=#[])(h:t.slot j=.dummy):False:=by
 unfold lN at h;rw[hd,E9]at h;dsimp only at h;split at h
 ·cases h
 ·simp at h
def sv{t:bB}{p:bG}(h:p.dummy=b_):(t.advance p).dummy=b_:=by
 unfold dR;split
 ·exact h
 ·exact h
theorem uM{t:bB}(hd:t.dummies=#[]):∀(fuel:Nat) (p:bG) {j:Nat} {d:Option Nat},p.dummy=b_->bQ t ha hh fuel p=a_ (.empty j d)->
  d=b_/\t.place[aK t.place j]?≠a_ j
 |0,_,_,_,_,h=>by cases h
 |fuel+1,p,j,d,hp,h=>by
   simp only[bQ]at h
   cases q:t.slot p.j with
   |empty=>
     rw[q]at h
     injection h with h
     injection h with h1 h2
     subst h1;subst h2;exact⟨hp,uC hd q⟩
   |dummy=>exact(k7 hd q).elim
   |live i=>
     rw[q]at h;dsimp only at h;split at h
     ·injection h with h;cases h
     ·exact uM hd fuel _ (sv hp) h
set_option tactic.hygienic true
def OG{t:bB}(hd:t.dummies=#[])(h:t.freeSlot hh=a_ (j,b)):t.place[aK t.place j]?≠a_ j:=by
 unfold SetTable.freeSlot at h;split at h
 ·rename_i j' d c;have:=uM hd _ _ (by rfl) c;obtain⟨e1,e2⟩:=this;subst e1
  injection h with h
  injection h with h1 h2
  subst h1;exact e2
 ·cases h
def pK.put(h:pK led t)(c:t.place[aK t.place j]?≠a_ j):pK led (t.put j).1:=by
 refine⟨?_,Nk h.r c,h.l⟩;show(if wo t.dummies j then _ else t.dummies)=_;rw[h.d];rfl
def pK.or(h:pK led t)(n:Nat):pK led (t.orStandIn n):=by
 unfold SetTable.orStandIn;split
 ·exact h
 ·exact h.qq n
def pK.lay(h:pK led t)(es:Array (Int×ah))(hh:Int)(x:ah):pK led (layNew t es hh x).2.1:=by
 unfold layNew;split
 ·rename_i j b c;exact(h.put (OG h.d c)).or _
 ·exact h.qq _
def pK.laid{hs:Array Int}(h:lO mask f m led pl hs=a_ (t,o)):pK led t:=by
 unfold lO at h;simp only[B5,yj]at h;obtain⟨ow,h1,h⟩:=h
 injection h with h
 injection h with h2 h3
 subst h2;refine⟨rfl,?_,rfl⟩;show(Pq _ _).toArray.toList.Pairwise _;rw[fu,zH];refine oz ?_ oj;intro a b d x g y j;obtain⟨c,_,rfl⟩:=eD g;obtain⟨e,_,rfl⟩:=eD j;exact d
def pK.V3(h:pK led t)(es:Array (Int×ah))(n:Nat):pK led (relayAll t es n).2.1:=by
 unfold relayAll;split
 ·rename_i t' o c;dsimp only;split
  ·unfold F6 at c;rw[h.l]at c;exact pK.laid c
  ·exact h.qq _
 ·exact h.qq _
set_option tactic.hygienic false
end L2
namespace L2
open PySem
noncomputable def tG(mask:Nat):Nat->Nat->Nat->Nat×Nat
 |0,i,p=>(i,p)
 |n+1,i,p=>tG mask n (ic mask i p).1 (ic mask i p).2
theorem t8(mask:Nat):∀(a b i p:Nat),tG mask (a+b) i p=tG mask b (tG mask a i p).1 (tG mask a i p).2
 |0,b,i,p=>by rw[gG];rfl
 |a+1,b,i,p=>by rw[(jy _ _ _)];exact t8 mask a b _ _
theorem vb(mask:Nat):∀(n i p:Nat),(tG mask n i p).2=p / 32 ^ n
 |0,i,p=>by simp[tG]
 |n+1,i,p=>by
   rw[tG,vb mask n,ic,Nat.div_div_eq_div_mul,Nat.pow_succ,Nat.mul_comm]
theorem Ka(mask:Nat):∀(n i p:Nat),i<mask+1->(tG mask n i p).1<mask+1
 |0,i,p,h=>h
 |n+1,i,p,h=>Ka mask n _ _ (jx _ (by simp))
noncomputable def XO(mask:Nat):Nat->Nat->List Nat
 |0,i=>[i]
 |n+1,i=>i::XO mask n ((i * 5+1) % (mask+1))
theorem ED(mask:Nat):∀(n i j:Nat),j∈XO mask n i->∃m,m<=n/\(tG mask m i 0).1=j
 |0,i,j,h=>by
   simp[XO]at h;exact⟨0,by simp,h.symm⟩
 |n+1,i,j,h=>by
   rcases aw.mp h with h|h
   ·exact⟨0,aR _,h.symm⟩
   ·obtain⟨m,c,e⟩:=ED mask n _ j h;refine⟨m+1,bC c,?_⟩;rw[tG];simpa [ic]using e
def Lc(mask:Nat):Bool:=(aT (mask+1)).all λj=>(XO mask mask 0).any λx=>Nat.beq x j
def Za:Lc 7=c_:=by decide +kernel
def Xc:Lc 31=c_:=by decide +kernel
def Ur:Lc 127=c_:=by decide +kernel
def Uq:Lc 511=c_:=by decide +kernel
def YA:(tG 7 8 0 0).1=0:=by decide +kernel
def Wj:(tG 31 32 0 0).1=0:=by decide +kernel
def RZ:(tG 127 128 0 0).1=0:=by decide +kernel
def RY:(tG 511 512 0 0).1=0:=by decide +kernel
def Lb(h:mask=7\/mask=31\/mask=127\/mask=511):Lc mask=c_/\(tG mask (mask+1) 0 0).1=0:=by
 rcases h with rfl|rfl|rfl|rfl
 ·exact⟨Za,YA⟩
 ·exact⟨Xc,Wj⟩
 ·exact⟨Ur,RZ⟩
 ·exact⟨Uq,RY⟩
def Gg(mask n i:Nat):(tG mask n i 0).2=0:=by rw[vb,Nat.zero_div]
def va(mask a b i:Nat):(tG mask (a+b) i 0).1=(tG mask b (tG mask a i 0).1 0).1:=by rw[t8,Gg]
def Qh(h:mask=7\/mask=31\/mask=127\/mask=511)(c:j<mask+1):∃n,n<=mask/\(tG mask n 0 0).1=j:=by
 have:=bo.mp (Lb h).1 j (bf.mpr c);obtain⟨x,d,e⟩:=tS.mp this;have e:=Nat.eq_of_beq_eq_true e;subst e;exact ED mask mask 0 x d
def EV(h:mask=7\/mask=31\/mask=127\/mask=511)(hi:i<mask+1)(hp:p<2 ^ 64)(q:j<mask+1):∃n,n<=mask+13/\(tG mask n i p).1=j:=by
 have c:(tG mask 13 i p).2=0:=by
  rw[vb];exact Nat.div_eq_of_lt (aa hp (by decide))
 have hl:=Ka mask 13 i p hi;obtain⟨a,ha,k⟩:=Qh h hl;obtain⟨b,hb,l⟩:=Qh h q;have d:=(Lb h).2;by_cases g:a<=b
 ·refine⟨13+(b - a),by omega,?_⟩;rw[t8,c,<-k,<-va,(eN g)];exact l
 ·refine⟨13+(mask+1 - a+b),by omega,?_⟩;rw[t8,c,<-k,<-va,show a+(mask+1 - a+b)=(mask+1)+b by omega,va,d];exact l
structure xZ(t:bB)(p:bG):Prop where
 j:p.j=p.i
 m:p.more=dJ t.mask p.i - p.i
 d:p.dummy=b_
def uI(h:xZ t p):p.more<=9:=by
 rw[h.m];unfold dJ;split<;>simp
set_option tactic.hygienic true
theorem yN{t:bB}(hd:t.dummies=#[]):∀(k f:Nat) (p:bG),p.more=k->p.dummy=b_->bQ t ha hh (k+1+f) p=b_->
  t.slot p.j≠.empty/\∃q:bG,bQ t ha hh f q=b_/\xZ t q/\q.i=(ic t.mask p.i p.perturb).1/\q.perturb=(ic t.mask p.i p.perturb).2
 |0,f,p,c,hp,h=>by
   rw[(B7 _ _),bQ]at h
   cases hs:t.slot p.j with
   |empty=>rw[hs]at h;cases h
   |dummy=>exact(k7 hd hs).elim
   |live i=>
     rw[hs]at h;dsimp only at h;split at h
     ·cases h
     rename_i d;refine⟨by simp,_,h,?_,?_,?_⟩
     ·unfold dR;rw[if_neg (λz=>(aV z (ae c)))];exact⟨rfl,rfl,hp⟩
     ·unfold dR;rw[if_neg (by omega)]
     ·unfold dR;rw[if_neg (by omega)]
 |k+1,f,p,c,hp,h=>by
   rw[(jy _ _ _),bQ]at h
   cases hs:t.slot p.j with
   |empty=>rw[hs]at h;cases h
   |dummy=>exact(k7 hd hs).elim
   |live i=>
     rw[hs]at h;dsimp only at h;split at h
     ·cases h
     rename_i d;have e:t.advance p={ p with j:=p.j+1,more:=p.more - 1 }:=by unfold dR;rw[if_pos (aG (aR _) (ae c.symm))]
     rw[e]at h;obtain⟨_,q,h1,h2,h3,g⟩:=yN hd k f { p with j:=p.j+1,more:=p.more - 1 } (by show p.more - 1=k;omega) hp h;exact⟨by simp,q,h1,h2,h3,g⟩
theorem ua:∀(f g:Nat)(p:bG),bQ t ha hh (f+g) p=b_->bQ t ha hh f p=b_
 |0,g,p,h=>rfl
 |f+1,g,p,h=>by
   rw[show f+1+g=(f+g)+1 by omega,bQ]at h;rw[bQ]
   cases hs:t.slot p.j with
   |empty=>rw[hs]at h;cases h
   |dummy=>rw[hs]at h;exact ua f g _ h
   |live i=>
     rw[hs]at h;simp only at h ⊢;split
     ·rename_i q;rw[if_pos q]at h;cases h
     ·rename_i q;rw[if_neg q]at h;exact ua f g _ h
set_option tactic.hygienic false
theorem AW{t:bB}(hd:t.dummies=#[]):∀(m:Nat)(p:bG),xZ t p->bQ t ha hh (10 * (m+1)) p=b_->∀n≤m,t.slot (tG t.mask n p.i p.perturb).1≠.empty
 |m,p,hp,h,0,_=>by
   have g:=uI hp;obtain⟨h1,_⟩:=yN hd p.more (10 * (m+1) - (p.more+1)) p rfl hp.d (by rw[show p.more+1+(10 * (m+1) - (p.more+1))=10 * (m+1)from(eN (bC (Nat.le_add_left_of_le g)))];exact h);rw[hp.j]at h1;exact h1
 |0,p,hp,h,n+1,c=>(λz=>(aV c (aR _)))
 |m+1,p,hp,h,n+1,c=>by
   have g:=uI hp;obtain⟨_,q,h1,h2,h3,k⟩:=yN hd p.more (10 * (m+1+1) - (p.more+1)) p rfl hp.d (by rw[show p.more+1+(10 * (m+1+1) - (p.more+1))=10 * (m+1+1) by omega];exact h);have h5:=ua (10 * (m+1)) (9 - p.more) q (by rw[show 10 * (m+1)+(9 - p.more)=10 * (m+1+1) - (p.more+1) by omega];exact h1);have:=AW hd m q h2 h5 n (bp c);rw[h3,k]at this;exact this
def wR(t:bB)(h:Int):xZ t (t.probeStart h):=⟨rfl,rfl,rfl⟩
structure vI(t:bB)(p:bG):Prop where
 m:p.more<=9
 i:p.i<t.mask+1
 q:p.perturb<2 ^ 64
 d:p.dummy=b_
def wQ(t:bB)(h:Int):vI t (t.probeStart h):=
 ⟨uI (wR t h),jx _ (by simp),by show eF h<_;unfold eF;omega,rfl⟩
def vI.Zm(h:vI t p):vI t (t.advance p):=by
 have c:=h.m;have g:=h.q;unfold dR;split
 ·exact⟨by exact aa (yk _ _) c,h.i,h.q,h.d⟩
 ·refine⟨?_,jx _ (by simp),?_,h.d⟩
  ·show dJ t.mask _ - _<=9;unfold dJ;split<;>simp
  ·exact aG (Nat.div_le_self _ _) g
def sO{t:bB}(c:t.mask=7\/t.mask=31\/t.mask=127\/t.mask=511)(hd:t.dummies=#[])(hp:vI t p)(g:j<t.mask+1)(he:t.slot j=.empty) :
  ∃m,t.probe ha hh p=a_ m:=by
 cases q:t.probe ha hh p with
 |some m=>exact⟨m,rfl⟩
 |none=>
   exfalso;have l:=hp.m;have v:=hp.q;obtain⟨_,r,h1,h2,h3,k⟩:=yN hd p.more (10 * (t.mask+15) - (p.more+1)) p rfl hp.d (by rw[show p.more+1+(10 * (t.mask+15) - (p.more+1))=10 * (t.mask+15) by omega];exact q);have h5:=ua (10 * (t.mask+14)) (9 - p.more) r (by rw[show 10 * (t.mask+14)+(9 - p.more)=10 * (t.mask+15) - (p.more+1) by omega];exact h1);obtain⟨n,e1,e2⟩:=EV c (i:=r.i) (p:=r.perturb) (by rw[h3];exact jx _ (by simp)) (by rw[k];show p.perturb / 32<2 ^ 64;omega) g;have:=AW hd (t.mask+13) r h2 h5 n e1;rw[e2]at this;exact this he
noncomputable def way(t:bB):Nat->bG->bG
 |0,p=>p
 |n+1,p=>way t n (t.advance p)
theorem kO(t:bB):∀(a b:Nat)(p:bG),way t (a+b) p=way t b (way t a p)
 |0,b,p=>by rw[gG];rfl
 |a+1,b,p=>by rw[show a+1+b=(a+b)+1 by omega];exact kO t a b _
theorem Ii:∀(n:Nat){p:bG},vI t p->vI t (way t n p)
 |0,p,h=>h
 |n+1,p,h=>Ii n h.Zm
set_option tactic.hygienic true
theorem wX{t:bB}(hd:t.dummies=#[]):∀(fuel:Nat) (p:bG) {m:LM},p.dummy=b_->bQ t ha hh fuel p=a_ m->
  ∃n,(∀k<n,∃i,t.slot (way t k p).j=.live i/\ha i≠hh)/\((m=.empty (way t n p).j b_/\t.slot (way t n p).j=.empty)\/∃i,m=.candidate (way t n p).j i (way t (n+1) p)/\t.slot (way t n p).j=.live i/\ha i=hh)
 |0,p,m,_,h=>by cases h
 |fuel+1,p,m,hp,h=>by
   rw[bQ]at h
   cases hs:t.slot p.j with
   |empty=>
     rw[hs]at h
     injection h with h
     exact⟨0,λk c=>((aV c (aR _))).elim,.inl ⟨by rw[<-h,hp];rfl,hs⟩⟩
   |dummy=>exact(k7 hd hs).elim
   |live i=>
     rw[hs]at h;dsimp only at h;split at h
     ·rename_i e
      injection h with h
      exact⟨0,λk c=>by omega,.inr ⟨i,h.symm,hs,by simpa using e⟩⟩
     ·rename_i e;obtain⟨n,h1,h2⟩:=wX hd fuel _ (sv hp) h;refine⟨n+1,λk c=>?_,h2⟩
      cases k with
      |zero=>exact⟨i,hs,by simpa using e⟩
      |succ k=>exact h1 k (bp c)
def NV(hs:BH xs)(h:j∈xs.toList):xs[aK xs j]?=a_ j:=by
 obtain⟨i,hi,e⟩:=cH.mp h;have c:i<xs.size:=by simpa using hi
 have d:xs[i]=j:=by simpa using e
 obtain⟨h1,h2,h3⟩:=Lz hs j
 have hb:aK xs j<=i:=by
  rcases iu i (aK xs j)with hl|hl
  ·have:=h2 i c hl;exact((aV this (ae d.symm))).elim
  ·exact hl
 have g:aK xs j=i:=by
  rcases iu (aK xs j) i with hl|hl
  ·have a:=hs.get c hl;have b:=h3 (aK xs j) (aG hb c) (au _);exact((aV a (aa (ae d) b))).elim
  ·exact bA hb hl
 rw[g,aF c,d]
def zU{t:bB}(c:BH t.place)(h:j∈t.place.toList):t.slot j=.live (aK t.place j):=by
 unfold lN;simp only[NV c h,beq_self_eq_true,if_true]
def JM{t:bB}(hd:t.dummies=#[])(h:t.slot j≠.empty):j∈t.place.toList:=by
 unfold lN at h;dsimp only at h;split at h
 ·rename_i e;have e:t.place[aK t.place j]?=a_ j:=by simpa using e
  obtain⟨hi,e2⟩:=bR.mp e;exact cH.mpr ⟨_,by simpa using hi,by simpa using e2⟩
 ·rw[hd,E9]at h;simp at h
def Oi{t:bB}(h:t.slot j=.live i):t.place[i]?=a_ j:=by
 unfold lN at h;dsimp only at h;split at h
 ·rename_i e
  injection h with h
  rw[<-h];simpa using e
 ·split at h<;>cases h
set_option tactic.hygienic false
def LF{t t':bB}(h:t.mask=t'.mask)(p:bG):t.advance p=t'.advance p:=by
 unfold dR;rw[h]
theorem oB{t t':bB}(h:t.mask=t'.mask):∀(n:Nat)(p:bG),way t n p=way t' n p
 |0,p=>rfl
 |n+1,p=>by rw[way,way,LF h,oB h n]
def uy{t t':bB}(h:t.mask=t'.mask)(x:Int):t.probeStart x=t'.probeStart x:=by
 unfold SetTable.probeStart;rw[h]
def mU(t:bB)(x:Int)(j:Nat):Prop:=∃n,(way t n (t.probeStart x)).j=j/\∀k<n,(way t k (t.probeStart x)).j∈t.place.toList
def mU.mono{t t':bB}(h:t.mask=t'.mask)(hs:∀j∈t.place.toList,j∈t'.place.toList)(y:mU t x j):mU t' x j:=by
 obtain⟨n,h1,h2⟩:=y;refine⟨n,?_,λk c=>?_⟩
 ·rw[<-uy h,<-oB h];exact h1
 ·rw[<-uy h,<-oB h];exact hs _ (h2 k c)
def EO{t:bB}:a∈(t.put j).1.place.toList↔a=j\/a∈t.place.toList:=by
 show a∈(cQ t.place _ j).toList↔_;rw[eT];have e:=aY (aK t.place j) t.place.toList;constructor
 ·intro h
  rcases ao.mp h with h|h
  ·exact .inr (bS h)
  ·rcases aw.mp h with h|h
   ·exact .inl h
   ·exact .inr (du h)
 ·rintro(h|h)
  ·rw[h];exact ao.mpr (.inr g7)
  ·rw[<-e]at h
   rcases ao.mp h with h|h
   ·exact ao.mpr (.inl h)
   ·exact ao.mpr (.inr (iE _ h))
def mU.new(h:∀k<n,(way t k (t.probeStart x)).j∈t.place.toList):mU (t.put (way t n (t.probeStart x)).j).1 x (way t n (t.probeStart x)).j:=by
 have y:mU t x (way t n (t.probeStart x)).j:=⟨n,rfl,h⟩
 exact mU.mono (t:=t) (t':=(t.put (way t n (t.probeStart x)).j).1) rfl (λj c=>EO.mpr (.inr c)) y
def Pf(t:bB)(p:bG):Prop:=p.j+p.more<=t.mask
def IY(h:i<mask+1):i+(dJ mask i - i)<=mask:=by
 unfold dJ;split<;>omega
def Pf.start(t:bB)(x:Int):Pf t (t.probeStart x):=IY (jx _ (by omega))
def Pf.Zm(h:Pf t p):Pf t (t.advance p):=by
 unfold Pf at h ⊢;unfold dR;split
 ·show p.j+1+(p.more - 1)<=_;omega
 ·exact IY (jx _ (by omega))
theorem Ij:∀(n:Nat){p:bG},Pf t p->Pf t (way t n p)
 |0,p,h=>h
 |n+1,p,h=>Ij n h.Zm
def Cb(n:Nat)(x:Int):(way t n (t.probeStart x)).j<=t.mask:=by
 have:=Ij n (Pf.start t x);exact aa (aX _ _) this
theorem qm:∀(k:Nat)(p:bG),k<=p.more->way t k p={ p with j:=p.j+k,more:=p.more - k }
 |0,p,h=>rfl
 |k+1,p,h=>by
   rw[way];have e:t.advance p={ p with j:=p.j+1,more:=p.more - 1 }:=by unfold dR;rw[if_pos (aG (aR _) h)]
   rw[e,qm k _ (by exact pT h)];rw[show p.j+1+k=p.j+(k+1)from(jy _ _ _),show p.more - 1 - k=p.more - (k+1) by omega]
noncomputable abbrev BU(ow:Array (Option Nat))(j:Nat):Bool:=(ow.getD j (a_ 0)).isSome
set_option tactic.hygienic true
theorem A5{ow:Array (Option Nat)}:∀(fuel:Nat) (p:bG) {j:Nat},xZ t p->c9 t.mask ow fuel p.i p.perturb=a_ j->
  ∃n,(way t n p).j=j/\(∀k<n,BU ow (way t k p).j=c_)/\ow.getD j (a_ 0)=b_
 |0,p,j,_,h=>by cases h
 |fuel+1,p,j,hp,h=>by
   have g:p.i<=dJ t.mask p.i:=by unfold dJ;split<;>simp
   have l:dJ t.mask p.i+1 - p.i=p.more+1:=by rw[hp.m];exact Nat.sub_add_comm g
   rw[c9,l]at h;split at h
   ·rename_i k c
    injection h with h
    subst h;obtain⟨h1,h2,h3⟩:=List.find?_range_eq_some.mp c;have h2 :=bf.mp h2;refine⟨k,?_,λm q=>?_,by simpa using h1⟩
    ·rw[qm k p (bp h2)];rw[hp.j]
    ·rw[qm m p (bp (cR q h2))];have:=h3 m q;rw[hp.j];simpa [BU,eQ,lR]using this
   ·rename_i c;have c:=zw.mp c;have v:way t (p.more+1) p=t.advance (way t p.more p):=by rw[kO];rfl
    have y:=qm (t:=t) p.more p (au _)
    have B:xZ t (way t (p.more+1) p)/\(way t (p.more+1) p).i=(ic t.mask p.i p.perturb).1/\(way t (p.more+1) p).perturb=(ic t.mask p.i p.perturb).2:=by
     rw[v,y];unfold dR;rw[if_neg (by exact λz=>(j2 z (iq _)))];exact⟨⟨rfl,rfl,hp.d⟩,rfl,rfl⟩
    obtain⟨D,J,L⟩:=B;dsimp only at h;rw[<-J,<-L]at h;obtain⟨n,M,O,R⟩:=A5 fuel _ D h;refine⟨p.more+1+n,by rw[kO];exact M,λk U=>?_,R⟩
    rcases iu k (p.more+1)with hl|hl
    ·rw[qm k p (bp hl)];have:=c k hl;rw[hp.j];simpa [BU,eQ,lR]using this
    ·have:=O (k - (p.more+1)) (by omega);rw[<-kO,(eN hl)]at this;exact this
def LI(t:bB)(ow:Array (Option Nat))(x:Int)(j:Nat):Prop:=∃n,(way t n (t.probeStart x)).j=j/\∀k<n,BU ow (way t k (t.probeStart x)).j=c_
structure Lay(t:bB)(hs:List Int)(ow:Array (Option Nat))(c:Nat):Prop where
 sz:ow.size=t.mask+1
 st:∀j k:Nat,ow[j]?=a_ (a_ k)->k<c/\LI t ow (hs.getD k 0) j
 ex:∀k<c,∃j:Nat,ow[j]?=a_ (a_ k)
 un:∀j j' k:Nat,ow[j]?=a_ (a_ k)->ow[j']?=a_ (a_ k)->j=j'
def getD_none{ow:Array (Option Nat)}(h:ow.getD j (a_ 0)=b_):ow[j]?=a_ b_:=by
 unfold v3 at h;split at h
 ·rename_i hl;rw[aF hl];exact congrArg a_ h
 ·cases h
def SH{ow:Array (Option Nat)}(h:BU ow a=c_):BU (ow.setIfInBounds j (a_ c)) a=c_:=by
 unfold BU v3 at h ⊢;by_cases ha:a<ow.size
 ·rw[dif_pos ha]at h;rw[dif_pos (by simpa using ha)];by_cases e:j=a
  ·subst e;simp
  ·show((ow.setIfInBounds j (a_ c))[a]'(by simpa using ha)).isSome=c_;rw[Array.getElem_setIfInBounds_ne ha e];exact h
 ·rw[dif_neg (by simpa using ha)];rfl
def LI.set{ow:Array (Option Nat)}(h:LI t ow x a):LI t (ow.setIfInBounds j (a_ c)) x a:=
 let ⟨n,h1,h2⟩:=h
 ⟨n,h1,λk d=>SH (h2 k d)⟩
def get_set{ow:Array (Option Nat)}(d:j<ow.size):(ow.setIfInBounds j (a_ c))[a]?=if j=a then a_ (a_ c)else ow[a]? :=by
 rw[Array.getElem?_setIfInBounds];split
 ·rename_i e;first|rfl|rw[if_pos d]
 ·rfl
def Lay.step{hs:List Int}{ow:Array (Option Nat)}(y:Lay t hs ow c)(h:c9 t.mask ow (kT t.mask) (eF (hs.getD c 0) % (t.mask+1)) (eF (hs.getD c 0))=a_ j):Lay t hs (ow.setIfInBounds j (a_ c)) (c+1):=by
 obtain⟨n,h1,h2,h3⟩:=A5 _ (t.probeStart (hs.getD c 0)) (wR t _) h;have h3:=getD_none h3;have g :=(bR.mp h3).1;refine⟨by simpa using y.sz,λa k ha=>?_,λk v=>?_,λa l k ha d=>?_⟩
 ·rw[get_set g]at ha;split at ha
  ·rename_i e;subst e
   injection ha with ha
   injection ha with ha
   subst ha;exact⟨au _,LI.set ⟨n,h1,h2⟩⟩
  ·obtain⟨z,B⟩:=y.st a k ha;exact⟨bW z,B.set⟩
 ·rcases iu k c with hl|hl
  ·obtain⟨a,ha⟩:=y.ex k hl;refine⟨a,?_⟩;rw[get_set g,if_neg (λe=>by subst e;rw[h3]at ha;cases ha)];exact ha
  ·refine⟨j,?_⟩;rw[get_set g,if_pos rfl,(bA (bp v) hl)]
 ·rw[get_set g]at ha d;split at ha<;>split at d
  ·rename_i e q;exact bA (aa (ae e.symm) (ae q)) (aa (ae q.symm) (ae e))
  ·injection ha with ha
   injection ha with ha
   have:=(y.st l k d).1;exact((aV this (ae ha))).elim
  ·injection d with d
   injection d with d
   have:=(y.st a k ha).1;omega
  ·exact y.un a l k ha d
theorem xE{ow:Array (Option Nat)}:∀(fuel i p:Nat),c9 mask ow fuel i p=b_->∀n<fuel,BU ow (tG mask n i p).1=c_
 |0,i,p,h,n,d=>by omega
 |fuel+1,i,p,h,n,d=>by
   have g:i<=dJ mask i:=by unfold dJ;split<;>simp
   rw[c9]at h;split at h
   ·cases h
   ·rename_i c;have c:=zw.mp c
    cases n with
    |zero=>
      have:=c 0 (by omega);show BU ow i=c_;simpa [BU,eQ,lR]using this
    |succ n=>exact xE fuel _ _ h n (bp d)
set_option tactic.hygienic false
def OH(c:mask=7\/mask=31\/mask=127\/mask=511){ow:Array (Option Nat)}(d:j<mask+1)(he:BU ow j=d_):∃a,c9 mask ow (kT mask) (eF x % (mask+1)) (eF x)=a_ a:=by
 cases q:c9 mask ow (kT mask) (eF x % (mask+1)) (eF x)with
 |some a=>exact⟨a,rfl⟩
 |none=>
   exfalso;obtain⟨n,h1,h2⟩:=EV c (p:=eF x) (jx _ (by omega)) (by unfold eF;omega) d;have:=xE _ _ _ q n (by exact bW (bC h1));rw[h2,he]at this;cases this
def JO{l:List Nat}(d:l.Nodup)(h:∀x∈l,x<c):l.length<=c:=by
 have hl:((aT c).filter λx=>decide (x∈l)).Nodup:=zx Ge fO
 have hp:l.Perm ((aT c).filter λx=>decide (x∈l)):=by
  rw[fS d hl];intro x;rw[bJ];simp only[decide_eq_true_eq,bf];exact⟨λq=>⟨h x q,q⟩,λq=>q.2⟩
 rw[hp.length_eq];exact aa (df _ _) (by rw[a9];exact au _)
def EF{ow:Array (Option Nat)}(c:j<ow.size)(h:BU ow j=c_):∃k,ow[j]?=a_ (a_ k):=by
 unfold BU v3 at h;rw[dif_pos c]at h;obtain⟨k,d⟩:=mF.mp h;exact⟨k,by rw[aF c];exact congrArg a_ d⟩
def Lay.room{hs:List Int}{ow:Array (Option Nat)}(y:Lay t hs ow c)(hc:c<t.mask+1):∃j,j<t.mask+1/\BU ow j=d_:=by
 rcases Ie (∃j,j<t.mask+1/\BU ow j=d_)with h|h
 ·exact h
 ·exfalso
  have l:∀j,j<t.mask+1->∃k:Nat,ow[j]?=a_ (a_ k):=λj g=>EF (by rw[y.sz];exact g) (by
   cases q:BU ow j with
   |true=>rfl
   |false=>exact absurd ⟨j,g,q⟩ h)
  have v:∀j,j<t.mask+1->ow[j]?=a_ (a_ ((ow.getD j b_).getD 0)):=λj g=>by
   obtain⟨k,e⟩:=l j g;have:ow.getD j b_=a_ k:=by rw[di,e];rfl
   rw[this];exact e
  have B:((aT (t.mask+1)).map λj=>(ow.getD j b_).getD 0).Nodup:=by
   refine List.Pairwise.map _ (R:=λa b=>a∈aT (t.mask+1)/\b∈aT (t.mask+1)/\a≠b) ?_ ?_
   ·rintro a b ⟨ha,hb,d⟩ e;have z:=v a (bf.mp ha);have D:=v b (bf.mp hb);rw[e]at z;exact d (y.un _ _ _ z D)
   ·exact iQ (λha hb d=>⟨ha,hb,d⟩) fO
  have:=JO B (λx J=>by
   obtain⟨j,g,rfl⟩:=cg.mp J
   exact(y.st j _ (v j (bf.mp g))).1)
  rw[ai,a9]at this;exact aV hc this
noncomputable def AH(mask:Nat)(c:Option (Array (Option Nat)×Nat))(h:Int):Option (Array (Option Nat)×Nat):=do
 let (owner,k) <-c;let j <-c9 mask owner (kT mask) (eF h % (mask+1)) (eF h)
 pure (owner.setIfInBounds j (a_ k),k+1)
theorem AK{t:bB}(g:t.mask=7\/t.mask=31\/t.mask=127\/t.mask=511){hs:List Int}(hl:hs.length<=t.mask):∀(rest pre:List Int)(ow:Array (Option Nat)),hs=pre++rest->Lay t hs ow pre.length->∃c,rest.foldl (AH t.mask) (a_ (ow,pre.length))=a_ (c,hs.length)/\Lay t hs c hs.length
 | [],pre,ow,e,y=>⟨ow,by rw[e,aM];rfl,by have:hs.length=pre.length:=by rw[e,aM]
                                         rw[this];exact y⟩
 |x::rest,pre,ow,e,y=>by
   have hlen:pre.length<hs.length:=by rw[e];simp
   obtain⟨q,h1,h2⟩:=y.room (bW (aa hlen hl));have j:hs.getD pre.length 0=x:=by rw[e];simp
   obtain⟨a,ha⟩:=OH g h1 h2;have d:=y.step (by rw[j];exact ha);obtain⟨c,k,l⟩:=AK g hl rest (pre++[x]) _ (by rw[e,aE];rfl) (by rw[az];exact d);refine⟨c,?_,l⟩;rw[Mq]
   have:AH t.mask (a_ (ow,pre.length)) x=a_ (ow.setIfInBounds a (a_ pre.length),(pre++[x]).length):=by
    unfold AH;simp only[B5,bw,ha,az,a8,kU];rfl
   rw[this];exact k
def Jf{n j k:Nat}(h:(oo n (b_:Option Nat))[j]?=a_ (a_ k)):False:=by
 rw[Array.getElem?_replicate]at h;split at h
 ·injection h with h;cases h
 ·cases h
def Lay.nil(t:bB)(hs:List Int):Lay t hs (oo (t.mask+1) b_) 0:=
 ⟨by simp,λj k h=>(Jf h).elim,λk c=>by omega,λj j' k h _=>(Jf h).elim⟩
def Ol{t:bB}(d:t.mask=7\/t.mask=31\/t.mask=127\/t.mask=511){hs:Array Int}(hl:hs.size<=t.mask):∃ow,B1 t.mask hs=a_ ow/\Lay t hs.toList ow hs.size:=by
 obtain⟨ow,h1,h2⟩:=AK d (by simpa using hl) hs.toList [] _ rfl (Lay.nil t _);refine⟨ow,?_,by simpa using h2⟩;unfold B1;rw[<-Array.foldl_toList]
 have e:(hs.toList.foldl (AH t.mask) (a_ (oo (t.mask+1) b_,0))).map (·.1)=a_ ow:=by
  have c:hs.toList.foldl (AH t.mask) (a_ (oo (t.mask+1) b_,0))=a_ (ow,hs.toList.length):=h1;rw[c];rfl
 exact e
def Om{hs:Array Int}(M:mask=7\/mask=31\/mask=127\/mask=511)(hl:hs.size<=mask) :
  ∃t o,lO mask f m led pl hs=a_ (t,o)/\t.mask=mask/\t.led=led/\o.toList.Perm (aT hs.size)/\t.place.size=o.size/\(∀j∈t.place.toList,j<=mask)/\∀(i:Nat)(h:i<o.size)(h':i<t.place.size),mU t (hs.toList.getD o[i] 0) t.place[i]:=by
 let d:bB:={ mask,place:=#[],dummies:=#[],finger:=f,led,moves:=m,plain:=pl }
 obtain⟨ow,h1,y⟩:=Ol (t:=d) M hl;have hsz :=y.sz;let live:=(aT (mask+1)).filterMap λj=>(ow.getD j b_).map (j,·)
 have c:∀j k,(j,k)∈live↔ow[j]?=a_ (a_ k):=λj k=>by
  simp only[live,ig,bf,zu,vW];constructor
  ·rintro⟨a,ha,b,hb,rfl,rfl⟩;rw[di]at hb;rw[aF (aa ha (ae hsz.symm))]at hb ⊢;exact congrArg a_ hb
  ·intro h;have g :=(bR.mp h).1;exact⟨j,aa g (ae hsz),k,by rw[di,h];rfl,rfl,rfl⟩
 let t:bB:={ mask,place:=(live.map (·.1)).toArray,dummies:=#[],finger:=f,led,moves:=m,plain:=pl }
 refine⟨t,(live.map (·.2)).toArray,?_,rfl,rfl,?_,by simp[t],λj g=>?_,λi hi O=>?_⟩
 ·unfold lO;rw[h1];rfl
 ·have l:(live.map (·.2)).Nodup:=by
   have hp:live.Pairwise λa b=>a.1≠b.1:=by
    refine zH.mpr (oz ?_ oj);intro a b q x R z hz;obtain⟨_,_,rfl⟩:=eD R;obtain⟨_,_,rfl⟩:=eD hz;exact br q
   refine fu.mpr (iQ ?_ hp);intro a b ha hb v e;have L:=(c a.1 a.2).mp ha;have U:=(c b.1 b.2).mp hb;rw[e]at L;exact v (y.un _ _ _ L U)
  rw[fS l fO];intro k;rw[cg,bf];constructor
  ·rintro⟨a,ha,rfl⟩;exact(y.st _ _ ((c a.1 a.2).mp ha)).1
  ·intro B;obtain⟨j,g⟩:=y.ex k B;exact⟨(j,k),(c j k).mpr g,rfl⟩
 ·obtain⟨a,ha,rfl⟩:=cg.mp g;have:=(bR.mp ((c a.1 a.2).mp ha)).1;exact bp (aa this (ae hsz))
 ·have D:i<live.length:=by simpa using hi
  have e1:(live.map (·.2)).toArray[i]=live[i].2:=by simp
  have e2:t.place[i]=live[i].1:=by simp[t]
  rw[e1,e2];obtain⟨_,n,W,Y⟩:=y.st _ _ ((c live[i].1 live[i].2).mp (bh D));refine⟨n,?_,λk B=>?_⟩
  ·rw[oB (t:=t) (t':=d) rfl];exact W
  ·rw[oB (t:=t) (t':=d) rfl];have J:(way d k (d.probeStart (hs.toList.getD live[i].2 0))).j<=mask:=Cb k _;obtain⟨b,hb⟩:=EF (aG J (ae hsz.symm)) (Y k B);exact cg.mpr ⟨(_,b),(c _ b).mpr hb,rfl⟩
theorem AZ{t:bB}(hd:t.dummies=#[])(c:∀i,ha i≠hh):∀(fuel:Nat)(p:bG){m:LM},p.dummy=b_->bQ t ha hh fuel p=a_ m->∃n,n<fuel/\t.slot (way t n p).j=.empty/\∀k<n,t.slot (way t k p).j≠.empty
 |0,p,m,_,h=>by cases h
 |fuel+1,p,m,hp,h=>by
   rw[bQ]at h
   cases hs:t.slot p.j with
   |empty=>exact⟨0,by simp,hs,λk d=>by omega⟩
   |dummy=>exact(k7 hd hs).elim
   |live i=>
     rw[hs]at h;dsimp only at h;rw[if_neg (by simpa using c i)]at h;obtain⟨n,h1,h2,h3⟩:=AZ hd c fuel _ (sv hp) h;refine⟨n+1,bC h1,h2,λk d=>?_⟩
     cases k with
     |zero=>show t.slot p.j≠_;rw[hs];simp
     |succ k=>exact h3 k (bp d)
def Dj{t:bB}(c:t.mask=7\/t.mask=31\/t.mask=127\/t.mask=511)(hd:t.dummies=#[])(x:Int)(d:j<t.mask+1)(he:t.slot j=.empty) :
  ∃N,N<6000/\t.slot (way t N (t.probeStart x)).j=.empty/\∀k<N,t.slot (way t k (t.probeStart x)).j≠.empty:=by
 obtain⟨m,h⟩:=sO c hd (ha:=λ_=>x+1) (wQ t x) d he;obtain⟨n,h1,h2,h3⟩:=AZ hd (λ_=>(λz=>(uo (Int.le_of_eq z) (Int.le_refl _)))) _ _ rfl h;refine⟨n,?_,h2,h3⟩;unfold kT at h1;omega
def Cv{t:bB}(O:t.mask=7\/t.mask=31\/t.mask=127\/t.mask=511)(hd:t.dummies=#[])(h1:t.slot (way t N (t.probeStart x)).j=.empty)(h2:∀k<N,t.slot (way t k (t.probeStart x)).j≠.empty)(B:a<=N) :
  (t.probe ha x (way t a (t.probeStart x))=a_ (.empty (way t N (t.probeStart x)).j b_)/\∀k,a<=k->k<N->∃i,t.slot (way t k (t.probeStart x)).j=.live i/\ha i≠x)\/
  ∃b i,a<=b/\b<N/\t.probe ha x (way t a (t.probeStart x))=a_ (.candidate (way t b (t.probeStart x)).j i (way t (b+1) (t.probeStart x)))/\t.slot (way t b (t.probeStart x)).j=.live i/\ha i=x/\∀k,a<=k->k<b->∃i,t.slot (way t k (t.probeStart x)).j=.live i/\ha i≠x:=by
 have l :=Ii a (wQ t x);have D:=Cb (t:=t) N x;obtain⟨m,q⟩:=sO O hd l (bC D) h1;obtain⟨c,R,y⟩:=wX hd _ _ l.d q
 have g:∀k,a<=k->k<a+c->∃i,t.slot (way t k (t.probeStart x)).j=.live i/\ha i≠x:=λk J M=>by
  have:=R (k - a) (by omega);rw[<-kO,(eN J)]at this;exact this
 have z:a+c<=N:=by
  rcases iu N (a+c)with hl|hl
  ·obtain⟨i,e,_⟩:=g N B hl;rw[h1]at e;cases e
  ·exact hl
 rcases y with⟨y,v⟩|⟨i,y,v,U⟩
 ·rw[<-kO]at y v
  have:a+c=N:=by
   rcases iu (a+c) N with hl|hl
   ·exact absurd v (h2 _ hl)
   ·exact bA z hl
  refine .inl ⟨by rw[q,y,this],λk J M=>g k J (aa M (ae this.symm))⟩
 ·rw[<-kO]at v
  have L:a+c<N:=by
   rcases iu (a+c) N with hl|hl
   ·exact hl
   ·rw[(bA z hl),h1]at v;cases v
  refine .inr ⟨a+c,i,aX _ _,L,?_,v,U,g⟩;rw[q,y,<-kO,<-kO];rfl
end L2
namespace L2
open PySem PySem.Spec PyProof.Rows
structure kc(led:Bool)(h:cx)(S:aI)(es:Array (Int×ah))(ep:Nat)(t:bB):Prop where
 obj:h.get? S=a_ { cls:=.type "set",dict:=b_,data:=.set es ep t }
 fits:t.fits es.size=c_
 ok:pK led t
def kc.keep{h':cx}(y:kc led h S es ep t)(k:∀o,h.get? S=a_ o->h'.get? S=a_ o):kc led h' S es ep t:=⟨k _ y.obj,y.fits,y.ok⟩
noncomputable abbrev n8(w:c5):Bool:=!w.params.followText "set-order"
def lX{α β:Type}{R:α->β->Prop}{l l':List α}(p:l'.Perm l):∀{ks:List β},ip R l ks->∃g,ip R l' g/\g.Perm ks:=by
 induction p with
 |nil=>intro ks h;cases h;exact⟨[],.nil,.nil⟩
 | cons x p v=>intro ks h;cases h with
   |cons a b=>obtain⟨g,c,d⟩:=v b;exact⟨_::g,.cons a c,d.cons _⟩
 | swap x y l=>intro ks h;cases h with
   | cons a b=>cases b with
     |cons c d=>exact⟨_,.cons c (.cons a d),.swap _ _ _⟩
 |trans p q j k=>
   intro ks h;obtain⟨B,a,b⟩:=k h;obtain⟨z,c,d⟩:=j a;exact⟨z,c,d.trans b⟩
theorem oK{α β:Type}{R:α->β->Prop}{x:α}{y:β}(h:R x y):∀{l:List α}{ks:List β},ip R l ks->ip R (l++[x]) (ks++[y])
 |_,_,.nil=>.cons h .nil
 |_,_,.cons a b=>.cons a (oK h b)
theorem lg{α β:Type}{R:α->β->Prop}:∀{l:List α}{ks:List β},ip R l ks->l.length=ks.length
 |_,_,.nil=>rfl
 |_,_,.cons a b=>by rw[a8,a8,lg b]
theorem lY{α β:Type}{R:α->β->Prop}{x:α}:∀{l:List α}{ks:List β},ip R l ks->x∈l->∃y∈ks,R x y
 |_,_,.nil,h=>by cases h
 |_,_,.cons a b,h=>by
   rcases aw.mp h with rfl|h
   ·exact⟨_,.head _,a⟩
   ·obtain⟨y,c,d⟩:=lY b h;exact⟨y,.tail _ c,d⟩
theorem ni{α β:Type}{R:α->β->Prop}{y:β}:∀{l:List α}{ks:List β},ip R l ks->y∈ks->∃x∈l,R x y
 |_,_,.nil,h=>by cases h
 |_,_,.cons a b,h=>by
   rcases aw.mp h with rfl|h
   ·exact⟨_,.head _,a⟩
   ·obtain⟨x,c,d⟩:=ni b h;exact⟨x,.tail _ c,d⟩
section
variable{prog:cz}{w:c5}{K:Type}[DecidableEq K]{knd:mH prog w K}{s:ak}
def qr{es':Array (Int×ah)}{t':bB}(y:kc led s.heap S es ep t)(f:t'.fits es'.size=c_)(o:pK led t')(hz:es'.size<=aB)
  (k:∀h',cA S s.heap h'->kc led h' S es' (ep+1) t'->Q () { s with heap:=h' }):aC (aD prog w) A (storeSet S es' t') Q E s:=by
 refine wpAny_storeSet_of y.obj rfl (k _ (nM ..) ⟨?_,f,o⟩) hz;have e:=eU (Obj.putSet es' t') y.obj (by rfl);exact e
def D0{g:Bool->zE Unit}(B:∀(c:Bool) (s1:ak) (R:Unit->ak->Prop),R () s1->aC (aD prog w) A (g c) R E s1){j:Array (Int×ah)}{l:bB}{d:Bool}{R:Option Bool->ak->Prop}
  (y:kc led s.heap S es ep t)(f:l.fits j.size=c_)(o:pK led l)(hz:j.size<x5)
  (k:∀h' es' q t',cA S s.heap h'->kc led h' S es' q t'->es'.toList.Perm j.toList->R (a_ c_) { s with heap:=h' }) :
  aC (aD prog w) A (do
      storeSet S j l
      if(!d && l.tooFull)=c_ then do
         g (relayAll l j (dE j.size)).2.2
         storeSet S (relayAll l j (dE j.size)).1 (relayAll l j (dE j.size)).2.1
         pure (a_ c_)
       else pure (a_ c_)) R E s:=by
 refine wb9 (qr y f o (fits_of_scanBound hz) λh1 v z=>?_);split
 ·have hp:=relayAll_perm l j (dE j.size);have sz:(relayAll l j (dE j.size)).1.size=j.size:=by rw[<-ba,hp.length_eq,ba]
  refine wb9 (B _ _ _ (wb9 (qr z (relayAll_fits ..) (o.V3 ..) (by rw[sz];exact fits_of_scanBound hz) λh2 Ac D=>?_)));exact wu9 (k h2 _ _ _ (v.trans Ac) D hp)
 ·exact wu9 (k h1 _ _ _ v z (.refl _))
def QY(O:knd.is k x=c_)(M:x.scannable=c_)(y:kc led s.heap S es ep t)(el:Pp knd es.toList)(room:es.size+1<x5)
  (D:∀b,(∃e∈es.toList,knd.is k e.2=c_)->Q b s)
  (new:∀b h' es' g t',(¬ ∃e∈es.toList,knd.is k e.2=c_)->cA S s.heap h'->kc led h' S es' g t'->es'.toList.Perm (es.toList++[(knd.hash k,x)])->Q b { s with heap:=h' }) :
  aC (aD prog w) A (setAddHashed S x (knd.hash k)) Q E s:=by
 refine bZ (wb9 (dq y.obj rfl y.fits ?_));dsimp only;rw[byScan_of M (mZ room) el];refine wb9 (wb9 (gf (wb9 (wpAny_setScan_of O y.obj rfl y.fits el ?_))))
 cases q:List.findIdx? (λe=>knd.is k e.2) es.toList with
 |some j=>
   obtain⟨U,hp,_⟩:=List.findIdx?_eq_some_iff_getElem.mp q;exact wu9 (wu9 (D _ ⟨es.toList[j],bh U,hp⟩))
 |none=>
   have W:¬ ∃e∈es.toList,knd.is k e.2=c_:=by
    rintro⟨e,he,hp⟩;have:=List.findIdx?_eq_none_iff.mp q e he;rw[hp]at this;cases this
   have J:∀(c:Bool)(s1:ak)(R:Unit->ak->Prop),R () s1->aC (aD prog w) A (match c with|true=>rule "set.scan.the-table-gave-way"|false=>pure ()) R E s1:=by
    intro c s1 R h;cases c
    ·exact wu9 h
    ·exact gf h
   have l:=layNew_perm t es (knd.hash k) x;have v:=layNew_fits t es (knd.hash k) x;have z:=y.ok.lay es (knd.hash k) x;generalize layNew t es (knd.hash k) x=L at l v z ⊢;obtain⟨B,Z,d,gv⟩:=L;dsimp only at l v z ⊢;rw[HJ]at l;have Y:B.size=es.size+1:=by rw[<-ba,l.length_eq,az];rfl
   refine wb9 (J _ _ _ ?_);have fin:∀h' es' g t',cA S s.heap h'->kc led h' S es' g t'->es'.toList.Perm B.toList->Q c_ { s with heap:=h' }:=λh' es' g t' a b c=>new _ h' es' g t' W a b (c.trans l);split
   ·refine wb9 ?_;rw[hashByValue_scannable 8 M];refine wu9 ?_;refine D0 J y ?_ ?_ (aG (ae Y) room) λh' es' g t' a b c=>wu9 (fin h' es' g t' a b c)
    ·split
     ·exact v
     ·exact SetTable.fits_plain_off v
    ·split
     ·exact z
     ·exact z.off
   ·refine wb9 (wu9 ?_);exact D0 J y v z (by omega) λh' es' g t' a b c=>wu9 (fin h' es' g t' a b c)
end
def nJ{prog:cz}{w:c5}{K:Type}[DecidableEq K](knd:mH prog w K)(led:Bool)(h:cx)(S:aI)(n:Nat)(M:K->Prop):Prop:=
 ∃es ep t ks,kc led h S es ep t/\Pp knd es.toList/\ip (λ(e:Int×ah)k=>knd.is k e.2=c_) es.toList ks/\ks.Nodup/\ks.length<=n/\∀q,q∈ks↔M q
section
variable{prog:cz}{w:c5}{K:Type}[DecidableEq K]{knd:mH prog w K}{A:bT}{G:Array B4->Array B4->Prop}{St:Nat->ak->Prop}
def nJ.keep{h':cx}(y:nJ knd led h S n M)(k:∀o,h.get? S=a_ o->h'.get? S=a_ o):nJ knd led h' S n M:=
 let ⟨es,ep,t,ks,a,r⟩:=y
 ⟨es,ep,t,ks,a.keep k,r⟩
def u6{val:Nat->K}{i:Nat}{q:K}:(∃j,j<i+1/\val j=q)↔(∃j,j<i/\val j=q)\/val i=q:=by
 constructor
 ·rintro⟨j,h,e⟩;by_cases c:j=i
  ·subst c;exact .inr e
  ·exact .inl ⟨j,dX (bp h) c,e⟩
 ·rintro(⟨j,h,e⟩|e)
  ·exact⟨j,bW h,e⟩
  ·exact⟨i,au _,e⟩
def Im(W:WalksS prog w A.in1 I fp wr G n P St)(S:aI)(hS:S∉fp)(val:Nat->K)(hv:∀i v,P i v->knd.is (val i) v=c_/\v.scannable=c_)(hb:n+1<x5) :
  ∀(k i:Nat)(s:ak),n - i=k->i<=n->St i s->nJ knd led s.heap S i (λq=>∃j,j<i/\val j=q)->
   (∀s',Moved (S::wr) G s s'->nJ knd led s'.heap S n (λq=>∃j,j<n/\val j=q)->R (.ok (.ret .none)) s')->
   codeAny (aD prog w) A (.builtin "set.update.loop" ⟨[.ref S,.ref I],[]⟩) R s:=by
 have g :=λh=>hS (W.sub _ h);have sub:∀b∈wr,b∈S::wr:=λb m=>iE _ m;intro k
 induction k with
 |zero=>
   intro i s hk hi d y M;obtain rfl:i=n:=by omega
   refine eE eV ?_;refine wb9 (W.done s _ _ d λs' m=>?_);exact wu9 (M s' (m.mono sub) (y.keep λo e=>m.heap S o g e))
 |succ k ih=>
   intro i s hk hi d y M;refine eE eV ?_;refine wb9 (W.item i s _ _ (by omega) d λv s' hP l m=>?_);obtain⟨J,v2⟩:=hv i v hP;obtain⟨es,ep,t,ks,ya,O,B,yd,ye,yf⟩:=y.keep λo e=>m.heap S o g e;refine wb9 (bZ ?_);refine bZ (wb9 (knd.pyHash J ?_));have len:=lg B;rw[ba]at len
   have has:(∃e∈es.toList,knd.is (val i) e.2=c_)↔val i∈ks:=by
    constructor
    ·rintro⟨e,e1,e2⟩;obtain⟨q,q1,q2⟩:=lY B e1;rw[knd.inj _ _ _ e2 q2];exact q1
    ·intro q;obtain⟨e,e1,e2⟩:=ni B q;exact⟨e,e1,e2⟩
   have go:∀h',cA S s'.heap h'->nJ knd led h' S (i+1) (λq=>∃j,j<i+1/\val j=q)->
     aC (aD prog w) A.in1 (again (.builtin "set.update.loop" ⟨[.ref S,.ref I],[]⟩)) (λfin c=>match fin with | .done f=>R (.ok f) c | .again c'=>c'.quiet=c_/\codeAny (aD prog w) A c' R c) (λe c=>R (.error e) c) { s' with heap:=h',toks:=s'.toks+1 }:=by
    intro h' L U;refine wu9 ⟨fY iA _,ih (i+1) _ (by omega) (by omega) (W.frame _ s' _ _ l (pS _) λb hb o e=>?_) U λs2 m2 y2=>?_⟩
    ·rw[L.2 b λz=>hS (z▸hb)];exact e
    ·refine M s2 (Moved.trans W.gtrans ((m.mono sub).then_heap (pS _) λb o hb e=>?_) m2) y2;rw[L.2 b λz=>hb (z▸g7)];exact e
   refine QY J v2 ya O (by omega) (λb Y=>?_) (λb h' es' Z t' Y L U p=>?_)
   ·refine go s'.heap (x9 ..) ⟨es,ep,t,ks,ya,O,B,yd,bW ye,λq=>?_⟩;show q∈ks↔∃j,j<i+1/\val j=q;rw[u6,show(∃j,j<i/\val j=q)↔q∈ks from(yf q).symm];refine⟨.inl,λz=>z.elim id λe=>?_⟩;rw[<-e];exact has.mp Y
   ·obtain⟨D,c1,c2⟩:=lX p (oK (R:=λ(e)k=>knd.is k e.2=c_) J B);have nk :=λz=>Y (has.mpr z);refine go h' L ⟨es',Z,t',D,U,(O.push J v2).perm p,c1,?_,?_,λq=>?_⟩
    ·refine c2.nodup_iff.mpr (ck.mpr ⟨yd,aZ.mpr ⟨by simp,fh⟩,λa ha b hb=>?_⟩);rw[aA]at hb;subst hb;exact λz=>nk (z▸ha)
    ·rw[c2.length_eq,az];exact bC ye
    ·show q∈D↔∃j,j<i+1/\val j=q;rw[c2.mem_iff,ao,aA,u6,show(∃j,j<i/\val j=q)↔q∈ks from(yf q).symm];exact⟨λz=>z.imp id kN,λz=>z.imp id kN⟩
end
section
variable{z0:ak}
def Ld{st:List ah}(j:qe P w z0.heap ks p)(hs:∀v∈st,∃l b,v=.ref b/\qe P w z0.heap l b)(h:Q d_ z0):aC (aD P w) A (searchCouldBeSeen (.ref p) st) Q E z0:=by
 refine wb9 ?_;refine ik _ (λtl r g=>r.1=b_/\g=z0/\∀v∈tl,∃l b,v=.ref b/\qe P w z0.heap l b) _ ?_ ?_ _ _ ⟨rfl,rfl,hs⟩
 ·rintro v tl r g ⟨ge,rfl,c⟩;obtain⟨l,b,rfl,k⟩:=c v g7;dsimp only;split
  ·exact wu9 ⟨rfl,rfl,λu d=>c u (iE _ d)⟩
  ·refine wb9 (tX Gi j ?_);refine wb9 (tX Gi k ?_);refine wb9 (ze Gi j ?_);refine wb9 (ze Gi k ?_);exact wu9 ⟨rfl,rfl,λu d=>c u (iE _ d)⟩
 ·rintro⟨r1,r2⟩ g ⟨ge,rfl,_⟩;subst ge;exact wu9 h
end
def below_at(hs:BH xs)(hi:i<xs.size):aK xs xs[i]=i:=by
 obtain⟨h1,h2,h3⟩:=Lz hs xs[i]
 rcases mY (aK xs xs[i]) i with hl|hl|hl
 ·have a:=hs.get hi hl;have b:=h3 (aK xs xs[i]) (cR hl hi) (au _);exact((aV a b)).elim
 ·exact hl
 ·have:=h2 i hi hl;exact((aV this (au _))).elim
def MV{t:bB}(c:BH t.place)(hi:i<t.place.size):t.slot t.place[i]=.live i:=by
 rw[zU c (by simp),below_at c hi]
noncomputable abbrev Y4(es:Array (Int×ah))(i:Nat):Int:=(es[i]?.map (·.1)).getD 0
section
variable{P:cz}{w:c5}{A:bT}{s:ak}{es:Array (Int×ah)}{t:bB}
structure XB(P:cz)(w:c5)(h:cx)(es:Array (Int×ah))(t:bB)(kf:Nat->List NK):Prop where
 mask:t.mask=7\/t.mask=31\/t.mask=127\/t.mask=511
 el:∀(i:Nat)(hi:i<es.size),∃b,es[i].2=.ref b/\qe P w h (kf i) b/\es[i].1=dZ P w (kf i)
 std:∀(i:Nat)(hi:i<es.size)(hp:i<t.place.size),mU t es[i].1 t.place[i]
 le:∀j∈t.place.toList,j<=t.mask
theorem Ab(i_:A.units+3<=dk)(y:kc led s.heap S es ep t)(z:XB P w s.heap es t kf)(gk:qe P w s.heap ks p)
  (h1:t.slot (way t N (t.probeStart (dZ P w ks))).j=.empty)(h2:∀k<N,t.slot (way t k (t.probeStart (dZ P w ks))).j≠.empty)
  (O:∀i,i<es.size->kf i=ks->Q (.there b_) s)(new:(∀i,i<es.size->kf i≠ks)->Q (.free (way t N (t.probeStart (dZ P w ks))).j d_) s) :
  ∀(fuel a:Nat)(qq:Option bG),a<=N->N - a<fuel->qq.getD (t.probeStart (dZ P w ks))=way t a (t.probeStart (dZ P w ks))->(∀k<a,∀i,t.slot (way t k (t.probeStart (dZ P w ks))).j=.live i->kf i≠ks)->
   aC (aD P w) A (setSearchFrom S (.ref p) (dZ P w ks) c_ fuel qq) Q E s
 |0,a,qq,ha,hf,_,_=>((aV hf (aR _))).elim
 |fuel+1,a,qq,ha,hf,hst,R=>by
   have hsz:t.place.size=es.size:=by
    have:=y.fits;simp only[lP,aj,beq_iff_eq]at this;exact this.1
   have l:=z.mask
   have hg:t.gaveWay=d_:=by
    unfold SetTable.gaveWay
    rcases l with e|e|e|e<;>rw[e]<;>rfl
   have D:∀{j i:Nat},t.slot j=.live i->∃hi:i<es.size,Y4 es i=es[i].1:=λ{j i}e=>by
    have:=Oi e;have hi:=(bR.mp this).1;refine⟨aa hi (ae hsz),?_⟩;unfold Y4;simp[aF (show i<es.size by omega)]
   refine wb9 (dq y.obj rfl y.fits ?_);dsimp only;rw[hg];simp only[if_false,bH];rw[hst]
   rcases Cv l y.ok.d (ha:=Y4 es) h1 h2 ha with⟨g1,U⟩|⟨b,i,b1,b2,g1,U,g3,g4⟩
   ·erw [g1]
    refine wu9 (new λi hi e=>?_);obtain⟨n,n1,n2⟩:=z.std i hi (aa hi (ae hsz.symm));have hh:es[i].1=dZ P w ks:=by obtain⟨_,_,_,q⟩:=z.el i hi;rw[q,e]
    rw[hh]at n1 n2;have g:t.slot (way t n (t.probeStart (dZ P w ks))).j=.live i:=by rw[n1];exact MV y.ok.r (aa hi (ae hsz.symm))
    have hnN:n<N:=by
     rcases mY n N with hl|hl|hl
     ·exact hl
     ·rw[hl,h1]at g;cases g
     ·have:=n2 N hl;rw[zU y.ok.r this]at h1;cases h1
    rcases iu n a with hl|hl
    ·exact R n hl i g e
    ·obtain⟨B,e1,e2⟩:=U n hl hnN;rw[g]at e1
     injection e1 with e1
     subst e1;obtain⟨_,e3⟩:=D g;exact e2 (by rw[e3,hh])
   ·erw [g1]
    dsimp only;obtain⟨hi,e3⟩:=D U;obtain⟨c,c1,c2,c3⟩:=z.el i hi
    have W:es[i]?=a_ (es[i].1,.ref c):=by
     rw[aF hi,<-c1]
    have next:aC (aD P w) A (do
      let a_ (_,v):=es[i]? | unsupported "internal:set-entry"
      let equal <-holding [v] (eqBool v (.ref p));let (es',_,t') <-setState S
      if(c_ && equal)=c_ then return .there b_
      let a_ same:=t'.sameMemory t.moves t.mask|unsupported "set.changed-during-lookup:is-the-new-block-at-the-old-address"
      let still <-match(if same=c_ then t'.slot (way t b (t.probeStart (dZ P w ks))).j else .empty)with
       | .live B=>match es'[B]? with
         |some (_,y')=>do pure (if(<-isSame y' v)=c_ then a_ B else b_)
         |none=>pure b_
       |_=>pure b_
      match still with
      |none=>rule "set.search.anew";setSearchFrom S (.ref p) (dZ P w ks) c_ fuel b_
      |some B=>if equal=c_ then return .there (a_ B)else setSearchFrom S (.ref p) (dZ P w ks) c_ fuel (a_ (way t (b+1) (t.probeStart (dZ P w ks))))) Q E s:=by
     rw[W];dsimp only;refine wb9 (bZ (W7 i_ c2 gk ?_));refine wb9 (dq y.obj rfl y.fits ?_);by_cases e:kf i=ks
     ·rw[decide_eq_true e];exact wu9 (O i hi e)
     ·rw[decide_eq_false e];have hsm:t.sameMemory t.moves t.mask=a_ c_:=by unfold SetTable.sameMemory;simp
      rw[hsm];simp only[if_true];rw[U];dsimp only;rw[W];refine wb9 (wpAny_isSame_ref_self (wb9 (wu9 ?_)));refine Ab i_ y z gk h1 h2 O new fuel (b+1) _ (b2) (by omega) rfl λk hk B J L=>?_
      rcases mY k b with hl|hl|hl
      ·rcases iu k a with M|M
       ·exact R k M B J L
       ·obtain⟨i2,Z,q2⟩:=g4 k M hl;rw[J]at Z
        injection Z with Z
        subst Z;obtain⟨hi',q3⟩:=D J;obtain⟨_,_,_,q4⟩:=z.el B hi';exact q2 (by rw[q3,q4,L])
      ·subst hl;rw[U]at J
       injection J with J
       subst J;exact e L
      ·exact aV hk hl
    split
    ·refine wb9 (Ld gk (λv hv=>?_) ?_)
     ·obtain⟨x,Y,rfl⟩:=cg.mp hv;have Y:=Array.mem_toList_iff.mp Y;obtain⟨Y,_⟩:=Array.mem_filter.mp Y;obtain⟨k,hk,rfl⟩:=Array.mem_iff_getElem.mp Y;obtain⟨c',d1,d2,_⟩:=z.el k hk;exact⟨_,c',d1,d2⟩
     ·exact next
    ·exact next
end
section
variable{z0:ak}
def W0(c:qe P w z0.heap ks p)(h:∀b,Q b z0):aC (aD P w) A (hashByValue 8 (.ref p)) Q E z0:=P9 Gi c h
end
section
variable{P:cz}{w:c5}{A:bT}{s:ak}{es:Array (Int×ah)}{t:bB}
def _root_.L2.rj.keepsC(x:rj I h ks p)(go:h.get? d=a_ o)(c:o.cls≠.type "tuple")(g:cA d h h'):rj I h' ks p:=
 x.n6 (Xn go c λb o n e=>(g.2 b n).trans e)
structure DG(P:cz)(w:c5)(h:cx)(es:Array (Int×ah))(t:bB):Prop where
 mask:t.mask=7\/t.mask=31\/t.mask=127\/t.mask=511
 el:∀e∈es.toList,∃l b,e.2=.ref b/\qe P w h l b/\e.1=dZ P w l
 std:∀q∈es.toList.zip t.place.toList,mU t q.1.1 q.2
 le:∀j∈t.place.toList,j<=t.mask
 nf:t.place.size * 5<t.mask * 3
def DG.toN(z:DG P w h es t):∃kf,XB P w h es t kf:=by
 refine⟨λi=>if hi:i<es.size then(z.el es[i] (by simp)).choose else [],z.mask,λi hi=>?_,λi hi hp=>?_,z.le⟩
 ·obtain⟨b,h1,h2,h3⟩:=(z.el es[i] (by simp)).choose_spec;refine⟨b,h1,?_,?_⟩
  ·rw[dif_pos hi];exact h2
  ·rw[dif_pos hi];exact h3
 ·refine z.std (es[i],t.place[i]) ?_;refine cH.mpr ⟨i,by simp;omega,by simp⟩
def rW{l l':List Nat}(d:l.Nodup)(c:l'.Nodup)(h:∀x∈l,x∈l'):l.length<=l'.length:=by
 have hl:(l'.filter λx=>decide (x∈l)).Nodup:=zx Ge c
 have hp:l.Perm (l'.filter λx=>decide (x∈l)):=by
  rw[fS d hl];intro x;rw[bJ];simp only[decide_eq_true_eq];exact⟨λq=>⟨h x q,q⟩,λq=>q.2⟩
 rw[hp.length_eq];exact df _ _
def T6(c:BH t.place)(hf:t.place.size<t.mask+1)(hd:t.dummies=#[]):∃j,j<t.mask+1/\t.slot j=.empty:=by
 rcases Ie (∃j,j<t.mask+1/\t.slot j=.empty)with h|h
 ·exact h
 ·exfalso;have d :=oz (λh=>(br h)) c;have:=rW fO d λj(g)=>JM hd λe=>h ⟨j,bf.mp g,e⟩;rw[a9]at this;exact aV hf this
def Cy(J:A.units+3<=dk)(y:kc led s.heap S es ep t)(z:DG P w s.heap es t)(L:qe P w s.heap ks p)
  (l:(∃e∈es.toList,∃b,e.2=.ref b/\qe P w s.heap ks b)->Q (.there b_) s)
  (new:∀j,(¬ ∃e∈es.toList,∃b,e.2=.ref b/\qe P w s.heap ks b)->t.slot j=.empty->j<=t.mask->mU (t.put j).1 (dZ P w ks) j->Q (.free j d_) s) :
  aC (aD P w) A (setSearch S (.ref p) (dZ P w ks) c_) Q E s:=by
 obtain⟨kf,n⟩:=z.toN;have q:=z.nf;obtain⟨j,M,he⟩:=T6 y.ok.r (by rcases z.mask with e|e|e|e<;>rw[e]at q ⊢<;>omega) y.ok.d;obtain⟨N,O,h1,h2⟩:=Dj z.mask y.ok.d (dZ P w ks) M he;refine Ab J y n L h1 h2 (λi hi e=>l ?_) (λv=>new _ ?_ h1 (Cb N _) ?_) 100000 0 b_ (aR _) (aa O (by decide)) rfl λk B=>((aV B (aR _))).elim
 ·obtain⟨b,c,D,_⟩:=n.el i hi;exact⟨es[i],by simp,b,c,e▸D⟩
 ·rintro⟨e,he,b,c,D⟩;obtain⟨i,hi,rfl⟩:=cH.mp he;have g:i<es.size:=by simpa using hi
  obtain⟨W,R,U,_⟩:=n.el i g;rw[ph]at c;rw[R]at c;cases c;exact v i g (U.inj D)
 ·exact mU.new λk B=>JM y.ok.d (h2 k B)
end
section
variable{s:ak}
def Nm(y:kc led s.heap S es ep t)(c:fH wanted<=aB)(hl:t.relaid (es.map (·.1)) wanted=a_ (t',o))(hs:(o.filterMap (es[·]?)).size=es.size)
  (f:t'.fits (o.filterMap (es[·]?)).size=c_)(ok:pK led t')(hz:es.size<=aB)(k:∀h',cA S s.heap h'->kc led h' S (o.filterMap (es[·]?)) (ep+1) t'->Q () { s with heap:=h' }) :
  aC (aD P w) A (setRelay S wanted) Q E s:=by
 refine wb9 (dq y.obj rfl y.fits ?_);dsimp only;rw[if_neg (λz=>(aV z c)),hl];refine wb9 ?_;change aC _ _ (if((o.filterMap (es[·]?)).size != es.size)=c_ then(unsupported "internal:set-table-lost-an-element" >>= λ_=>pure (o.filterMap (es[·]?),t'))else pure (o.filterMap (es[·]?),t')) _ _ _;rw[if_neg (by simp[hs])];refine wu9 ?_;exact qr y f ok (by rw[hs];exact hz) k
end
theorem filterMap_map{α β:Type}{f:α->Option β}{g:α->β}:∀{l:List α},(∀k∈l,f k=a_ (g k))->l.filterMap f=l.map g
 |[],_=>rfl
 |a::l,h=>by rw[gZ,h a g7,ax,filterMap_map λk c=>h k (iE _ c)]
def GS(es:Array (Int×ah)):(aT es.size).map (λk=>(es[k]?).getD (0,.none))=es.toList:=by
 apply kB
 ·simp
 ·intro i h1 h2;have:i<es.size:=by simpa using h2
  simp[this]
section
variable{es:Array (Int×ah)}
def As{o:Array Nat}(hp:o.toList.Perm (aT es.size)):(o.filterMap (es[·]?)).toList=o.toList.map (λk=>(es[k]?).getD (0,.none)):=by
 rw[Array.toList_filterMap];refine filterMap_map λk c=>?_;have :=bf.mp (hp.mem_iff.mp c);rw[aF this];rfl
def uP{o:Array Nat}(hp:o.toList.Perm (aT es.size)):(o.filterMap (es[·]?)).toList.Perm es.toList:=by
 rw[As hp];have:=hp.map (λk=>(es[k]?).getD (0,dU));rw[GS]at this;exact this
def Nn{h:cx}(v:mask=7\/mask=31\/mask=127\/mask=511)(z:es.size<=mask)(B:es.size * 5<mask * 3)(el:∀e∈es.toList,∃l b,e.2=.ref b/\qe P w h' l b/\e.1=dZ P w l) :
  ∃t' o,lO mask f m led pl (es.map (·.1))=a_ (t',o)/\(o.filterMap (es[·]?)).size=es.size/\t'.fits (o.filterMap (es[·]?)).size=c_/\pK led t'/\(o.filterMap (es[·]?)).toList.Perm es.toList/\DG P w h' (o.filterMap (es[·]?)) t':=by
 obtain⟨t',o,h1,h2,h3,c,h5,D,J⟩:=Om (hs:=es.map (·.1)) v (by simpa using z);have c:o.toList.Perm (aT es.size):=by simpa using c
 have hp:=uP c;have hsz:(o.filterMap (es[·]?)).size=es.size:=by rw[<-ba,hp.length_eq,ba]
 have L:o.size=es.size:=by rw[<-ba,c.length_eq,a9]
 have ok:=pK.laid h1;refine⟨t',o,h1,hsz,?_,ok,hp,?_⟩
 ·have hd:=ok.d;simp only[lP,pe,aj,beq_iff_eq,decide_eq_true_eq,hd];refine⟨by omega,?_⟩;show t'.place.size+0<=t'.mask;omega
 ·refine⟨by rw[h2];exact v,λe he=>el e (hp.mem_iff.mp he),λq M=>?_,λj O=>by rw[h2];exact D j O,by omega⟩;obtain⟨i,hi,rfl⟩:=cH.mp M;rw[Mo]at hi;have g:i<o.size:=by simp at hi;omega
  have k :=aa g (ae h5.symm);have y:o[i]<es.size:=bf.mp (c.mem_iff.mp (by simp))
  have e1:(o.filterMap (es[·]?)).toList[i]'(by exact aa hi (gm _ _))=es[o[i]]:=by
   simp only[As c,tQ,ph,aF y,sG]
  have h8:=J i g k;have e2:(es.map (·.1)).toList.getD o[i] 0=es[o[i]].1:=by simp[y]
  rw[e2]at h8;rw[List.getElem_zip];rw[e1];simpa using h8
end
def E3{α:Type}(xs:Array α)(hp:p<=xs.size)(x:α):(cQ xs p x).size=xs.size+1:=by
 rw[<-ba,eT,az,a8,eA,eX,ba];omega
def AR{α:Type}(xs:Array α)(p:Nat)(x:α):(cQ xs p x).toList.Perm (xs.toList++[x]):=by
 rw[eT];refine LU.trans ?_;rw[aY];exact dO (l₁:=[x])
def Ov{α β:Type}(xs:Array α)(ys:Array β)(h:xs.size=ys.size){p:Nat}(hp:p<=xs.size)(x:α)(y:β){q:α×β}(c:q∈(cQ xs p x).toList.zip (cQ ys p y).toList):q=(x,y)\/q∈xs.toList.zip ys.toList:=by
 rw[eT,eT,Ml (by simp;omega)]at c
 have hz:xs.toList.zip ys.toList=(xs.toList.take p).zip (ys.toList.take p)++(xs.toList.drop p).zip (ys.toList.drop p):=by
  rw[<-Ml (by simp;omega),aY,aY]
 rw[hz]
 rcases ao.mp c with c|c
 ·exact .inr (ao.mpr (.inl c))
 ·rcases aw.mp c with c|c
  ·exact .inl c
  ·exact .inr (ao.mpr (.inr c))
section
def zK{c:Prop}[Decidable c]{m g:zE Bool}{k:Bool->zE Bool}{Q:Bool->ak->Prop}(h:∀b,aC (aD P w) A (k b) Q E s)(j:∀{Q':Bool->ak->Prop},(∀b,Q' b s)->aC (aD P w) A m Q' E s)(d:∀{Q':Bool->ak->Prop},(∀b,Q' b s)->aC (aD P w) A g Q' E s) :
  aC (aD P w) A (if c then m >>= k else g >>= k) Q E s:=by
 split
 ·exact wb9 (j h)
 ·exact wb9 (d h)
def mU.plain(h:mU t x j):mU { t with plain:=b } x j:=
 mU.mono (t:=t) (t':={ t with plain:=b }) rfl (λ_ h=>h) h
def Oz(c:mask=7\/mask=31\/mask=127\/mask=511)(h0:n * 5<mask * 3)(h1:(n+1) * 5>=mask * 3)(d:n<300):(fH (dE (n+1)) - 1=31\/fH (dE (n+1)) - 1=127\/fH (dE (n+1)) - 1=511)/\n+1<=fH (dE (n+1)) - 1/\(n+1) * 5<(fH (dE (n+1)) - 1) * 3/\fH (dE (n+1))<=512:=by
 rcases c with rfl|rfl|rfl|rfl
 ·obtain rfl:n=4:=by omega
  decide +kernel
 ·obtain rfl:n=18:=by omega
  decide +kernel
 ·obtain rfl:n=76:=by omega
  decide +kernel
 ·omega
end
section
variable{s:ak}{A:bT}
set_option tactic.hygienic true in
def add_n(i_:A.units+3<=dk)(y:kc led s.heap S es ep t)(z:DG P w s.heap es t)(gk:qe P w s.heap ks p)(room:es.size<300)
  (old:∀b,(∃e∈es.toList,∃b,e.2=.ref b/\qe P w s.heap ks b)->Q b s)
  (new:∀b h' es' ep' t',(¬ ∃e∈es.toList,∃b,e.2=.ref b/\qe P w s.heap ks b)->cA S s.heap h'->kc led h' S es' ep' t'->DG P w h' es' t'->es'.toList.Perm (es.toList++[(dZ P w ks,.ref p)])->Q b { s with heap:=h' }) :
  aC (aD P w) A (setAddHashed S (.ref p) (dZ P w ks)) Q E s:=by
 have hsz:t.place.size=es.size:=by
  have:=y.fits;simp only[lP,aj,beq_iff_eq]at this;exact this.1
 refine bZ ?_;refine wb9 (dq y.obj rfl y.fits ?_);dsimp only;refine wb9 (Cy i_ y z gk (λh=>?_) (λj W hs hle hst=>?_))
 ·exact wu9 (old _ h)
 ·refine wb9 (dq y.obj rfl y.fits ?_);refine zK (λb=>?_) (λq=>W0 gk q) (λq=>wu9 (q _));have v :=(Lz y.ok.r j).1
  have J:({ cls:=.type "set",dict:=b_,data:=.set es ep t }:kM).cls≠.type "tuple":=by
   intro h
   injection h with h
   exact absurd h (by decide)
  generalize D:(if b=c_ then(t.put j).1 else { (t.put j).1 with plain:=d_ })=t1;have q1:t1.place=cQ t.place (aK t.place j) j:=by rw[<-D];split<;>rfl
  have q2:t1.mask=t.mask:=by rw[<-D];split<;>rfl
  have Y:pK led t1:=by
   have:=y.ok.put (uC y.ok.d hs);rw[<-D];split
   ·exact this
   ·exact this.off
  have q4:∀x a,mU (t.put j).1 x a->mU t1 x a:=λx a h=>by
   rw[<-D];split
   ·exact h
   ·exact h.plain
  have R:t1.place.size=es.size+1:=by rw[q1,E3 _ v,hsz]
  have k:(cQ es (aK t.place j) (dZ P w ks,cG p)).size=es.size+1:=E3 _ (aa v (ae hsz)) _;have c:=AR es (aK t.place j) (dZ P w ks,cG p)
  have L:∀e,e∈(cQ es (aK t.place j) (dZ P w ks,cG p)).toList->e∈es.toList\/e=(dZ P w ks,cG p):=λe he=>by
   rcases ao.mp (c.mem_iff.mp he)with h|h
   ·exact .inl h
   ·exact .inr (aA.mp h)
  have Z:=z.nf
  have M:t1.fits (cQ es (aK t.place j) (dZ P w ks,cG p)).size=c_:=by
   simp only[lP,pe,aj,beq_iff_eq,decide_eq_true_eq,Y.d];refine⟨bA (aa (ae R) (ae k.symm)) (aa (ae k) (ae R.symm)),?_⟩;show t1.place.size+0<=t1.mask;rw[q2]
   rcases z.mask with e|e|e|e<;>rw[e]at Z ⊢<;>omega
  have hle1:∀a∈t1.place.toList,a<=t1.mask:=λa ha=>by
   rw[q1]at ha;rw[q2]
   rcases ao.mp ((AR t.place (aK t.place j) j).mem_iff.mp ha)with h|h
   ·exact z.le a h
   ·rw[aA.mp h];exact hle
  have B:∀q∈(cQ es (aK t.place j) (dZ P w ks,cG p)).toList.zip t1.place.toList,mU t1 q.1.1 q.2:=λq hq=>by
   rw[q1]at hq
   rcases Ov es t.place hsz.symm (aa v (ae hsz)) _ _ hq with h|h
   ·rw[h];exact q4 _ _ hst
   ·exact q4 _ _ (mU.mono (t:=t) (t':=(t.put j).1) rfl (λa ha=>EO.mpr (.inr ha)) (z.std q h))
  rw[show(t.put j).2=aK t.place j from rfl];generalize cQ es (aK t.place j) (dZ P w ks,cG p)=es1 at k c L M B ⊢;refine wb9 (qr y M Y (by rw[k];exact aa room (by decide)) λh1 sb y1=>?_)
  have O:∀h',cA S s.heap h'->∀e∈es1.toList,∃l b,e.2=.ref b/\qe P w h' l b/\e.1=dZ P w l:=λh' sb' e he=>by
   rcases L e he with h|h
   ·obtain⟨l,b,r1,r2,r3⟩:=z.el e h;exact⟨l,b,r1,r2.keepsC y.obj J sb',r3⟩
   ·rw[h];exact⟨ks,p,rfl,gk.keepsC y.obj J sb',rfl⟩
  split
  ·rename_i g
   have g:(es.size+1) * 5>=t.mask * 3:=by
    simp only[pz,zy,DN,pe,Y.d,decide_eq_true_eq]at g;have:(#[]:Array Nat).size=0:=rfl;omega
   obtain⟨m1,m2,m3,m4⟩:=Oz z.mask (by rw[<-hsz];exact Z) g room;obtain⟨t',o,r1,r2,r3,r4,r5,r6⟩:=Nn (h:=s.heap) (.inr m1) (aa (ae k) m2) (by omega) (O h1 sb)
   have hrl:t1.relaid (es1.map (·.1)) (dE (es.size+1))=a_ (t',o):=by
    unfold F6;rw[Y.l];exact r1
   refine wb9 (Nm y1 (by exact aa m4 (by decide)) hrl r2 r3 r4 (by rw[k];exact aa room (by decide)) λh2 Ac y2=>?_)
   have U:({ cls:=.type "set",dict:=b_,data:=.set es1 (ep+1) t1 }:kM).cls≠.type "tuple":=by
    intro h
    injection h with h
    exact absurd h (by decide)
   refine wu9 (new _ h2 _ _ _ W (sb.trans Ac) y2 ⟨r6.mask,λe he=>?_,r6.std,r6.le,r6.nf⟩ (r5.trans c));obtain⟨l,b,s1,s2,s3⟩:=r6.el e he;exact⟨l,b,s1,s2.keepsC y1.obj U Ac,s3⟩
  ·rename_i g
   have g:(es.size+1) * 5<t.mask * 3:=by
    simp only[pz,zy,DN,pe,Y.d,decide_eq_true_eq]at g;omega
   exact wu9 (new _ h1 _ _ _ W sb y1 ⟨by rw[q2];exact z.mask,O h1 sb,B,hle1,by rw[q2,R];exact g⟩ c)
end
section
variable{prog:cz}{w:c5}{A:bT}{s:ak}
abbrev qt(w:c5):kM:={ cls:=.type "set",dict:=b_,data:=.set #[] 0 (.fresh 0 0 (n8 w)) }
def Ea(a:ah)(k:Q (.ref s.heap.objs.size) { s with heap:=s.heap.push (qt w) }):codeAny (aD prog w) A (.call (.builtin "set.__new__") ⟨[.type "set",a],[]⟩) (wants Q E) s:=by
 refine lH PySem.F.plain_set_new PySem.F.entry_set_new (kh (PySem.F.newCall_set_1 a) ?_);have ss:=sub_set_self;obtain⟨hp,g,d,c,os⟩:=s
 wp_walk
 refine x4 ?_;refine wu9 ?_;exact wb9 (wpAny_alloc (wu9 (wu9 k)))
def qR{T:String}(d:TypeCalled T nI iI)(ct:checkTypeCall T ⟨args,[]⟩=pure ())(D:entryFor table iI=a_ B)
  (q:codeAny (aD prog w) A.in1 (.call (.builtin nI) ⟨.type T::args,[]⟩) (wants Q1 E) s)
  (v:∀j s1,Q1 j s1->s1.TypeIs j T/\codeAny (aD prog w) A.in1 (.call (.builtin iI) ⟨j::args,[]⟩) (wants (λr s2=>r=.none/\Q j s2) E) s1) :
  aC (aD prog w) A (call (.type T) args) Q E s:=by
 obtain⟨c,tl,e1⟩:=d.mro;have e2:=d.made;have e3:=d.sub;refine wpAny_call (codeAny_of_tree ?_);refine wu9 (uq (Code.quiet_builtin _ (by decide +kernel)) (eE PySem.F.entry_type_call ?_));have J:=d.notType;have e5:=d.canCreate
 repeat any_goals first|assumption|wp_step
 refine kC q λr s1 k=>?_
 cases r with
 |error e=>exact k
 |ok fl=>
   cases fl with
   |ret j=>
     obtain⟨L,y⟩:=v _ _ k;have M:=d.init.lookup;have O:=d.init.bind j
     repeat any_goals first|assumption|wp_step
     refine kC y λz s2 g=>?_
     cases z with
     |error e=>exact g
     |ok l=>
       cases l with
       |ret r=>
         obtain⟨rfl,R⟩:=g
         repeat any_goals first|assumption|wp_step
       |_=>exact g.elim
   |_=>exact k.elim
def xW{T:String}(ty:s.TypeIs v T)(a:isSubtype (.type T) (.type "set")=pure d_)(b:isSubtype (.type T) (.type "frozenset")=pure d_)(k:Q d_ s):aC M A (Mg v) Q E s:=by
 refine wb9 (dF ty a ?_);exact dF ty b k
variable{K:Type}[DecidableEq K]{knd:mH prog w K}
def FT(prog:cz)(w:c5)(h:cx)(v:ah)(n:Nat)(P:Nat->ah->Prop):Prop:=
 ∀(d:bT)(g:ah->ak->Prop)(s1:ak)(Q1:ah->ak->Prop),h.objs.size<s1.heap.objs.size->(∀b o,h.get? b=a_ o->s1.heap.get? b=a_ o)->
  (∀(o:kM)(fp:List aI)(St:Nat->cx->Prop),(∀c,c.handled=b_->Walks prog w c s1.heap.objs.size fp [s1.heap.objs.size] n P St)->(∀b∈fp,b=s1.heap.objs.size\/b<h.objs.size)->St 0 (s1.heap.push o)->
   Q1 (.ref s1.heap.objs.size) { s1 with heap:=s1.heap.push o })->aC (aD prog w) d (HW v) Q1 g s1
def IP{T:String}(hh:A.handled=b_)(ty:∀s1:ak,(∀b o,s.heap.get? b=a_ o->s1.heap.get? b=a_ o)->s1.TypeIs v T)
  (a:isSubtype (.type T) (.type "set")=pure d_)(b:isSubtype (.type T) (.type "frozenset")=pure d_)(nd:(iY T == iY "dict")=d_)(c:FT prog w s.heap v n P)
  (val:Nat->K)(L:∀i v,P i v->knd.is (val i) v=c_/\v.scannable=c_)(hb:n+1<x5)
  (k:∀h' M,nJ knd (n8 w) h' s.heap.objs.size n (λq=>∃j,j<n/\val j=q)->(∀b o,s.heap.get? b=a_ o->h'.get? b=a_ o)->Q (.ref s.heap.objs.size) { s with heap:=h',toks:=M }) :
  aC (aD prog w) A (call (.type "set") [v]) Q E s:=by
 refine qR (Q1:=λB s1=>B=.ref s.heap.objs.size/\s1={ s with heap:=s.heap.push (qt w) }) kY (yg v) jw (Ea v ⟨rfl,rfl⟩) ?_;rintro B s1 ⟨rfl,rfl⟩;have gS:(s.heap.push (qt w)).get? s.heap.objs.size=a_ (qt w):=aJ _ rfl;have D:pL { s with heap:=s.heap.push (qt w) } (.ref s.heap.objs.size) "set":=⟨_,gS,rfl⟩
 refine⟨D,lH kY.init.plain jw (check_set_init_1 D ?_)⟩;have e1:∀b o,s.heap.get? b=a_ o->(s.heap.push (qt w)).get? b=a_ o:=λb o e=>hp9 _ e;unfold fU.«set.__init__» noKeywords;generalize O:ou=U
 wp_walk
 subst O;refine wb9 (xW (ty _ e1) a b ?_);refine wb9 (iN (ty _ e1) ?_);rw[nd];have sz:(s.heap.push (qt w)).objs.size=s.heap.objs.size+1:=c8 ..;refine wb9 (c _ _ _ _ (by simp) e1 λo fp St W d st=>?_);have h3:A.in1.in1.in1.handled=b_:=by simp[hh]
 refine wb9 (rl ?_);refine Im (led:=n8 w) (W _ h3).toS s.heap.objs.size (λm=>?_) val L hb n 0 _ rfl (aR _) st ?_ ?_
 ·rcases d _ m with q|q
  ·have J :=q;rw[sz]at J;exact absurd J (br (eZ _))
  ·exact absurd q (bq _)
 ·refine⟨#[],0,_,[],⟨hp9 _ gS,by rfl,pK.fresh _⟩,λe he=>by simp at he,.nil,fh,au _,λq=>?_⟩;simp
 ·intro s' m y;refine wu9 ?_;obtain⟨h',g',d',g,l⟩:=s';obtain rfl:g'=s.gens:=m.gens;obtain rfl:d'=s.drawn:=m.drawn;obtain rfl:l=s.os:=m.os;refine wu9 ⟨rfl,k h' g y λb o e=>m.heap b o (λz=>?_) (hp9 _ (hp9 _ e))⟩;have lt:=hl9 e;simp only[aw,bP,or_false]at z
  rcases z with z|z
  ·rw[z]at lt;exact absurd lt (bq _)
  ·have R :=z;rw[R,sz]at lt;exact absurd (mZ lt) (bq _)
end
section
variable{P:cz}{w:c5}
def _root_.L2.rj.mono{h':cx}(x:rj I h ks p)(k:∀b o,h.get? b=a_ o->h'.get? b=a_ o):rj I h' ks p:=x.n6 λb o e _ _=>k b o e
def BJ(P:cz)(w:c5)(led:Bool)(h:cx)(S:aI)(kf:Nat->List NK)(av:Nat->aI)(i:Nat):Prop:=
 ∃es ep t js,kc led h S es ep t/\DG P w h es t/\ip (λ(e:Int×ah)j=>e.2=.ref (av j)) es.toList js/\(js.map kf).Nodup/\(∀j∈js,j<i)/\∀j,j<i->kf j∈js.map kf
variable{kf:Nat->List NK}{av:Nat->aI}
def BJ.keep{h':cx}(y:BJ P w led h S kf av i)(k:∀o,h.get? S=a_ o->h'.get? S=a_ o)(a:∀j,j<i->qe P w h (kf j) (av j))(b:∀j,j<i->qe P w h' (kf j) (av j)):BJ P w led h' S kf av i:=by
 obtain⟨es,ep,t,js,z,c,g,B,d,D⟩:=y;refine⟨es,ep,t,js,z.keep k,⟨c.mask,λe he=>?_,c.std,c.le,c.nf⟩,g,B,d,D⟩;obtain⟨l,b0,e1,e2,e3⟩:=c.el e he;obtain⟨j,q,v⟩:=lY g he;rw[v]at e1;cases e1;rw[e2.inj (a j (d j q))]at e3;exact⟨kf j,av j,v,b j (d j q),e3⟩
variable{A:bT}{G:Array B4->Array B4->Prop}{St:Nat->ak->Prop}
def Oy{h:cx}{es:Array (Int×ah)}{js:List Nat}{i m:Nat}(k:ip (λ(e:Int×ah) j=>e.2=.ref (av j)) es.toList js)(l:∀j∈js,j<i)(a:∀j,j<m->qe P w h (kf j) (av j))(hi:i<m) :
  (∃e∈es.toList,∃b,e.2=.ref b/\qe P w h (kf i) b)↔kf i∈js.map kf:=by
 constructor
 ·rintro⟨e,he,b,e1,e2⟩;obtain⟨j,c,g⟩:=lY k he;rw[g]at e1;cases e1;have d:=l j c;rw[e2.inj (a j (cR d hi))];exact de c
 ·intro q;obtain⟨j,c,e⟩:=cg.mp q;obtain⟨x,v,g⟩:=ni k c;have d:=l j c;exact⟨x,v,av j,g,e▸a j (by omega)⟩
def Gh(W:WalksS P w A.in1 I fp wr G n Pv St)(S:aI)(hS:S∉fp)(hv:∀i v,Pv i v->v=.ref (av i))(h0:cx)(hk:∀j,j<n->qe P w h0 (kf j) (av j))(h0S:h0.get? S=b_)(D:∀b∈wr,h0.get? b=b_)
  (hb:n<=300)(i_:A.in1.units+3<=dk) :
  ∀(k i:Nat)(s:ak),n - i=k->i<=n->St i s->(∀b o,h0.get? b=a_ o->s.heap.get? b=a_ o)->BJ P w led s.heap S kf av i->
   (∀s',Moved (S::wr) G s s'->BJ P w led s'.heap S kf av n->R (.ok (.ret .none)) s')->
   codeAny (aD P w) A (.builtin "set.update.loop" ⟨[.ref S,.ref I],[]⟩) R s:=by
 have J :=λh=>hS (W.sub _ h);have sub:∀b∈wr,b∈S::wr:=λb m=>iE _ m;have kin:∀(h:cx),(∀b o,h0.get? b=a_ o->h.get? b=a_ o)->∀j,j<n->qe P w h (kf j) (av j):=λh q j c=>(hk j c).mono q;intro k
 induction k with
 |zero=>
   intro i s hk' hi l L y hR;obtain rfl:i=n:=by omega
   refine eE eV ?_;refine wb9 (W.done s _ _ l λs' m=>?_);have B :=λb o e=>m.heap b o (λz=>by rw[D b z]at e;cases e) (L b o e);exact wu9 (hR s' (m.mono sub) (y.keep (λo e=>m.heap S o J e) (kin _ L) (kin _ B)))
 |succ k ih=>
   intro i s hk' hi l L y hR;refine eE eV ?_;rw[Around.under_plainId iA];refine wb9 (W.item i s _ _ (by omega) l λv s' hP M m=>?_);have B :=λb o e=>m.heap b o (λz=>by rw[D b z]at e;cases e) (L b o e);obtain rfl:=hv i v hP;have d:i<n:=by omega
   obtain⟨es,ep,t,js,ya,yb,Z,yd,ye,yf⟩:=y.keep (λo e=>m.heap S o J e) (λj c=>kin _ L j (aa c hi)) (λj c=>kin _ B j (aa c hi));refine wb9 (bZ ?_);refine bZ (wb9 (Dg i_ (kin _ B i d) ?_));have len:=lg Z;rw[ba]at len
   have hjl:js.length<=i:=by
    have hn :=(fu.mp yd).imp λh e=>h (congrArg kf e);have:=rW hn fO λj c=>bf.mpr (ye j c)
    rwa [a9]at this
   have has:=Oy Z ye (kin _ B) d
   have go:∀h' tk,cA S s'.heap h'->s'.toks<=tk->BJ P w led h' S kf av (i+1)->
     aC (aD P w) A.in1 (again (.builtin "set.update.loop" ⟨[.ref S,.ref I],[]⟩)) (λfin g=>match fin with | .done f=>R (.ok f) g | .again c'=>c'.quiet=c_/\codeAny (aD P w) A c' R g) (λe g=>R (.error e) g) { s' with heap:=h',toks:=tk }:=by
    intro h' tk O U y';refine wu9 ⟨fY iA _,ih (i+1) _ (by omega) (d) (W.frame _ s' _ _ M U λb hb o e=>?_) (λb o e=>?_) y' λs2 m2 y2=>?_⟩
    ·rw[O.2 b λz=>hS (z▸hb)];exact e
    ·rw[O.2 b λz=>by rw[z,h0S]at e;cases e];exact B b o e
    ·refine hR s2 (Moved.trans W.gtrans ((m.mono sub).then_heap U λb o hb e=>?_) m2) y2;rw[O.2 b λz=>hb (z▸g7)];exact e
   refine add_n i_ ya yb (kin _ B i d) (by omega) (λb hq=>?_) (λb h' es' ep' t' hq O y' z' p=>?_)
   ·refine go s'.heap _ (x9 ..) (aX _ _) ⟨es,ep,t,js,ya,yb,Z,yd,λj c=>j3 (ye j c),λj c=>?_⟩;by_cases e:j=i
    ·subst e;exact has.mp hq
    ·exact yf j (by omega)
   ·obtain⟨Y,c1,c2⟩:=lX p (oK (R:=λ(e)j=>e.2=.ref (av j)) rfl Z);have nk :=λz=>hq (has.mpr z)
    have c3:(Y.map kf).Perm (js.map kf++[kf i]):=by
     have:=c2.map kf
     rwa [dS]at this
    refine go h' _ O (aX _ _) ⟨es',ep',t',Y,y',z',c1,?_,λj c=>?_,λj c=>?_⟩
    ·refine c3.nodup_iff.mpr (ck.mpr ⟨yd,aZ.mpr ⟨by simp,fh⟩,λa ha b hb=>?_⟩);rw[aA]at hb;subst hb;exact λz=>nk (z▸ha)
    ·rcases ao.mp (c2.mem_iff.mp c)with h|h
     ·exact j3 (ye j h)
     ·rw[aA.mp h];exact eZ _
    ·rw[c3.mem_iff];by_cases e:j=i
     ·subst e;exact ag _ (aA.mpr rfl)
     ·exact aq _ (yf j (by omega))
end
section
variable{A:bT}{s:ak}
def GB{T:String}(hh:A.handled=b_)(ty:∀s1:ak,(∀b o,s.heap.get? b=a_ o->s1.heap.get? b=a_ o)->s1.TypeIs v T)
  (a:isSubtype (.type T) (.type "set")=pure d_)(b:isSubtype (.type T) (.type "frozenset")=pure d_)(nd:(iY T == iY "dict")=d_)(d:FT P w s.heap v n Pv)
  (O:∀i v,Pv i v->v=.ref (av i))(R:∀j,j<n->qe P w s.heap (kf j) (av j))(hb:n<=300)(Y:A.in1.in1.in1.units+3<=dk)
  (k:∀h' Z,BJ P w (n8 w) h' s.heap.objs.size kf av n->(∀b o,s.heap.get? b=a_ o->h'.get? b=a_ o)->Q (.ref s.heap.objs.size) { s with heap:=h',toks:=Z }) :
  aC (aD P w) A (call (.type "set") [v]) Q E s:=by
 refine qR (Q1:=λJ s1=>J=.ref s.heap.objs.size/\s1={ s with heap:=s.heap.push (qt w) }) kY (yg v) jw (Ea v ⟨rfl,rfl⟩) ?_;rintro J s1 ⟨rfl,rfl⟩;have gS:(s.heap.push (qt w)).get? s.heap.objs.size=a_ (qt w):=aJ _ rfl;have L:pL { s with heap:=s.heap.push (qt w) } (.ref s.heap.objs.size) "set":=⟨_,gS,rfl⟩
 refine⟨L,lH kY.init.plain jw (check_set_init_1 L ?_)⟩;have e1:∀b o,s.heap.get? b=a_ o->(s.heap.push (qt w)).get? b=a_ o:=λb o e=>hp9 _ e;unfold fU.«set.__init__» noKeywords;generalize hU:ou=U
 wp_walk
 subst hU;refine wb9 (xW (ty _ e1) a b ?_);refine wb9 (iN (ty _ e1) ?_);rw[nd];have sz:(s.heap.push (qt w)).objs.size=s.heap.objs.size+1:=c8 ..;refine wb9 (d _ _ _ _ (by simp) e1 λo fp St W g st=>?_);have h3:A.in1.in1.in1.handled=b_:=by simp[hh]
 refine wb9 (rl ?_);refine Gh (led:=n8 w) (W _ h3).toS s.heap.objs.size (λm=>?_) O s.heap R (pv (au _)) (λb hb=>?_) hb Y n 0 _ rfl (aR _) st (λb o e=>hp9 _ (e1 b o e)) ?_ ?_
 ·rcases g _ m with q|q
  ·have M :=q;rw[sz]at M;exact absurd M (br (eZ _))
  ·exact absurd q (bq _)
 ·have l:b=(s.heap.push (qt w)).objs.size:=by simpa using hb
  rw[l,sz];exact pv (pS _)
 ·refine⟨#[],0,_,[],⟨hp9 _ gS,by rfl,pK.fresh _⟩,⟨.inl rfl,λe he=>by simp at he,λq hq=>by simp at hq,λj c=>?_,by show 0 * 5<7 * 3;decide⟩,.nil,fh,λj c=>by simp at c,λj c=>((aV c (aR _))).elim⟩;simp[SetTable.fresh]at c
 ·intro s' m y;refine wu9 ?_;obtain⟨h',g',d',B,D⟩:=s';obtain rfl:g'=s.gens:=m.gens;obtain rfl:d'=s.drawn:=m.drawn;obtain rfl:D=s.os:=m.os;refine wu9 ⟨rfl,k h' B y λb o e=>m.heap b o (λz=>?_) (hp9 _ (hp9 _ e))⟩;have lt:=hl9 e;simp only[aw,bP,or_false]at z
  rcases z with z|z
  ·rw[z]at lt;exact absurd lt (bq _)
  ·have z' :=z;rw[z',sz]at lt;exact absurd (mZ lt) (bq _)
end
end L2
local macro_rules | `(tactic| walk_at $s:str) => if s.getString.startsWith "u " then do let n := Lean.mkIdent (Lean.mkPrivateNameCore `PySem.Builtin.List.W1All (`PySem.Builtin ++ (s.getString.drop 2).toString.toName)); `(tactic| delta $n:ident) else Lean.Macro.throwUnsupported
namespace L2
open PySem PySem.W PySem.Spec PyProof.Rows
structure Lt(lt:Nat->Nat->Bool):Prop where
 tr:∀i j k,lt i j=c_->lt j k=c_->lt i k=c_
 co:∀i j,i≠j->lt i j=d_->lt j i=c_
 as:∀i j,lt i j=c_->lt j i=d_
noncomputable def yP:Bool->ju->Array ju->Nat->Nat->Nat->StateT bN zE (Option Nat):=sortPriv% PySem.Builtin.gallop
def AF:Array ju->Array ju->StateT bN zE (Array ju):=sortPriv% PySem.Builtin.mergeLo
noncomputable def AG:Array ju->Array ju->StateT bN zE (Array ju):=sortPriv% PySem.Builtin.mergeHi
section
variable{P:cz}{w:c5}{A:bT}{E:ah->ak->Prop}{s:ak}{κ:pf}{it:Nat->ju}{lt:Nat->Nat->Bool}{N:Nat}
def Wt(P:cz)(w:c5)(A:bT)(E:ah->ak->Prop)(s:ak){α:Type}(m:StateT bN zE α)(G:α->bN->Prop)(st:bN):Prop:=
 kasC (aD P w) A E m (λr c s'=>G r c/\s'=s) st s
variable{α β:Type}{G:β->bN->Prop}{st:bN}
def Wt.pure(h:G b st):Wt P w A E s (pure b) G st:=kasC_pure ⟨h,rfl⟩
def Wt.bind(h:Wt P w A E s m (λa c=>Wt P w A E s (f a) G c) st):Wt P w A E s (m >>= f) G st:=
 kasC_bind (dm h (λ_ _ z=>by obtain⟨z,rfl⟩:=z;exact z) λ_ _ e=>e)
def Wt.mono(h:Wt P w A E s m G' st)(f:∀b c,G' b c->G b c):Wt P w A E s m G st:=
 dm h (λ_ _ z=>⟨f _ _ z.1,z.2⟩) λ_ _ e=>e
def Wt.get{G:bN->bN->Prop}(h:G st st):Wt P w A E s (get:StateT bN zE bN) G st:=kasC_get ⟨h,rfl⟩
def Wt.modify{G:PUnit->bN->Prop}(h:G ⟨⟩ (f st)):Wt P w A E s (modify f:StateT bN zE PUnit) G st:=kasC_modify ⟨h,rfl⟩
def Wt.set{G:PUnit->bN->Prop}(h:G ⟨⟩ st'):Wt P w A E s (MonadStateOf.set st':StateT bN zE PUnit) G st:=by
 exact wu9 ⟨h,rfl⟩
def Wt.rule{G:Unit->bN->Prop}(h:G () st):Wt P w A E s (liftM (rule n):StateT bN zE Unit) G st:=kasC_lift (gf ⟨h,rfl⟩)
abbrev XA(G I:β->bN->Prop):ForInStep β->bN->Prop
 |.done b,st=>G b st
 |.yield b,st=>I b st
def Wt.loop{l:List Nat}{b:β}{f:Nat->β->StateT bN zE (ForInStep β)}(I:Nat->β->bN->Prop)(h0:I 0 b st)
  (hb:∀j x b st,l[j]?=a_ x->I j b st->Wt P w A E s (f x b) (XA G (I (j+1))) st)(he:∀b st,I l.length b st->G b st):Wt P w A E s (forIn l b f) G st:=by
 have go:∀(r:List Nat)(j:Nat)(b:β)(st:bN),j+r.length=l.length->(∀k,r[k]?=l[j+k]?)->I j b st->Wt P w A E s (forIn r b f) G st:=by
  intro r
  induction r with
  |nil=>
    intro j b st c _ hi;exact kasC_nil ⟨he b st (by rw[<-c];exact hi),rfl⟩
  |cons x r y=>
    intro j b st c q hi;have B :=(q 0).symm;refine kasC_cons (dm (hb j x b st B hi) (λd s' z=>?_) λ_ _ e=>e);obtain⟨d,g⟩:=d;obtain⟨z,rfl⟩:=z
    cases d with
    |done v=>exact⟨z,rfl⟩
    |yield v=>
      exact y (j+1) v g (by simp at c;omega) (λk=>by have:=q (k+1);rw[bO]at this;rw[this];congr 1;exact kN (jy _ _ _)) z
 exact go l 0 b st (by simp) (λk=>by simp) h0
def Wt.range(I:Nat->β->bN->Prop)(h0:I 0 c st)
  (hb:∀j d st,j<b - a->I j d st->Wt P w A E s (f (a+j) d) (XA G (I (j+1))) st)(he:∀d st,I (b - a) d st->G d st):Wt P w A E s (forIn [a:b] c f) G st:=
 kasC_range (Wt.loop I h0 (λj x d st g hi=>by
  have k:j<b - a:=by have:=(aP.mp g).1;simpa using this
  rw[List.getElem?_range' k]at g;cases g;rw[Nat.one_mul]
  exact hb j d st k hi) λd st hi=>he d st (by rw[List.length_range']at hi;exact hi))
def tL(P:cz)(w:c5)(A:bT)(s:ak)(κ:pf)(it:Nat->ju)(lt:Nat->Nat->Bool)(N:Nat):Prop:=
 ∀i j,i<N->j<N->∀C:Bool->ak->Prop,C (lt i j) s->aC (aD P w) A (keyLt' κ (it i).1 (it j).1) C (λ_ _=>False) s
def Wt.ask{G:Option Bool->bN->Prop}(h:tL P w A s κ it lt N)(d:kindOf st=κ)(hi:i<N)(k:j<N)(g:G (a_ (lt i j)) st):Wt P w A E s (lt' (it i) (it j)) G st:=by
 rw[lt'_eq];refine kasC_bind (kasC_get ?_);refine kasC_bind (kasC_lift (i6 ?_));rw[d];exact dm (h i j hi k (λc s'=>c=lt i j/\s'=s) ⟨rfl,rfl⟩) (λc s' ⟨e1,e2⟩=>by subst e1 e2;exact kasC_pure ⟨g,rfl⟩) λ_ _ z=>z.elim
noncomputable abbrev Ar(it:Nat->ju)(l:List Nat):Array ju:=(l.map it).toArray
def Wt.elem{G:ju->bN->Prop}(h:l[i]?=a_ x)(g:G (it x) st):Wt P w A E s (elem' (Ar it l) i) G st:=by
 rw[elem'_eq];have:(Ar it l)[i]?=a_ (it x):=by simp[h]
 rw[this];exact .pure g
end
section
variable{st:bN}
abbrev Z7:=Option (Option Nat)×Nat×Nat
def Fb{lo:Nat}(h1:lo<=k)(h2:k<=hi)(h3:hi<=n)
  (hf:∀x lo hi(G':ForInStep Z7->bN->Prop),lo<=k->k<=hi->hi<=n->(lo>=hi->G' (.done (b_,lo,hi)) st)->(lo<hi->lo+(hi - lo) / 2<k->G' (.yield (b_,lo+(hi - lo) / 2+1,hi)) st)->
   (lo<hi->¬lo+(hi - lo) / 2<k->G' (.yield (b_,lo,lo+(hi - lo) / 2)) st)->Wt P w A E s (f x (b_,lo,hi)) G' st) :
  Wt P w A E s (forIn [0:n] ((b_,lo,hi):Z7) f) (λb c=>c=st/\∃lo,b=(b_,lo,k)) st:=by
 refine Wt.range (λj b c=>c=st/\∃lo hi,b=(b_,lo,hi)/\lo<=k/\k<=hi/\hi<=n/\hi - lo<=n - j) ⟨rfl,lo,hi,rfl,h1,h2,h3,aa (yk _ _) h3⟩ (λj b c D z=>?_) λb c z=>by obtain⟨e,lo,hi,e1,d,g,l,y⟩:=z;exact⟨e,lo,by rw[e1];congr;omega⟩
 obtain⟨e,lo,hi,e1,d,g,l,y⟩:=z;subst e e1;refine hf _ lo hi _ d g l (λq=>?_) (λB v=>?_) λB v=>?_
 ·exact⟨rfl,lo,by congr;exact bA (aa q d) g⟩
 ·exact⟨rfl,_,_,rfl,v,g,l,by omega⟩
 ·exact⟨rfl,_,_,rfl,d,bF v,by omega,by omega⟩
def Hg{left:Bool}{x:Nat}{l:List Nat}{base n hint k:Nat}{g:Nat->Nat}{G:Option Nat->bN->Prop}(as:tL P w A s κ it lt N)(U:kindOf st=κ)(W:x<N)(hl:∀i,i<n->l[base+i]?=a_ (g i)/\g i<N)
  (th:∀i,i<n->(if left=c_ then lt (g i) x else !(lt x (g i)))=decide (i<k))(Z:k<=n)(hh:hint<n)(q:G (a_ k) st):Wt P w A E s (yP left (it x) (Ar it l) base n hint) G st:=by
 have hb:∀i,i<n->∀{G':Option Bool->bN->Prop},G' (a_ (decide (i<k))) st->Wt P w A E s (do
   let y <-elem' (Ar it l) (base+i)
   if left=c_ then lt' y (it x)else do
    let b <-lt' (it x) y
    pure (b.map λz=>!z)) G' st:=by
  intro i hi G' Y;obtain⟨e1,e2⟩:=hl i hi;have t:=th i hi;refine .bind (.elem e1 ?_)
  cases left with
  |true=>
    refine Wt.ask as U e2 W ?_;have t:lt (g i) x=decide (i<k):=t;rw[t];exact Y
  |false=>
    refine .bind (Wt.ask as U W e2 (.pure ?_));have t:(!lt x (g i))=decide (i<k):=t;show G' (a_ (!lt x (g i))) st;rw[t];exact Y
 unfold yP;walk_at "u gallop";refine .bind (hb hint hh ?_);by_cases c:hint<k
 ·rw[decide_eq_true c]
  refine .bind (Wt.mono (Wt.range (G:=λb v=>v=st/\∃lo of:Nat,b=((b_,lo,of))/\hint+lo<k/\lo<of/\(k<=hint+of\/n - hint<=of)) (λj b v=>v=st/\∃lo of:Nat,b=((b_,lo,of))/\hint+lo<k/\lo<of/\j+1<=of)
   ⟨rfl,0,1,rfl,by omega,by simp,by decide⟩ (λj b v hj z=>?_) λb v z=>by obtain⟨e,lo,of,e1,B,D,J⟩:=z;exact⟨e,lo,of,e1,B,D,by omega⟩) λb v z=>?_)
  ·obtain⟨e,lo,of,e1,B,D,J⟩:=z;subst e e1;by_cases d:of>=n - hint
   ·rw[if_pos d];exact .pure ⟨rfl,lo,of,rfl,B,D,.inr d⟩
   ·rw[if_neg d];refine .bind (hb (hint+of) (by omega) ?_);by_cases d':hint+of<k
    ·rw[decide_eq_true d'];exact .pure ⟨rfl,of,2 * of+1,rfl,d',by omega,by omega⟩
    ·rw[decide_eq_false d'];exact .pure ⟨rfl,lo,of,rfl,B,D,.inl (bF d')⟩
  ·obtain⟨e,lo,of,e1,B,D,J⟩:=z;subst e e1;refine .bind (Wt.mono (Fb (hi:=hint+min of (n - hint)) (B) (by omega) (by omega) λy lo hi G' B D J M O R=>?_) λb v z=>by obtain⟨e,lo,e1⟩:=z;subst e e1;exact .pure q);by_cases c:lo>=hi
   ·rw[if_pos c];exact .pure (M c)
   ·rw[if_neg c];refine .bind (hb (lo+(hi - lo) / 2) (by omega) ?_);by_cases d:lo+(hi - lo) / 2<k
    ·rw[decide_eq_true d];exact .pure (O (n4 c) d)
    ·rw[decide_eq_false d];exact .pure (R (by omega) d)
 ·rw[decide_eq_false c]
  refine .bind (Wt.mono (Wt.range (G:=λb v=>v=st/\∃lo of:Nat,b=((b_,lo,of))/\k<=hint - lo/\lo<=hint/\lo<of/\(hint - of<k/\of<=hint\/hint+1<=of)) (λj b v=>v=st/\∃lo of:Nat,b=((b_,lo,of))/\k<=hint - lo/\lo<=hint/\lo<of/\j+1<=of)
   ⟨rfl,0,1,rfl,bF c,aR _,by omega,by omega⟩ (λj b v hj z=>?_) λb v z=>by obtain⟨e,lo,of,e1,L,B,D,J⟩:=z;exact⟨e,lo,of,e1,L,B,D,.inr (cR hh J)⟩) λb v z=>?_)
  ·obtain⟨e,lo,of,e1,L,B,D,J⟩:=z;subst e e1;by_cases d:of>=hint+1
   ·rw[if_pos d];exact .pure ⟨rfl,lo,of,rfl,L,B,D,.inr d⟩
   ·rw[if_neg d];refine .bind (hb (hint - of) (nZ hh) ?_);by_cases d':hint - of<k
    ·rw[decide_eq_true d'];exact .pure ⟨rfl,lo,of,rfl,L,B,D,.inl ⟨d',bF d⟩⟩
    ·rw[decide_eq_false d'];exact .pure ⟨rfl,of,2 * of+1,rfl,bF d',by omega,by omega,by omega⟩
  ·obtain⟨e,lo,of,e1,L,B,D,J⟩:=z;subst e e1;refine .bind (Wt.mono (Fb (k:=k) (lo:=hint+1 - min of (hint+1)) (by omega) (by omega) (bb (nZ hh)) λy lo hi G' B D J M O R=>?_) λb v z=>by obtain⟨e,lo,e1⟩:=z;subst e e1;exact .pure q);by_cases c:lo>=hi
   ·rw[if_pos c];exact .pure (M c)
   ·rw[if_neg c];refine .bind (hb (lo+(hi - lo) / 2) (by omega) ?_);by_cases d:lo+(hi - lo) / 2<k
    ·rw[decide_eq_true d];exact .pure (O (by omega) d)
    ·rw[decide_eq_false d];exact .pure (R (by omega) d)
end
noncomputable def PC:Nat->StateT bN zE Unit:=sortPriv% PySem.Builtin.setMinGallop
section
variable{st:bN}{β:Type}{G:β->bN->Prop}
def Wt.M1{G:Unit->bN->Prop}(h:G () (ji (kindOf st) (arrOf st) (pendingOf st) g (failedOf st))):Wt P w A E s (PC g) G st:=by
 unfold PC;walk_at "u setMinGallop";exact .modify h
def Wt.wy(Q:(StateT bN zE β->Prop)->Prop)(h1:Q λm=>Wt P w A E s m G st)(h2:(Q λm=>Wt P w A E s m G st)->Wt P w A E s m G st):Wt P w A E s m G st:=h2 h1
def Wt.WS{c:Prop}[Decidable c](h:c)(x:Wt P w A E s m G st):Wt P w A E s (if c then m else m') G st:=by rw[if_pos h];exact x
def Wt.E2{c:Prop}[Decidable c](h:¬c)(x:Wt P w A E s m' G st):Wt P w A E s (if c then m else m') G st:=by rw[if_neg h];exact x
def Wt.ite{c:Prop}[Decidable c](x:c->Wt P w A E s m G st)(y:¬c->Wt P w A E s m' G st):Wt P w A E s (if c then m else m') G st:=by
 by_cases h:c
 ·exact .WS h (x h)
 ·exact .E2 h (y h)
end
abbrev eP(lt:Nat->Nat->Bool)(l:List Nat):Prop:=l.Pairwise λx y=>lt x y=c_
section
variable{lt:Nat->Nat->Bool}{a b out:List Nat}{ia ib:Nat}
structure ML(lt:Nat->Nat->Bool)(a b out:List Nat)(ia ib:Nat):Prop where
 so:eP lt out
 Lz:∀x∈out,∀y,y∈a.drop ia\/y∈b.drop ib->lt x y=c_
 pm:(out++(a.drop ia++b.drop ib)).Perm (a++b)
def ML.swap(h:ML lt a b out ia ib):ML lt b a out ib ia:=
 ⟨h.so,λx c y d=>h.Lz x c y d.symm,((jH _ dO).trans h.pm).trans dO⟩
def ML.start:ML lt a b [] 0 0:=⟨.nil,λx c=>by simp at c,by simp⟩
def ML.pA(h:ML lt a b out ia ib)(j:eP lt b)(k:Nat)(hc:∀y∈(b.drop ib).take k,∀x∈a.drop ia,lt y x=c_):ML lt a b (out++(b.drop ib).take k) ia (ib+k):=by
 have e:b.drop ib=(b.drop ib).take k++b.drop (ib+k):=by rw[<-jW];exact(aY k _).symm
 have g:eP lt (b.drop ib):=j.sublist (fx _ _);rw[e]at g;obtain⟨s1,s2,s3⟩:=eh.mp g;refine⟨eh.mpr ⟨h.so,s1,λx d y c=>h.Lz x d y (.inr (bS c))⟩,λx d y c=>?_,?_⟩
 ·rcases ao.mp d with d|d
  ·refine h.Lz x d y (c.imp id λc=>?_);rw[e];exact ag _ c
  ·rcases c with c|c
   ·exact hc x d y c
   ·exact s3 x d y c
 ·refine DR ?_ h.pm
  conv=>rhs;rw[e]
  rw[aE];refine jH _ ?_;rw[<-aE,<-aE];exact List.Perm.append_right _ dO
def ML.wM(h:ML lt a b out ia ib)(sa:eP lt a)(k:Nat)(hc:∀y∈(a.drop ia).take k,∀x∈b.drop ib,lt y x=c_):ML lt a b (out++(a.drop ia).take k) (ia+k) ib:=
 (h.swap.pA sa k hc).swap
def ML.fin(h:ML lt a b out ia ib)(sa:eP lt a)(hb:b.length<=ib):eP lt (out++a.drop ia++b.drop ib)/\(out++a.drop ia++b.drop ib).Perm (a++b):=by
 have e :=jV hb;refine⟨?_,by rw[aE];exact h.pm⟩;rw[e,aM];exact eh.mpr ⟨h.so,sa.sublist (fx _ _),λx c y d=>h.Lz x c y (.inl d)⟩
def jF{l:List Nat}{i x:Nat}(h:l[i]?=a_ x):l.drop i=x::l.drop (i+1):=by
 obtain⟨hi,e⟩:=aP.mp h;rw[eR hi,e]
def take_one{l:List Nat}{i x:Nat}(h:l[i]?=a_ x):(l.drop i).take 1=[x]:=by rw[jF h];rfl
def qK(o:Lt lt)(sl:eP lt l)(h:l[i]?=a_ x)(c:lt y x=c_):∀z∈l.drop i,lt y z=c_:=λz hz=>by
 rw[jF h]at hz;have d:=sl.sublist (fx i _);rw[jF h]at d
 rcases aw.mp hz with rfl|hz
 ·exact c
 ·exact o.tr _ _ _ c ((cv.mp d).1 z hz)
def ML.qL(h:ML lt a b out ia ib)(sa:eP lt a)(c:eP lt b)(hc:∀y∈b.drop ib,∀x∈a.drop ia,lt y x=c_):eP lt (out++b.drop ib++a.drop ia)/\(out++b.drop ib++a.drop ia).Perm (a++b):=by
 have q:=(h.pA c b.length (λy d=>hc y (bS d))).fin sa (vY _ _);rw[fI (by simp)]at q;have e:b.drop (ib+b.length)=[]:=jV (by omega);rw[e,aM]at q;exact q
def l5:(Ar it l).push (it x)=Ar it (l++[x]):=by simp
def mD:Ar it l++(Ar it b).extract i j=Ar it (l++(b.drop i).take (j - i)):=by
 simp[m6,ql]
def bM:(Ar it l).size=l.length:=by simp
def ie{l:List Nat}:(l.drop i).take (l.length - i)=l.drop i:=fI (by simp)
def EC(o:Lt lt)(sl:eP lt l)(y:Nat):∃k,k<=l.length/\∀i x,l[i]?=a_ x->lt x y=decide (i<k):=by
 induction l with
 |nil=>exact⟨0,by simp,λi x h=>by simp at h⟩
 |cons a l g=>
   obtain⟨s1,s2⟩:=cv.mp sl;obtain⟨k,h1,h2⟩:=g s2
   cases c:lt a y with
   |true=>
     refine⟨k+1,by simpa using h1,λi x h=>?_⟩
     cases i with
     |zero=>cases h;rw[c];simp
     |succ i=>rw[h2 i x (by simpa using h)];simp
   |false=>
     refine⟨0,by simp,λi x h=>?_⟩
     cases i with
     |zero=>cases h;rw[c];simp
     |succ i=>
       have m :=aU (by simpa using h)
       cases d:lt x y with
       |false=>simp
       |true=>rw[o.tr _ _ _ (s1 x m) d]at c;cases c
section
set_option tactic.hygienic true in
def se(o:Lt lt)(as:tL P w A s κ it lt N){l:List Nat}{base:Nat}(U:base+n<=l.length)(sl:eP lt ((l.drop base).take n))(v:∀x∈(l.drop base).take n,x<N/\x≠y)(O:y<N) :
  ∃k,k<=n/\(∀z∈((l.drop base).take n).take k,lt z y=c_)/\(∀z∈((l.drop base).take n).drop k,lt y z=c_)/\
   ∀{E:ah->ak->Prop}(left:Bool)(hint:Nat){G:Option Nat->bN->Prop}{st:bN},kindOf st=κ->hint<n->G (a_ k) st->Wt P w A E s (yP left (it y) (Ar it l) base n hint) G st:=by
 generalize J:(l.drop base).take n=L at sl v;have d:L.length=n:=by rw[<-J];simp;omega
 have j:∀i,i<n->L[i]?=l[base+i]? :=λi hi=>by rw[<-J,bX,if_pos hi,lS]
 obtain⟨k,M,B⟩:=EC o sl y;refine⟨k,aa M (ae d),λz hz=>?_,λz hz=>?_,λleft hint G st R hh q=>?_⟩
 ·obtain⟨i,hi⟩:=gr hz;rw[bX]at hi;split at hi
  ·rename_i c;rw[B i z hi,decide_eq_true c]
  ·cases hi
 ·obtain⟨i,hi⟩:=gr hz;rw[lS]at hi;refine o.co _ _ (v z (aU hi)).2 ?_;rw[B _ z hi,decide_eq_false (by simp)]
 ·refine Hg (g:=λi=>L.getD i 0) as R O (λi hi=>?_) (λi hi=>?_) (aa M (ae d)) hh q
  ·have e:=af ((aa hi (ae d.symm)));refine⟨by rw[<-j i hi];simp[e],?_⟩;have:=(v _ (aU e)).1;simpa [e]using this
  ·have e:=af (show i<L.length by omega);have e2:=B i _ e;have D:=(v _ (aU e)).2;have e3:L.getD i 0=L[i]:=by simp[e]
   rw[e3]
   cases left with
   |true=>exact e2
   |false=>
     rw[<-e2]
     cases c:lt L[i] y with
     |true=>rw[o.as _ _ c];rfl
     |false=>rw[o.co _ _ D c];rfl
end
end
section
variable{it:Nat->ju}{lt:Nat->Nat->Bool}
noncomputable abbrev D1(st:bN)(g:Nat):bN:=ji (kindOf st) (arrOf st) (pendingOf st) g (failedOf st)
def Res(it:Nat->ju)(lt:Nat->Nat->Bool)(l:List Nat)(r:Array ju):Prop:=∃R,r=Ar it R/\eP lt R/\R.Perm l
structure XD(lt:Nat->Nat->Bool)(a b out:List Nat)(ia ib m:Nat):Prop where
 ml:ML lt a b out ia ib
 ha:ia+1<a.length
 hb:ib<b.length
 m:m<=ia+ib
def Wt.rg{τ τ' R β' γ:Type}{a b:Nat}{f:Nat->Option R×β'->StateT bN zE (ForInStep (Option R×β'))}{k:Option R×β'->StateT bN zE γ}{G:γ->bN->Prop}{Q:R->Prop}{t:τ->bN}{I':List Nat->Nat->Nat->Prop}{z:List Nat->Nat->Nat->τ->β'}{out:List Nat}{ia ib:Nat}{r:τ}(I:Nat->List Nat->Nat->Nat->Prop)(d:List Nat->Nat->Nat->τ'->β')(t':τ'->bN)(h0:I 0 out ia ib)(he:∀out ia ib,¬I (b - a) out ia ib)
  (g:∀r x c,Q r->Wt P w A E s (k (a_ r,x)) G (t' c))(l:∀out ia ib r,I' out ia ib->Wt P w A E s (k (b_,d out ia ib r)) G (t' r))
  (hb:∀j out ia ib r,j<b - a->I j out ia ib->Wt P w A E s (f (a+j) (b_,z out ia ib r)) (XA (λb st=>(∃r x c,b=(a_ r,x)/\st=t' c/\Q r)\/∃out ia ib r,b=(b_,d out ia ib r)/\st=t' r/\I' out ia ib) λb st=>∃out ia ib r,b=(b_,z out ia ib r)/\st=t r/\I (j+1) out ia ib) (t r)) :
  Wt P w A E s (forIn [a:b] (b_,z out ia ib r) f >>= k) G (t r):=
 .bind (Wt.mono (Wt.range (λj b st=>∃out ia ib r,b=(b_,z out ia ib r)/\st=t r/\I j out ia ib) ⟨out,ia,ib,r,rfl,rfl,h0⟩ (λj b st v q=>by obtain⟨_,_,_,_,rfl,rfl,h⟩:=q;exact hb _ _ _ _ _ v h) λb st q=>by obtain⟨_,_,_,_,_,_,h⟩:=q;exact(he _ _ _ h).elim) λb st q=>by
  rcases q with⟨_,_,_,rfl,rfl,h⟩|⟨_,_,_,_,rfl,rfl,h⟩
  ·exact g _ _ _ h
  ·exact l _ _ _ _ h)
def CP{st:bN}{G:Array ju->bN->Prop}(o:Lt lt)(as:tL P w A s κ it lt N)(hk:kindOf st=κ)(na:∀x∈a,x<N)(nb:∀x∈b,x<N)(sa:eP lt a)(O:eP lt b)(Fq:∀x∈a,x∉b)
  (h0:0<a.length)(L:b[0]?=a_ y0)(hf:∀x∈a,lt y0 x=c_)(hl:∀y∈b,∀x∈a.drop (a.length - 1),lt y x=c_)
  (q:∀r g,Res it lt (a++b) r->G r (D1 st g)):Wt P w A E s (AF (Ar it a) (Ar it b)) G st:=by
 have hb0:0<b.length:=(aP.mp L).1
 have B:∀{out:List Nat}{ia ib:Nat},ML lt a b out ia ib->b.length<=ib->Res it lt (a++b) (Ar it out++(Ar it a).extract ia (Ar it a).size++(Ar it b).extract ib (Ar it b).size):=λh hb=>by
  obtain⟨M,Y⟩:=h.fin sa hb;exact⟨_,by rw[mD,mD,bM,bM,ie,ie],M,Y⟩
 have Z:∀{out:List Nat}{ia ib:Nat},ML lt a b out ia ib->a.length<=ia->Res it lt (a++b) (Ar it out++(Ar it a).extract ia (Ar it a).size++(Ar it b).extract ib (Ar it b).size):=λ{out ia ib}h ha=>by
  obtain⟨M,Y⟩:=h.swap.fin O ha;have e:a.drop ia=[]:=jV ha;rw[e,aM]at M Y;refine⟨out++b.drop ib,by rw[mD,mD,bM,bM,ie,ie,e,aM],M,Y.trans dO⟩
 have qL:∀{out:List Nat}{ia ib:Nat},ML lt a b out ia ib->ia+1=a.length->Res it lt (a++b) (Ar it out++(Ar it b).extract ib (Ar it b).size++(Ar it a).extract ia (Ar it a).size):=λ{out ia ib}h ha=>by
  obtain⟨M,Y⟩:=h.qL sa O λy hy x hx=>hl y (du hy) x (by rw[show a.length - 1=ia by omega];exact hx);exact⟨_,by rw[mD,mD,bM,bM,ie,ie],M,Y⟩
 have D:∀{ib:Nat},ib<b.length->∃y,b[ib]?=a_ y/\y<N/\y∉a:=λ{ib}h=>⟨b[ib],af h,nb _ (bh h),λz=>Fq _ z (bh h)⟩
 have U:∀{ia:Nat},ia<a.length->∃x,a[ia]?=a_ x/\x<N/\x∉b:=λ{ia}h=>⟨a[ia],af h,na _ (bh h),λz=>Fq _ (bh h) z⟩
 have nex:∀{ia ib x y:Nat},a[ia]?=a_ x->b[ib]?=a_ y->x≠y:=λh1 h2 e=>Fq _ (aU h1) (e▸aU h2)
 have tB:∀{out:List Nat}{ia ib x y:Nat},ML lt a b out ia ib->a[ia]?=a_ x->b[ib]?=a_ y->lt y x=c_->ML lt a b (out++[y]) ia (ib+1):=λ{out ia ib x y}h h1 h2 c=>by
  have:=h.pA O 1 (λz hz=>by rw[take_one h2,aA]at hz;subst hz;exact qK o sa h1 c);rw[take_one h2]at this;exact this
 have tA:∀{out:List Nat}{ia ib x y:Nat},ML lt a b out ia ib->a[ia]?=a_ x->b[ib]?=a_ y->lt x y=c_->ML lt a b (out++[x]) (ia+1) ib:=λ{out ia ib x y}h h1 h2 c=>by
  have:=h.wM sa 1 (λz hz=>by rw[take_one h1,aA]at hz;subst hz;exact qK o O h2 c);rw[take_one h1]at this;exact this
 unfold AF;walk_at "u mergeLo";refine .bind (.rule (.bind (.elem L ?_)))
 have m0:ML lt a b [y0] 0 1:=by
  have:=(ML.start (lt:=lt) (a:=a) (b:=b)).pA O 1 (λz hz x hx=>by rw[take_one L,aA]at hz;subst hz;exact hf x hx);rw[take_one L]at this;exact this
 refine .ite (λc=>.pure (q _ (gallopOf st) (B m0 (by have c:=beq_iff_eq.mp c;rw[bM]at c;exact ae c.symm)))) λc1=>?_;refine .ite (λc=>.pure (q _ (gallopOf st) (qL m0 (by have c:=beq_iff_eq.mp c;rw[bM]at c;omega)))) λc2=>?_;refine .bind (.get ?_);have b1:1<b.length:=by have c:¬1=(Ar it b).size:=λe=>c1 (beq_iff_eq.mpr e);rw[bM]at c;exact dX hb0 c
 have b2:0+1<a.length:=by have c:¬0+1=(Ar it a).size:=λe=>c2 (beq_iff_eq.mpr e);rw[bM]at c;exact dX h0 c
 refine Wt.rg (Q:=Res it lt (a++b)) (I':=λ_ _ _=>False) (out:=[y0]) (ia:=0) (ib:=1) (r:=(_,gallopOf st)) (t:=λr:Nat×Nat=>D1 st r.2) (z:=λout ia ib r=>(Ar it out,ia,ib,r.1)) (λj out ia ib=>XD lt a b out ia ib (j+1)) (λout ia ib r=>(Ar it out,ia,ib,r.1)) (λr:Nat×Nat=>D1 st r.2) ⟨m0,b2,b1,by decide⟩
  (λout ia ib v=>by have h1:=v.m;have h2:=v.ha;have h3:=v.hb;rw[bM,bM]at h1;omega) (λr _ g e=>.pure (q r g.2 e)) (λ_ _ _ _ h=>h.elim) λj out ia ib r0 hj v=>?_
 refine Wt.rg (Q:=Res it lt (a++b)) (I':=λout ia ib=>XD lt a b out ia ib (j+1+1)) (out:=out) (ia:=ia) (ib:=ib) (r:=(0,0)) (t:=λ_:Nat×Nat=>D1 st r0.2) (z:=λout ia ib r=>(Ar it out,ia,ib,r.1,r.2)) (λi out ia ib=>XD lt a b out ia ib (j+1+i)) (λout ia ib r=>(Ar it out,ia,ib,r.1,r.2)) (λ_:Nat×Nat=>D1 st r0.2) v
  (λout ia ib v=>by have h1:=v.m;have h2:=v.ha;have h3:=v.hb;rw[bM,bM]at h1;omega) (λr _ _ e=>.pure (.inl ⟨r,_,(0,r0.2),rfl,rfl,e⟩)) (λout ia ib r1 v=>?_) λi out ia ib r1 hi v=>?_
 rotate_left
 ·obtain⟨y,J,y2,y3⟩:=D v.hb;obtain⟨x,x1,x2,x3⟩:=U (show ia<a.length from bb v.ha);have hm:=v.m;refine .bind (.elem J (.bind (.elem x1 (.bind (Wt.ask as hk y2 x2 ?_)))))
  cases c:lt y x with
  |true=>
    refine .bind (.elem J ?_);have m2:=tB v.ml x1 J c;rw[l5];refine .ite (λd=>.pure (.inl ⟨_,_,(0,0),rfl,rfl,B m2 (by have d:=beq_iff_eq.mp d;rw[bM]at d;exact ae d.symm)⟩)) λd=>?_;have d:ib+1<b.length:=by have c:¬ib+1=(Ar it b).size:=λe=>d (beq_iff_eq.mpr e);rw[bM]at c;have:=v.hb;exact dX this c
    exact .ite (λ_=>.pure (.inr ⟨_,ia,ib+1,(_,_),rfl,rfl,m2,v.ha,d,by omega⟩)) λ_=>.pure ⟨_,ia,ib+1,(_,_),rfl,rfl,m2,v.ha,d,bC hm⟩
  |false=>
    refine .bind (.elem x1 ?_);have m2:=tA v.ml x1 J (o.co _ _ (nex x1 J).symm c);rw[l5];refine .ite (λd=>.pure (.inl ⟨_,_,(0,0),rfl,rfl,qL m2 (by have d:=beq_iff_eq.mp d;rw[bM]at d;omega)⟩)) λd=>?_;have d:ia+1+1<a.length:=by have c:¬ia+1+1=(Ar it a).size:=λe=>d (beq_iff_eq.mpr e);rw[bM]at c;have:=v.ha;exact dX this c
    exact .ite (λ_=>.pure (.inr ⟨_,ia+1,ib,(_,_),rfl,rfl,m2,d,v.hb,by omega⟩)) λ_=>.pure ⟨_,ia+1,ib,(_,_),rfl,rfl,m2,d,v.hb,by omega⟩
 refine .bind (.rule (Wt.rg (Q:=Res it lt (a++b)) (I':=λout ia ib=>XD lt a b out ia ib (j+1+1)) (out:=out) (ia:=ia) (ib:=ib) (r:=(_,r1.1,r1.2,r0.2)) (t:=λr:Nat×Nat×Nat×Nat=>D1 st r.2.2.2) (z:=λout ia ib r=>(Ar it out,ia,ib,r.1,r.2.1,r.2.2.1)) (λi out ia ib=>XD lt a b out ia ib (j+1+1+i)) (λout ia ib r=>(Ar it out,ia,ib,r.1,r.2.1,r.2.2.1)) (λr:Nat×Nat×Nat×Nat=>D1 st r.2.2.2) v
  (λout ia ib v=>by have h1:=v.m;have h2:=v.ha;have h3:=v.hb;rw[bM,bM]at h1;omega) (λr _ g e=>.pure (.inl ⟨r,_,(0,g.2.2.2),rfl,rfl,e⟩)) (λout ia ib r v=>.bind (.M1 (.pure ⟨out,ia,ib,(_,_),rfl,rfl,v⟩))) λi out ia ib r2 hi v=>?_))
 extract_lets s1 o1 s2 ia1 s3 ib1 s4 mg1 s5 ac1 bc1 ib2 jp mg2
 subst s1 o1 s2 ia1 s3 ib1 s4 mg1 s5 ac1 bc1 ib2 mg2;refine Wt.wy (λR=>∀mg,R (jp () mg)) ?_ λh=>?_
 rotate_left
 ·exact .ite (λ_=>h _) λ_=>h _
 intro mg;have hm:=v.m;obtain⟨y,J,y2,y3⟩:=D v.hb;obtain⟨k,k1,k2,k3,k4⟩:=se o as (l:=a) (base:=ia) (n:=a.length - ia) (y:=y) (by have:=v.ha;omega) (by rw[ie];exact sa.sublist (fx _ _)) (λx hx=>by rw[ie]at hx;have:=du hx;exact⟨na x this,λe=>y3 (e▸this)⟩) y2;rw[ie]at k2 k3;rw[<-bM (it:=it) (l:=a)]at k4;refine .bind (.M1 (.bind (.elem J (.bind (k4 d_ 0 hk (by rw[bM];have:=v.ha;omega) ?_)))));have W:ML lt a b (out++(a.drop ia).take k) (ia+k) ib:=v.ml.wM sa k λz hz=>qK o O J (k2 z hz);rw[jW]at k3;dsimp -zeta -zetaHave only
 extract_lets +onlyGivenNames ac1 jp2
 subst ac1;refine Wt.wy (λR=>∀out ia,ML lt a b out ia ib->ia+1<a.length->(∀z∈a.drop ia,lt y z=c_)->j+1+1+i<=ia+ib->R (jp2 () (Ar it out) ia)) ?_ λh=>?_
 rotate_left
 ·refine .ite (λ_=>?_) λc=>?_
  ·rw[mD,show ia+k - ia=k from(cU _ _)];refine .ite (λd=>.pure (.inl ⟨_,_,(0,0,0,_),rfl,rfl,qL W (by have d:=beq_iff_eq.mp d;rw[bM]at d;omega)⟩)) λd=>?_;refine .ite (λd=>.pure (.inl ⟨_,_,(0,0,0,_),rfl,rfl,Z W (by have d:=beq_iff_eq.mp d;rw[bM]at d;exact ae d.symm)⟩)) λd'=>?_;have c1:¬ia+k+1=(Ar it a).size:=λe=>d (beq_iff_eq.mpr e);have c2:¬ia+k=(Ar it a).size:=λe=>d' (beq_iff_eq.mpr e);rw[bM]at c1 c2;exact h (out++(a.drop ia).take k) (ia+k) W (by omega) k3 (by omega)
  ·obtain rfl:k=0:=bA (bF c) (aR _);rw[jN,aM,Nat.add_zero]at W;exact h out ia W v.ha k3 hm
 clear W k2 k4;intro out ia W hia k3 hm;obtain⟨x,x1,x2,x3⟩:=U (show ia<a.length from(bb hia));have yx:lt y x=c_:=k3 x (by rw[jF x1];exact g7);have m2:=tB W x1 J yx;refine .bind (.elem J ?_);rw[l5];refine .ite (λd=>.pure (.inl ⟨_,_,(0,0,0,_),rfl,rfl,B m2 (by have d:=beq_iff_eq.mp d;rw[bM]at d;exact ae d.symm)⟩)) λd=>?_;have d:ib+1<b.length:=by have c:¬ib+1=(Ar it b).size:=λe=>d (beq_iff_eq.mpr e);rw[bM]at c;have:=v.hb;exact dX this c
 obtain⟨k',l1,l2,l3,l4⟩:=se o as (l:=b) (base:=ib+1) (n:=b.length - (ib+1)) (y:=x) (by omega) (by rw[ie];exact O.sublist (fx _ _)) (λz hz=>by rw[ie]at hz;have:=du hz;exact⟨nb z this,λe=>x3 (e▸this)⟩) x2;rw[ie]at l2 l3;rw[<-bM (it:=it) (l:=b)]at l4;refine .bind (.elem x1 (.bind (l4 c_ 0 hk (by rw[bM];omega) ?_)));have mB:ML lt a b (out++[y]++(b.drop (ib+1)).take k') ia (ib+1+k'):=m2.pA O k' λz hz=>qK o sa x1 (l2 z hz);rw[jW]at l3;dsimp -zeta -zetaHave only
 extract_lets +onlyGivenNames bc1 ia2 jp3
 subst bc1 ia2;refine Wt.wy (λR=>∀out ib',ML lt a b out ia ib'->ib'<b.length->(∀z∈b.drop ib',lt x z=c_)->j+1+1+i+1<=ia+ib'->R (jp3 () (Ar it out) ib')) ?_ λh=>?_
 rotate_left
 ·refine .ite (λ_=>?_) λc=>?_
  ·rw[mD,show ib+1+k' - (ib+1)=k' from(cU _ _)];refine .ite (λd=>.pure (.inl ⟨_,_,(0,0,0,_),rfl,rfl,B mB (by have d:=beq_iff_eq.mp d;rw[bM]at d;exact ae d.symm)⟩)) λd'=>?_;have c2:¬ib+1+k'=(Ar it b).size:=λe=>d' (beq_iff_eq.mpr e);rw[bM]at c2;exact h (out++[y]++(b.drop (ib+1)).take k') (ib+1+k') mB (by omega) l3 (by omega)
  ·obtain rfl:k'=0:=bA (bF c) (aR _);rw[jN,aM,Nat.add_zero]at mB;exact h (out++[y]) (ib+1) mB d l3 (bC hm)
 intro out ib' mB hib l3 hm;obtain⟨z,M,Y,z3⟩:=D hib;have m3:=tA mB x1 M (l3 z (by rw[jF M];exact g7));refine .bind (.elem x1 ?_);rw[l5];refine .ite (λd=>.pure (.inl ⟨_,_,(0,0,0,_),rfl,rfl,qL m3 (by have d:=beq_iff_eq.mp d;rw[bM]at d;omega)⟩)) λd=>?_;have d:ia+1+1<a.length:=by have c:¬ia+1+1=(Ar it a).size:=λe=>d (beq_iff_eq.mpr e);rw[bM]at c;exact dX hia c
 exact .ite (λ_=>.pure (.inr ⟨_,ia+1,ib',(_,_,_,_),rfl,rfl,m3,d,hib,by omega⟩)) λ_=>.pure ⟨_,ia+1,ib',(_,_,_,_),rfl,rfl,m3,d,hib,by omega⟩
end
section
variable{lt:Nat->Nat->Bool}{a b out:List Nat}{na nb:Nat}
noncomputable abbrev TX(lt:Nat->Nat->Bool):Nat->Nat->Bool:=λx y=>lt y x
def eP.rev(h:eP lt a):eP (TX lt) a.reverse:=ko.mpr h
structure MH(lt:Nat->Nat->Bool)(a b out:List Nat)(na nb:Nat):Prop where
 ml:ML (TX lt) a.reverse b.reverse out (a.length - na) (b.length - nb)
 la:na<=a.length
 lb:nb<=b.length
def MH.swap(h:MH lt a b out na nb):MH lt b a out nb na:=⟨h.ml.swap,h.lb,h.la⟩
def k8{l:List Nat}:l.reverse.drop (l.length - n)=(l.take n).reverse:=by rw[List.reverse_take]
def MH.pA(h:MH lt a b out na nb)(g:eP lt b)(ht:at_<=nb)(hc:∀y∈(b.drop at_).take (nb - at_),∀x∈a.take na,lt x y=c_):MH lt a b (out++((b.drop at_).take (nb - at_)).reverse) na at_:=by
 have hb:=h.lb
 have e:(b.reverse.drop (b.length - nb)).take (nb - at_)=((b.drop at_).take (nb - at_)).reverse:=by
  rw[k8,List.take_reverse,eA,dz hb,show nb - (nb - at_)=at_ by omega,wG]
 have:=h.ml.pA g.rev (nb - at_) (λy c x d=>by
  rw[e]at c;rw[k8]at d
  exact hc y (nQ.mp c) x (nQ.mp d))
 rw[e,show b.length - nb+(nb - at_)=b.length - at_ by omega]at this;exact⟨this,h.la,aa ht hb⟩
def MH.wM(h:MH lt a b out na nb)(sa:eP lt a)(ht:at_<=na)(hc:∀y∈(a.drop at_).take (na - at_),∀x∈b.take nb,lt x y=c_):MH lt a b (out++((a.drop at_).take (na - at_)).reverse) at_ nb:=
 (h.swap.pA sa ht hc).swap
def MH.fin(h:MH lt a b out na nb)(c:eP lt b)(hz:na=0):eP lt (a.take na++b.take nb++out.reverse)/\(a.take na++b.take nb++out.reverse).Perm (a++b):=by
 obtain⟨d,g⟩:=h.ml.swap.fin c.rev (by rw[List.length_reverse];omega)
 have e:(a.take na++b.take nb++out.reverse)=(out++b.reverse.drop (b.length - nb)++a.reverse.drop (a.length - na)).reverse:=by
  rw[k8,k8];simp
 rw[e];refine⟨ko.mpr d,((gn _).trans g).trans ?_⟩;exact((gn b).append (gn a)).trans dO
def MH.qL(h:MH lt a b out na nb)(sa:eP lt a)(g:eP lt b)(hc:∀y∈a.take na,∀x∈b.take nb,lt x y=c_):eP lt (b.take nb++a.take na++out.reverse)/\(b.take nb++a.take na++out.reverse).Perm (a++b):=by
 obtain⟨j,k⟩:=h.ml.swap.qL g.rev sa.rev (λy c x d=>by
  rw[k8]at c d
  exact hc y (nQ.mp c) x (nQ.mp d))
 have e:(b.take nb++a.take na++out.reverse)=(out++a.reverse.drop (a.length - na)++b.reverse.drop (b.length - nb)).reverse:=by
  rw[k8,k8];simp
 rw[e];refine⟨ko.mpr j,((gn _).trans k).trans ?_⟩;exact((gn b).append (gn a)).trans dO
def lj{l:List Nat}{n x:Nat}(h:l[n]?=a_ x):(l.drop n).take (n+1 - n)=[x]:=by rw[(cU _ _)];exact take_one h
set_option tactic.hygienic true in
def qF(o:Lt lt)(sl:eP lt l)(h:l[n]?=a_ x)(c:lt x y=c_):∀z∈l.take (n+1),lt z y=c_:=λz hz=>by
 obtain⟨i,hi⟩:=gr hz;rw[bX]at hi;split at hi
 ·rename_i d;by_cases e:i=n
  ·subst e;rw[h]at hi;cases hi;exact c
  ·obtain⟨g,j⟩:=aP.mp hi;obtain⟨k,q⟩:=aP.mp h;have:=dC.mp sl i n g k (by omega);rw[j,q]at this;exact o.tr _ _ _ this c
 ·cases hi
def DC:(Ar it l).extract 0 i++(Ar it m).extract 0 j++(Ar it n).reverse=Ar it (l.take i++m.take j++n.reverse):=by
 simp[m6]
def FO:Ar it l++((Ar it b).extract i j).reverse=Ar it (l++((b.drop i).take (j - i)).reverse):=by
 simp[m6,ql]
structure LK(lt:Nat->Nat->Bool)(a b out:List Nat)(na nb m:Nat):Prop where
 mh:MH lt a b out na nb
 ha:0<na
 hb:1<nb
 m:m+na+nb<=a.length+b.length
end
section
def CQ{st:bN}{G:Array ju->bN->Prop}(o:Lt lt)(as:tL P w A s κ it lt N)(hk:kindOf st=κ)(na:∀x∈a,x<N)(nb:∀x∈b,x<N)(sa:eP lt a)(Y:eP lt b)(Fq:∀x∈a,x∉b)
  (hb0:0<b.length)(hn:a.length=n+1)(Z:a[n]?=a_ y0)(hf:∀x∈b,lt x y0=c_)(hl:∀y∈a,∀x∈b.take 1,lt x y=c_)
  (q:∀r g,Res it lt (a++b) r->G r (D1 st g)):Wt P w A E s (AG (Ar it a) (Ar it b)) G st:=by
 have B:∀{out:List Nat}{ia ib:Nat},MH lt a b out ia ib->ia=0->Res it lt (a++b) ((Ar it a).extract 0 ia++(Ar it b).extract 0 ib++(Ar it out).reverse):=λh hz=>by
  obtain⟨L,z2⟩:=h.fin Y hz;exact⟨_,DC,L,z2⟩
 have fin1':∀{out:List Nat}{ia ib:Nat},MH lt a b out ia ib->ib=0->Res it lt (a++b) ((Ar it a).extract 0 ia++(Ar it b).extract 0 ib++(Ar it out).reverse):=λ{out ia ib}h hz=>by
  obtain⟨L,z2⟩:=h.swap.fin sa hz;subst hz;rw[jN,Mn]at L z2;exact⟨a.take ia++out.reverse,by rw[DC,jN,aM],L,z2.trans dO⟩
 have qL:∀{out:List Nat}{ia ib:Nat},MH lt a b out ia ib->ib=1->Res it lt (a++b) ((Ar it b).extract 0 ib++(Ar it a).extract 0 ia++(Ar it out).reverse):=λ{out ia ib}h hz=>by
  subst hz;obtain⟨L,z2⟩:=h.qL sa Y λy hy x hx=>hl y (bS hy) x hx;exact⟨_,DC,L,z2⟩
 have D:∀{ib:Nat},ib<b.length->∃y,b[ib]?=a_ y/\y<N/\y∉a:=λ{ib}h=>⟨b[ib],af h,nb _ (bh h),λz=>Fq _ z (bh h)⟩
 have M:∀{ia:Nat},ia<a.length->∃x,a[ia]?=a_ x/\x<N/\x∉b:=λ{ia}h=>⟨a[ia],af h,na _ (bh h),λz=>Fq _ (bh h) z⟩
 have nex:∀{ia ib x y:Nat},a[ia]?=a_ x->b[ib]?=a_ y->x≠y:=λh1 h2 e=>Fq _ (aU h1) (e▸aU h2)
 have tB:∀{out:List Nat}{ia ib x y:Nat},MH lt a b out (ia+1) (ib+1)->a[ia]?=a_ x->b[ib]?=a_ y->lt x y=c_->MH lt a b (out++[y]) (ia+1) ib:=λ{out ia ib x y}h h1 h2 c=>by
  have:=h.pA Y (at_:=ib) (by simp) (λz hz=>by rw[lj h2,aA]at hz;subst hz;exact qF o sa h1 c);rw[lj h2]at this;exact this
 have tA:∀{out:List Nat}{ia ib x y:Nat},MH lt a b out (ia+1) (ib+1)->a[ia]?=a_ x->b[ib]?=a_ y->lt y x=c_->MH lt a b (out++[x]) ia (ib+1):=λ{out ia ib x y}h h1 h2 c=>by
  have:=h.wM sa (at_:=ia) (by omega) (λz hz=>by rw[lj h1,aA]at hz;subst hz;exact qF o Y h2 c);rw[lj h1]at this;exact this
 have m0:MH lt a b [y0] n b.length:=by
  have h:MH lt a b [] (n+1) b.length:=⟨by rw[hn,iq,iq];exact ML.start,ae hn.symm,au _⟩
  have:=h.wM sa (at_:=n) (by simp) (λz hz x hx=>by rw[lj Z,aA]at hz;subst hz;exact hf x (bS hx));rw[lj Z]at this;exact this
 have hsz:(Ar it a).size - 1=n:=by rw[bM];omega
 unfold AG;walk_at "u mergeHi";rw[hsz];refine .bind (.rule (.bind (.elem Z ?_)));have m0':MH lt a b [y0] n (Ar it b).size:=by rw[bM];exact m0
 refine .ite (λc=>.pure (q _ (gallopOf st) (B m0' (beq_iff_eq.mp c)))) λc1=>?_;refine .ite (λc=>.pure (q _ (gallopOf st) (qL m0' (beq_iff_eq.mp c)))) λc2=>?_;refine .bind (.get ?_);have b1:0<n:=by have c:¬n=0:=λe=>c1 (beq_iff_eq.mpr e);exact fV c
 have b2:1<(Ar it b).size:=by have c:¬(Ar it b).size=1:=λe=>c2 (beq_iff_eq.mpr e);rw[bM]at c ⊢;omega
 refine Wt.rg (Q:=Res it lt (a++b)) (I':=λ_ _ _=>False) (out:=[y0]) (ia:=n) (ib:=(Ar it b).size) (r:=(_,gallopOf st)) (t:=λr:Nat×Nat=>D1 st r.2) (z:=λout ia ib r=>(ia,ib,Ar it out,r.1)) (λj out ia ib=>LK lt a b out ia ib (j+1)) (λout ia ib r=>(ia,ib,Ar it out,r.1)) (λr:Nat×Nat=>D1 st r.2) ⟨m0',b1,b2,by rw[bM];omega⟩
  (λout ia ib v=>by have h1:=v.m;have h2:=v.ha;have h3:=v.hb;rw[bM,bM]at h1;omega) (λr _ g e=>.pure (q r g.2 e)) (λ_ _ _ _ h=>h.elim) λj out ia ib r0 hj v=>?_
 refine Wt.rg (Q:=Res it lt (a++b)) (I':=λout ia ib=>LK lt a b out ia ib (j+1+1)) (out:=out) (ia:=ia) (ib:=ib) (r:=(0,0)) (t:=λ_:Nat×Nat=>D1 st r0.2) (z:=λout ia ib r=>(ia,ib,Ar it out,r.1,r.2)) (λi out ia ib=>LK lt a b out ia ib (j+1+i)) (λout ia ib r=>(ia,ib,Ar it out,r.1,r.2)) (λ_:Nat×Nat=>D1 st r0.2) v
  (λout ia ib v=>by have h1:=v.m;have h2:=v.ha;have h3:=v.hb;rw[bM,bM]at h1;omega) (λr _ _ e=>.pure (.inl ⟨r,_,(0,r0.2),rfl,rfl,e⟩)) (λout ia ib r1 v=>?_) λi out ia ib r1 hi v=>?_
 rotate_left
 ·have hm:=v.m;have la:=v.mh.la;have lb:=v.mh.lb;obtain⟨ia,rfl⟩:∃k,ia=k+1:=⟨ia - 1,kN (rG v.ha)⟩
  obtain⟨ib,rfl⟩:∃k,ib=k+1:=⟨ib - 1,by have:=v.hb;omega⟩
  obtain⟨y,J,y2,y3⟩:=D (show ib<b.length from lb);obtain⟨x,x1,x2,x3⟩:=M (show ia<a.length from la);have hib:=v.hb;refine .bind (.elem J (.bind (.elem x1 (.bind (Wt.ask as hk y2 x2 ?_)))))
  cases c:lt y x with
  |true=>
    refine .bind (.elem x1 ?_);have m2:=tA v.mh x1 J c;rw[l5];refine .ite (λd=>.pure (.inl ⟨_,_,(0,0),rfl,rfl,B m2 (beq_iff_eq.mp d)⟩)) λd=>?_;have d:0<ia:=by have c:¬ia=0:=λe=>d (beq_iff_eq.mpr e);exact fV c
    exact .ite (λ_=>.pure (.inr ⟨_,ia,ib+1,(_,_),rfl,rfl,m2,d,v.hb,by omega⟩)) λ_=>.pure ⟨_,ia,ib+1,(_,_),rfl,rfl,m2,d,v.hb,by omega⟩
  |false=>
    refine .bind (.elem J ?_);have m2:=tB v.mh x1 J (o.co _ _ (nex x1 J).symm c);rw[l5];refine .ite (λd=>.pure (.inl ⟨_,_,(0,0),rfl,rfl,qL m2 (beq_iff_eq.mp d)⟩)) λd=>?_;have d:1<ib:=by have c:¬ib=1:=λe=>d (beq_iff_eq.mpr e);omega
    exact .ite (λ_=>.pure (.inr ⟨_,ia+1,ib,(_,_),rfl,rfl,m2,v.ha,d,by omega⟩)) λ_=>.pure ⟨_,ia+1,ib,(_,_),rfl,rfl,m2,v.ha,d,by omega⟩
 refine .bind (.rule (Wt.rg (Q:=Res it lt (a++b)) (I':=λout ia ib=>LK lt a b out ia ib (j+1+1)) (out:=out) (ia:=ia) (ib:=ib) (r:=(_,r1.1,r1.2,r0.2)) (t:=λr:Nat×Nat×Nat×Nat=>D1 st r.2.2.2) (z:=λout ia ib r=>(ia,ib,Ar it out,r.1,r.2.1,r.2.2.1)) (λi out ia ib=>LK lt a b out ia ib (j+1+1+i)) (λout ia ib r=>(ia,ib,Ar it out,r.1,r.2.1,r.2.2.1)) (λr:Nat×Nat×Nat×Nat=>D1 st r.2.2.2) v
  (λout ia ib v=>by have h1:=v.m;have h2:=v.ha;have h3:=v.hb;rw[bM,bM]at h1;omega) (λr _ g e=>.pure (.inl ⟨r,_,(0,g.2.2.2),rfl,rfl,e⟩)) (λout ia ib r v=>.bind (.M1 (.pure ⟨out,ia,ib,(_,_),rfl,rfl,v⟩))) λi out ia ib r2 hi v=>?_))
 extract_lets s1 o1 s2 ia1 s3 ib1 s4 mg1 s5 ac1 bc1 ib2 jp mg2
 subst s1 o1 s2 ia1 s3 ib1 s4 mg1 s5 ac1 bc1 ib2 mg2;refine Wt.wy (λR=>∀mg,R (jp () mg)) ?_ λh=>?_
 rotate_left
 ·exact .ite (λ_=>h _) λ_=>h _
 intro mg;have hm:=v.m;have la:=v.mh.la;have lb:=v.mh.lb;have hia:=v.ha;obtain⟨ib,rfl⟩:∃k,ib=k+1:=⟨ib - 1,by have:=v.hb;omega⟩
 have hib:=v.hb;obtain⟨y,J,y2,y3⟩:=D (show ib<b.length by omega);obtain⟨k,k1,k2,k3,k4⟩:=se o as (l:=a) (base:=0) (n:=ia) (y:=y) (gH la (aR _)) (by rw[fj];exact sa.sublist (iP _ _)) (λx hx=>by rw[fj]at hx;have:=bS hx;exact⟨na x this,λe=>y3 (e▸this)⟩) y2;rw[fj]at k2 k3;rw[wG]at k3;rw[jO,dz k1]at k2;refine .bind (.M1 (.bind (.elem J (.bind (k4 d_ (ia - 1) hk (gH hia (au _)) ?_)))));have O:MH lt a b (out++((a.drop k).take (ia - k)).reverse) k (ib+1):=v.mh.wM sa k1 λz hz=>qF o Y J (k3 z hz);dsimp -zeta -zetaHave only
 extract_lets +onlyGivenNames ka ac1 jp2
 subst ac1 ka;refine Wt.wy (λR=>∀out ia,MH lt a b out ia (ib+1)->0<ia->(∀z∈a.take ia,lt z y=c_)->j+1+1+i+ia+(ib+1)<=a.length+b.length->R (jp2 () ia (Ar it out))) ?_ λh=>?_
 rotate_left
 ·refine .ite (λ_=>?_) λc=>?_
  ·rw[FO];refine .ite (λd=>.pure (.inl ⟨_,_,(0,0,0,_),rfl,rfl,B O (beq_iff_eq.mp d)⟩)) λd=>?_;have c1:¬k=0:=λe=>d (beq_iff_eq.mpr e);exact h (out++((a.drop k).take (ia - k)).reverse) k O (fV c1) k2 (by omega)
  ·obtain rfl:k=ia:=by have c:¬ia - k > 0:=c;omega
   rw[iq,jN,LR,aM]at O;exact h out k O v.ha k2 hm
 clear O k3 k4;intro out ia O hia k2 hm;have la:=O.la;obtain⟨ia,rfl⟩:∃k,ia=k+1:=⟨ia - 1,kN (rG hia)⟩
 obtain⟨x,x1,x2,x3⟩:=M (show ia<a.length from la);have xy:lt x y=c_:=k2 x (aU (i:=ia) (by rw[bX,if_pos (eZ _)];exact x1));have m2:=tB O x1 J xy;refine .bind (.elem J ?_);rw[l5];refine .ite (λd=>.pure (.inl ⟨_,_,(0,0,0,_),rfl,rfl,qL m2 (beq_iff_eq.mp d)⟩)) λd=>?_;have d:1<ib:=by have c:¬ib=1:=λe=>d (beq_iff_eq.mpr e);omega
 obtain⟨k',l1,l2,l3,l4⟩:=se o as (l:=b) (base:=0) (n:=ib) (y:=x) (by omega) (by rw[fj];exact Y.sublist (iP _ _)) (λz hz=>by rw[fj]at hz;have:=bS hz;exact⟨nb z this,λe=>x3 (e▸this)⟩) x2;rw[fj]at l2 l3;rw[wG]at l3;rw[jO,dz l1]at l2;refine .bind (.elem x1 (.bind (l4 c_ (ib - 1) hk (by omega) ?_)));have U:MH lt a b (out++[y]++((b.drop k').take (ib - k')).reverse) (ia+1) k':=m2.pA Y l1 λz hz=>qF o sa x1 (l3 z hz);dsimp -zeta -zetaHave only
 extract_lets +onlyGivenNames kb bc1 ia2 jp3
 subst bc1 ia2 kb;refine Wt.wy (λR=>∀out ib',MH lt a b out (ia+1) ib'->1<ib'->(∀z∈b.take ib',lt z x=c_)->j+1+1+i+1+(ia+1)+ib'<=a.length+b.length->R (jp3 () ib' (Ar it out))) ?_ λh=>?_
 rotate_left
 ·refine .ite (λ_=>?_) λc=>?_
  ·rw[FO];refine .ite (λd=>.pure (.inl ⟨_,_,(0,0,0,_),rfl,rfl,qL U (beq_iff_eq.mp d)⟩)) λd=>?_;refine .ite (λd=>.pure (.inl ⟨_,_,(0,0,0,_),rfl,rfl,fin1' U (beq_iff_eq.mp d)⟩)) λd'=>?_;have c1:¬k'=1:=λe=>d (beq_iff_eq.mpr e);have c2:¬k'=0:=λe=>d' (beq_iff_eq.mpr e);exact h (out++[y]++((b.drop k').take (ib - k')).reverse) k' U (by omega) l2 (by omega)
  ·obtain rfl:k'=ib:=by have c:¬ib - k' > 0:=c;omega
   rw[iq,jN,LR,aM]at U;exact h (out++[y]) k' U d l2 (by omega)
 intro out ib' U W l2 hm;have lb:=U.lb;obtain⟨ib',rfl⟩:∃k,ib'=k+1:=⟨ib' - 1,by omega⟩
 obtain⟨z,L,z2,z3⟩:=D (show ib'<b.length from lb);have m3:=tA U x1 L (l2 z (aU (i:=ib') (by rw[bX,if_pos (eZ _)];exact L)));refine .bind (.elem x1 ?_);rw[l5];refine .ite (λd=>.pure (.inl ⟨_,_,(0,0,0,_),rfl,rfl,B m3 (beq_iff_eq.mp d)⟩)) λd=>?_;have d:0<ia:=by have c:¬ia=0:=λe=>d (beq_iff_eq.mpr e);exact fV c
 exact .ite (λ_=>.pure (.inr ⟨_,ia,ib'+1,(_,_,_,_),rfl,rfl,m3,d,W,by omega⟩)) λ_=>.pure ⟨_,ia,ib'+1,(_,_,_,_),rfl,rfl,m3,d,W,by omega⟩
end
abbrev oV(κ:pf)(it:Nat->ju)(l:List Nat)(c:List (Nat×Nat×Nat))(g:Nat):bN:=ji κ (Ar it l) c.toArray g b_
section
theorem Am:∀(R d u v:List Nat)(c n:Nat),d.length=R.length->c+n=u.length->((R.map it).zipIdx n).foldl (λ(a:Array ju)(x:ju×Nat)=>a.setIfInBounds (c+x.2) x.1) (Ar it (u++d++v))=Ar it (u++R++v)
 |[],[],u,v,c,n,_,_=>rfl
 |r::R,p::d,u,v,c,n,hl,hc=>by
   rw[ax,tP,Mq]
   have e:(Ar it (u++(p::d)++v)).setIfInBounds (c+n) (it r)=Ar it ((u++[r])++d++v):=by
    simp only[wD,hc]
    congr 1
    simp
   show((R.map it).zipIdx (n+1)).foldl _ ((Ar it (u++(p::d)++v)).setIfInBounds (c+n) (it r))=_;rw[e,Am R d (u++[r]) v c (n+1) (by simpa using hl) (by simp;exact bA (bC (ae hc)) (bC (ae hc.symm)))];simp
def mP(ha:eP lt a)(hb:eP lt b)(h:∀x∈a,∀y∈b,lt x y=c_):eP lt (a++b):=eh.mpr ⟨ha,hb,h⟩
def CS{pre:List Nat}{G:Bool->bN->Prop}(o:Lt lt)(as:tL P w A s κ it lt N)(sB:eP lt B)(Y:eP lt C)(nB:0<B.length)(nC:0<C.length)(lB:∀x∈B,x<N)(lC:∀x∈C,x<N)(Fq:∀x∈B,x∉C)
  (q:∀M g,eP lt M->M.Perm (B++C)->G c_ (oV κ it (pre++M++post) (v++(pre.length,B.length+C.length,pw)::W) g)) :
  Wt P w A E s (mergeAt' v.length) G (oV κ it (pre++(B++C)++post) (v++(pre.length,B.length,pw)::(pre.length+B.length,C.length,pw')::W) g):=by
 generalize U:pre++(B++C)++post=L;have hy:∃y,C[0]?=a_ y:=⟨C[0],af nC⟩
 obtain⟨y,hy⟩:=hy;have hx:∃x,B[B.length - 1]?=a_ x:=⟨_,af (gH nB (au _))⟩
 obtain⟨x,hx⟩:=hx;have yC:=aU hy;have xB:=aU hx;have sl1:(L.drop pre.length).take B.length=B:=by rw[<-U,aE,jU,aE,wC]
 have yt:(L.drop (pre.length+B.length)).take C.length=C:=by
  rw[<-U,<-jW,aE,jU,aE,jU,wC]
 have lenL:pre.length+B.length+C.length<=L.length:=by rw[<-U];simp;omega
 have gy:L[pre.length+B.length]?=a_ y:=by
  rw[<-U,aE,aH (aX _ _),aE,aH (by simp),aQ (by omega)];rw[(Nat.sub_eq_zero_of_le (ae (cU _ _)))];exact hy
 have gx:L[pre.length+B.length - 1]?=a_ x:=by
  rw[<-U,aE,aH (pT (fF nB _)),aE,aQ (by omega)];rw[show pre.length+B.length - 1 - pre.length=B.length - 1 by omega];exact hx
 obtain⟨k,k1,k2,k3,k4⟩:=se o as (aa (aX _ _) lenL) (by rw[sl1];exact sB) (λz hz=>by rw[sl1]at hz;exact⟨lB z hz,λe=>Fq z hz (e▸yC)⟩) (lC y yC);obtain⟨m,m1,m2,m3,m4⟩:=se o as (by omega) (by rw[yt];exact Y) (λz hz=>by rw[yt]at hz;exact⟨lC z hz,λe=>Fq x xB (e▸hz)⟩) (lB x xB);rw[sl1]at k2 k3;rw[yt]at m2 m3
 have J:∀z∈C,z=y\/lt y z=c_:=λz hz=>by
  have e:=jF hy;rw[fj]at e;rw[e]at hz Y
  rcases aw.mp hz with h|h
  ·exact .inl h
  ·exact .inr ((cv.mp Y).1 z h)
 have xall:∀z∈B,z=x\/lt z x=c_:=λz hz=>by
  obtain⟨i,hi⟩:=gr hz;obtain⟨v,W⟩:=aP.mp hi;obtain⟨q1,q2⟩:=aP.mp hx;by_cases e:i=B.length - 1
  ·subst e;rw[hx]at hi;cases hi;exact .inl rfl
  ·have:=dC.mp sB i (B.length - 1) v q1 (by omega);rw[W,q2]at this;exact .inr this
 have low:∀u,(∀z∈C,z=y\/lt y z=c_)->lt u y=c_->∀z∈C,lt u z=c_:=λu _ h z hz=>by
  rcases J z hz with rfl|h'
  ·exact h
  ·exact o.tr _ _ _ h h'
 have high:∀u,lt x u=c_->∀z∈B,lt z u=c_:=λu h z hz=>by
  rcases xall z hz with rfl|h'
  ·exact h
  ·exact o.tr _ _ _ h' h
 unfold mergeAt';walk_at "u mergeAt";refine .bind (.get ?_)
 have e1:(pendingOf (oV κ it L (v++(pre.length,B.length,pw)::(pre.length+B.length,C.length,pw')::W) g))[v.length]?=a_ (pre.length,B.length,pw):=by
  rw[iL,aH (au _),iq];rfl
 have e2:(pendingOf (oV κ it L (v++(pre.length,B.length,pw)::(pre.length+B.length,C.length,pw')::W) g))[v.length+1]?=a_ (pre.length+B.length,C.length,pw'):=by
  rw[iL,aH (by simp),(cU _ _)];rfl
 rw[e1,e2]
 have e3:((pendingOf (oV κ it L (v++(pre.length,B.length,pw)::(pre.length+B.length,C.length,pw')::W) g)).setIfInBounds v.length (pre.length,B.length+C.length,pw)).eraseIdxIfInBounds (v.length+1)=(v++(pre.length,B.length+C.length,pw)::W).toArray:=by
  rw[wD,List.set_append_right (h:=au _),iq];unfold Array.eraseIdxIfInBounds;rw[dif_pos (by simp)];rw[List.eraseIdx_toArray,List.eraseIdx_append_of_length_le (by omega),(cU _ _)];rfl
 refine .bind (.set ?_);rw[e3];refine .bind (.elem gy (.bind (k4 d_ 0 rfl nB ?_)));refine .ite (λc=>?_) λc=>?_
 ·have c :=beq_iff_eq.mp c;refine .pure ?_;rw[<-U];refine q (B++C) g (mP sB Y λu d=>low u J (k2 u ?_)) (.refl _);rw[fI (by omega)];exact d
 have c:¬B.length - k=0:=λe=>c (beq_iff_eq.mpr e);refine .bind (.elem (by rw[show pre.length+k+(B.length - k) - 1=pre.length+B.length - 1 by omega];exact gx) (.bind (m4 c_ (C.length - 1) rfl (gH nC (au _)) ?_)));refine .ite (λc=>?_) λc'=>?_
 ·have c :=beq_iff_eq.mp c;subst c;refine .pure ?_;rw[<-U];exact q (B++C) g (mP sB Y λu d z hz=>high z (m3 z hz) u d) (.refl _)
 have c':0<m:=by have :=λe=>c' (beq_iff_eq.mpr e);exact fV this
 have ex:(Ar it L).extract (pre.length+k) (pre.length+B.length)=Ar it (B.drop k):=by
  have:(L.drop (pre.length+k)).take (pre.length+B.length - (pre.length+k))=B.drop k:=by
   rw[<-U,<-jW,aE,jU,aE,List.drop_append_of_le_length k1,show pre.length+B.length - (pre.length+k)=(B.drop k).length by simp;omega,wC]
  have h:=mD (it:=it) (l:=[]) (b:=L) (i:=pre.length+k) (j:=pre.length+B.length);rw[this]at h;simpa using h
 have ey:(Ar it L).extract (pre.length+B.length) (pre.length+B.length+m)=Ar it (C.take m):=by
  have:(L.drop (pre.length+B.length)).take (pre.length+B.length+m - (pre.length+B.length))=C.take m:=by
   rw[<-U,<-jW,aE,jU,aE,jU,(cU _ _),kK m1]
  have h:=mD (it:=it) (l:=[]) (b:=L) (i:=pre.length+B.length) (j:=pre.length+B.length+m);rw[this]at h;simpa using h
 have sB':eP lt (B.drop k):=sB.sublist (fx _ _);have sC':eP lt (C.take m):=Y.sublist (iP _ _)
 have fin:∀r g',Res it lt (B.drop k++C.take m) r->G c_ (ji κ (r.toList.zipIdx.foldl (λ(a)(x)=>a.setIfInBounds (pre.length+k+x.2) x.1) (Ar it L)) (v++(pre.length,B.length+C.length,pw)::W).toArray g' b_):=by
  rintro r g' ⟨R,rfl,sR,pR⟩
  have hLs:L=(pre++B.take k)++(B.drop k++C.take m)++(C.drop m++post):=by
   rw[<-U]
   conv=>lhs;rw[<-aY k B,<-aY m C]
   simp only[aE]
  have hb:=Am (it:=it) R (B.drop k++C.take m) (pre++B.take k) (C.drop m++post) (pre.length+k) 0 pR.length_eq.symm (by simp;exact kN (dz k1));rw[hLs,hb];have:=q (B.take k++R++C.drop m) g' ?_ ?_
  ·simpa only[aE]using this
  ·refine mP (mP (sB.sublist (iP _ _)) sR λu d z hz=>?_) (Y.sublist (fx _ _)) λu d z hz=>?_
   ·rcases ao.mp (pR.mem_iff.mp hz)with h|h
    ·have:=sB;rw[<-aY k B]at this;exact(eh.mp this).2.2 u d z h
    ·exact low u J (k2 u d) z (bS h)
   ·have hzx:=m3 z hz
    rcases ao.mp d with h|h
    ·exact high z hzx u (bS h)
    ·rcases ao.mp (pR.mem_iff.mp h)with h|h
     ·exact high z hzx u (du h)
     ·have:=Y;rw[<-aY m C]at this;exact(eh.mp this).2.2 u h z hz
  ·conv=>rhs;rw[<-aY k B,<-aY m C]
   have:=(pR.append_left (B.take k)).append_right (C.drop m);simpa only[aE]using this
 have nB':∀x∈B.drop k,x<N:=λz h=>lB z (du h);have nC':∀x∈C.take m,x<N:=λz h=>lC z (bS h);have Z:∀x∈B.drop k,x∉C.take m:=λz h h'=>Fq z (du h) (bS h');have hlB:(B.drop k).length=B.length - k:=by simp
 have hlC:(C.take m).length=m:=by simp;exact dz m1
 have O:(B.drop k)[B.length - k - 1]?=a_ x:=by rw[lS,show k+(B.length - k - 1)=B.length - 1 by omega];exact hx
 have D:(C.take m)[0]?=a_ y:=by rw[bX,if_pos c'];exact hy
 extract_lets +onlyGivenNames lx ly jp
 subst lx ly
 have h:∀r g',Res it lt (B.drop k++C.take m) r->Wt P w A E s (jp r) G (ji κ (Ar it L) (v++(pre.length,B.length+C.length,pw)::W).toArray g' b_):=by
  intro r g' hr;refine .bind (.modify (.bind (.get (.pure ?_))));exact fin r g' hr
 refine .ite (λ_=>?_) λ_=>?_
 ·refine .bind ?_;rw[ex,ey];refine CP o as rfl nB' nC' sB' sC' Z (aa (fV c) (ae hlB.symm)) D k3 (λz hz u d=>?_) λr g' hr=>h r g' hr;rw[hlB,jF O]at d;have:(B.drop k).drop (B.length - k - 1+1)=[]:=jV (by omega);rw[this,aA]at d;subst d;exact m2 z hz
 ·refine .bind ?_;rw[ex,ey];refine CQ o as rfl nB' nC' sB' sC' Z (aa c' (ae hlC.symm)) (by omega) O m2 (λz hz u d=>?_) λr g' hr=>h r g' hr;have e:=take_one D;rw[fj]at e;rw[e,aA]at d;subst d;exact k3 z hz
end
section
def Wt.WI{G:Option Bool->bN->Prop}(as:tL P w A s κ it lt N)(c:l[i]?=a_ x)(d:l[j]?=a_ y)(nx:x<N)(k:y<N)(h:G (a_ (lt x y)) (oV κ it l pd g)):Wt P w A E s (ltAt' i j) G (oV κ it l pd g):=by
 exact .bind (.get (.bind (.elem c (.bind (.elem d (Wt.ask as rfl nx k h))))))
set_option tactic.hygienic true
def AE(pre X Y:List Nat):mirror (Ar it (pre++X++Y)) pre.length (pre.length+X.length) ((pre.length+X.length - pre.length) / 2)=Ar it (pre++X.reverse++Y):=by
 apply Gf;intro k;rw[getElem?_mirror_all (by simp)];simp only[iL,aN];split
 ·rename_i h;rw[aE,aE,aH (by omega),aQ (by omega),aH (h.1),aQ (by simp;omega),B8 (by omega)]
  congr 2;omega
 ·rename_i h;by_cases c:k<pre.length
  ·rw[aE,aE,aQ c,aQ c]
  ·rw[aH (by simp;omega),aH (by simp;omega)]
   congr 2;simp
def BB(p V Y:List Nat)(x:Nat):bubble (Ar it (p++(V++x::Y))) (p.length+V.length) V.length=Ar it (p++(x::V++Y)):=by
 apply Gf;intro k;rw[getElem?_bubble (by rw[bM];simp) _ (vY _ _)];simp only[iL,aN];by_cases c:k<p.length
 ·rw[if_neg (by omega),if_neg (by omega),aQ c,aQ c]
 ·obtain⟨m,rfl⟩:∃m,k=p.length+m:=⟨k - p.length,kN (eN (bF c))⟩
  clear c;have ap:∀(Z:List Nat)(i:Nat),(p++Z)[p.length+i]?=Z[i]? :=λZ i=>by rw[aH (aX _ _),cU]
  rw[ap (V++x::Y) m,ap,ap];split
  ·rename_i h;obtain rfl:m=0:=by omega
   rw[aH (au _),iq];rfl
  cases m with
  |zero=>rename_i h;exact absurd (by simp) h
  |succ m=>
    split
    ·rename_i h h';have d :=zv h'.2;rw[show p.length+(m+1) - 1=p.length+m from rfl,ap,aQ d,nV,bO,aQ d]
    ·rename_i h h';have d:V.length<=m:=by omega
     rw[aH (bW d),nV,bO,aH d,Nat.succ_sub d,bO]
set_option tactic.hygienic false
def rL(o:Lt lt){l:List Nat}(h:eP lt (l.take (n+1)))(g:l[n]?=a_ u)(j:l[n+1]?=a_ v)(c:lt u v=c_):eP lt (l.take (n+1+1)):=by
 rw[List.take_succ,j];refine mP h (nP _ _) λz hz y d=>?_;have d:y=v:=by simpa using d
 subst d;have:=qF o (l:=l.take (n+1)) h (n:=n) (x:=u) (by rw[bX,if_pos (by omega)];exact g) c z;rw[jO,Nat.min_self]at this;exact this hz
abbrev ASt:=Option (Option Nat)×Nat
def Eh{rest:List Nat}{st:bN}(o:Lt lt)(nd:rest.Nodup)(ha:1<=a)(hb:a<=rest.length)(h:eP lt (rest.take a))
  (hf:∀x n u v(G':ForInStep ASt->bN->Prop),rest[n]?=a_ u->rest[n+1]?=a_ v->(lt v u=c_->G' (.done (b_,n+1)) st)->(lt v u=d_->G' (.yield (b_,n+1+1)) st)->Wt P w A E s (f x (b_,n+1)) G' st) :
  Wt P w A E s (forIn [a:rest.length] ((b_,a):ASt) f) (λb d=>d=st/\∃n,b=(b_,n)/\a<=n/\n<=rest.length/\eP lt (rest.take n)/\∀k u v,n=k+1->rest[k]?=a_ u->rest[k+1]?=a_ v->lt v u=c_) st:=by
 refine Wt.range (λj b d=>d=st/\b=(b_,a+j)/\eP lt (rest.take (a+j))) ⟨rfl,rfl,h⟩ (λj b d L z=>?_) λb d z=>⟨z.1,_,z.2.1,aX _ _,ae (eN hb),z.2.2,λk u v J _ g=>by have:=(aP.mp g).1;omega⟩
 obtain⟨e,e1,D⟩:=z;subst e e1;obtain⟨n,y⟩:∃n,a+j=n+1:=⟨a+j - 1,by omega⟩
 rw[y]at D ⊢;have B:=af (show n<rest.length by omega);have g:=af (show n+1<rest.length by omega)
 refine hf _ n _ _ _ B g (λc=>⟨rfl,n+1,rfl,aa (aX _ _) (ae y),by omega,D,λk u v J l q=>by
  obtain rfl:n=k:=Nat.add_right_cancel J
  rw[B]at l;rw[g]at q;cases l;cases q;exact c⟩) λc=>⟨rfl,by rw[show a+(j+1)=n+1+1 from(bA (bC (ae y)) (bC (ae y.symm)))],?_⟩
 rw[show a+(j+1)=n+1+1 by omega];refine rL o D B g (o.co _ _ (λe=>?_) c);have:=(jQ (by omega) nd).mp (g.trans (by rw[e];exact B.symm));exact aV (ae this) (au _)
def tZ{pre rest:List Nat}:(pre++rest)[pre.length+n]?=rest[n]? :=by rw[aH (aX _ _)];congr 1;exact cU _ _
def Bp{pre rest:List Nat}{G:Option Nat->bN->Prop}(o:Lt lt)(as:tL P w A s κ it lt N)(hn:0<rest.length)(nl:∀x∈rest,x<N)(nd:rest.Nodup)
  (q:∀n rest',1<=n->n<=rest.length->rest'.Perm rest->eP lt (rest'.take n)->G (a_ n) (oV κ it (pre++rest') pd g)):Wt P w A E s (countRun' pre.length rest.length) G (oV κ it (pre++rest) pd g):=by
 have ask:∀{rest':List Nat}{i j x y:Nat}{G':Option Bool->bN->Prop},rest'.Perm rest->rest'[i]?=a_ x->rest'[j]?=a_ y->G' (a_ (lt x y)) (oV κ it (pre++rest') pd g)->Wt P w A E s (ltAt' (pre.length+i) (pre.length+j)) G' (oV κ it (pre++rest') pd g):=λhp hx hy h=>
  Wt.WI as (tZ.trans hx) (tZ.trans hy) (nl _ (hp.mem_iff.mp (aU hx))) (nl _ (hp.mem_iff.mp (aU hy))) h
 unfold countRun';walk_at "u countRun"
 refine .bind (Wt.mono (Eh (st:=oV κ it (pre++rest) pd g) o nd (au 1) hn (by
  cases rest with
  |nil=>exact .nil
  |cons z r=>exact nP _ _) λx n u v G' l B M O=>?_) λb d z=>?_)
 ·refine .bind (ask (.refl _) B (j:=n) l ?_)
  cases c:lt v u with
  |true=>exact .pure (M c)
  |false=>exact .pure (O c)
 obtain⟨e,n,e1,h1,h2,L,hs⟩:=z;subst e e1;refine .ite (λc=>.pure (q n rest h1 h2 (.refl _) L)) λc=>?_;have c:n<rest.length:=by have:¬n=rest.length:=λe=>c (beq_iff_eq.mpr e);exact dX h2 this
 dsimp -zeta -zetaHave only
 extract_lets +onlyGivenNames n1 q1 jp
 subst n1 q1;refine Wt.wy (λR=>n=1->R (jp ())) ?_ λh=>?_
 rotate_left
 ·refine .ite (λc1=>?_) λc1=>h (by have c1:¬n > 1:=c1;exact bA (bF c1) h1);have c1:n > 1:=c1;obtain⟨k,rfl⟩:∃k,n=k+1:=⟨n - 1,kN (rG h1)⟩
  have l:=af (show 0<rest.length by omega);have B:=af (show k<rest.length from h2);refine .bind (ask (i:=0) (j:=k) (.refl _) l B ?_)
  have:lt rest[0] rest[k]=c_:=by
   have:=dC.mp L 0 k (by simp;omega) (by simp;omega) (bp c1);simpa using this
  rw[this];exact .pure (q (k+1) rest h1 h2 (.refl _) L)
 rintro rfl;have B:=af (show 1<rest.length by omega);have l:=af (show 0<rest.length by omega);have c0:=hs 0 _ _ rfl l B;have o':Lt (TX lt):=⟨λi j k a b=>o.tr _ _ _ b a,λi j a b=>o.co _ _ (eK a) b,λi j a=>o.as _ _ a⟩
 have f2:eP (TX lt) (rest.take 2):=by
  refine rL (n:=0) o' ?_ l B c0
  cases rest with
  |nil=>exact .nil
  |cons z r=>exact nP _ _
 refine .bind (.rule (.bind (Wt.mono (Wt.range (G:=λ(b:Option (Option Nat)×Nat×Nat)d=>d=oV κ it (pre++rest) pd g/\∃m,b=(b_,m,0)/\2<=m/\m<=rest.length/\eP (TX lt) (rest.take m))
  (λj b d=>d=oV κ it (pre++rest) pd g/\b=(b_,j+2,0)/\eP (TX lt) (rest.take (j+2))) ⟨rfl,rfl,f2⟩ (λj b d U z=>?_) λb d z=>⟨z.1,_,z.2.1,by simp,gH c (au _),z.2.2⟩) λb d z=>?_)))
 ·obtain⟨e,e1,hd⟩:=z;subst e e1;have l:=af (show j+1<rest.length from(bb (pU U)));have B:=af (show j+2<rest.length from(pU U));refine .bind (ask (i:=j+2) (j:=j+1) (.refl _) B l ?_)
  cases c:lt rest[j+2] rest[j+1]with
  |true=>
    refine .pure ⟨rfl,rfl,?_⟩;have W:eP (TX lt) (rest.take (j+1+1)):=by exact hd
    have:=rL o' W l (v:=rest[j+2]) (by exact B) c;exact this
  |false=>
    have Y:rest[j+2]≠rest[j+1]:=λe=>by
     have:=(jQ (show j+2<rest.length by omega) nd).mp (B.trans (by rw[e];exact l.symm));exact aV (ae this) (au _)
    refine .bind (ask (i:=j+1) (j:=j+2) (.refl _) l B ?_);rw[o.co _ _ Y c];exact .pure ⟨rfl,j+2,rfl,vY _ _,bb (pU U),hd⟩
 obtain⟨e,m,e1,m1,m2,hd⟩:=z;subst e e1;have hlen:(rest.take m).length=m:=by simp;exact dz m2
 have D:((rest.take m).reverse++rest.drop m).Perm rest:=by
  conv=>rhs;rw[<-aY m rest]
  exact(gn _).append_right _
 refine .bind ?_;show Wt P w A E s (reverseSlice' pre.length (pre.length+m)) _ _;rw[reverseSlice'_eq];refine .modify ?_
 have em:mirror (Ar it (pre++rest)) pre.length (pre.length+m) ((pre.length+m - pre.length) / 2)=Ar it (pre++((rest.take m).reverse++rest.drop m)):=by
  have:=AE (it:=it) pre (rest.take m) (rest.drop m);rw[hlen,aE,aY,aE]at this;exact this
 show Wt P w A E s _ _ (ji κ (mirror (Ar it (pre++rest)) pre.length (pre.length+m) ((pre.length+m - pre.length) / 2)) pd.toArray g b_);rw[em];have J:((rest.take m).reverse++rest.drop m).length=rest.length:=D.length_eq;generalize Z:(rest.take m).reverse++rest.drop m=rest' at D J;have ht:rest'.take m=(rest.take m).reverse:=by rw[<-Z];rw[kK (by simp;omega),fI (by simp;exact gm _ _)]
 rw[<-J];refine .bind (Wt.mono (Eh (a:=m) (st:=oV κ it (pre++rest') pd g) o (D.nodup_iff.mpr nd) (show 1<=m from(bb m1)) (aa m2 (ae J.symm)) (by rw[ht];exact ko.mpr hd) λx n u v G' l B M O=>?_) λb d z=>?_)
 ·refine .bind (ask D B (j:=n) l ?_)
  cases c:lt v u with
  |true=>exact .pure (M c)
  |false=>exact .pure (O c)
 ·obtain⟨e,n,e1,h1,h2,L,_⟩:=z;subst e e1;exact .pure (q n rest' (bb (aa m1 h1)) (aa h2 (ae J)) D L)
end
section
set_option tactic.hygienic true in
def wj{pre rest:List Nat}{G:Bool->bN->Prop}(o:Lt lt)(as:tL P w A s κ it lt N)(h1:1<=ok)(h2:ok<=n)(hn:n<=rest.length)(nl:∀x∈rest,x<N)(nd:rest.Nodup)(hr:eP lt (rest.take ok))
  (q:∀rest',rest'.Perm rest->eP lt (rest'.take n)->G c_ (oV κ it (pre++rest') pd g)):Wt P w A E s (binarySort' pre.length n ok) G (oV κ it (pre++rest) pd g):=by
 unfold binarySort';walk_at "u binarySort";rw[Nat.max_eq_left h1]
 refine .bind (Wt.mono (Wt.range (G:=λ(b)v=>b=(b_,())/\∃rest',v=oV κ it (pre++rest') pd g/\rest'.Perm rest/\eP lt (rest'.take n))
  (λj b v=>b=(b_,())/\∃rest',v=oV κ it (pre++rest') pd g/\rest'.Perm rest/\eP lt (rest'.take (ok+j))) ⟨rfl,rest,rfl,.refl _,hr⟩ (λj b v hj z=>?_) λb v z=>by obtain⟨e1,rest',e,hp,B⟩:=z;exact⟨e1,rest',e,hp,by rw[(kN (eN h2))];exact B⟩) λb v z=>by obtain⟨e1,rest',e,hp,B⟩:=z;subst e e1;exact .pure (q rest' hp B))
 obtain⟨e1,rest',e,hp,B⟩:=z;subst e e1;have hl:=hp.length_eq;generalize hk:ok+j=k at B;have J:k<rest'.length:=by omega
 have L:=af J;generalize rest'[k]=x at L;have mem:∀{i z:Nat},rest'[i]?=a_ z->z<N:=λh=>nl _ (hp.mem_iff.mp (aU h));obtain⟨t,D,t2⟩:=EC o B x;have D:t<=k:=by simp at D;exact aa D (gm _ _)
 have less:∀m,m<k->∃z,rest'[m]?=a_ z/\lt x z=decide (¬m<t):=λm R=>by
  have hz:=af ((cR R J));refine⟨_,hz,?_⟩;have e:=t2 m _ (by rw[bX,if_pos R];exact hz)
  have U:rest'[m]≠x:=λe=>by
   have:=(jQ ((cR R J)) (hp.nodup_iff.mpr nd)).mp (hz.trans (by rw[e];exact L.symm));exact aV R (ae this.symm)
  by_cases c:m<t
  ·rw[decide_eq_true c]at e;rw[decide_eq_false (λz=>(z c))];exact o.as _ _ e
  ·rw[decide_eq_false c]at e;rw[decide_eq_true c];exact o.co _ _ U e
 refine .bind (Wt.mono (Wt.range (G:=λ(b)v=>v=oV κ it (pre++rest') pd g/\∃r,b=(b_,t,r))
  (λi b v=>v=oV κ it (pre++rest') pd g/\∃l r,b=(b_,l,r)/\l<=t/\t<=r/\r<=k/\r - l<=k - i) ⟨rfl,0,k,rfl,aR _,D,au _,by simp⟩ (λi b v hi z=>?_) λb v z=>by obtain⟨e,l,r,e1,W,Y,a3,a4⟩:=z;exact⟨e,r,by rw[e1];congr;omega⟩) λb v z=>?_)
 ·obtain⟨e,l,r,e1,W,Y,a3,a4⟩:=z;subst e e1;refine .ite (λc=>.pure ⟨rfl,r,by rw[(bA (aa Y c) W)]⟩) λc=>?_;have c:¬l>=r:=c;obtain⟨z,M,Z⟩:=less ((l+r) / 2) (by omega);refine .bind (Wt.WI as (tZ.trans L) (tZ.trans M) (mem L) (mem M) ?_);rw[Z];by_cases d:(l+r) / 2<t
  ·rw[decide_eq_false (λz=>(z d))];exact .pure ⟨rfl,(l+r) / 2+1,r,rfl,d,Y,a3,by omega⟩
  ·rw[decide_eq_true d];exact .pure ⟨rfl,l,(l+r) / 2,rfl,W,bF d,by omega,by omega⟩
 obtain⟨e,r,e1⟩:=z;subst e e1;refine .bind ?_;show Wt P w A E s (moveDown' (pre.length+k) (pre.length+t)) _ _;rw[moveDown'_eq];refine .modify (.pure ⟨rfl,rest'.take t++(x::(rest'.take k).drop t++rest'.drop (k+1)),?_,?_,?_⟩)
 ·have hb:=BB (it:=it) (pre++rest'.take t) ((rest'.take k).drop t) (rest'.drop (k+1)) x
  have e1:rest'.take t++(rest'.take k).drop t=rest'.take k:=by
   conv=>rhs;rw[<-aY t (rest'.take k)]
   rw[jO,dz D]
  have e2:rest'=rest'.take k++x::rest'.drop (k+1):=by rw[<-jF L,aY]
  have e3:pre++rest'.take t++((rest'.take k).drop t++x::rest'.drop (k+1))=pre++rest':=by
   rw[aE,<-aE (rest'.take t),e1,<-e2]
  have e4:(pre++rest'.take t).length+((rest'.take k).drop t).length=pre.length+k:=by simp;omega
  have e5:((rest'.take k).drop t).length=pre.length+k - (pre.length+t):=by simp;omega
  rw[e3,e4,e5,aE]at hb;rw[hb]
 ·refine DR ?_ hp
  have e2:rest'=rest'.take t++((rest'.take k).drop t++x::rest'.drop (k+1)):=by
   rw[<-aE]
   have e1:rest'.take t++(rest'.take k).drop t=rest'.take k:=by
    conv=>rhs;rw[<-aY t (rest'.take k)]
    rw[jO,dz D]
   rw[e1,<-jF L,aY]
  conv=>rhs;rw[e2]
  exact jH _ LU.symm
 ·have e1:rest'.take t++(rest'.take k).drop t=rest'.take k:=by
   conv=>rhs;rw[<-aY t (rest'.take k)]
   rw[jO,dz D]
  have e2:(rest'.take t++(x::(rest'.take k).drop t++rest'.drop (k+1))).take (ok+(j+1))=rest'.take t++(x::(rest'.take k).drop t):=by
   rw[<-aE,kK (by simp;omega),fI (by simp;omega)]
  rw[e2];have O:=B;rw[<-e1]at O;obtain⟨s1,s2,s3⟩:=eh.mp O
  have lo:∀z∈rest'.take t,lt z x=c_:=λz hz=>by
   obtain⟨i,hi⟩:=gr hz;rw[bX]at hi;split at hi
   ·rename_i c;rw[t2 i z (by rw[bX,if_pos (bc c D)];exact hi),decide_eq_true c]
   ·cases hi
  have hi:∀z∈(rest'.take k).drop t,lt x z=c_:=λz hz=>by
   obtain⟨i,hi⟩:=gr hz;rw[lS,bX]at hi;split at hi
   ·rename_i c;obtain⟨z',M,Z⟩:=less (t+i) c;rw[hi]at M;cases M;rw[Z,decide_eq_true (by simp)]
   ·cases hi
  refine mP s1 (cv.mpr ⟨hi,s2⟩) λz hz y hy=>?_
  rcases aw.mp hy with rfl|hy
  ·exact lo z hz
  ·exact s3 z hz y hy
end
inductive lE (lt:Nat->Nat->Bool):Nat->List (Nat×Nat×Nat)->List (List Nat)->Prop
 |nil {o:Nat}:lE lt o [] []
 |cons {o pw:Nat} {R:List Nat} {ps:List (Nat×Nat×Nat)} {Rs:List (List Nat)}:0<R.length->eP lt R->lE lt (o+R.length) ps Rs->lE lt o ((o,R.length,pw)::ps) (R::Rs)
section
def lE.split(h:lE lt o pd Rs):∀{i:Nat},i+1<pd.length->∃g pw d k c B C R2,pd=g++(o+(c.flatten:List Nat).length,B.length,pw)::(o+c.flatten.length+B.length,C.length,d)::k/\Rs=c++B::C::R2/\g.length=i/\
  0<B.length/\0<C.length/\eP lt B/\eP lt C/\∀M:List Nat,M.length=B.length+C.length->eP lt M->lE lt o (g++(o+c.flatten.length,B.length+C.length,pw)::k) (c++M::R2):=by
 induction h with
 |nil=>intro i hi;simp at hi
 | @cons o pw R ps Rs h1 h2 h3 q=>
   intro i hi
   cases i with
   |zero=>
     cases h3 with
     |nil=>simp at hi
     | @cons _ d C ps Rs v y z=>
       refine⟨[],pw,d,ps,[],R,C,Rs,rfl,rfl,rfl,h1,v,h2,y,λM j l=>?_⟩;have:=lE.cons (pw:=pw) (aa (Mj _ h1) (ae j.symm)) l (by rw[j,<-iH];exact z);rw[j]at this;exact this
   |succ i=>
     obtain⟨g,D,J,k,c,B,C,R2,e1,e2,e3,b1,b2,b3,b4,b5⟩:=q (by simpa using hi);have e:o+(R::c).flatten.length=o+R.length+c.flatten.length:=by simp;exact kN (iH _ _ _)
     refine⟨(o,R.length,pw)::g,D,J,k,R::c,B,C,R2,by rw[e,e1];rfl,by rw[e2];rfl,by simp[e3],b1,b2,b3,b4,λM j l=>?_⟩;rw[e];exact .cons h1 h2 (b5 M j l)
def lE.push{R:List Nat}(h:lE lt o pd Rs)(h1:0<R.length)(h2:eP lt R):lE lt o (pd++[(o+Rs.flatten.length,R.length,x)]) (Rs++[R]):=by
 induction h with
 |nil=>exact .cons h1 h2 .nil
 | @cons o pw c ps Rs d g k j=>
   refine .cons d g ?_;rw[show o+(c::Rs).flatten.length=o+c.length+Rs.flatten.length by simp;exact kN (iH _ _ _)];exact j
def lE.mod(hf:∀a b c,∃d,f (a,b,c)=(a,b,d))(h:lE lt o pd Rs):∀k,lE lt o (pd.modify k f) Rs:=by
 induction h with
 |nil=>intro k;simp;exact .nil
 | @cons o g q ps Rs j l v y=>
   intro k
   cases k with
   |zero=>
     obtain⟨d,e⟩:=hf o q.length g;rw[List.modify_zero_cons,e];exact .cons j l v
   |succ k=>exact .cons j l (y k)
def lE.len(h:lE lt o pd Rs):pd.length<=Rs.flatten.length:=by
 induction h with
 |nil=>exact au _
 |cons d g j c=>simp at c ⊢;omega
end
section
variable{κ:pf}{it:Nat->ju}{lt:Nat->Nat->Bool}
def uY{Rs:List (List Nat)}{rest:List Nat}{G:Bool->bN->Prop}(o:Lt lt)(as:tL P w A s κ it lt N)(d:∀x∈l,x<N)(nd:l.Nodup)(hl:l=Rs.flatten++rest)(hp:lE lt 0 pd Rs)(hi:i+1<pd.length)
  (q:∀l' pd' g' Rs',l'=Rs'.flatten++rest->lE lt 0 pd' Rs'->l'.Perm l->Rs'.flatten.length=Rs.flatten.length->pd'.length+1=pd.length->G c_ (oV κ it l' pd' g')):Wt P w A E s (mergeAt' i) G (oV κ it l pd g):=by
 obtain⟨O,pw,v,R,j,B,C,R2,e1,e2,e3,b1,b2,b3,b4,b5⟩:=hp.split hi;rw[gG]at e1 b5;have el:l=j.flatten++(B++C)++(R2.flatten++rest):=by rw[hl,e2];simp
 have y:∀x∈B,x∈l:=λx c=>by rw[el];simp[c]
 have z:∀x∈C,x∈l:=λx c=>by rw[el];simp[c]
 have Fq :=λx hB D=>by
  rw[el]at nd;have:=(ck.mp (ck.mp nd).1).2.1;exact(ck.mp this).2.2 x hB x D rfl
 subst e3;rw[e1,el];refine CS o as b3 b4 b1 b2 (λx c=>d x (y x c)) (λx c=>d x (z x c)) Fq λM g' J k=>?_;have L:M.length=B.length+C.length:=by rw[k.length_eq];simp
 refine q _ _ g' (j++M::R2) (by simp) (b5 M L J) ?_ (by rw[e2];simp;omega) (by rw[e1];simp;rfl);rw[el];exact(k.append_left _).append_right _
abbrev UY(κ:pf)(it:Nat->ju)(lt:Nat->Nat->Bool)(j:List Nat)(n:Nat)(b:Option Unit×Nat)(c:bN):Prop:=∃l d g Rs,b=(b_,n)/\c=oV κ it l d g/\l=(Rs:List (List Nat)).flatten/\lE lt 0 d Rs/\l.Perm j
abbrev UW(κ:pf)(it:Nat->ju)(lt:Nat->Nat->Bool)(k:List Nat)(j:Nat)(b:Option Unit×Nat)(c:bN):Prop:=∃l d g Rs rest,b=(b_,(Rs.flatten:List Nat).length)/\c=oV κ it l d g/\l=Rs.flatten++rest/\lE lt 0 d Rs/\l.Perm k/\(rest=[]\/j<=Rs.flatten.length)
def ite_le{c:Prop}[Decidable c]:(if c then a - 1 else a)<=a:=by split<;>simp
def zT{G:Unit->bN->Prop}(o:Lt lt)(as:tL P w A s κ it lt N)(nl0:∀x∈l0,x<N)(nd0:l0.Nodup)(q:∀l k g,l.Perm l0->eP lt l->G () (oV κ it l k g)):Wt P w A E s sortRuns' G (oV κ it l0 [] g0):=by
 have nl:∀{l:List Nat},l.Perm l0->∀x∈l,x<N:=λh x hx=>nl0 x (h.mem_iff.mp hx);have nd:∀{l:List Nat},l.Perm l0->l.Nodup:=λh=>h.nodup_iff.mpr nd0;unfold sortRuns';walk_at "u sortRuns";refine .bind (.get ?_);have hsz:(arrOf (oV κ it l0 [] g0)).size=l0.length:=bM;rw[hsz];generalize R:l0.length=n
 refine .bind (Wt.mono (Wt.range (G:=UY κ it lt l0 n) (UW κ it lt l0) ⟨l0,[],g0,[],l0,rfl,rfl,rfl,.nil,.refl _,.inr (au _)⟩
  (λj b y hj z=>?_) λb y z=>?_) λb y z=>?_)
 rotate_left
 ·obtain⟨l,k,g,Rs,rest,e1,e2,hl,hp,v,U⟩:=z;have h1:=v.length_eq
  have hr:rest=[]:=by
   rcases U with h|h
   ·exact h
   ·rw[hl,az]at h1;exact jA.mp (by omega)
  subst hr;rw[aM]at hl;refine⟨l,k,g,Rs,?_,e2,hl,hp,v⟩;rw[e1,<-hl,h1,R]
 ·obtain⟨l,k,g,Rs,e1,e2,hl,hp,v⟩:=z;subst e1 e2
  refine .bind (Wt.mono (Wt.range (G:=λ(b)y=>∃l k g Rs,b=(b_,())/\y=oV κ it l k g/\l=(Rs).flatten/\lE lt 0 k Rs/\l.Perm l0/\k.length<=1)
   (λj b y=>∃l k g Rs,b=(b_,())/\y=oV κ it l k g/\l=(Rs).flatten/\lE lt 0 k Rs/\l.Perm l0/\(k.length<=1\/k.length+j<=n)) ⟨l,k,g,Rs,rfl,rfl,hl,hp,v,.inr (by have:=hp.len;rw[<-hl,v.length_eq]at this;exact aa this (ae R))⟩
   (λj b y hj z=>?_) λb y z=>by obtain⟨l,k,g,Rs,e1,e2,hl,hp,v,U⟩:=z;exact⟨l,k,g,Rs,e1,e2,hl,hp,v,by omega⟩) λb y z=>?_)
  ·obtain⟨l,k,g,Rs,e1,e2,hl,hp,v,U⟩:=z;subst e1 e2;refine .bind (.get ?_);refine .ite (λc=>.pure ⟨l,k,g,Rs,rfl,rfl,hl,hp,v,by exact c⟩) λc=>?_;have c:¬k.length<=1:=by exact c
   refine .bind (uY o as (nl v) (nd v) (by rw[aM];exact hl) hp (aG (bC (ite_le (a:=k.length - 2))) (by omega)) λl' pd' g' Rs' k1 k2 k3 k4 k5=>?_)
   ·refine .E2 (by simp) (.pure ⟨l',pd',g',Rs',rfl,rfl,by rw[k1,aM],k2,k3.trans v,.inr (by omega)⟩)
  ·obtain⟨l,k,g,Rs,e1,e2,hl,hp,v,U⟩:=z;subst e1 e2;refine .pure (q l k g v ?_);rw[hl]
   match k,Rs,hp,U with
   |_,_,.nil,_=>exact .nil
   |_,_,.cons h1 h2 .nil,_=>simpa using h2
   |_,_,.cons h1 h2 (.cons _ _ _),U=>simp at U
 obtain⟨l,k,g,Rs,rest,e1,e2,hl,hp,v,U⟩:=z;subst e1 e2;have hlen:=v.length_eq;have M:Rs.flatten.length+rest.length=n:=by rw[<-R,<-hlen,hl,az]
 refine .ite (λc=>?_) λc=>?_
 ·have hr :=jA.mp (bA (zv (aa (ae M) c)) (aR _));subst hr;rw[aM]at hl;refine .pure ⟨l,k,g,Rs,?_,rfl,hl,hp,v⟩;rw[<-hl,hlen,R]
 have nlr :=λx hx=>nl v x (by rw[hl];exact ag _ hx);have ndr :=(ck.mp (hl▸nd v)).2.1;refine .bind ?_;rw[show n - Rs.flatten.length=rest.length by omega,hl];refine Bp o as (by omega) nlr ndr λm d m1 m2 W r1=>?_;have O:=W.length_eq;dsimp -zeta -zetaHave only
 extract_lets +onlyGivenNames n1 jp
 suffices h:∀m d g,1<=m->m<=rest.length->(d).Perm rest->eP lt (d.take m)->Wt P w A E s (jp () m) (XA (UY κ it lt l0 n) (UW κ it lt l0 (j+1))) (oV κ it (Rs.flatten++d) k g) by
  refine .ite (λc1=>?_) λ_=>h m d g m1 m2 W r1;refine .bind (.rule (.bind (wj o as m1 ?_ (aa (gm _ _) (ae O.symm)) (λx hx=>nlr x (W.mem_iff.mp hx)) (W.nodup_iff.mpr ndr) r1 λZ p2 r2=>?_)))
  ·omega
  ·exact .E2 (by simp) (h _ Z g (by omega) (gm _ _) (p2.trans W) r2)
 intro m d g m1 m2 W r1;have O:=W.length_eq;refine .bind (.get ?_)
 extract_lets +onlyGivenNames lo jp2
 subst lo
 have h:∀l k g(Rs':List (List Nat)),l=Rs'.flatten++d->lE lt 0 k Rs'->l.Perm l0->Rs'.flatten.length=Rs.flatten.length->Wt P w A E s (jp2 ()) (XA (UY κ it lt l0 n) (UW κ it lt l0 (j+1))) (oV κ it l k g):=by
  intro l k g Rs' J L B D;refine .bind (.modify (.pure ⟨l,k++[(Rs.flatten.length,m,0)],g,Rs'++[d.take m],d.drop m,?_,?_,?_,?_,B,?_⟩))
  ·have:(d.take m).length=m:=by simp;exact dz (aa m2 (ae O.symm))
   simp only[Gc,az,D,mK,LW,aM,this]
  ·rw[List.push_toArray]
  ·rw[J];simp
  ·have:=L.push (x:=0) (by simp;omega) r1;rw[gG,D,show(d.take m).length=m by simp;omega]at this;exact this
  ·refine .inr ?_
   rcases U with h|h
   ·subst h;exact((c (ae M.symm))).elim
   ·simp only[Gc,az,D,mK,LW,aM];have:(d.take m).length=m:=by simp;omega
    omega
 have Y :=(W.append_left _).trans (hl▸v)
 cases hb:k.toArray.back? with
 |none=>exact h _ _ _ Rs rfl hp Y rfl
 |some z=>
   obtain⟨s1,n1,z3⟩:=z
   refine .bind (Wt.mono (Wt.range
    (λj b y=>∃l k g Rs',b=(b_,())/\y=oV κ it l k g/\l=(Rs').flatten++d/\lE lt 0 k Rs'/\l.Perm l0/\Rs'.flatten.length=Rs.flatten.length) ⟨_,k,g,Rs,rfl,rfl,rfl,hp,Y,rfl⟩
    (λj b y hj z=>?_) λb y h=>h) λb y z=>?_)
   ·obtain⟨l,k,g,Rs',e1,e2,J,L,B,D⟩:=z;subst e1 e2;refine .bind (.get ?_);dsimp only;rw[aO];by_cases c2:k.length > 1
    ·rw[if_pos c2]
     have hz:k.toArray[k.length - 2]?=a_ k[k.length - 2]:=by
      rw[iL];exact af _
     rw[hz];generalize k[k.length - 2]=z;obtain⟨za,zb,zc⟩:=z;refine .ite (λ_=>.pure ⟨l,k,g,Rs',rfl,rfl,J,L,B,D⟩) λ_=>?_;refine .bind (uY o as (nl B) (nd B) J L (by omega) λl2 pd2 g2 Rs2 k1 k2 k3 k4 k5=>?_);exact .E2 (by simp) (.pure ⟨l2,pd2,g2,Rs2,rfl,rfl,k1,k2,k3.trans B,k4.trans D⟩)
    ·rw[if_neg c2];exact .pure ⟨l,k,g,Rs',rfl,rfl,J,L,B,D⟩
   ·obtain⟨l,k,g,Rs',e1,e2,J,L,B,D⟩:=z;subst e1 e2;refine .bind (.modify ?_);rw[List.modify_toArray];exact h l _ g Rs' J (L.mod (λa b c=>⟨_,rfl⟩) _) B D
end
section
variable{lt:Nat->Nat->Bool}{n:Nat}
structure Pd(lt:Nat->Nat->Bool)(n:Nat):Prop where
 tr:∀i j k,i<n->j<n->k<n->lt i j=c_->lt j k=c_->lt i k=c_
 co:∀i j,i<n->j<n->i≠j->lt i j=d_->lt j i=c_
 as:∀i j,i<n->j<n->lt i j=c_->lt j i=d_
noncomputable abbrev pg(p:Array Nat)(k:Nat):Nat:=p.getD k 0
structure Pm(p:Array Nat)(n:Nat):Prop where
 sz:p.size=n
 lt:∀k,k<n->pg p k<n
 inj:∀i j,i<n->j<n->pg p i=pg p j->i=j
 pm:p.toList.Perm (aT n)
def EB{p:Array Nat}(h:k<p.size):p[k]?=a_ (pg p k):=by
 simp[pg,v3,h]
def Wi(h:p[k]?=a_ x):pg p k=x:=by
 simp[pg,di,h]
def Pm.of{p:Array Nat}(h:p.toList.Perm (aT n)):Pm p n:=by
 have sz:p.size=n:=by rw[<-ba,h.length_eq,a9]
 refine⟨sz,λk c=>?_,λi j hi d e=>?_,h⟩
 ·have:pg p k∈p.toList:=by
   have:=EB (aa c (ae sz.symm));rw[<-dM]at this;exact aU this
  exact bf.mp (h.mem_iff.mp this)
 ·have g :=h.nodup_iff.mpr fO;have a:=EB (aa hi (ae sz.symm));have b:=EB (aa d (ae sz.symm));rw[<-dM]at a b;rw[e]at a;exact(jQ (by rw[ba];omega) g).mp (a.trans b.symm)
def Up(lt:Nat->Nat->Bool)(p:Array Nat)(m:Nat):Prop:=∀i j,i<j->j<m->lt (pg p i) (pg p j)=c_
noncomputable def Th(lt:Nat->Nat->Bool)(n i j:Nat):Bool:=if i<n then(if j<n then lt i j else c_)else if j<n then d_ else decide (i<j)
def J8(hi:i<n)(c:j<n):Th lt n i j=lt i j:=by unfold Th;rw[if_pos hi,if_pos c]
def Tg(o:Pd lt n):Lt (Th lt n):=by
 refine⟨λi j k a b=>?_,λi j ne a=>?_,λi j a=>?_⟩
 ·unfold Th at a b ⊢;by_cases hi:i<n<;>by_cases c:j<n<;>by_cases d:k<n<;>simp only[hi,c,d,if_true,if_false,bH,decide_eq_true_eq]at a b ⊢
  ·exact o.tr i j k hi c d a b
  ·exact cR a b
 ·unfold Th at a ⊢;by_cases hi:i<n<;>by_cases c:j<n<;>simp only[hi,c,if_true,if_false,Bool.true_eq_false,decide_eq_false_iff_not,decide_eq_true_eq]at a ⊢
  ·exact o.co i j hi c ne a
  ·omega
 ·unfold Th at a ⊢;by_cases hi:i<n<;>by_cases c:j<n<;>simp only[hi,c,if_true,if_false,bH,decide_eq_false_iff_not,decide_eq_true_eq]at a ⊢
  ·exact o.as i j hi c a
  ·exact λz=>(aV z (bb a))
end
section
def IK{vs:List ah}(o:Pd lt vs.length)(hc:∀i j,i<vs.length->j<vs.length->∀C:Bool->ak->Prop,C (lt i j) s->aC (aD P w) A (keyLt' κ (vs.getD i .none) (vs.getD j .none)) C (λ_ _=>False) s) :
  aC (aD P w) A ((sortRuns').run (ji κ (vs.toArray.zip vs.toArray) #[] 7 b_)) (λr s'=>s'=s/\∃p:Array Nat,Pm p vs.length/\Up lt p vs.length/\arrOf r.2=p.map (B0 (vs.toArray.zip vs.toArray))/\failedOf r.2=b_) E s:=by
 have as:tL P w A s κ (B0 (vs.toArray.zip vs.toArray)) (Th lt vs.length) vs.length:=λi j hi d C v=>by
  rw[J8 hi d]at v;have e:=kas_item_eq vs;unfold pairsOf at e;rw[e i,e j];exact hc i j hi d C v
 have q:ji κ (vs.toArray.zip vs.toArray) #[] 7 b_=oV κ (B0 (vs.toArray.zip vs.toArray)) (aT vs.length) [] 7:=by
  have e:=kas_range (vs.toArray.zip vs.toArray);rw[show(vs.toArray.zip vs.toArray).size=vs.length by simp]at e;show _=ji κ (((aT vs.length).map (B0 (vs.toArray.zip vs.toArray))).toArray) #[] 7 b_;rw[LV]at e;rw[e]
 rw[q]
 have run:=zT (E:=E) (g0:=7) (G:=λ_ k=>∃p:Array Nat,Pm p vs.length/\Up lt p vs.length/\arrOf k=p.map (B0 (vs.toArray.zip vs.toArray))/\failedOf k=b_)
  (Tg o) as (λx y=>bf.mp y) fO λl D g hp B=>by
   have pm:Pm l.toArray vs.length:=.of hp;refine⟨l.toArray,pm,λi j c d=>?_,by rw[LV],rfl⟩;have hl:l.length=vs.length:=by simpa using hp.length_eq
   have:=dC.mp B i j (aa (cR c d) (ae hl.symm)) (aa d (ae hl.symm)) c;have e1:pg l.toArray i=l[i]:=by simp[pg,show i<l.length by omega]
   have e2:pg l.toArray j=l[j]:=by simp[pg,show j<l.length by omega]
   rw[e1,e2,<-J8 (lt:=lt) (e1▸pm.lt i (cR c d)) (e2▸pm.lt j (by omega))];exact this
 exact dm run (λr s' z=>⟨z.2,z.1⟩) λ_ _ e=>e
end
noncomputable def qE{α:Type}[DecidableEq α](f:α->α->Bool):List α->List α->Bool
 |[],[]=>d_
 |[],_::_=>c_
 |_::_,[]=>d_
 |x::xs,y::ys=>if x=y then qE f xs ys else f x y
structure LO{α:Type}(f:α->α->Bool):Prop where
 tr:∀a b c,f a b=c_->f b c=c_->f a c=c_
 co:∀a b,a≠b->f a b=d_->f b a=c_
 ir:∀a,f a a=d_
def LO.as (h:LO f)(x:f a b=c_):f b a=d_:=by
 cases q:f b a with
 |false=>rfl
 |true=>have:=h.tr _ _ _ x q;rw[h.ir]at this;cases this
def LO.int:LO (λi j:Int=>decide (i<j)):=
 ⟨λa b c x y=>by simp only[decide_eq_true_eq]at *;exact Int.le_of_lt (fW x y),λa b n x=>by simp only[decide_eq_false_iff_not,decide_eq_true_eq]at *;omega,λa=>by simp⟩
section
variable{α:Type}[DecidableEq α]{f:α->α->Bool}
def lr{x y:α}{xs ys:List α}:qE f (x::xs) (y::ys)=if x=y then qE f xs ys else f x y:=rfl
def LO.lex(h:LO f):LO (qE f):=by
 refine⟨λa=>?_,λa=>?_,λa=>?_⟩
 ·induction a with
  |nil=>
    intro b c x y
    cases b with
    |nil=>cases x
    | cons _ _=>cases c with
      |nil=>cases y
      |cons _ _=>rfl
  |cons p a d=>
    intro b c x y
    cases b with
    |nil=>cases x
    |cons q b=>
      cases c with
      |nil=>cases y
      |cons r c=>
        rw[lr]at x y ⊢;by_cases e1:p=q
        ·subst e1;rw[if_pos rfl]at x;by_cases e2:p=r
         ·subst e2;rw[if_pos rfl]at y ⊢;exact d b c x y
         ·rw[if_neg e2]at y ⊢;exact y
        ·rw[if_neg e1]at x;by_cases e2:q=r
         ·subst e2;rw[if_neg e1];exact x
         ·rw[if_neg e2]at y;have z:=h.tr _ _ _ x y;rw[if_neg λe=>by rw[<-e]at z;rw[h.ir]at z;cases z];exact z
 ·induction a with
  |nil=>
    intro b n x
    cases b with
    |nil=>exact absurd rfl n
    |cons _ _=>cases x
  |cons p a d=>
    intro b n x
    cases b with
    |nil=>rfl
    |cons q b=>
      rw[lr]at x ⊢;by_cases e:p=q
      ·subst e;rw[if_pos rfl]at x ⊢;exact d b (λz=>n (by rw[z])) x
      ·rw[if_neg e]at x;rw[if_neg λz=>e z.symm];exact h.co _ _ e x
 ·induction a with
  |nil=>rfl
  |cons p a d=>rw[lr,if_pos rfl];exact d
end
abbrev J9:List Int->List Int->Bool:=qE λi j=>decide (i<j)
abbrev WH:List (List Int)->List (List Int)->Bool:=qE J9
abbrev u7:List (List (List Int))->List (List (List Int))->Bool:=qE WH
def Og:LO J9:=LO.int.lex
def nv:LO u7:=LO.int.lex.lex.lex
def Oh:J9 [i] [j]=decide (i<j):=by
 show(if i=j then d_ else decide (i<j))=decide (i<j);by_cases e:i=j
 ·rw[e];simp
 ·rw[if_neg e]
theorem yH:∀l l':List Nat,J9 (l.map e8) (l'.map e8)=decide (l<l')
 |[],[]=>by simp[J9,qE]
 |[],_::_=>by simp[J9,qE]
 |_::_,[]=>by simp[J9,qE]
 |a::l,b::l'=>by
   have c:=yH l l';show(if e8 a=e8 b then J9 (l.map e8) (l'.map e8)else decide (e8 a<e8 b))=_;by_cases e:a=b
   ·subst e;rw[if_pos rfl,c]
    exact decide_eq_decide.mpr (by rw[B9];constructor
                                   ·exact λh=>.inr ⟨rfl,h⟩
                                   ·rintro(h|h)
                                    ·exact absurd h (bq _)
                                    ·exact h.2)
   ·rw[if_neg λz=>e (HI z)];refine decide_eq_decide.mpr ?_;rw[B9];constructor
    ·exact λh=>.inl (oA.mp h)
    ·rintro(h|h)
     ·exact oA.mpr h
     ·exact absurd h.1 e
noncomputable def cK:Key->List Int
 |.inl i=>[i]
 |.inr x=>x.cps.toList.map e8
noncomputable def iK:Key->Int
 |.inl i=>i
 |.inr _=>0
noncomputable def sK:Key->Bool
 |.inl _=>c_
 |.inr _=>d_
def c2:N2->List Int
 |.inl k=>cK k
 |.inr ks=>ks.map iK
def s2:N2->Nat
 |.inl (.inl _)=>0
 |.inl (.inr _)=>1
 |.inr ks=>if ks.all sK=c_ then 2 else 3
def sI:N2->Bool
 |.inl k=>sK k
 |.inr _=>d_
def U9:N2->Int
 |.inl k=>iK k
 |.inr _=>0
def cN:NK->List (List Int)
 |.inl k=>[cK k]
 |.inr ks=>if ks.all sI=c_ then [ks.map U9]else ks.map c2
def sN:NK->List Nat
 |.inl (.inl _)=>[0]
 |.inl (.inr _)=>[1]
 |.inr ks=>if ks.all sI=c_ then [2]else 3::ks.map s2
noncomputable def t5:List Nat->Bool
 |3::l=>l.all λn=>decide (n<3)
 |_=>c_
theorem Kw:∀{x y:List Key},x.all sK=c_->y.all sK=c_->x.map iK=y.map iK->x=y
 |[],[],_,_,_=>rfl
 |[],_::_,_,_,h=>by cases h
 |_::_,[],_,_,h=>by cases h
 |.inl i::x,.inl j::y,c,d,h=>by
   simp only[ax,fT,iK]at h;simp only[dv,aj]at c d;rw[h.1,Kw c.2 d.2 h.2]
 |.inr _::_,_::_,c,_,_=>by simp[sK]at c
 |_::_,.inr _::_,_,d,_=>by simp[sK]at d
def Lq(hs:sK x=sK y)(h:cK x=cK y):x=y:=by
 cases x with
 |inl i=>
   cases y with
   |inl j=>simp only[cK,fT,and_true]at h;rw[h]
   |inr b=>cases hs
 |inr a=>
   cases y with
   |inl j=>cases hs
   |inr b=>
     have:=(HE (λ_ _ z=>HI z)).mp h;cases a;cases b;simp only at this;rw[Array.toList_inj.mp this]
def Lu(hs:s2 x=s2 y)(h3:s2 x<3)(h:c2 x=c2 y):x=y:=by
 cases x with
 |inl a=>
   cases y with
   |inl b=>rw[Lq (by cases a<;>cases b<;>first|rfl|cases hs) h]
   |inr ks=>cases a<;>(simp only[s2]at hs;split at hs<;>cases hs)
 |inr ks=>
   cases y with
   |inl b=>cases b<;>(simp only[s2]at hs;split at hs<;>cases hs)
   |inr c=>
     simp only[s2]at hs h3;by_cases c1:ks.all sK=c_
     ·rw[if_pos c1]at hs;by_cases c2:c.all sK=c_
      ·rw[Kw c1 c2 h]
      ·rw[if_neg c2]at hs;cases hs
     ·rw[if_neg c1]at h3;exact((aV h3 (by decide))).elim
theorem Kx:∀{x y:List N2},x.all sI=c_->y.all sI=c_->x.map U9=y.map U9->x=y
 |[],[],_,_,_=>rfl
 |[],_::_,_,_,h=>by cases h
 |_::_,[],_,_,h=>by cases h
 |.inl (.inl i)::x,.inl (.inl j)::y,c,d,h=>by
   simp only[ax,fT,U9,iK]at h;simp only[dv,aj]at c d;rw[h.1,Kx c.2 d.2 h.2]
 |.inl (.inr _)::_,_::_,c,_,_=>by simp[sI,sK]at c
 |.inr _::_,_::_,c,_,_=>by simp[sI]at c
 |_::_,.inl (.inr _)::_,_,d,_=>by simp[sI,sK]at d
 |_::_,.inr _::_,_,d,_=>by simp[sI]at d
theorem FI:∀{x y:List N2},x.map s2=y.map s2->(∀n∈x.map s2,n<3)->x.map c2=y.map c2->x=y
 |[],[],_,_,_=>rfl
 |[],_::_,h,_,_=>by cases h
 |_::_,[],h,_,_=>by cases h
 |a::x,b::y,h,h3,e=>by
   simp only[ax,fT]at h e;rw[Lu h.1 (h3 _ (by simp)) e.1,FI h.2 (λn c=>h3 n (by exact iE _ c)) e.2]
def JL(h:t5 (3::l)=c_):∀n∈l,n<3:=λn c=>by
 have:=bo.mp (h) n c;simpa using this
def uH(hs:sN x=sN y)(h3:t5 (sN x)=c_):(∃a b,x=.inl a/\y=.inl b/\sK a=sK b)\/(∃a b,x=.inr a/\y=.inr b/\a.all sI=c_/\b.all sI=c_)\/
  ∃a b,x=.inr a/\y=.inr b/\¬a.all sI=c_/\¬b.all sI=c_/\a.map s2=b.map s2/\∀n∈a.map s2,n<3:=by
 cases x with
 |inl a=>
   cases y with
   |inl b=>exact .inl ⟨a,b,rfl,rfl,by cases a<;>cases b<;>first|rfl|(simp[sN]at hs)⟩
   |inr ks=>exfalso;cases a<;>(simp only[sN]at hs;split at hs<;>simp at hs)
 |inr a=>
   cases y with
   |inl b=>exfalso;cases b<;>(simp only[sN]at hs;split at hs<;>simp at hs)
   |inr b=>
     simp only[sN]at hs h3;by_cases d:a.all sI=c_
     ·by_cases c:b.all sI=c_
      ·exact .inr (.inl ⟨a,b,rfl,rfl,d,c⟩)
      ·rw[if_pos d,if_neg c]at hs;simp at hs
     ·rw[if_neg d]at hs h3;by_cases c:b.all sI=c_
      ·rw[if_pos c]at hs;simp at hs
      ·rw[if_neg c]at hs;exact .inr (.inr ⟨a,b,rfl,rfl,d,c,(c6 hs).2,JL h3⟩)
def Lo(hs:sN x=sN y)(h3:t5 (sN x)=c_)(h:cN x=cN y):x=y:=by
 rcases uH hs h3 with⟨a,b,rfl,rfl,q⟩|⟨a,b,rfl,rfl,c,d⟩|⟨a,b,rfl,rfl,c,d,g,j⟩
 ·rw[Lq q (c6 h).1]
 ·simp only[cN]at h;rw[if_pos c,if_pos d]at h;rw[Kx c d (c6 h).1]
 ·simp only[cN]at h;rw[if_neg c,if_neg d]at h;rw[FI g j h]
section
variable{A:bT}{z0:ak}
def J4{I:Ik P w}{α:Type}[DecidableEq α]{f:α->α->Bool}{c:I.κ->α}{R:I.κ->I.κ->Prop}{x y:List I.κ}{p b:aI}{G:Fin->ak->Prop}(i_:A.units+I.d<=dk)(ex:rj I z0.heap x p)(ey:rj I z0.heap y b)
  (hR:∀q∈x.zip y,R q.1 q.2)(ci:∀a b,R a b->c a=c b->a=b)
  (lt:∀(E:ah->ak->Prop)(a b:I.κ)(u v:ah)(Q:ah->ak->Prop),R a b->I.is z0.heap a u->I.is z0.heap b v->Q (.bool (f (c a) (c b))) z0->aC (aD P w) A (compareOp .Lt u v) Q E z0)
  (h:G (.done (.ret (.bool (qE f (x.map c) (y.map c))))) z0):aC (aD P w) A (fU.«tuple.__lt__» ⟨[.ref p,.ref b],[]⟩) G E z0:=by
 have L:=ey.typeIs;obtain⟨oa,xs,na,M,_,O,U⟩:=ex;obtain⟨ob,ys,nb,W,_,Y,Z⟩:=ey;show aC _ _ (isInstance (.ref b) (.type "tuple") >>= _) _ _ z0;refine wb9 (dF L qf ?_);refine wb9 (j1 M O ?_);refine wb9 (j1 W Y ?_);refine wb9 ?_
 refine ik _
  (λtl r J=>r.1=b_/\J=z0/\∃j k g ys',tl=List.zip g ys'/\rh I z0.heap j g/\rh I z0.heap k ys'/\(∀q∈j.zip k,R q.1 q.2)/\
   qE f (j.map c) (k.map c)=qE f (x.map c) (y.map c)/\decide (g.length<ys'.length)=decide (xs.size<ys.size))
  _ ?_ ?_ _ _ ⟨rfl,rfl,x,y,xs.toList,ys.toList,rfl,U,Z,hR,rfl,by simp⟩
 ·rintro⟨u,v⟩ tl r J ⟨ge,rfl,j,k,g,ys',gz,hx',hy',hr,gdec,glen⟩
  cases hx' with
  |nil=>simp at gz
  | @cons k1 u' x'' l h1 z=>
    cases hy' with
    |nil=>simp at gz
    | @cons k2 v' y'' B h2 D=>
      simp only[vW,fT,HD]at gz;obtain⟨⟨rfl,rfl⟩,rfl⟩:=gz;rw[ax,ax,lr]at gdec;refine wb9 (I.eqb i_ h1 h2 (λgk=>?_) λgk=>?_)
      ·subst gk;refine wu9 ⟨rfl,rfl,x'',y'',l,B,rfl,z,D,λq hq=>hr q (iE _ hq),?_,by simpa using glen⟩;rw[if_pos rfl]at gdec;exact gdec
      ·rw[if_neg λe=>gk (ci _ _ (hr _ g7) e)]at gdec;rw[<-gdec]at h;refine wb9 (gf (wb9 (lt _ k1 k2 _ _ _ (hr _ g7) h1 h2 ?_)));exact wb9 (wu9 (wu9 (wu9 h)))
 ·rintro⟨r1,r2⟩ J ⟨ge,rfl,j,k,g,ys',gz,hx',hy',hr,gdec,glen⟩;subst ge;refine wu9 ?_;show G (.done (.ret (.bool (decide (xs.size<ys.size))))) J;rw[<-gdec,]at h;rw[<-glen]
  cases hx' with
  |nil=>
    cases hy' with
    |nil=>exact h
    |cons _ _=>exact h
  |cons _ _=>
    cases hy' with
    |nil=>exact h
    |cons _ _=>simp at gz
def yG{I:Ik P w}{α:Type}[DecidableEq α]{f:α->α->Bool}{c:I.κ->α}{R:I.κ->I.κ->Prop}{x y:List I.κ}{p b:aI}{Q:ah->ak->Prop}(z:A.units+(I.d+1)<=dk)(ex:rj I z0.heap x p)(g:rj I z0.heap y b)
  (k:∀q∈x.zip y,R q.1 q.2)(l:∀a b,R a b->c a=c b->a=b)
  (lt:∀(j:bT)(E:ah->ak->Prop)(a b:I.κ)(u v:ah)(Q:ah->ak->Prop),j.units=A.units+1->R a b->I.is z0.heap a u->I.is z0.heap b v->Q (.bool (f (c a) (c b))) z0->aC (aD P w) j (compareOp .Lt u v) Q E z0)
  (h:Q (.bool (qE f (x.map c) (y.map c))) z0):aC (aD P w) A (compareOp .Lt (.ref p) (.ref b)) Q E z0:=by
 show aC _ _ (richCompare .Lt (.ref p) (.ref b)) _ _ _
 exact BM ex.typeIs g.typeIs zq
  (bK zq ex.typeIs PySem.F.entry_tuple_lt (J4 (by show A.units+1+I.d<=dk;omega) ex g k l (λE a b u v Q=>lt _ E a b u v Q rfl) ⟨_,rfl,(λe=>nomatch e),h⟩) (PySem.F.args_tuple_lt_2 _ _)) (by omega)
def t6(h:(cD P w).is k v=c_)(hs:sK k=c_):∃t,v=.int (iK k) t:=by
 cases k with
 |inl i=>
   rcases cO (k:=.inl i) (v:=v) h with⟨c,t,e,rfl⟩|⟨x,t,e,_⟩
   ·cases e;exact⟨t,rfl⟩
   ·cases e
 |inr x=>cases hs
def J3(hs:sK a=sK b)(ex:(cD P w).is a u=c_)(d:(cD P w).is b v=c_)(h:Q (.bool (J9 (cK a) (cK b))) z0):aC (aD P w) A (compareOp .Lt u v) Q E z0:=by
 cases a with
 |inl i=>
   cases b with
   |inr _=>cases hs
   |inl j=>
     obtain⟨g,rfl⟩:=t6 ex rfl;obtain⟨l,rfl⟩:=t6 d rfl;refine nN ?_;rw[show cK (.inl i)=[i]from rfl,show cK (.inl j)=[j]from rfl,Oh]at h;exact h
 |inr a=>
   cases b with
   |inl _=>cases hs
   |inr c=>
     rcases cO (k:=.inr a) ex with⟨q,t,e,_⟩|⟨x1,g,e1,rfl⟩
     ·cases e
     ·rcases cO (k:=.inr c) d with⟨q,t,e,_⟩|⟨y,l,e2,rfl⟩
      ·cases e
      ·cases e1;cases e2;refine PyProof.Rows.lt_str ?_;have:=yH a.cps.toList c.cps.toList;rw[show cK (.inr a)=a.cps.toList.map e8 from rfl,show cK (.inr c)=c.cps.toList.map e8 from rfl,this]at h;exact h
def EU(ha:sK a=c_)(hb:sK b=c_)(ex:(cD P w).is a u=c_)(c:(cD P w).is b v=c_)(h:Q (.bool (decide (iK a<iK b))) z0):aC (aD P w) A (compareOp .Lt u v) Q E z0:=by
 obtain⟨d,rfl⟩:=t6 ex ha;obtain⟨g,rfl⟩:=t6 c hb;exact nN h
def FP{α:Type}{p:α->Bool}{x y:List α}(d:x.all p=c_)(g:y.all p=c_):∀q∈x.zip y,p q.1=c_/\p q.2=c_:=λq c=>
 ⟨bo.mp d _ (iC c).1,bo.mp g _ (iC c).2⟩
def J7{x y:N2}{u v:ah}{Q:ah->ak->Prop}(k:A.units+1<=dk)(ex:(i2 P w).is z0.heap x u)(g:(i2 P w).is z0.heap y v)(hs:s2 x=s2 y)(h3:s2 x<3)(h:Q (.bool (J9 (c2 x) (c2 y))) z0) :
  aC (aD P w) A (compareOp .Lt u v) Q E z0:=by
 cases x with
 |inl a=>
   cases y with
   |inl b=>exact J3 (by cases a<;>cases b<;>first|rfl|cases hs) ex g h
   |inr ks=>cases a<;>(simp only[s2]at hs;split at hs<;>cases hs)
 |inr ks=>
   cases y with
   |inl b=>cases b<;>(simp only[s2]at hs;split at hs<;>cases hs)
   |inr d=>
     obtain⟨p,rfl,q⟩:=ex;obtain⟨b,rfl,l⟩:=g;simp only[s2]at hs h3;by_cases c1:ks.all sK=c_
     ·rw[if_pos c1]at hs;by_cases c2:d.all sK=c_
      ·exact yG (I:=C3 P w) (R:=λa b=>sK a=c_/\sK b=c_) k q l (FP c1 c2) (λa b c e=>by
         match a,b,c,e with
         |.inl i,.inl j,_,e=>exact congrArg _ e) (λB D a b u v Q _ c e1 e2 z=>EU c.1 c.2 e1 e2 z) h
      ·rw[if_neg c2]at hs;cases hs
     ·rw[if_neg c1]at h3;exact((aV h3 (by decide))).elim
def yI:WH [a] [b]=J9 a b:=by
 rw[WH,lr];by_cases e:a=b
 ·rw[if_pos e,e,Og.ir];rfl
 ·rw[if_neg e]
theorem ES{α β:Type}{f:α->β}:∀{x y:List α},x.map f=y.map f->∀q∈x.zip y,f q.1=f q.2
 |[],_,_,_,h=>by simp at h
 |_::_,[],_,_,h=>by simp at h
 |a::x,b::y,h,q,c=>by
   obtain⟨h1,h2⟩:=c6 h
   rcases aw.mp c with rfl|c
   ·exact h1
   ·exact ES h2 q c
def Of(B:A.units+2<=dk)(ex:YG P w z0.heap x u)(l:YG P w z0.heap y v)(hs:sN x=sN y)(h3:t5 (sN x)=c_)(h:Q (.bool (WH (cN x) (cN y))) z0) :
  aC (aD P w) A (compareOp .Lt u v) Q E z0:=by
 rcases uH hs h3 with⟨a,b,rfl,rfl,q⟩|⟨a,b,rfl,rfl,g,k⟩|⟨a,b,rfl,rfl,g,k,D,J⟩
 ·simp only[cN]at h;rw[yI]at h;exact J3 q ex l h
 ·simp only[cN]at h;rw[if_pos g,if_pos k,yI]at h;obtain⟨p,rfl,r⟩:=ex;obtain⟨b,rfl,z⟩:=l;refine yG (R:=λa b=>sI a=c_/\sI b=c_) B r z (FP g k) (λa b c e=>?_) (λL M a b u v Q _ c e1 e2 d=>?_) h
  ·match a,b,c,e with
   |.inl (.inl i),.inl (.inl j),_,e=>exact congrArg _ (congrArg _ e)
  ·match a,b,c,e1,e2,d with
   |.inl a,.inl b,c,e1,e2,d=>exact EU c.1 c.2 e1 e2 d
 ·simp only[cN]at h;rw[if_neg g,if_neg k]at h;obtain⟨p,rfl,r⟩:=ex;obtain⟨b,rfl,z⟩:=l;refine yG (R:=λa b=>s2 a=s2 b/\s2 a<3) B r z (λq d=>⟨ES D q d,J _ (de (iC d).1)⟩) (λa b c e=>Lu c.1 c.2 e) (λL M a b u v Q O c e1 e2 d=>?_) h;exact J7 (by rw[O];omega) e1 e2 c.1 c.2 d
end
end L2
namespace L2
open PySem PySem.Spec PyProof.Rows
def Bj:entryFor table "set.__iter__"=a_ fU.«frozenset.__iter__» :=BY (id':="frozenset.__iter__") (by kernel_rfl) rfl (by decide +kernel) (by kernel_rfl)
def pE:entryFor table "set_iterator.__next__"=a_ fU.«set_iterator.__next__» :=entryFor_of_tree (by kernel_rfl)
def fE:Me "set_iterator" "__next__" "set_iterator.__next__":=.of (owner:="set_iterator") (n:="__next__") (by kernel_rfl) (by decide +kernel) (by decide +kernel) (by decide +kernel) (.inl (by decide +kernel)) (by kernel_rfl)
def JF:F9.lookup (Ma ['r','o','t','a','r','e','t','i','_','t','e','s'].reverse)=a_ Manifest.sig_set_iterator:=by kernel_rfl
def pI(a:ah):argsOk "set_iterator.__next__" ⟨[a],[]⟩:=by
 unfold argsOk;rw[signature?_of (id:="set_iterator.__next__") (n:=['_','_','t','x','e','n','_','_']) (o:=['r','o','t','a','r','e','t','i','_','t','e','s']) (by kernel_rfl) JF];kernel_rfl
theorem p3{α:Type}:∀{xs:List α}{i:Nat}(h:i<xs.length),(xs[i]::xs.eraseIdx i).Perm xs
 |x::r,0,_=>by simp
 |x::r,i+1,h=>by
   have:=p3 (by simpa using h);exact(List.Perm.swap _ _ _).trans (this.cons x)
theorem Ew{α:Type}(nx:Nat->Nat):∀(fuel k:Nat)(left:List α)(out:Array α),left.length<=fuel->(vR nx fuel k left out).toList.Perm (out.toList++left)
 |0,k,left,out,h=>by
   obtain rfl:left=[]:=jA.mp (bA h (aR _));simp only[vR,aM];exact .refl _
 |fuel+1,k,left,out,h=>by
   simp only[vR]
   cases q:left[nx k % left.length]? with
   |none=>
     have:left=[]:=by
      cases left with
      |nil=>rfl
      |cons x r=>
        have c:nx k % (x::r).length<(x::r).length:=jx _ (by simp);rw[af c]at q;cases q
     subst this;simp
   |some x=>
     obtain⟨c,e⟩:=aP.mp q;have d:=Ew nx fuel (k+1) (left.eraseIdx (nx k % left.length)) (out.push x) (by rw[wF c];omega);refine d.trans ?_;rw[HJ,aE];refine jH _ ?_;rw[<-e];exact p3 c
def rP{α:Type}(nx:Nat->Nat)(xs:Array α):(pickOrder nx xs).toList.Perm xs.toList:=by
 have:=Ew nx xs.size 0 xs.toList #[] (by simp);simpa [pickOrder]using this
section
def Hs(c:n≠0)(k:∀i d,i<n->Q i { s with drawn:=d }):aC (aD prog w) A (choose src n) Q E s:=λΓ p _=>by
 exact⟨c,k _ _ (jx _ (fV c))⟩
theorem Fn{α:Type}:∀(n:Nat)(xs:List α)(s:ak){Q:List α->ak->Prop},xs.length<=n->(∀ys d,ys.Perm xs->Q ys { s with drawn:=d })->aC (aD prog w) A (drawOrder n xs) Q E s
 |0,xs,s,Q,h,k=>by
   obtain rfl:xs=[]:=jA.mp (bA h (aR _));exact wu9 (k [] s.drawn (.refl _))
 |n+1,[],s,Q,h,k=>wu9 (k [] s.drawn (.refl _))
 |n+1,x::r,s,Q,h,k=>by
   refine wb9 (Hs (by simp) λi d c=>?_);rw[af c];refine wb9 (Fn n ((x::r).eraseIdx i) _ (by rw[wF c];omega) λys d pm=>wu9 (k _ d ?_));exact(pm.cons _).trans (p3 c)
end
inductive Mode where
 |tx|dr (T:aI) (ps:List Nat)|pl
noncomputable def slotAt(t:bB):Nat->Nat
 |0=>0
 |i+1=>t.place.getD i 0+1
def Mode.first(t:bB)(i:Nat):Mode->ah
 |.tx=>rawInt 0
 |.dr T _=>.ref T
 |.pl=>rawInt (slotAt t i)
def Mode.Ok(w:c5)(es:Array (Int×ah))(t:bB)(h:cx)(I:aI):Mode->Prop
 |.tx=>w.params.followText "set-order"=c_
 |.dr T ps=>T≠I/\ps.Perm (aT es.size)/\h.get? T=a_ { cls:=.type "tuple",data:=.seq (ps.map λ(p:Nat)=>rawInt p).toArray }
 |.pl=>w.params.followText "set-order"=d_/\(!t.plain && decide (es.size > 1))=d_
noncomputable def Mode.ord(w:c5)(S:aI)(es:Array (Int×ah))(ep:Nat):Mode->List ah
 |.tx=>(pickOrder (w.params.setOrder S ep) es).toList.map (·.2)
 |.dr _ ps=>ps.map λp=>(es[p]?.map (·.2)).getD .none
 |.pl=>es.toList.map (·.2)
def Mode.uP:∀{m:Mode},m.Ok w es t h I->(m.ord w S es ep).Perm (es.toList.map (·.2))
 |.tx,_=>(rP _ _).map _
 |.dr T ps,h=>by
   refine(h.2.1.map _).trans ?_;rw[show(aT es.size).map (λp=>(es[p]?.map (·.2)).getD dU)=es.toList.map (·.2)from ?_];apply kB (by simp);intro n h1 h2;simp at h1 h2;simp[h1]
 |.pl,_=>.refl _
structure BG(w:c5)(h:cx)(I S:aI)(es:Array (Int×ah))(ep:Nat)(t:bB)(m:Mode)(i:Nat):Prop where
 it:h.get? I=a_ { cls:=.type "set_iterator",data:=.fields #[m.first t i,rawInt i,.ref S,rawInt es.size,rawInt ep] }
 st:kc (n8 w) h S es ep t
 md:m.Ok w es t h I
 ne:S≠I
section
variable{w:c5}{s:ak}{m:Mode}
def Mode.Ok.keep{h':cx}(y:m.Ok w es t h I)(k:∀b o,b≠I->h.get? b=a_ o->h'.get? b=a_ o):m.Ok w es t h' I:=by
 cases m with
 |dr T ps=>exact⟨y.1,y.2.1,k _ _ y.1 y.2.2⟩
 |_=>exact y
def o9(k:Q (w.params.followText "set-order") s):aC (aD prog w) A setsByText Q E s:=by
 exact wb9 (x4 (wu9 k))
def Mu(y:kc (n8 w) s.heap S es ep t)(h:w.params.followText "set-order"=c_)(k:Q (pickOrder (w.params.setOrder S ep) es) s):aC (aD prog w) A (setWalk S) Q E s:=by
 unfold setWalk;refine wb9 (dq y.obj rfl y.fits ?_);dsimp only;refine wb9 (o9 ?_);rw[h,if_pos rfl];exact wb9 (x4 (wu9 k))
def pW(y:kc (n8 w) s.heap S es ep t):t.place.size=es.size:=by
 have:=y.fits;simp only[lP,aj,beq_iff_eq]at this;exact this.1
def EI(y:kc (n8 w) s.heap S es ep t)(h:w.params.followText "set-order"=d_)(hd:(!t.plain && decide (es.size > 1))=d_)(hi:i<=es.size)
  (k:Q (match es[i]? with|some x=>a_ (x.2,slotAt t (i+1))|none=>b_) s):aC (aD prog w) A (setNext S (slotAt t i) g e) Q E s:=by
 refine wb9 (dq y.obj rfl y.fits ?_);refine wb9 (o9 ?_);rw[h];show aC (aD prog w) A (if(!t.plain && decide (es.size > 1))=c_ then _ else _) Q E s;rw[hd];show aC (aD prog w) A ((if(!t.led && !es.isEmpty)=c_ then _ else pure ()) >>= _) Q E s;rw[y.ok.l,n8,h];refine wb9 (wu9 (wu9 ?_))
 have hb:aK t.place (slotAt t i)=i:=by
  cases i with
  |zero=>exact Lx y.ok.r
  |succ j=>
    have d:j<t.place.size:=by rw[pW y];exact hi
    show aK t.place (t.place.getD j 0+1)=j+1;rw[show t.place.getD j 0=t.place[j] by rw[di,aF d];rfl];exact Ly y.ok.r d
 rw[hb]
 cases q:es[i]? with
 |none=>rw[q]at k;exact k
 |some x=>
   rw[q]at k
   have c:i<es.size:=by
    rcases bR.mp q with⟨a,_⟩;exact a
   have hp:t.place[i]?=a_ (t.place[i]'(by rw[pW y];exact c)):=aF _;rw[hp];simp only[slotAt]at k;rw[show t.place.getD i 0=t.place[i]'(by rw[pW y];exact c) by rw[di,hp];rfl]at k;exact k
def EH{sl:Nat}(y:kc (n8 w) s.heap S es ep t)(h:w.params.followText "set-order"=c_)(k:Q (((pickOrder (w.params.setOrder S ep) es)[i]?).map λe=>(e.2,sl)) s):aC (aD prog w) A (setNext S sl i ep) Q E s:=by
 refine wb9 (dq y.obj rfl y.fits ?_);refine wb9 (o9 ?_);rw[h];simp only[bne_self_eq_false,bH,if_false];exact wb9 (Mu y h (wu9 k))
def N1(y:kc (n8 w) s.heap S es ep t)(c:es[p]?=a_ x)(k:Q x.2 s):aC (aD prog w) A (setNextDrawn S p ep) Q E s:=by
 unfold setNextDrawn;refine wb9 (dq y.obj rfl y.fits ?_);dsimp only;simp only[bne_self_eq_false,bH,if_false];rw[c];exact wu9 k
def Kk{c:ah}(y:BG w s.heap I S es ep t m i)(k:∀h',BG w h' I S es ep t m (i+1)->cA I s.heap h'->Q (.done (.ret r)) { s with heap:=h' })(hf:a=m.first t (i+1))(hb:b=rawInt ((i:Int)+1)) :
  aC (aD prog w) A (do setField (.ref I) 0 a;setField (.ref I) 1 b;ret r) Q E s:=by
 subst hf;subst hb;refine wb9 (bI y.it (by simp) λh1 d s1=>wb9 (bI d (by simp) λh2 g s2=>wu9 ?_));have kp:∀b o,b≠I->s.heap.get? b=a_ o->h2.get? b=a_ o:=λb o n e=>s2.extBut _ _ n (s1.extBut _ _ n e);refine k h2 ⟨?_,y.st.keep λo e=>kp _ _ y.ne e,y.md.keep kp,y.ne⟩ (s1.trans s2);rw[g];simp
end
section
variable{A:bT}{s:ak}
def D6(y:BG w s.heap I S es ep t m i)
  (k:aC (aD prog w) A (if let .int slot _:=m.first t i then do
    match <-setNext S slot.toNat (i:Int).toNat (ep:Int).toNat with
    |some (x,next)=>do setField (.ref I) 0 (rawInt next);setField (.ref I) 1 (rawInt ((i:Int)+1));ret x
    |none=>do setField (.ref I) 2 .none;raiseNew (<-newExc (.type "StopIteration") [])
   else do
    let a_ places <-seqItems? (m.first t i)|unsupported "internal:set_iterator"
    match places[(i:Int).toNat]? with
    |some (.int place _)=>do let x <-setNextDrawn S place.toNat (ep:Int).toNat;setField (.ref I) 1 (rawInt ((i:Int)+1));ret x
    |some _=>unsupported "internal:set_iterator"
    |none=>do setField (.ref I) 0 (rawInt 0);setField (.ref I) 2 .none;raiseNew (<-newExc (.type "StopIteration") [])) Q E s) :
  aC (aD prog w) A (fU.«set_iterator.__next__» ⟨[.ref I],[]⟩) Q E s:=by
 show aC (aD prog w) A (fieldsOf (.ref I) >>= _) Q E s;refine wb9 (wpAny_fieldsOf y.it rfl ?_);refine wb9 (Pj y.st.obj rfl y.st.fits ?_);simp only[bne_self_eq_false,bH,if_false];exact k
def tW{α:Type}{Q:α->ak->Prop}(c:A.handled=b_)(k:∀h' e,(∀b o,s.heap.get? b=a_ o->h'.get? b=a_ o)->(∃o,h'.get? e=a_ o/\o.cls=.type "StopIteration")->E (.ref e) { s with heap:=h' }) :
  aC (aD prog w) A (do raiseNew (<-newExc (.type "StopIteration") []):zE α) Q E s:=by
 refine wb9 ?_;refine wb9 (cy (wb9 (kh (by first|rfl|(rfl)) (cy ?_ (by size_fits)))) (by size_fits));refine wb9 (wpAny_handled ?_);rw[c];exact wb9 (wu9 (wpAny_throw (k _ _ (λb o e=>hp9 _ (hp9 _ e)) ⟨_,aJ _ rfl,rfl⟩)))
def MU{Q:ah->ak->Prop}(y:BG w s.heap I S es ep t m i)(hi:i<es.size)(k:∀h' v,(m.ord w S es ep)[i]?=a_ v->BG w h' I S es ep t m (i+1)->cA I s.heap h'->Q v { s with heap:=h' }) :
  aC (aD prog w) A (fU.«set_iterator.__next__» ⟨[.ref I],[]⟩) (λf s'=>∃v,f=.done (.ret v)/\Q v s') E s:=by
 refine D6 y ?_
 cases m with
 |tx=>
   show aC (aD prog w) A (setNext S 0 i ep >>= _) _ E s;refine wb9 (EH y.st y.md ?_)
   have hz:(pickOrder (w.params.setOrder S ep) es).size=es.size:=by
    have:=(rP (w.params.setOrder S ep) es).length_eq;simpa using this
   have hl:i<(pickOrder (w.params.setOrder S ep) es).size:=by rw[hz];exact hi
   rw[aF hl];refine Kk (c:=.none) y (λh' g j=>⟨_,rfl,k h' _ ?_ g j⟩) rfl rfl;simp only[Mode.ord,aN,dM];rw[aF hl];rfl
 |dr T ps=>
   obtain⟨D,l,q⟩:=id y.md;refine wb9 (cW q rfl ?_);have hl:ps.length=es.size:=by rw[l.length_eq,a9]
   have d:i<ps.length:=aa hi (ae hl.symm);have hp :=bf.mp (l.mem_iff.mp (bh d));have z:((ps.map λ(p:Nat)=>rawInt p).toArray)[(i:Int).toNat]?=a_ (rawInt (ps[i])):=by simp[d]
   dsimp only;rw[z];refine wb9 (N1 y.st (aF hp) ?_);refine wb9 (bI y.it (by simp) λh1 B s1=>wu9 ⟨_,rfl,k h1 _ ?_ ⟨?_,y.st.keep λo e=>s1.extBut _ _ y.ne e,y.md.keep λb o n e=>s1.extBut _ _ n e,y.ne⟩ s1⟩)
   ·simp only[Mode.ord,aN];rw[af d];simp[aF hp]
   ·rw[B];simp[Mode.first,rawInt]
 |pl=>
   refine wb9 (EI y.st y.md.1 y.md.2 (bb hi) ?_);rw[aF hi];refine Kk (c:=.none) y (λh' g j=>⟨_,rfl,k h' _ ?_ g j⟩) rfl rfl;simp[Mode.ord,hi]
def Rh(c:A.handled=b_)(y:BG w s.heap I S es ep t m es.size)(k:∀h' e,(∀b o,b≠I->s.heap.get? b=a_ o->h'.get? b=a_ o)->(∃o,h'.get? e=a_ o/\o.cls=.type "StopIteration")->E (.ref e) { s with heap:=h' }) :
  aC (aD prog w) A (fU.«set_iterator.__next__» ⟨[.ref I],[]⟩) Q E s:=by
 refine D6 y ?_
 cases m with
 |tx=>
   show aC (aD prog w) A (setNext S 0 es.size ep >>= _) _ E s;refine wb9 (EH y.st y.md ?_)
   have hz:(pickOrder (w.params.setOrder S ep) es).size=es.size:=by
    have:=(rP (w.params.setOrder S ep) es).length_eq;simpa using this
   rw[fG (ae hz)];dsimp only[hX];refine wb9 (bI y.it (by simp) λh1 d s1=>?_);exact tW c λh' e kp he=>k h' e (λb o n q=>kp _ _ (s1.extBut _ _ n q)) he
 |dr T ps=>
   obtain⟨l,g,j⟩:=id y.md;show aC (aD prog w) A (seqItems? (.ref T) >>= _) _ E s;refine wb9 (cW j rfl ?_);have hl:ps.length=es.size:=by rw[g.length_eq,a9]
   dsimp only;rw[fG (by simp[hl])];dsimp only;refine wb9 (bI y.it (by simp) λh1 d s1=>wb9 (bI d (by simp) λh2 v s2=>?_));exact tW c λh' e kp he=>k h' e (λb o n q=>kp _ _ (s2.extBut _ _ n (s1.extBut _ _ n q))) he
 |pl=>
   show aC (aD prog w) A (setNext S (slotAt t es.size) es.size ep >>= _) _ E s;refine wb9 (EI y.st y.md.1 y.md.2 (au _) ?_);rw[fG (au _)];dsimp only;refine wb9 (bI y.it (by simp) λh1 d s1=>?_);exact tW c λh' e kp he=>k h' e (λb o n q=>kp _ _ (s1.extBut _ _ n q)) he
def BG.ty(y:BG w s.heap I S es ep t m i):s.TypeIs (.ref I) "set_iterator":=⟨_,y.it,rfl⟩
def MR(y:BG w s.heap I S es ep t m i)(hi:i<es.size)(k:∀h' v,(m.ord w S es ep)[i]?=a_ v->BG w h' I S es ep t m (i+1)->cA I s.heap h'->Q (a_ v) { s with heap:=h' }) :
  aC (aD prog w) A (pyNext (.ref I)) Q E s:=by
 exact wb9 (i6 (cF y.ty fE (bK fE y.ty pE (MU y hi λh' v a b c=>wu9 (k h' v a b c)) (pI _))))
def Rc(c:A.handled=b_)(y:BG w s.heap I S es ep t m es.size)(k:∀h',(∀b o,b≠I->s.heap.get? b=a_ o->h'.get? b=a_ o)->Q b_ { s with heap:=h' }) :
  aC (aD prog w) A (pyNext (.ref I)) Q E s:=by
 refine wb9 (i6 (cF y.ty fE (bK fE y.ty pE (Rh c y λh' e kp he=>?_) (pI _))));obtain⟨o,ho,hc⟩:=he;exact wb9 (dF ⟨o,ho,hc⟩ BX (wu9 (k _ kp)))
end
def wg:entryFor table "set_iterator.__iter__"=a_ fU.«dict_keyiterator.__iter__» :=BY (id':="dict_keyiterator.__iter__") (by kernel_rfl) rfl (by decide +kernel) (by kernel_rfl)
def pB:Me "set_iterator" "__iter__" "set_iterator.__iter__":=.of (owner:="set_iterator") (n:="__iter__") (by kernel_rfl) (by decide +kernel) (by decide +kernel) (by decide +kernel) (.inl (by decide +kernel)) (by kernel_rfl)
def wk(a:ah):argsOk "set_iterator.__iter__" ⟨[a],[]⟩:=by
 kernel_rfl
noncomputable def Mode.fp:Mode->List aI
 |.dr T _=>[T]
 |_=>[]
section
variable{A:bT}{s:ak}{es:Array (Int×ah)}{m:Mode}
def BG.frame{h':cx}(y:BG w h I S es ep t m i)(k:∀b∈I::S::m.fp,∀o,h.get? b=a_ o->h'.get? b=a_ o):BG w h' I S es ep t m i:=by
 refine⟨k I (.head _) _ y.it,y.st.keep λo e=>k S (.tail _ (.head _)) o e,?_,y.ne⟩
 cases m with
 |dr T ps=>exact⟨y.md.1,y.md.2.1,k T (.tail _ (.tail _ (.head _))) _ y.md.2.2⟩
 |tx=>exact y.md
 |pl=>exact y.md
def zY(hh:A.handled=b_):Walks prog w A I (I::S::m.fp) [I] es.size (λi v=>(m.ord w S es ep)[i]?=a_ v) (λi h=>BG w h I S es ep t m i) where
 sub:=λb hb=>by rw[aA.mp hb];exact .head _
 frame:=λi h h' st k=>st.frame k
 item:=λi s Q E hi st k=>MR st hi λh' v a b c=>k v h' s.toks a b λb o hb e=>c.extBut _ _ (λz=>hb (z▸aA.mpr rfl)) e
 done:=λs Q E st k=>Rc hh st λh' kp=>k h' s.toks λb o hb e=>kp b o (λz=>hb (z▸aA.mpr rfl)) e
 self:=λi s Q E st k=>by
  refine vP st.ty pB (bK pB st.ty wg ?_ (wk _));show aC _ _ (ret (.ref I)) _ _ s;exact wu9 ⟨_,rfl,"set_iterator",_,st.ty,fE.lookup,k⟩
def CD(y:kc (n8 w) s.heap S es ep t)(hz:es.size<=aB)
  (k:∀(h1:cx)d I m,s.heap.objs.size<=I->(∀b∈m.fp,s.heap.objs.size<=b)->(∀b o,s.heap.get? b=a_ o->h1.get? b=a_ o)->BG w h1 I S es ep t m 0->Q (.ref I) { s with heap:=h1,drawn:=d }) :
  aC (aD prog w) A (HW (.ref S)) Q E s:=by
 have ty:s.TypeIs (.ref S) "set":=⟨_,y.obj,rfl⟩
 have lt:=hl9 y.obj;refine vP ty zr (bK zr ty Bj ?_ (PySem.F.args_set_iter_1 _));show aC (aD prog w) _ (pP S >>= _) _ _ s;unfold pP;refine wb9 (wb9 (Pj y.obj rfl y.fits (wu9 ?_)))
 have dr:∀{g:bT}{j:ah->ak->Prop}{Q1:Bool->ak->Prop},Q1 (!w.params.followText "set-order" && (!t.plain && decide (es.size > 1))) s->aC (aD prog w) g (setDrawn S) Q1 j s:=by
  intro g j Q1 h;unfold setDrawn;refine wb9 (dq y.obj rfl y.fits ?_);dsimp only;exact wb9 (o9 (wu9 h))
 have one:∀{g:bT} {j:ah->ak->Prop} {Q1:Fin->ak->Prop} {m:Mode} (s1:ak) (f:ah),f=m.first t 0->m.Ok w es t s1.heap s1.heap.objs.size->s.heap.objs.size<=s1.heap.objs.size->(∀b o,s.heap.get? b=a_ o->s1.heap.get? b=a_ o)->
   (∀h1,h1=s1.heap.push { cls:=.type "set_iterator",data:=.fields #[m.first t 0,rawInt (0:Nat),.ref S,rawInt es.size,rawInt ep] }->BG w h1 s1.heap.objs.size S es ep t m 0->Q1 (.done (.ret (.ref s1.heap.objs.size))) { s1 with heap:=h1 })->
   aC (aD prog w) g (do ret (<-newFields "set_iterator" [f,rawInt 0,.ref S,rawInt es.size,rawInt (<-setEpoch S)])) Q1 j s1:=by
  intro g j Q1 m s1 f hf ok le ex h;have c:=y.keep (h':=s1.heap) λo e=>ex _ _ e;refine wb9 (wpAny_setEpoch_of c.obj rfl c.fits ?_);refine wb9 ?_;unfold newFields;refine cy ?_ (by size_fits);subst hf;exact wu9 (h _ rfl ⟨aJ _ rfl,c.keep λo e=>hp9 _ e,ok.keep λb o n e=>hp9 _ e,br (bc lt le)⟩)
 refine wb9 (dr ?_)
 cases hb:w.params.followText "set-order" with
 |true=>
   simp only[Bool.not_true,Bool.false_and,bH,if_false];refine wb9 (wu9 ?_);refine one (m:=.tx) s _ rfl hb (au _) (λb o e=>e) λh1 e1 c=>⟨_,rfl,"set_iterator",_,c.ty (s:={ s with heap:=h1 }),fE.lookup,?_⟩
   subst e1;exact k _ s.drawn _ .tx (au _) (λb h=>by cases h) (λb o e=>hp9 _ e) c
 |false=>
   cases hd:(!t.plain && decide (es.size > 1))with
   |false=>
     simp only[pz,lV,bH,if_false];refine wb9 (wu9 ?_);refine one (m:=.pl) s _ rfl ⟨hb,hd⟩ (au _) (λb o e=>e) λh1 e1 c=>⟨_,rfl,"set_iterator",_,c.ty (s:={ s with heap:=h1 }),fE.lookup,?_⟩
     subst e1;exact k _ s.drawn _ .pl (au _) (λb h=>by cases h) (λb o e=>hp9 _ e) c
   |true=>
     simp only[pz,iF,if_true];refine wb9 (Fn es.size (aT es.size) s (by simp) λps d pm=>?_);have hl:ps.length=es.size:=by rw[pm.length_eq,a9]
     refine wb9 (BW ?_ (by rw[ai,hl];exact hz));refine one (m:=.dr s.heap.objs.size ps) _ _ rfl ⟨?_,pm,?_⟩ ?_ ?_ ?_
     ·show s.heap.objs.size≠(s.heap.push _).objs.size;rw[c8];exact br (eZ _)
     ·exact aJ _ rfl
     ·show s.heap.objs.size<=(s.heap.push _).objs.size;rw[c8];exact pS _
     ·exact λb o e=>hp9 _ e
     ·intro h1 e1 c;refine⟨_,rfl,"set_iterator",_,c.ty (s:={ s with heap:=h1,drawn:=d }),fE.lookup,?_⟩;subst e1;refine k _ d _ _ ?_ ?_ ?_ c
      ·show s.heap.objs.size<=(s.heap.push _).objs.size;rw[c8];exact pS _
      ·intro b hb;rw[aA.mp hb];exact au _
      ·exact λb o e=>hp9 _ (hp9 _ e)
end
section
variable{A:bT}{s:ak}
def Rb:splitId "set.__len__"=a_ ("set","__len__"):=by decide +kernel
def Ra:splitId "str.__len__"=a_ ("str","__len__"):=by decide +kernel
def QR:isSubtype (.type "str") (.type "str")=pure c_:=by kernel_rfl
def KC(ty:s.TypeIs v "set")(k:Q d_ s):aC M A (qj v) Q E s:=by
 refine wb9 (fJ ty PySem.F.slot_set_len.lookup ?_);refine wb9 (dF ty sub_set_self ?_);refine wb9 (iN ty ?_);exact wu9 k
def KA(ty:s.TypeIs v "str")(k:Q d_ s):aC M A (qj v) Q E s:=by
 refine wb9 (fJ ty PySem.F.slot_str_len.lookup ?_);refine wb9 (dF ty QR ?_);refine wb9 (iN ty ?_);exact wu9 k
def C6{ord:List ah}(h:ItemsOf (λi v=>ord[i]?=a_ v) acc ord.length):acc.toList=ord:=by
 obtain⟨h1,h2⟩:=h;apply jT;intro i;by_cases hi:i<acc.size
 ·have:=h2 i acc[i] (aF hi);rw[this,dM,aF hi]
 ·rw[dh (by simpa using hi),dh (aa (ae h1.symm) (bF hi))]
def tm(hh:A.handled=b_)(y:kc (n8 w) s.heap S es ep t)(hz:es.size<=aB)
  (k:∀h1 d tk vs,(∀b o,s.heap.get? b=a_ o->h1.get? b=a_ o)->s.heap.objs.size<=h1.objs.size->vs.Perm (es.toList.map (·.2))->Q vs { s with heap:=h1,drawn:=d,toks:=tk }):aC (aD prog w) A (collect (.ref S)) Q E s:=by
 refine wb9 (rl (eE tN ?_));refine wb9 (cy ?_);refine wu9 (uq (fY wq _) (eE wt ?_));have lt:=hl9 y.obj;generalize l:s.heap.objs.size=L;generalize B:({ cls:=.type "list",data:=.seq ([]).toArray }:kM)=lo;have Z:kc (n8 w) (s.heap.push lo) S es ep t:=y.keep λo e=>hp9 _ e;have gL:(s.heap.push lo).get? L=a_ { cls:=.type "list",data:=.seq (#[]) }:=by rw[<-l];exact(aJ _ (by rw[<-B];rfl)).trans (by rw[<-B])
 have D:(s.heap.push lo).objs.size=L+1:=by rw[c8,l]
 have ne:L≠S:=by rw[<-l];exact j2 lt
 have ty:pL { s with heap:=s.heap.push lo } (.ref S) "set":=⟨_,Z.obj,rfl⟩
 show aC _ A.in1 (qk (.ref L) (.ref S) (.ref L)) _ _ { s with heap:=s.heap.push lo };refine wb9 (iN ty ?_);have b1:sE (.ref L) (.ref S)=d_:=by simp[sE,ne]
 have b2:(iY "set" == iY "list")=d_:=by decide
 have b3:(iY "set" == iY "tuple")=d_:=by decide
 simp only[b1,b2,b3,Bool.or_false,bH,if_false];refine wb9 (CD Z hz λh1 d I m hI hm ex it=>?_);have O:pL { s with heap:=h1,drawn:=d } (.ref S) "set":=⟨_,it.st.obj,rfl⟩
 refine wb9 (bZ (KC O ?_));refine wb9 (gf ?_);have g1:=ex _ _ gL;refine wb9 ?_;refine wb9 (iW g1 rfl ?_);have g2:=eU (eY (·.push dU)) g1 rfl;refine iW g2 rfl ?_;have g3:=eU (eY (·.pop)) g2 rfl
 have J:∀b o,b≠L->h1.get? b=a_ o->((h1.update L (eY (·.push dU))).update L (eY (·.pop))).get? b=a_ o:=
  λb o n e=>(dA _ _ (eK n)).trans ((dA _ _ (eK n)).trans e)
 have v:L<I:=by have :=hI;rw[D]at this;exact this
 have nf:L∉I::S::m.fp:=by
  intro z
  rcases aw.mp z with z|z
  ·rw[z]at v;exact absurd v (bq _)
  ·rcases aw.mp z with z|z
   ·exact ne z
   ·have:=hm _ z;have g :=this;rw[D]at g;exact absurd g (Nat.not_succ_le_self _)
 have W:=(zY (prog:=prog) (w:=w) (A:=A.in1) (I:=I) (S:=S) (es:=es) (ep:=ep) (t:=t) (m:=m) (by simp[hh])).toS;refine wu9 (uq (fY vM _) (Md W hz _ nf _ es.size 0 _ _ _ rfl (aR _) (it.frame λb hb o e=>J b o (λz=>nf (z▸hb)) e) g3 (Pl _) λs' R c M gS j=>?_));refine wb9 (wpAny_load gS ?_);have hp:=Mode.uP (S:=S) (ep:=ep) it.md;have hl:(m.ord w S es ep).length=es.size:=by rw[hp.length_eq,ai,ba]
 rw[<-hl]at j;have e:=C6 j;show aC _ A (pure R.toList) _ _ s';rw[e];obtain⟨h',g',d',U,Y⟩:=s';obtain rfl:g'=s.gens:=M.gens;obtain rfl:d'=d:=M.drawn;obtain rfl:Y=s.os:=M.os;refine wu9 (k h' _ U _ (λb o q=>M.heap b o (λz=>?_) (J b o (λz=>?_) (ex _ _ (hp9 _ q)))) (by rw[l];exact bb (hl9 gS)) hp)
 ·have lb:=hl9 q
  rcases aw.mp z with z|z
  ·rw[z,<-l]at lb;exact absurd lb (bq _)
  ·rw[aA.mp z,l]at lb;exact absurd (cR lb v) (bq _)
 ·have lb:=hl9 q;rw[z,<-l]at lb;exact absurd lb (bq _)
def Br{x:bu}(hh:A.handled=b_)(hz:x.cps.size<=aB)
  (k:∀h1 J d,(∀b o,s.heap.get? b=a_ o->h1.get? b=a_ o)->s.heap.objs.size<=h1.objs.size->ItemsOf (SignAt x) d x.cps.size->Q d.toList { s with heap:=h1,toks:=J }):aC (aD prog w) A (collect (.str x tx)) Q E s:=by
 refine wb9 (rl (eE tN ?_));refine wb9 (cy ?_);refine wu9 (uq (fY wq _) (eE wt ?_));generalize g:s.heap.objs.size=L;generalize j:({ cls:=.type "list",data:=.seq ([]).toArray }:kM)=lo;have gL:(s.heap.push lo).get? L=a_ { cls:=.type "list",data:=.seq (#[]) }:=by rw[<-g];exact(aJ _ (by rw[<-j];rfl)).trans (by rw[<-j])
 have l:(s.heap.push lo).objs.size=L+1:=by rw[c8,g]
 have ty:∀s1:ak,s1.TypeIs (.str x tx) "str":=λs1=>rfl;show aC _ A.in1 (qk (.ref L) (.str x tx) (.ref L)) _ _ { s with heap:=s.heap.push lo };refine wb9 (iN (ty _) ?_);refine wb9 (wpAny_pyIter_str λo St W st=>?_);refine wb9 (bZ (KA (ty _) ?_));have M:((s.heap.push lo).push o).get? L=a_ { cls:=.type "list",data:=.seq (#[]) }:=hp9 _ gL
 have nf:L∉[(s.heap.push lo).objs.size]:=by
  rw[l];intro z;exact absurd (aA.mp z) (br (eZ _))
 refine wu9 (uq (fY vM _) (Md (W A.in1 (by simp[hh])).toS hz _ nf _ x.cps.size 0 _ _ _ rfl (aR _) st M (Pl _) λs' d c y gS v=>?_));refine wb9 (wpAny_load gS ?_);obtain⟨h',g',d',B,D⟩:=s';obtain rfl:g'=s.gens:=y.gens;obtain rfl:d'=s.drawn:=y.drawn;obtain rfl:D=s.os:=y.os;refine wu9 (k h' B _ (λb o q=>y.heap b o (λz=>?_) (hp9 _ (hp9 _ q))) (by rw[g];exact bb (hl9 gS)) v);have lb:=hl9 q
 rcases aw.mp z with z|z
 ·rw[z,<-g]at lb;exact absurd lb (bq _)
 ·have O :=aA.mp z;rw[O,l,g]at lb;exact absurd (mZ lb) (bq _)
end
section
variable{prog:cz}{w:c5}{A:bT}{s:ak}
def DJ(prog:cz)(w:c5)(A:bT)(s:ak)(v:ah)(Gd:List ah->Prop):Prop:=
 ∀(c:bT)(g:ah->ak->Prop)(Q':List ah->ak->Prop),c.handled=A.handled->(∀vs h1 d j,(∀b o,s.heap.get? b=a_ o->h1.get? b=a_ o)->s.heap.objs.size<=h1.objs.size->Gd vs->Q' vs { s with heap:=h1,drawn:=d,toks:=j })->
  aC (aD prog w) c (collect v) Q' g s
def IJ{ss:List bu}(g:ss.length<64)(hc:DJ prog w A s v (λvs=>∃ss',pQ vs ss'/\ss'.Perm ss))
  (k:∀h' d j l(out:List ah)ss' e,(∀b o,s.heap.get? b=a_ o->h'.get? b=a_ o)->s.heap.objs.size<=l->h'.get? l=a_ (seqObj "list" out.toArray e)->pQ out ss'->ss'.Perm ss->sortedS ss'=c_->Q (.ref l) { s with heap:=h',drawn:=d,toks:=j }) :
  aC (aD prog w) A (call (.builtin "sorted") [v]) Q E s:=by
 refine wx kind_sorted plain_sorted entry_sorted (args_sorted1 _) ?_;refine wb9 (wu9 ?_);refine wb9 (hc _ _ _ (by rfl) λvs h1 d j ex sz ⟨y,c,i2⟩=>?_);have hl:vs.length<64:=by rw[show vs.length=y.length by rw[<-c.strs,ai],i2.length_eq];exact g
 refine wb9 (FW ?_ (by exact bb (aa hl (by decide))));have z:(h1.push (seqObj "list" vs.toArray 0)).get? h1.objs.size=a_ (seqObj "list" vs.toArray 0):=aJ _ rfl;refine wb9 (bZ (bK slot_list_sort ⟨_,z,rfl⟩ entry_list_sort (list_sort_treeK strKind_oneLt z c.keysOf (λD J r e=>keyKind_strs (by rw[<-e];exact c)) hl λB hp hs=>⟨_,rfl,?_⟩) (args_list_sort _)));obtain⟨ss',L,M,O⟩:=sorted_out_str c hp hs;obtain⟨e,he⟩:=sortedHeap_at z;refine wu9 ⟨_,rfl,k _ d j _ ((arrOf B).map (·.2)).toList ss' e (λb o q=>?_) ?_ (by exact he) L (M.trans i2) O⟩
 ·have lb:=hl9 (ex b o q);exact(sortedHeap_old (br lb) (by rw[size_push'];exact j3 lb)).trans (hp9 _ (ex b o q))
 ·exact sz
end
end L2
namespace L2
open PySem PySem.W PySem.Spec PyProof.Rows
section
variable{A:bT}{s:ak}
def _root_.L2.rh.first(x:rh I h ks vs):(ks=[]/\vs=[])\/∃k v c d,ks=k::c/\vs=v::d/\I.is h k v/\rh I h c d:=by
 cases x with
 |nil=>exact .inl ⟨rfl,rfl⟩
 |cons a b=>exact .inr ⟨_,_,_,_,rfl,rfl,a,b⟩
def G8{fin:Bool}(D:A.units+2<=dk)(J:rh (i3 P w) s.heap kx xs):∀{d:List (i3 P w).κ} {ys:List ah} (i:Nat),rh (i3 P w) s.heap d ys->kx.map sN=d.map sN->(∀k∈kx,t5 (sN k)=c_)->
  (b=c_->i=0->∀k,kx.head? = a_ k->sN k=[1])->Q (if kx=d then fin else u7 (kx.map cN) (d.map cN)) s->KatLex P w A b fin Q (xs.zip ys) i s:=by
 induction J with
 |nil=>
   intro d ys i j hs _ _ h
   cases j with
   |nil=>exact kat_nil (by simpa using h)
   |cons _ _=>cases hs
 | @cons l u kx xs h1 J M=>
   intro d ys i j hs h3 h0 h
   cases j with
   |nil=>cases hs
   | @cons L v d ys h2 j=>
     simp only[ax,fT]at hs;refine kat_cons ((i3 P w).eqb D h1 h2 (λe=>?_) λe=>?_)
     ·subst e;refine kat_yes (M (i+1) j hs.2 (λk O=>h3 k (iE _ O)) (λ_ z=>((aV (ae z) (aR _))).elim) ?_);by_cases e2:kx=d
      ·subst e2;rw[if_pos rfl]at h ⊢;exact h
      ·rw[if_neg e2];rw[if_neg λz=>e2 (c6 z).2,ax,ax]at h;rw[show u7 (cN l::kx.map cN) (cN l::d.map cN)=u7 (kx.map cN) (d.map cN) by rw[u7,lr,if_pos rfl]]at h;exact h
     ·have B :=λz=>e (Lo hs.1 (h3 _ g7) z);rw[if_neg λz=>e (c6 z).1,ax,ax]at h;rw[show u7 (cN l::kx.map cN) (cN L::d.map cN)=WH (cN l) (cN L) by rw[u7,lr,if_neg B]]at h;refine kat_no ?_;by_cases y:(b && i == 0)=c_
      ·rw[y];simp only[aj,beq_iff_eq]at y;have g:=h0 y.1 y.2 l rfl
       rcases uH hs.1 (h3 _ g7)with⟨a,c,rfl,rfl,q⟩|⟨a,c,rfl,rfl,q1,q2⟩|⟨a,c,rfl,rfl,q1,q2,q3,q4⟩
       ·cases a with
        |inl _=>simp[sN]at g
        |inr a=>
          cases c with
          |inl _=>cases q
          |inr c=>
            rcases cO (k:=.inr a) h1 with⟨_,_,e1,_⟩|⟨x1,R,e1,rfl⟩
            ·cases e1
            ·rcases cO (k:=.inr c) h2 with⟨_,_,e2,_⟩|⟨U,W,e2,rfl⟩
             ·cases e2
             ·cases e1;cases e2;refine oneLt_str ?_;have:=yH a.cps.toList c.cps.toList;simp only[cN]at h;rw[yI,show cK (.inr a)=a.cps.toList.map e8 from rfl,show cK (.inr c)=c.cps.toList.map e8 from rfl,this]at h;exact h
       ·simp only[sN]at g;rw[if_pos q1]at g;simp at g
       ·simp only[sN]at g;rw[if_neg q1]at g;simp at g
      ·rw[Bool.eq_false_iff.mpr y];refine kat_one _ _ (Of D h1 h2 hs.1 (h3 _ g7) ?_);exact h
def YN(B:A.units+2<=dk)(ex:qe P w s.heap x p)(D:qe P w s.heap y c)(hs:x.map sN=y.map sN)(h3:∀k∈x,t5 (sN k)=c_)(h1:b=c_->∀k,x.head? = a_ k->sN k=[1])
  (h:Q (u7 (x.map cN) (y.map cN)) s):aC (aD P w) A (keyLt' (tuples' b) (.ref p) (.ref c)) Q E s:=by
 obtain⟨J,xs,na,j,_,l,d⟩:=ex;obtain⟨L,ys,nb,q,_,v,g⟩:=D;refine kat_lt j l q v (G8 B d 0 g hs h3 (λz _=>h1 z) ?_)
 have hl:xs.size=ys.size:=by
  have e:=congrArg jB hs;simp only[ai]at e;rw[<-ba,<-ba,d.length,g.length,e]
 by_cases e:x=y
 ·rw[if_pos e,hl];rw[e,nv.ir]at h;simpa using h
 ·rw[if_neg e];exact h
noncomputable def P8(sh:List (List Nat)):Option Bool:=match sh.head? with
 |some [1]=>a_ c_
 |some [2]=>a_ d_
 |some (3::_)=>a_ d_
 |_=>b_
def KR(q:YG P w s.heap k v)(hb:P8 (sN k::sh)=a_ b):∃T:ah,(T=if b=c_ then .type "str" else .type "tuple")/\∀M,Looks M s.heap (typeOf v) T:=by
 cases k with
 |inl k=>
   cases k with
   |inl i=>simp[P8,sN]at hb
   |inr a=>
     have e:b=c_:=by simpa [P8,sN]using hb.symm
     subst e
     rcases cO (k:=.inr a) q with⟨_,_,z,_⟩|⟨x1,g,_,rfl⟩
     ·cases z
     ·exact⟨_,rfl,λM=>Looks.of_pure rfl⟩
 |inr ks=>
   have e:b=d_:=by
    simp only[P8,sN,Mp]at hb;by_cases c:ks.all sI=c_
    ·rw[if_pos c]at hb;simpa using hb.symm
    ·rw[if_neg c]at hb;simpa using hb.symm
   subst e;obtain⟨p,rfl,o,its,n,go,d,_⟩:=q;refine⟨_,rfl,λM=>?_⟩;exact d▸(Looks.ld go).andThen .now
def Tv{js:List Nat}{kf:Nat->List NK}{av:Nat->aI}{sh:List (List Nat)}{b:Bool}{Q:pf->ak->Prop}(B:∀j∈js,qe P w s.heap (kf j) (av j))(h1:∀j∈js,(kf j).map sN=sh)(hb:P8 sh=a_ b)(c:0<js.length)(h:Q (tuples' b) s) :
  aC (aD P w) A (keyKind' (js.map λj=>cG (av j)).toArray) Q E s:=by
 have fs:∃fs,KatTups s.heap (js.map λj=>cG (av j)) fs/\fs.length=js.length/\∀v∈fs,Looks (aD P w) s.heap (typeOf v) (if b=c_ then .type "str" else .type "tuple"):=by
  clear h c
  induction js with
  |nil=>exact⟨[],KatTups.nil,rfl,λv d=>by cases d⟩
  |cons j js J=>
    obtain⟨fs,k,l,q⟩:=J (λj y=>B j (iE _ y)) (λj y=>h1 j (iE _ y));obtain⟨o,its,n,e1,e2,e3,L⟩:=B j g7;have g:=h1 j g7
    rcases L.first with⟨z,_⟩|⟨Y,D,M,O,z,hl,R,Z⟩
    ·rw[z]at g;rw[<-g]at hb;cases hb
    ·rw[z]at g;rw[<-g]at hb;have hf:its[0]?=a_ D:=by rw[<-dM,hl];rfl
     obtain⟨T,U,W⟩:=KR R hb;refine⟨D::fs,KatTups.cons e1 e2 e3 hf k,by simp[l],λv d=>?_⟩
     rcases aw.mp d with rfl|d
     ·rw[<-U];exact W _
     ·exact q v d
 obtain⟨fs,k,l,q⟩:=fs;refine kat_kind k (aa c (ae l.symm)) q (by cases b<;>decide) ?_
 cases b with
 |true=>exact h
 |false=>exact h
end
section
variable{s:ak}
def Gx{vs:List ah}(h:vs.length<2):((vs.toArray.zip vs.toArray).map λx=>x.2)=((aT vs.length).toArray.toList.map λi=>vs.getD i dU).toArray:=by
 match vs,h with
 |[],_=>simp
 |[v],_=>simp
def IL(h:n<2):Pm (aT n).toArray n:=by
 have d:∀k,k<n->pg (aT n).toArray k=k:=λk c=>Wi (by simp[c]);exact⟨by simp,λk c=>by rw[d k c];exact c,λi j hi g e=>by omega,by simp⟩
def C1{vs:List ah}(ho:s.heap.get? a=a_ (seqObj "list" vs.toArray n))(g:vs.length<=300)(o:Pd lt vs.length)
  (q:2<=vs.length->∀(h':cx)(v:ah->ak->Prop)(Q:pf->ak->Prop),(∀b o,b≠a->s.heap.get? b=a_ o->h'.get? b=a_ o)->Q (tuples' b) { s with heap:=h' }->aC (aD P w) A (keyKind' vs.toArray) Q v { s with heap:=h' })
  (y:∀(h':cx)(v:ah->ak->Prop)(Q:Bool->ak->Prop)i j,i<vs.length->j<vs.length->(∀b o,b≠a->s.heap.get? b=a_ o->h'.get? b=a_ o)->Q (lt i j) { s with heap:=h' }->
   aC (aD P w) A (keyLt' (tuples' b) (vs.getD i .none) (vs.getD j .none)) Q v { s with heap:=h' })
  (h:∀p:Array Nat,Pm p vs.length->Up lt p vs.length->R (.done (.ret .none)) { s with heap:=sortedHeap s.heap a vs (p.toList.map λi=>vs.getD i .none).toArray }) :
  aC (aD P w) A (fU.«list.sort» ⟨[.ref a],[]⟩) R E s:=by
 rw[list_sort_plain];refine wb9 (listItems_at ho rfl (wb9 (Gb ho rfl ?_ (by exact aa g (by decide)) (aR _))));obtain⟨e1,z⟩:∃e1,(s.heap.update a (eY λ_=>(#[]))).get? a=a_ (seqObj "list" #[] e1):=⟨_,get?_update_seq ho λ_=>#[]⟩
 refine wb9 (Mi z rfl (wb9 (BW ?_ (by show vs.length<=_;rw[eM];omega))));refine wb9 (FW ?_ (aR _));refine bZ ?_;have l:(((s.heap.update a (eY λ_=>(#[]))).push (seqObj "tuple" vs.toArray 0)).push (seqObj "list" #[] 0)).get? a=a_ (seqObj "list" #[] e1):=hp9 _ (hp9 _ z)
 have kp:∀b o,b≠a->s.heap.get? b=a_ o->(((s.heap.update a (eY λ_=>(#[]))).push (seqObj "tuple" vs.toArray 0)).push (seqObj "list" #[] 0)).get? b=a_ o:=λb o nb e=>
  hp9 _ (hp9 _ ((Heap.get?_update_ne _ _ _ _ nb).trans e))
 generalize B:((s.heap.update a (eY λ_=>(#[]))).push (seqObj "tuple" vs.toArray 0)).push (seqObj "list" #[] 0)=h6 at l kp ⊢;by_cases c:vs.toArray.size<2
 ·rw[if_pos c,if_pos c];refine wb9 (wu9 ?_);refine wb9 (wu9 ?_);have hl:vs.length<2:=by exact c
  have k:=Gx hl;have hh:=h (aT vs.length).toArray (IL hl) (λi j h1 h2=>by omega);refine wb9 (Mi l rfl (wb9 (Gb l rfl ?_ (aR _) (by show((vs.toArray.zip vs.toArray).map λx=>x.2).size<=_;simp;exact aa g (by decide)))));simp only[bne_self_eq_false,bH,if_false];unfold sortedHeap at hh;rw[B]at hh;rw[<-k]at hh;exact wu9 hh
 have h2:2<=vs.length:=by exact bF c
 rw[if_neg c,if_neg c];refine wb9 (q h2 h6 _ _ kp ?_);have run:=IK (E:=E) o λi j hi D C J=>y h6 _ C i j hi D kp J;refine wb9 (dm run ?_ λ_ _ e=>e);rintro⟨⟨⟩,st'⟩ s' ⟨rfl,p,p1,p2,k,hf⟩;have d:=kat_snds rfl k;have hsz:(p.toList.map λi=>vs.getD i dU).length=vs.length:=by rw[ai,ba,p1.sz]
 refine wb9 (Mi l rfl (wb9 (Gb l rfl ?_ (aR _) (by rw[d];show(p.toList.map λi=>vs.getD i dU).length<=_;rw[hsz];exact aa g (by decide)))));rw[hf];simp only[bne_self_eq_false,bH,if_false];have:=h p p1 p2;unfold sortedHeap at this;rw[B]at this;rw[d];exact wu9 this
end
section
variable{P:cz}{w:c5}{A:bT}{E:ah->ak->Prop}{s:ak}{kf:Nat->List NK}{av:Nat->aI}{n:Nat}
def CJ{js:List Nat}:∀{vs:List ah},ip (λv j=>v=cG (av j)) vs js->vs=js.map λj=>cG (av j):=by
 induction js with
 |nil=>intro vs h;cases h;rfl
 | cons j js c=>intro vs h;cases h with
   |cons a b=>rw[a,c b];rfl
def CI{js:List Nat}:∀{es:List (Int×ah)},ip (λ(e:Int×ah)j=>e.2=cG (av j)) es js->ip (λv j=>v=cG (av j)) (es.map (·.2)) js:=by
 induction js with
 |nil=>intro es h;cases h;exact .nil
 | cons j js c=>intro es h;cases h with
   |cons a b=>exact .cons a (c b)
structure Sel(kf:Nat->List NK)(n:Nat)(js:List Nat):Prop where
 nd:(js.map kf).Nodup
 lt:∀j∈js,j<n
 all:∀j,j<n->kf j∈js.map kf
def Sel.perm{c:List Nat}(h:Sel kf n js)(p:c.Perm js):Sel kf n c:=
 ⟨(p.map kf).nodup_iff.mpr h.nd,λj d=>h.lt j (p.mem_iff.mp d),λj d=>(p.map kf).mem_iff.mpr (h.all j d)⟩
def Sel.len(h:Sel kf n js):js.length<=n:=by
 have c :=(fu.mp h.nd).imp λx e=>x (congrArg kf e);have:=rW c fO λj d=>bf.mpr (h.lt j d)
 rwa [a9]at this
def Hr(hh:A.handled=b_)(y:BJ P w (n8 w) s.heap S kf av n)(L:n<=300) :
  DJ P w A s (.ref S) (λvs=>∃js,vs=js.map (λj=>cG (av j))/\Sel kf n js):=by
 obtain⟨es,ep,t,js,l,M,g,q,v,z⟩:=y;have sl:Sel kf n js:=⟨q,v,z⟩
 have len:=lg g;rw[ba]at len;have:=sl.len;intro O R Q' e k;refine tm (e.trans hh) l (by rw[eM];omega) λh1 d B vs ex sz pm=>k vs h1 d B ex sz ?_;obtain⟨c,D,J⟩:=lX pm (CI g);exact⟨c,CJ D,sl.perm J⟩
abbrev codeN(k:List NK):List (List (List Int)):=k.map cN
theorem code_inj:∀{x y:List NK},x.map sN=y.map sN->(∀k∈x,t5 (sN k)=c_)->codeN x=codeN y->x=y
 |[],[],_,_,_=>rfl
 |[],_::_,h,_,_=>by cases h
 |_::_,[],h,_,_=>by cases h
 |a::x,b::y,h,h3,e=>by
   simp only[ax,fT]at h e;rw[Lo h.1 (h3 _ g7) e.1,code_inj h.2 (λk c=>h3 k (iE _ c)) e.2]
set_option tactic.hygienic true in
def sorted_N{v:ah}{sh:List (List Nat)}{b:Bool}{Q:ah->ak->Prop}(i_:A.in1.in1.units+2<=dk)(D:∀j,j<n->qe P w s.heap (kf j) (av j))(hsh:∀j,j<n->(kf j).map sN=sh)(h3:∀x∈sh,t5 x=c_)(h1:P8 sh=a_ b)
  (hc:DJ P w A s v (λvs=>∃js,vs=js.map (λj=>cG (av j))/\Sel kf n js/\js.length<=300))
  (k:∀h' d Y l js e,(∀b o,s.heap.get? b=a_ o->h'.get? b=a_ o)->s.heap.objs.size<=l->h'.get? l=a_ (seqObj "list" (js.map λj=>cG (av j)).toArray e)->Sel kf n js->
   (js.map λj=>codeN (kf j)).Pairwise (λa b=>u7 a b=c_)->Q (.ref l) { s with heap:=h',drawn:=d,toks:=Y }) :
  aC (aD P w) A (call (.builtin "sorted") [v]) Q E s:=by
 have O:∀j,j<n->∀k∈kf j,t5 (sN k)=c_:=λj c k D=>h3 _ (by rw[<-hsh j c];exact de D)
 have Z:b=c_->∀j,j<n->∀k,(kf j).head? = a_ k->sN k=[1]:=λhb j c k D=>by
  have:=hsh j c
  cases q:kf j with
  |nil=>rw[q]at D;cases D
  |cons x r=>
    rw[q]at this D;cases D;rw[<-this,hb]at h1;simp only[P8,Mp]at h1;split at h1
    ·rename_i z;exact aW z
    ·cases h1
    ·cases h1
    ·cases h1
 refine wx kind_sorted plain_sorted entry_sorted (args_sorted1 _) ?_;refine wb9 (wu9 ?_);refine wb9 (hc _ _ _ (by rfl) λvs B d Y ex sz ⟨js,J,sl,R⟩=>?_);have hl:vs.length=js.length:=by rw[J,ai]
 refine wb9 (FW ?_ (by exact aa (ae hl) (aa R (by decide))));have g1:(B.push (seqObj "list" vs.toArray 0)).get? B.objs.size=a_ (seqObj "list" vs.toArray 0):=aJ _ rfl
 have at_:∀i,i<vs.length->vs.getD i dU=.ref (av (js.getD i 0))/\js.getD i 0<n:=λi hi=>by
  have g:i<js.length:=aa hi (ae hl);constructor
  ·rw[J];simp[g]
  ·rw[show js.getD i 0=js[i] by simp[g]];exact sl.lt _ (bh g)
 have L:∀h',(∀b o,b≠B.objs.size->(B.push (seqObj "list" vs.toArray 0)).get? b=a_ o->h'.get? b=a_ o)->∀j,j<n->qe P w h' (kf j) (av j):=λh' q j c=>
  (D j c).mono λb o e=>by
   have e1:=ex b o e;exact q b o (br (hl9 e1)) (hp9 _ e1)
 have U :=λi j hi c e=>by
  have a:=at_ i hi
  have b:=at_ j c
  have ek:=code_inj ((hsh _ a.2).trans (hsh _ b.2).symm) (O _ a.2) e;have g:i<js.length:=aa hi (ae hl);have M:j<js.length:=aa c (ae hl);have e1:(js.map kf)[i]?=a_ (kf (js.getD i 0)):=by simp[g]
  have e2:(js.map kf)[j]?=a_ (kf (js.getD j 0)):=by simp[M]
  rw[ek]at e1;exact(jQ (by rw[ai];exact g) sl.nd).mp (e1.trans e2.symm)
 have o0:Pd (λi j=>u7 (codeN (kf (js.getD i 0))) (codeN (kf (js.getD j 0)))) vs.length:=
  ⟨λi j k _ _ _ x y=>nv.tr _ _ _ x y,λi j hi c ne x=>nv.co _ _ (λz=>ne (U i j hi c z)) x,λi j _ _ x=>nv.as x⟩
 refine wb9 (bZ (bK slot_list_sort ⟨_,g1,rfl⟩ entry_list_sort (C1 (b:=b) g1 (aa (ae hl) R) o0 (λh2 h' E' Q' q hq=>?_) (λh' E' Q' i j hi c q hq=>?_) λp p1 p2=>⟨_,rfl,?_⟩) (args_list_sort _)))
 ·rw[J];exact Tv (λj c=>L h' q j (sl.lt j c)) (λj c=>hsh j (sl.lt j c)) h1 (bb (aa h2 (ae hl))) hq
 ·obtain⟨a1,W⟩:=at_ i hi
  obtain⟨b1,b2⟩:=at_ j c
  rw[a1,b1];exact YN i_ (L h' q _ W) (L h' q _ b2) ((hsh _ W).trans (hsh _ b2).symm) (O _ W) (λz=>Z z _ W) hq
 ·obtain⟨e,he⟩:=sortedHeap_at (out:=(p.toList.map λi=>vs.getD i dU).toArray) g1
  have ej:(p.toList.map λi=>vs.getD i dU)=(p.toList.map λi=>js.getD i 0).map λj=>cG (av j):=by
   rw[cB];exact cP λi hi=>(at_ i ((bf.mp (p1.pm.mem_iff.mp hi)))).1
  rw[ej]at he
  have pj:(p.toList.map λi=>js.getD i 0).Perm js:=by
   have:=p1.pm.map λi=>js.getD i 0;refine this.trans ?_;rw[hl];refine List.Perm.of_eq ?_;apply jT;intro i;by_cases hi:i<js.length
   ·simp[hi]
   ·simp[hi]
  refine wu9 ⟨_,rfl,k _ d Y _ (p.toList.map λi=>js.getD i 0) e (λb o q=>?_) sz ?_ (sl.perm pj) ?_⟩
  ·have lb:=hl9 (ex b o q);exact(sortedHeap_old (br lb) (by rw[size_push'];exact j3 lb)).trans (hp9 _ (ex b o q))
  ·rw[ej];exact he
  ·rw[cB,fu,dC];intro i j hi c hij;have M:j<vs.length:=by rw[ba,p1.sz]at c;exact c
   have:=p2 i j hij M
   have e1:∀x(hx:x<p.toList.length),p.toList[x]=pg p x:=λx hx=>by
    have:=EB (by simpa using hx);rw[<-dM,af hx]at this;exact aW this
   rw[e1 i hi,e1 j c];exact this
end
end L2
namespace M
open PySem PySem.Spec PyProof.Rows L2
inductive Vp|add|sub|mul|fdiv|mod|shr|shl|band|bor|pow|mn|mx
inductive XF|eq|ne|lt|le|gt|ge|isin|nin|isn|nisn
inductive Ty|int|bool|str|tuple|list
inductive XG|len|list|tuple|all|any|isi (t:Ty)|listrev|int|str|min|max|sorted|sset|abs|sum
inductive X2|join|split|upper|lower|find|index|count|get|startswith|isalpha|tindex
inductive HQ|app|ext|ins|pop|clr|seti|dput
mutual
noncomputable def nW:Dat->Dat->Bool
 | .non,c=>match c with
   |.non=>c_
   |_=>d_
 | .bl a,c=>match c with
   |.bl b=>a == b
   |.int j=>(if a then 1 else 0) == j
   |_=>d_
 | .int i,c=>match c with
   |.bl b=>i == (if b then 1 else 0)
   |.int j=>i == j
   |_=>d_
 | .str x,c=>match c with
   |.str y=>x == y
   |_=>d_
 | .tup xs,c=>match c with
   |.tup ys=>mz xs ys
   |_=>d_
 | .lst xs,c=>match c with
   |.lst ys=>mz xs ys
   |_=>d_
 |_,_=>d_
noncomputable def mz:List Dat->List Dat->Bool
 |[],[]=>c_
 |x::xs,y::ys=>nW x y && mz xs ys
 |_,_=>d_
end
mutual
noncomputable def iR:Nat->Dat->Bool
 |_,.dct _ _=>d_
 |_,.dcn _=>d_
 |0,.tup _=>d_
 |0,.lst _=>d_
 |n+1,.tup xs=>eC n xs
 |n+1,.lst xs=>eC n xs
 |_,_=>c_
noncomputable def eC:Nat->List Dat->Bool
 |_,[]=>c_
 |n,x::xs=>iR n x && eC n xs
end
noncomputable def fL:Dat->Option Bool
 |.non=>a_ d_
 |.bl b=>a_ b
 |.int i=>a_ (i != 0)
 |.str x=>if x.length<=aB then a_ ((x.length:Int) != 0)else b_
 |.tup xs=>a_ (!xs.isEmpty)
 |.lst xs=>a_ (!xs.isEmpty)
 |.dct ks _=>a_ (!ks.isEmpty)
 |.dcn _=>b_
noncomputable instance (i j:Int):Decidable (HA i j):=by unfold HA;infer_instance
noncomputable instance (i j:Int):Decidable (U1 i j):=by unfold U1;infer_instance
noncomputable instance (i j:Int):Decidable (Ph i j):=by unfold Ph;infer_instance
noncomputable instance (x:bu) (j:Int):Decidable (B3 x j):=by unfold B3;infer_instance
abbrev g_:=Option (Dat×Bool)
noncomputable def FL(f:Int->Int->g_):Dat->Dat->g_
 |.int i,.int j=>f i j
 |_,_=>b_
def Xw:Dat->Dat->g_
 | .int i,c=>match c with
   |.int j=>a_ (.int (i+j),d_)
   |_=>b_
 | .str x,c=>match c with
   |.str y=>if x.length+y.length<=aB then a_ (.str (x++y),d_)else b_
   |_=>b_
 | .lst xs,c=>match c with
   |.lst ys=>if xs.length+ys.length<=aB then a_ (.lst (xs++ys),jL (xs++ys))else b_
   |_=>b_
 | .tup xs,c=>match c with
   |.tup ys=>if xs.length+ys.length<=aB then a_ (.tup (xs++ys),d_)else b_
   |_=>b_
 |_,_=>b_
noncomputable def Xt:Dat->Dat->g_
 | .int i,c=>match c with
   |.int j=>if HA i j then a_ (.int (i * j),d_)else b_
   |_=>b_
 | .str x,c=>match c with
   |.int j=>if B3 x j then a_ (.str (PySem.Txt.mul x j),d_)else b_
   |_=>b_
 |_,_=>b_
def hJ:Vp->Dat->Dat->g_
 |.add,a,b=>Xw a b
 |.sub,a,b=>FL (λi j=>a_ (.int (i - j),d_)) a b
 |.mul,a,b=>Xt a b
 |.mn,a,b=>FL (λi j=>a_ (.int (if j<i then j else i),d_)) a b
 |.mx,a,b=>FL (λi j=>a_ (.int (if i<j then j else i),d_)) a b
 |.fdiv,a,b=>FL (λi j=>if U1 i j then a_ (.int (i / j),d_)else b_) a b
 |.mod,a,b=>FL (λi j=>if 0<j then a_ (.int (i % j),d_)else b_) a b
 |.shr,a,b=>FL (λi j=>if 0<=j then a_ (.int (i / 2 ^ j.toNat),d_)else b_) a b
 |.shl,a,b=>FL (λi j=>if Ph i j then a_ (.int (i * 2 ^ j.toNat),d_)else b_) a b
 |.band,a,b=>FL (λi j=>a_ (.int (uh i j),d_)) a b
 |.bor,a,b=>FL (λi j=>a_ (.int (LN i j),d_)) a b
 |.pow,a,b=>FL (λi j=>if Ph i j then a_ (.int (i ^ j.toNat),d_)else b_) a b
noncomputable def yL:Dat->Option Key
 |.int i=>a_ (.inl i)
 |.str x=>a_ (.inr x)
 |_=>b_
instance ZH (k:List NK) (ks:List (List NK)):Decidable (k∈ks):=@List.instDecidableMemOfLawfulBEq _ instBEqOfDecidableEq inferInstance k ks
def vd:List Dat->Option (List Key)
 |[]=>a_ []
 |d::ds=>(yL d).bind λk=>(vd ds).map λr=>k::r
def XQ:Dat->Option N2
 |.int i=>a_ (.inl (.inl i))
 |.str x=>a_ (.inl (.inr x))
 |.tup ds=>(vd ds).map .inr
 |_=>b_
def LZ:List Dat->Option (List N2)
 |[]=>a_ []
 |d::ds=>(XQ d).bind λk=>(LZ ds).map λr=>k::r
def Wy:Dat->Option NK
 |.int i=>a_ (.inl (.inl i))
 |.str x=>a_ (.inl (.inr x))
 |.tup ds=>(LZ ds).map .inr
 |_=>b_
def SQ:List Dat->Option (List NK)
 |[]=>a_ []
 |d::ds=>(Wy d).bind λk=>(SQ ds).map λr=>k::r
def NZ:Dat->Option (List NK)
 |.tup ds=>SQ ds
 |_=>b_
def v9:List Dat->Option (List (List NK))
 |[]=>a_ []
 |d::ds=>(NZ d).bind λk=>(v9 ds).map λr=>k::r
noncomputable def PU:List Key->Bool
 |[]=>c_
 |k::ks=>!(ks.any λj=>decide (j=k)) && PU ks
noncomputable def pD(k:Key):List Key->List Dat->Option Dat
 |j::ks,v::vs=>if j=k then a_ v else pD k ks vs
 |_,_=>b_
noncomputable def Av(k:Key):List Key->Bool
 |[]=>c_
 |j::ks=>if j=k then !(ks.any λi=>decide (i=k))else Av k ks
noncomputable def putD(k:Key)(d:Dat):List Key->List Dat->List Key×List Dat
 |j::ks,v::vs=>if j=k then(j::ks,d::vs)else((j::(putD k d ks vs).1),(v::(putD k d ks vs).2))
 |_,_=>([k],[d])
noncomputable def Uy(f:Int->Int->Bool):Dat->Dat->Option Bool
 |.int i,.int j=>a_ (f i j)
 |_,_=>b_
def ZT(a:Dat):Dat->Option Bool
 | .str y=>match a with
   |.str x=>a_ (!(gh y x 0 y.length 1).isEmpty)
   |_=>b_
 |.lst ys=>if iR 20 a && eC 20 ys then a_ (ys.any λy=>nW y a)else b_
 |.tup ys=>if iR 20 a && eC 20 ys then a_ (ys.any λy=>nW y a)else b_
 |_=>b_
def Zc(a:Dat):Dat->Option Bool
 | .str y=>match a with
   |.str x=>a_ (!(!(gh y x 0 y.length 1).isEmpty))
   |_=>b_
 |.lst ys=>if iR 20 a && eC 20 ys then a_ (!(ys.any λy=>nW y a))else b_
 |_=>b_
noncomputable def Ze(b:Bool)(a:Dat):Dat->Option Bool
 |.non=>a_ (match a with | .non=>b|_=>!b)
 |_=>b_
def fQ:XF->Dat->Dat->Option Bool
 |.eq,a,b=>if iR 20 a && iR 20 b then a_ (nW a b)else b_
 |.ne,a,b=>if iR 20 a && iR 20 b then a_ (!nW a b)else b_
 |.lt,a,b=>Uy (λi j=>decide (i<j)) a b
 |.le,a,b=>Uy (λi j=>decide (i<=j)) a b
 |.gt,a,b=>Uy (λi j=>decide (j<i)) a b
 |.ge,a,b=>Uy (λi j=>decide (j<=i)) a b
 |.isin,a,b=>ZT a b
 |.nin,a,b=>Zc a b
 |.isn,a,b=>Ze c_ a b
 |.nisn,a,b=>Ze d_ a b
def vf:Dat->Dat->Option Dat
 | .lst xs,d=>match d with
   |.int i=>rd xs i
   |_=>b_
 | .tup xs,d=>match d with
   |.int i=>rd xs i
   |_=>b_
 | .str z,d=>match d with
   |.int i=>if z.length<=aB then(rd z.cps.toList i).map λc=>.str ⟨#[c]⟩else b_
   |_=>b_
 |.dct ks vs,k=>(yL k).bind λk=>pD k ks vs
 |_,_=>b_
noncomputable def JE(r:g_):Option (Option Int):=r.bind λx=>match x.1 with
 |.int i=>a_ (a_ i)
 |_=>b_
def cutD{α:Type}(xs:List α)(lo hi:Option Int):List α:=(xs.drop (HT.iS xs.length 0 lo)).take (HT.iS xs.length xs.length hi - HT.iS xs.length 0 lo)
def D7:Dat->Option Int->Option Int->g_
 |.str x,lo,hi=>if x.length<=aB then a_ (.str (fe x lo hi),d_)else b_
 |.lst xs,lo,hi=>a_ (.lst (cutD xs lo hi),jL (cutD xs lo hi))
 |.tup xs,lo,hi=>a_ (.tup (cutD xs lo hi),d_)
 |_,_,_=>b_
noncomputable def Km:Ty->Dat->Bool
 |.int,.int _=>c_
 |.int,.bl _=>c_
 |.bool,.bl _=>c_
 |.str,.str _=>c_
 |.tuple,.tup _=>c_
 |.list,.lst _=>c_
 |_,_=>d_
noncomputable def Dz:List Dat->Option (List Bool)
 |[]=>a_ []
 |.bl b::ds=>(Dz ds).map λr=>b::r
 |_::_=>b_
noncomputable def uv:List Dat->Option (List bu)
 |[]=>a_ []
 |.str x::ds=>(uv ds).map λr=>x::r
 |_::_=>b_
noncomputable def sV:List Dat->Option (List Int)
 |[]=>a_ []
 |.int x::ds=>(sV ds).map λr=>x::r
 |_::_=>b_
noncomputable def vh{α:Type}(lt:α->α->Bool)(x:α):List α->List α
 |[]=>[x]
 |y::ys=>if lt x y=c_ then x::y::ys else if lt y x=c_ then y::vh lt x ys else y::ys
def gC{α:Type}(lt:α->α->Bool):List α->List α
 |[]=>[]
 |x::xs=>vh lt x (gC lt xs)
noncomputable def wc{α:Type}(lt:α->α->Bool)(x:α):List α->List α
 |[]=>[x]
 |y::ys=>if lt y x=c_ then y::wc lt x ys else x::y::ys
def mL{α:Type}(lt:α->α->Bool):List α->List α
 |[]=>[]
 |x::xs=>wc lt x (mL lt xs)
noncomputable def ltI(i j:Int):Bool:=decide (i<j)
noncomputable def t7(x y:bu):Bool:=decide (x.cps.toList<y.cps.toList)
noncomputable def dY(x:bu):List bu:=x.cps.toList.map λc=>⟨#[c]⟩
noncomputable def OP:Nat->List Int->Dat
 |0,l=>.int (l.headD 0)
 |1,l=>.str ⟨(l.map um).toArray⟩
 |_,l=>.tup (l.map .int)
def Uo:List Nat->List (List Int)->Dat
 |[],_=>.non
 |n::sh,c=>if n=3 then .tup (sH OP sh c)else OP n (c.headD [])
def Bm(sh:List (List Nat))(c:List (List (List Int))):Dat:=.tup (sH Uo sh c)
def Ct(kk:List (List NK)):List (List Nat):=(kk.headD []).map sN
def JK(kk:List (List NK)):Prop:=(P8 (Ct kk)).isSome=c_/\(Ct kk).all t5=c_/\(kk.all λk=>decide (k.map sN=Ct kk))=c_/\(gC u7 (kk.map codeN)).length<=300
instance (kk:List (List NK)):Decidable (JK kk):=inferInstanceAs (Decidable (_/\_))
def wU(kk:List (List NK)):g_:=
 if kk.length<=300/\JK kk then a_ (.lst ((gC u7 (kk.map codeN)).map (Bm (Ct kk))),c_)else b_
def D2(ss:List bu):g_:=if ss.length<4000/\(gC t7 ss).length<64 then a_ (.lst ((gC t7 ss).map .str),c_)else b_
def D4(ss:List bu):g_:=if ss.length<64 then a_ (.lst ((mL t7 ss).map .str),c_)else b_
noncomputable def ZI:Int->List Int->Int
 |i,[]=>i
 |i,j::r=>ZI (if i<j then j else i) r
noncomputable def b1(f:Dat->g_):List Dat->g_
 |[d]=>f d
 |_=>b_
noncomputable def Xv:Dat->g_
 |.lst xs=>a_ (.int xs.length,d_)
 |.tup xs=>a_ (.int xs.length,d_)
 |.str x=>if x.length<=aB then a_ (.int x.length,d_)else b_
 |.dct ks _=>a_ (.int ks.length,d_)
 |_=>b_
def Xu:Dat->g_
 |.lst xs=>a_ (.lst xs,jL xs)
 |.tup xs=>a_ (.lst xs,jL xs)
 |_=>b_
def Zh:Dat->g_
 |.lst xs=>a_ (.lst xs.reverse,jL xs.reverse)
 |.tup xs=>if xs.length<=1000000 then a_ (.lst xs.reverse,jL xs.reverse)else b_
 |.str x=>if x.length<=1000000 then a_ (.lst ((dY x).reverse.map .str),c_)else b_
 |_=>b_
noncomputable def Zg:Dat->g_
 |.lst xs=>a_ (.tup xs,d_)
 |.tup xs=>a_ (.tup xs,d_)
 |_=>b_
noncomputable def bL(f:List Dat->g_):Dat->g_
 |.lst xs=>f xs
 |_=>b_
noncomputable def Vk(f:List Dat->g_)(g:bu->g_):Dat->g_
 |.lst xs=>f xs
 |.str x=>g x
 |_=>b_
noncomputable def Zi:Dat->g_
 |.int i=>a_ (.int i,d_)
 |.bl b=>a_ (.int (if b then 1 else 0),d_)
 |.str x=>if x.length<=640 then(PySem.intText? x).map λi=>(.int i,d_)else b_
 |_=>b_
noncomputable def Xs:Dat->g_
 |.int i=>if i.natAbs.log2<1920 then a_ (.str (toString i),d_)else b_
 |_=>b_
def gW:XG->List Dat->g_
 |.len,l=>b1 Xv l
 |.list,l=>b1 Xu l
 |.listrev,l=>b1 Zh l
 |.tuple,l=>b1 Zg l
 |.all,l=>b1 (bL λxs=>(Dz xs).map λbs=>(.bl (bs.all id),d_)) l
 |.any,l=>b1 (bL λxs=>(Dz xs).map λbs=>(.bl (bs.any id),d_)) l
 |.isi t,l=>b1 (λd=>a_ (.bl (Km t d),d_)) l
 |.sset,l=>b1 (Vk (λds=>(v9 ds).bind wU) λx=>D2 (dY x)) l
 |.sorted,l=>b1 (Vk (λ_=>b_) λx=>D4 (dY x)) l
 |.int,l=>b1 Zi l
 |.sum,l=>b1 (bL λds=>(sV ds).map λis=>(.int is.sum,d_)) l
 | .max,l=>b1 (bL λds=>(sV ds).bind λis=>match is with
   |[]=>b_
   |i::r=>a_ (.int (ZI i r),d_)) l
 |.str,l=>b1 Xs l
 |.min,_=>b_
 |.abs,_=>b_
noncomputable def jg:Dat->Option (List Dat)
 |.lst xs=>a_ xs
 |.tup xs=>a_ xs
 |.str x=>a_ (x.cps.toList.map λc=>Dat.str ⟨#[c]⟩)
 |_=>b_
noncomputable def Yq:Dat->Option (List Dat)
 |.str x=>a_ (x.cps.toList.map λc=>Dat.str ⟨#[c]⟩)
 |_=>b_
noncomputable def CC:List Dat->Option (List Dat)
 |[.int j]=>if j<=1000000/\-1000000<=j then a_ ((aT j.toNat).map λk:Nat=>Dat.int k)else b_
 |[.int i,.int j]=>if -1000000<=i/\i<=1000000/\-1000000<=j/\j<=1000000 then a_ ((aT (j - i).toNat).map λk:Nat=>Dat.int (i+k))else b_
 |[.int i,.int j,.int c]=>if c=-1/\-1000000<=i/\i<=1000000/\-1000000<=j/\j<=1000000 then a_ ((aT (i - j).toNat).map λk:Nat=>Dat.int (i - k))else b_
 |_=>b_
noncomputable def n5:List Dat->List Dat->List Dat
 |x::xs,y::ys=>.tup [x,y]::n5 xs ys
 |_,_=>[]
noncomputable def we:Nat->List Dat->List Dat
 |_,[]=>[]
 |k,x::xs=>.tup [.int k,x]::we (k+1) xs
def qA(f:Dat->Option g_):List Dat->Option (List Dat×Bool)
 |[]=>a_ ([],c_)
 | d::ds=>(f d).bind λo=>(qA f ds).map λr=>match o with
   |some y=>(y.1::r.1,(y.2 || im y.1) && r.2)
   |none=>r
noncomputable def yv:Nat->List Dat->iG->iG
 |_,[],ρ=>ρ
 |k,d::ds,ρ=>yv (k+1) ds (ρ.set k (a_ d))
def FK(nt:Nat)(one:Bool)(d:Dat)(ρ:iG):Option iG:=match one with
 |true=>a_ (ρ.set 0 (a_ d))
 | false=>match d with
   |.tup ds=>if ds.length=nt then a_ (yv 0 ds ρ)else b_
   |_=>b_
noncomputable def jG(nt:Nat)(caps:List Nat)(ρ:iG):iG:=dt nt b_++caps.map λj=>(ρ[j]?).join
def findD(d:Dat):List Dat->Nat->Option Nat
 |[],_=>b_
 |x::xs,k=>if nW x d=c_ then a_ k else findD d xs (k+1)
noncomputable def XS(f:bu->g_):Dat->List Dat->g_
 | .str x,c=>match c with
   |[]=>f x
   |_=>b_
 |_,_=>b_
noncomputable def YK(f:bu->bu->g_):Dat->List Dat->g_
 | .str x,c=>match c with
   |[.str y]=>f x y
   |_=>b_
 |_,_=>b_
noncomputable def ZJ(f:bu->List Dat->g_):Dat->List Dat->g_
 | .str x,c=>match c with
   |[.lst ds]=>f x ds
   |_=>b_
 |_,_=>b_
noncomputable def YJ:Dat->List Dat->g_
 |.str x,[.str y,.int i]=>a_ (.bl (hZ x y i),d_)
 |_,_=>b_
def YI:Dat->List Dat->g_
 | .tup ds,c=>match c with
   |[d]=>if iR 20 d && eC 20 ds then(findD d ds 0).map λk=>(.int k,d_)else b_
   |_=>b_
 |_,_=>b_
def YL:Dat->List Dat->g_
 |.lst ds,[.str y]=>(uv ds).bind λxs=>(xs.findIdx? (·== y)).map λj=>(.int (j:Nat),d_)
 |_,_=>b_
def YM:Dat->List Dat->g_
 | .dct ks vs,[k]=>(yL k).bind λk=>match pD k ks vs with
   |some d=>a_ (d,d_)
   |none=>a_ (.non,d_)
 |_,_=>b_
def jc:X2->Dat->List Dat->g_
 |.join,a,l=>ZJ (λx ds=>(uv ds).bind λys=>if(ys.map (·.length)).sum+ys.length * x.length<=1000000 then a_ (.str (tD x ys),d_)else b_) a l
 |.split,a,l=>YK (λx y=>if 0<y.length/\x.length<=1000000 then a_ (.lst ((PySem.Txt.split x y).map Dat.str),c_)else b_) a l
 |.upper,a,l=>XS (λx=>if x.length<=1000000 then a_ (.str (rm x),d_)else b_) a l
 |.lower,a,l=>XS (λx=>if x.length<=1000000 then a_ (.str (PySem.Txt.lower x),d_)else b_) a l
 |.find,a,l=>YK (λx y=>a_ (.int (PySem.Txt.find x y),d_)) a l
 |.index,a,l=>YL a l
 |.count,a,l=>YK (λx y=>a_ (.int (PySem.Txt.count x y),d_)) a l
 |.startswith,a,l=>YJ a l
 |.tindex,a,l=>YI a l
 |.isalpha,a,l=>XS (λx=>a_ (.bl (PySem.Txt.isalpha x),d_)) a l
 |.get,a,l=>YM a l
def insI{α:Type}(x:α)(i:Int)(xs:List α):List α:=xs.take (HT.iS xs.length 0 (a_ i))++x::xs.drop (HT.iS xs.length 0 (a_ i))
def IQ{α:Type}(x:α)(i:Int)(xs:List α):Option (List α):=(C5 xs.length i).map λk=>xs.set k x
noncomputable def Vv:Dat->List Dat->Option Dat
 |.lst ds,[d]=>if ds.length<aB then a_ (.lst (ds++[d]))else b_
 |_,_=>b_
noncomputable def QK:Dat->List Dat->Option Dat
 | .lst ds,l=>match l with
   |[.lst es]=>if ds.length+es.length<=aB then a_ (.lst (ds++es))else b_
   |[.tup es]=>if ds.length+es.length<=aB then a_ (.lst (ds++es))else b_
   |_=>b_
 |_,_=>b_
def Vu:Dat->List Dat->Option Dat
 | .lst ds,l=>match l with
   |[.int i,d]=>if ds.length<aB/\-1000000<=i/\i<=1000000 then a_ (.lst (insI d i ds))else b_
   |_=>b_
 |_,_=>b_
def QJ:Dat->List Dat->Option Dat
 | .lst ds,l=>match l with
   |[d,.int i]=>if -1000000<=i/\i<=1000000 then(IQ d i ds).map .lst else b_
   |_=>b_
 | .dct ks vs,l=>match l with
   |[d,k]=>(yL k).bind λk=>if ks.length<aB/\Av k ks=c_ then a_ (.dct (putD k d ks vs).1 (putD k d ks vs).2)else b_
   |_=>b_
 |_,_=>b_
def Ya:Dat->List Dat->Option Dat
 | .dct ks _,l=>match l with
   |[.bl c_,k]=>if ks.isEmpty=c_ then(NZ k).map λk=>.dcn [k]else b_
   |_=>b_
 | .dcn ks,l=>match l with
   |[.bl c_,k]=>(NZ k).bind λk=>if ks.length<aB/\k∉ks then a_ (.dcn (ks++[k]))else b_
   |_=>b_
 |_,_=>b_
def kJ:HQ->Dat->List Dat->Option Dat
 |.app,a,l=>Vv a l
 |.ext,a,l=>QK a l
 |.ins,a,l=>Vu a l
 |.seti,a,l=>QJ a l
 |.dput,a,l=>Ya a l
 |_,_,_=>b_
abbrev Fs:=Nat->List Dat->g_
structure Ex where
 fv:List Nat
 ev:Fs->iG->g_
noncomputable def bE(C:Fs)(e:Ex)(ρ:iG):g_:=e.ev C ρ
def kR(C:Fs):List Ex->iG->Option (List Dat)
 |[],_=>a_ []
 |e::es,ρ=>(bE C e ρ).bind λx=>(kR C es ρ).map λr=>x.1::r
def nE(C:Fs):List Ex->iG->Option (List Dat×Bool)
 |[],_=>a_ ([],c_)
 |e::es,ρ=>(bE C e ρ).bind λx=>(nE C es ρ).map λr=>(x.1::r.1,(x.2 || im x.1) && r.2)
def xJ(C:Fs):List Ex->iG->Option Bool
 |[],_=>a_ c_
 |e::es,ρ=>(bE C e ρ).bind λx=>(fL x.1).bind λz=>if z=c_ then xJ C es ρ else a_ d_
noncomputable def OD(es:List Ex):List Nat:=es.flatMap (·.fv)
inductive Iw where
 |itv (a:Ex)|rng (es:List Ex)|zip (es:List Ex)|enu (a:Ex)|rev (a:Ex)
noncomputable def Ys:Dat->Option (List Dat)
 |.tup ds=>a_ ds.reverse
 |_=>b_
def fvI:Iw->List Nat
 |.itv a=>a.fv
 |.rng _=>[]
 |.zip es=>OD es
 |.enu a=>a.fv
 |.rev a=>a.fv
def zip2(a b:Dat):Option (List Dat):=match a with
 | .str x=>match b with
   |.tup ys=>a_ (n5 ((dY x).map .str) ys)
   |_=>b_
 |_=>b_
def Px(ds:List Dat):Option (List Dat):=match ds with
 |[a,b]=>zip2 a b
 |_=>b_
def yX(C:Fs)(it:Iw)(ρ:iG):Option (List Dat):=match it with
 |.itv a=>(bE C a ρ).bind λx=>jg x.1
 |.rng es=>(kR C es ρ).bind CC
 |.zip es=>(kR C es ρ).bind Px
 |.enu a=>(bE C a ρ).bind λx=>(Yq x.1).map λxs=>we 0 xs
 |.rev a=>(bE C a ρ).bind λx=>Ys x.1
def Xr(C:Fs)(ρ:iG):Option Ex->Option (Option Int)
 |none=>a_ b_
 |some e=>JE (bE C e ρ)
noncomputable def YD:Dat->g_
 |.int i=>a_ (.int (-i),d_)
 |_=>b_
noncomputable def Zk(k:g_):Dat->g_
 |.bl b=>if b=c_ then k else a_ (.bl d_,d_)
 |_=>b_
noncomputable def orD(k:g_):Dat->g_
 |.bl b=>if b=c_ then a_ (.bl c_,d_)else k
 |_=>b_
def pG(C:Fs)(nt:Nat)(one:Bool)(ρ0:iG)(ifs:List Ex)(elt:Ex)(d:Dat):Option g_:=
 (FK nt one d ρ0).bind λρ1=>(xJ C ifs ρ1).bind λb=>if b=c_ then(bE C elt ρ1).map a_ else a_ b_
namespace Ex
noncomputable def con(d:Dat):Ex:=⟨[],λ_ _=>a_ (d,d_)⟩
abbrev e_(i:Int):Ex:=con (.int i)
abbrev f_(x:bu):Ex:=con (.str x)
noncomputable def v(i:Nat):Ex:=⟨[i],λ_ ρ=>((ρ[i]?).join).map λd=>(d,d_)⟩
def bin(o:Vp)(a b:Ex):Ex:=⟨a.fv++b.fv,λC ρ=>(bE C a ρ).bind λx=>(bE C b ρ).bind λy=>hJ o x.1 y.1⟩
def neg(a:Ex):Ex:=⟨[],λC ρ=>(bE C a ρ).bind λx=>YD x.1⟩
def cmp(o:XF)(a b:Ex):Ex:=⟨[],λC ρ=>(bE C a ρ).bind λx=>(bE C b ρ).bind λy=>(fQ o x.1 y.1).map λr=>(.bl r,d_)⟩
def and(a b:Ex):Ex:=⟨a.fv++b.fv,λC ρ=>(bE C a ρ).bind λx=>Zk (bE C b ρ) x.1⟩
def or(a b:Ex):Ex:=⟨a.fv++b.fv,λC ρ=>(bE C a ρ).bind λx=>orD (bE C b ρ) x.1⟩
def not(a:Ex):Ex:=⟨[],λC ρ=>(bE C a ρ).bind λx=>(fL x.1).map λb=>(.bl (!b),d_)⟩
def ite(c a b:Ex):Ex:=⟨c.fv++a.fv++b.fv,λC ρ=>(bE C c ρ).bind λx=>(fL x.1).bind λz=>if z=c_ then bE C a ρ else bE C b ρ⟩
def tup(es:List Ex):Ex:=⟨OD es,λC ρ=>(nE C es ρ).bind λx=>if x.1.length<=1000000 then a_ (.tup x.1,x.2)else b_⟩
def lst(es:List Ex):Ex:=⟨OD es,λC ρ=>(nE C es ρ).bind λx=>if x.1.length<=1000000 then a_ (.lst x.1,x.2)else b_⟩
def ix(a b:Ex):Ex:=⟨a.fv++b.fv,λC ρ=>(bE C a ρ).bind λx=>(bE C b ρ).bind λy=>(vf x.1 y.1).map λd=>(d,d_)⟩
noncomputable def ZF(o:Option Ex):List Nat:=match o with
 |none=>[]
 |some e=>e.fv
def sl(a:Ex)(lo hi:Option Ex):Ex:=⟨a.fv++ZF lo++ZF hi,λC ρ=>(bE C a ρ).bind λx=>(Xr C ρ lo).bind λl=>(Xr C ρ hi).bind λh=>D7 x.1 l h⟩
def call(f:Nat)(es:List Ex):Ex:=⟨OD es,λC ρ=>(kR C es ρ).bind λds=>C f ds⟩
def blt(b:XG)(es:List Ex):Ex:=⟨OD es,λC ρ=>(kR C es ρ).bind λds=>gW b ds⟩
def jr(m:X2)(o:Ex)(es:List Ex):Ex:=⟨o.fv++OD es,λC ρ=>(bE C o ρ).bind λx=>(kR C es ρ).bind λds=>jc m x.1 ds⟩
noncomputable def qN:Ex:=⟨[],λ_ _=>a_ (.dct [] [],c_)⟩
def Fq(ks:List Key)(es:List Ex):Ex:=⟨OD es,λC ρ=>(kR C es ρ).bind λds=>if ks.length=ds.length/\PU ks=c_/\ks.length<=15 then a_ (.dct ks ds,d_)else b_⟩
def comp(nt:Nat)(one:Bool)(caps:List Nat)(it:Iw)(ifs:List Ex)(elt:Ex):Ex:=⟨caps++fvI it,λC ρ=>(yX C it ρ).bind λitems=>if items.length<=1000000 then
 (qA (pG C nt one (jG nt caps ρ) ifs elt) items).map λys=>(.lst ys.1,ys.2)else b_⟩
end Ex
abbrev dI:=List g_
set_option genInjectivity true in
inductive Out where
 |nx (ρ:dI)|rt (d:Dat) (fr:Bool)|bk (ρ:dI)|ct (ρ:dI)
noncomputable def zN(ρ:dI):iG:=ρ.map λo=>match o with
 |some (d,d_)=>a_ d
 |_=>b_
noncomputable def full(ρ:dI):iG:=ρ.map λo=>o.map (·.1)
noncomputable def sk(ρ:dI):dI:=ρ.map λo=>o.map λs=>(s.1,d_)
def Cc(ρ:dI):zN (sk ρ)=full ρ:=by
 unfold zN sk full;rw[cB];exact cP λo _=>by cases o<;>rfl
noncomputable def mG(is:List Nat)(ρ:dI):dI:=is.foldl (λρ i=>ρ.modify i λo=>o.map λs=>(s.1,d_)) ρ
def Hk(C:Fs)(e:Ex)(ρ:dI):Option (Dat×Bool×dI):=(bE C e (full ρ)).bind λx=>if(im x.1 || x.2)=c_ then a_ (x.1,x.2,ρ)
 else(bE C e (zN (mG e.fv ρ))).map λy=>(y.1,y.2,mG e.fv ρ)
def Ud(C:Fs)(it:Iw)(ρ:dI):Option (List Dat×dI):=match it with
 |.itv a=>(Hk C a ρ).bind λx=>(jg x.1).map λds=>(ds,x.2.2)
 |.rng es=>(yX C (.rng es) (full ρ)).map λds=>(ds,ρ)
 |.zip es=>(yX C (.zip es) (zN (mG (OD es) ρ))).map λds=>(ds,mG (OD es) ρ)
 |.enu a=>(yX C (.enu a) (zN (mG a.fv ρ))).map λds=>(ds,mG a.fv ρ)
 |.rev a=>(yX C (.rev a) (zN (mG a.fv ρ))).map λds=>(ds,mG a.fv ρ)
noncomputable def oX:List Nat->List Dat->dI->dI
 |i::is,d::ds,ρ=>oX is ds (ρ.set i (a_ (d,d_)))
 |_,_,ρ=>ρ
def iV(one:Bool)(c:List Nat)(d:Dat)(ρ:dI):Option dI:=match one with
 | true=>match c with
   |[i]=>a_ (ρ.set i (a_ (d,d_)))
   |_=>b_
 | false=>match d with
   |.tup ds=>if ds.length=c.length then a_ (oX c ds ρ)else b_
   |_=>b_
noncomputable def wL(k:dI->Option Out):Out->Option Out
 |.nx ρ=>k ρ
 |.ct ρ=>k ρ
 |.bk ρ=>a_ (.nx ρ)
 |.rt d fr=>a_ (.rt d fr)
def zL(test:dI->Option Bool)(body:dI->Option Out):Nat->dI->Option Out
 |0,_=>b_
 |n+1,ρ=>(test ρ).bind λb=>if b=c_ then(body ρ).bind (wL (zL test body n))else a_ (.nx ρ)
def ng:Nat:=1000000
def jd(bnd:Dat->dI->Option dI)(body:dI->Option Out):List Dat->dI->Option Out
 |[],ρ=>a_ (.nx ρ)
 |d::ds,ρ=>(bnd d ρ).bind λρ1=>(body ρ1).bind (wL (jd bnd body ds))
structure Sx where
 ex:Fs->dI->Option Out
noncomputable def ot(C:Fs)(s:Sx)(ρ:dI):Option Out:=s.ex C ρ
noncomputable def VU(k:dI->Option Out):Out->Option Out
 |.nx ρ=>k ρ
 |o=>a_ o
def dP(C:Fs):List Sx->dI->Option Out
 |[],ρ=>a_ (.nx ρ)
 |s::ss,ρ=>(ot C s ρ).bind (VU (dP C ss))
def X8(c:List Nat)(ρ:dI):Dat->Option Out
 |.tup ds=>if ds.length=c.length then a_ (.nx (oX c ds ρ))else b_
 |_=>b_
def SX(op:HQ)(i:Nat)(ρ:dI)(ds:List Dat):g_->Option Out
 |some (d,c_)=>(kJ op d ds).map λd'=>.nx (ρ.set i (a_ (d',c_)))
 |_=>b_
namespace Sx
def set(i:Nat)(e:Ex):Sx:={ ex:=λC ρ=>(Hk C e ρ).map λx=>.nx (x.2.2.set i (a_ (x.1,x.2.1 && !im x.1))) }
def Vs(c:List Nat)(e:Ex):Sx:={ ex:=λC ρ=>(Hk C e ρ).bind λx=>X8 c x.2.2 x.1 }
def exp(e:Ex):Sx:={ ex:=λC ρ=>(bE C e (full ρ)).map λ_=>.nx ρ }
def ret(e:Ex):Sx:={ ex:=λC ρ=>(bE C e (full ρ)).map λx=>.rt x.1 x.2 }
noncomputable def qv(i:Nat):Sx:={ ex:=λ_ ρ=>((ρ[i]?).join).map λx=>.rt x.1 x.2 }
noncomputable def LX:Sx:={ ex:=λ_ _=>b_ }
noncomputable def brk:Sx:={ ex:=λ_ ρ=>a_ (.bk ρ) }
def ifs(c:Ex)(a b:List Sx):Sx:={ ex:=λC ρ=>(bE C c (full ρ)).bind λx=>(fL x.1).bind λz=>if z=c_ then dP C a ρ else dP C b ρ }
def loop(one:Bool)(c:List Nat)(it:Iw)(body:List Sx):Sx:={ ex:=λC ρ=>(Ud C it ρ).bind λx=>jd (iV one c) (dP C body) x.1 x.2 }
def Vq(c:Ex)(body:List Sx):Sx:={ ex:=λC ρ=>zL (λρ=>(bE C c (full ρ)).bind λx=>fL x.1) (dP C body) ng ρ }
def «mut» (op:HQ)(i:Nat)(es:List Ex):Sx:={ ex:=λC ρ=>(nE C es (full ρ)).bind λx=>if x.2=c_ then SX op i ρ x.1 (ρ[i]?).join else b_ }
end Sx
noncomputable def Y8:Out->g_
 |.nx _=>a_ (.non,d_)
 |.rt d fr=>a_ (d,fr)
 |_=>b_
def OL(C:Fs)(np c:Nat)(body:List Sx)(ds:List Dat):g_:=
 if ds.length=np then(dP C body (ds.map (λd=>a_ (d,d_))++dt (c - np) b_)).bind Y8 else b_
def gE(K:Fg)(C:Fs)(x:Ex):TE:=λσ H Q=>∃ρ d fr,bE C x ρ=a_ (d,fr)/\tE K ρ d fr σ H Q
def gA(K:Fg)(C:Fs)(xs:List Ex):TA:=λσ H Q=>∃ρ ds,kR C xs ρ=a_ ds/\tEs K ρ ds σ H Q
def gF(K:Fg)(C:Fs)(xs:List Ex):TA:=λσ H Q=>∃ρ ds c,nE C xs ρ=a_ (ds,c)/\tFs K ρ ds c σ H Q
def gT(K:Fg)(C:Fs)(x:Ex):TT:=λσ H Q=>∃ρ d fr b,bE C x ρ=a_ (d,fr)/\fL d=a_ b/\tT K ρ b σ H Q
abbrev SE(X:Cx)(C:Fs)(e:be)(x:Ex):Prop:=PE X e (gE X.K C x)
abbrev SA(X:Cx)(C:Fs)(es:List be)(xs:List Ex):Prop:=PA X es (gA X.K C xs)
abbrev SF(X:Cx)(C:Fs)(es:List be)(xs:List Ex):Prop:=PA X es (gF X.K C xs)
abbrev ST(X:Cx)(C:Fs)(e:be)(x:Ex):Prop:=PT X e (gT X.K C x)
def gB(K:Fg)(f:Dat->Dat->g_):R2:=λx y H Q=>∃da c d fr,f da c=a_ (d,fr)/\rD K da c d fr x y H Q
def gL(K:Fg)(f:List Dat->g_):List V->Hp->VK->Prop:=λxs H Q=>∃ds d fr,f ds=a_ (d,fr)/\rDs K ds d fr xs H Q
section
variable{X:Cx}{C:Fs}{e:be}
def bx{K:Fg}:(d_=c_->gD K H H' d v):=λh=>nomatch h
def Rt(i:Nat)(l:X.N[i]?=a_ x)(y:Qu X.env.scope x)(hd:(x == ("__debug__":bu))=d_)
  (c:(x == ("__classdict__":bu))=d_):SE X C (.Name x pos) (.v i):=
 PE.imp (rR l y hd c) λσ H Q z3=>by
  obtain⟨ρ,d,fr,h,F,g,R,k⟩:=z3;obtain⟨d',h1,h2⟩:=eD h;cases h2
  have j:ρ[i]?=a_ (a_ d):=by
   cases q:ρ[i]? with
   |none=>rw[q]at h1;cases h1
   |some z=>rw[q]at h1;exact congrArg a_ h1
  obtain⟨v,e1,r⟩:=R i d j;exact⟨v,e1,k v F H (Step.refl g) r bx⟩
def uE(h:PE X e (tC v))(hd:∀F,Rep X.K F d v):SE X C e (.con d):=
 PE.imp h λσ H Q z3=>by
  obtain⟨ρ,d',fr,h,F,g,R,k⟩:=z3;cases h;exact k v F H (Step.refl g) (hd _) bx
def RC{j}:SE X C (.Constant (.int i) j pos) (.con (.int i)):=uE R9 λ_=>rfl
def V1{b:Bool}{j}:SE X C (.Constant (.bool b) j pos) (.con (.bl b)):=uE Wm λ_=>rfl
def Rw{j}:SE X C (.Constant .none j pos) (.con .non):=uE R7 λ_=>rfl
def Rv{j}:SE X C (.Constant (.str x) j pos) (.con (.str x)):=uE R3 λ_=>rfl
def M4(g:Gl X x)(j:X.mg x=a_ u)(r:RelV v u)(c:∀F,Rep X.K F d v)(hd:(x == ("__debug__":bu))=d_):SE X C (.Name x pos) (.con d):=uE (NB g j r hd) c
def BC{α β γ:Type}{o:Option α}{o':Option β}{f:α->β->Option γ}{z:γ}(h:(o.bind λx=>o'.bind λy=>f x y)=a_ z):∃x y,o=a_ x/\o'=a_ y/\f x y=a_ z:=by
 obtain⟨x,h1,h⟩:=cY h;obtain⟨y,h2,h⟩:=cY h;exact⟨x,y,h1,h2,h⟩
def ym(l:∀ρ d fr,bE C x ρ=a_ (d,fr)->∃p q,bE C xa ρ=a_ p/\bE C xb ρ=a_ q/\f p.1 q.1=a_ (d,fr)) :
  ∀σ H Q,gE X.K C x σ H Q->QM (gB X.K f) (gE X.K C xa) (gE X.K C xb) σ H Q:=λσ H Q z3=>by
 obtain⟨ρ,d,fr,h,F,g,R,k⟩:=z3;obtain⟨⟨da,D⟩,⟨B,J⟩,h1,h2,h3⟩:=l ρ d fr h;refine⟨ρ,da,D,h1,F,g,R,λv F1 H1 c L _=>⟨ρ,B,J,h2,F1,c.good,R.mono c.ff,λw M H2 j O _=>?_⟩⟩;exact⟨da,B,d,fr,h3,M,j.good,L.mono j.ff,O,λu U W y Y Z=>k u U W ((c.trans j).trans y) Y λz=>(Z z).back (F:=F) (c.hh.trans j.hh)⟩
def RF(ho:jJ X (binaryOp op) (gB X.K (hJ o)))(ha:SE X C a xa)(hb:SE X C b xb):SE X C (.BinOp a op b pos) (.bin o xa xb):=
 PE.imp (PK ho ha hb) (ym λρ d fr h=>by
  exact BC h)
def p5(o:XF)(x y:Dat):g_:=(fQ o x y).map λr=>(.bl r,d_)
def RD(ho:jJ X (compareOp op) (gB X.K (p5 o)))(ha:SE X C a xa)(hb:SE X C b xb)(c:behindInMarks op b=d_):SE X C (.Compare a [op] [b] pos) (.cmp o xa xb):=
 PE.imp (ND ho ha hb c) (ym λρ d fr h=>BC h)
def QX(ho:jJ X (compareOp op) (gB X.K (p5 o)))(ha:SE X C a xa)(hb:SE X C b xb)(c:behindInMarks op b=d_):ST X C (.Compare a [op] [b] pos) (.cmp o xa xb):=
 PT.imp (Nv ho ha hb c) λσ H Q z3=>by
  obtain⟨ρ,d,fr,b,h,hb,F,g,R,k⟩:=z3;refine ym (x:=.cmp o xa xb) (f:=p5 o) (λρ d fr h=>BC h) σ H _ ⟨ρ,d,fr,h,F,g,R,λv F1 H1 st r _=>?_⟩;obtain⟨p,q,_,_,h3⟩:=BC h;obtain⟨z,_,j⟩:=eD h3;cases j;cases hb;exact⟨_,r,k F1 H1 st⟩
def V0(c:UT X (gB X.K λx y=>(vf x y).map λd=>(d,d_)))(ha:SE X C a xa)(hb:SE X C b xb)(hs:zm b):SE X C (.Subscript a b pos) (.ix xa xb):=
 PE.imp (JA c ha hb hs) (ym λρ d fr h=>by
  exact BC h)
def Rx(ha:SE X C a xa):SE X C (.UnaryOp .USub a pos) (.neg xa):=
 PE.imp (Wk QI ha) λσ H Q z3=>by
  obtain⟨ρ,d,fr,h,F,g,R,k⟩:=z3;obtain⟨⟨da,j⟩,h1,h⟩:=cY h;refine⟨ρ,da,j,h1,F,g,R,λv F1 H1 c l _=>?_⟩
  cases da with
  |int i=>cases h;exact⟨i,l,k _ F1 H1 c rfl bx⟩
  |_=>cases h
set_option tactic.hygienic true in
def DU{K:Fg}{F H:Hp}{d:Dat}{v:V}{b:Bool}(g:Good F H)(r:Rep K F d v)(h:fL d=a_ b):UM K v H b:=by
 cases d with
 |non=>rw[r];cases h;exact rfl
 |bl c=>rw[r];cases h;exact rfl
 |int i=>rw[r];cases h;exact rfl
 |str x=>
   rw[r];simp only[fL]at h;split at h
   ·rename_i hz;cases h;exact⟨hz,rfl⟩
   ·cases h
 |tup ds=>
   obtain⟨p,vs,rfl,t,r⟩:=r;cases h
   have e:(!ds.isEmpty)=!vs.isEmpty:=by
    have:=r.length
    cases ds<;>cases vs<;>first|rfl|cases this
   rw[e];exact .inr (.inl ⟨vs,(t.mono g.sub).sq,rfl⟩)
 |lst ds=>
   obtain⟨p,vs,rfl,t,r⟩:=r;cases h
   have e:(!ds.isEmpty)=!vs.isEmpty:=by
    have:=r.length
    cases ds<;>cases vs<;>first|rfl|cases this
   rw[e];exact .inl ⟨vs,g.sub.seq t,rfl⟩
 |dcn _=>cases h
 |dct ks ds=>
   obtain⟨p,k_,rfl,t,kk,r⟩:=r;cases h
   have e:(!ks.isEmpty)=!k_.isEmpty:=by
    rw[<-kk];cases k_<;>rfl
   rw[e];exact .inr (.inr ⟨k_,g.sub _ _ t,rfl⟩)
def kH(h:SE X C e xa)(he:∀whole,isTrue e X.env whole=(do let v <-whole;standAt e.pos;holding [v] (truthy v)):=by intro _;rfl):ST X C e xa:=
 PT.imp (Jl h he) λσ H Q ⟨ρ,d,fr,b,h,hb,F,g,R,k⟩=>⟨ρ,d,fr,h,F,g,R,λv F1 H1 c j _=>⟨b,DU c.good j hb,k F1 H1 c⟩⟩
abbrev SW(X:Cx)(C:Fs)(e:be)(x:Ex):Prop:=PW X e (gT X.K C x)
def MD(ha:ST X C a xa):SW X C (.BoolOp .And [a] pos) xa:=Nr ha
def QO(ha:ST X C a xa):SW X C (.BoolOp .Or [a] pos) xa:=RQ ha
def PW.imp(h:PW X e t)(f:∀σ H Q,t' σ H Q->t σ H Q):PW X e t':=λc h_ s σ H Q I q=>h c h_ s σ H Q I (f _ _ _ q)
def QP{rest:List be}(ha:ST X C a xa)(hb:SW X C (.BoolOp .And (b::rest) pos) xb):SW X C (.BoolOp .And (a::b::rest) pos) (.and xa xb):=
 PW.imp (RR ha hb) λσ H Q z3=>by
  obtain⟨ρ,d,fr,z,h,hz,F,g,R,k⟩:=z3;obtain⟨⟨da,q⟩,h1,h⟩:=cY h
  cases da with
  |bl c=>
    cases c with
    |true=>exact⟨ρ,_,q,c_,h1,rfl,F,g,R,λF1 H1 j=>by
      refine C7 ?_
      exact⟨ρ,d,fr,z,h,hz,F1,j.good,R.mono j.ff,λv H2 l=>k v H2 (j.trans l)⟩⟩
    |false=>
      cases h;cases hz
      exact⟨ρ,_,q,d_,h1,rfl,F,g,R,λF1 H1 j=>by
       refine C8 ?_
       exact k F1 H1 j⟩
  |_=>cases h
def VI{rest:List be}(ha:ST X C a xa)(hb:SW X C (.BoolOp .Or (b::rest) pos) xb):SW X C (.BoolOp .Or (a::b::rest) pos) (.or xa xb):=
 PW.imp (Wf ha hb) λσ H Q z3=>by
  obtain⟨ρ,d,fr,z,h,hz,F,g,R,k⟩:=z3;obtain⟨⟨da,q⟩,h1,h⟩:=cY h
  cases da with
  |bl c=>
    cases c with
    |false=>exact⟨ρ,_,q,d_,h1,rfl,F,g,R,λF1 H1 j=>by
      refine C8 ?_
      exact⟨ρ,d,fr,z,h,hz,F1,j.good,R.mono j.ff,λv H2 l=>k v H2 (j.trans l)⟩⟩
    |true=>
      cases h;cases hz
      exact⟨ρ,_,q,c_,h1,rfl,F,g,R,λF1 H1 j=>by
       refine C7 ?_
       exact k F1 H1 j⟩
  |_=>cases h
def QW(ha:ST X C a xa):ST X C (.UnaryOp .Not a pos) (.not xa):=
 PT.imp (RU ha) λσ H Q z3=>by
  obtain⟨ρ,d,fr,z,h,hz,F,g,R,k⟩:=z3;obtain⟨⟨da,c⟩,h1,h⟩:=cY h;obtain⟨j,hb,h⟩:=eD h;cases h;cases hz;exact⟨ρ,da,c,j,h1,hb,F,g,R,k⟩
def Ee{op}(ha:SE X C a xa):SE X C (.BoolOp op [a] pos) xa:=R6 ha
def RG{rest:List be}(ha:SE X C a xa)(hb:SE X C (.BoolOp .And (b::rest) pos) xb):SE X C (.BoolOp .And (a::b::rest) pos) (.and xa xb):=
 PE.imp (Sd ha hb) λσ H Q z3=>by
  obtain⟨ρ,d,fr,h,F,g,R,k⟩:=z3;obtain⟨⟨da,q⟩,h1,h⟩:=cY h
  cases da with
  |bl c=>
    refine⟨ρ,_,q,h1,F,g,R,λv F1 H1 j y _=>⟨c,y,?_⟩⟩
    cases c with
    |true=>
      refine C7 ?_;exact⟨ρ,d,fr,h,F1,j.good,R.mono j.ff,λv B H2 l D J=>k v B H2 (j.trans l) D λz=>(J z).back (F:=F) j.hh⟩
    |false=>
      cases h;exact C8 (k _ F1 H1 j rfl bx)
  |_=>cases h
def VW{rest:List be}(ha:SE X C a xa)(hb:SE X C (.BoolOp .Or (b::rest) pos) xb):SE X C (.BoolOp .Or (a::b::rest) pos) (.or xa xb):=
 PE.imp (Wl ha hb) λσ H Q z3=>by
  obtain⟨ρ,d,fr,h,F,g,R,k⟩:=z3;obtain⟨⟨da,q⟩,h1,h⟩:=cY h
  cases da with
  |bl c=>
    refine⟨ρ,_,q,h1,F,g,R,λv F1 H1 j y _=>⟨c,y,?_⟩⟩
    cases c with
    |false=>
      refine C8 ?_;exact⟨ρ,d,fr,h,F1,j.good,R.mono j.ff,λv B H2 l D J=>k v B H2 (j.trans l) D λz=>(J z).back (F:=F) j.hh⟩
    |true=>
      cases h;exact C7 (k _ F1 H1 j rfl bx)
  |_=>cases h
def RA{HN:be}(hc:ST X C HN xc)(ha:SE X C a xa)(hb:SE X C b xb):SE X C (.IfExp HN a b pos) (.ite xc xa xb):=
 PE.imp (JB hc ha hb) λσ H Q z3=>by
  obtain⟨ρ,d,fr,h,F,g,R,k⟩:=z3;obtain⟨⟨da,B⟩,h1,h⟩:=cY h;obtain⟨z,hz,h⟩:=cY h;refine⟨ρ,da,B,z,h1,hz,F,g,R,λF1 H1 c=>?_⟩
  cases z with
  |true=>
    refine C7 ?_;exact⟨ρ,d,fr,h,F1,c.good,R.mono c.ff,λv l H2 j q y=>k v l H2 (c.trans j) q λz=>(y z).back (F:=F) c.hh⟩
  |false=>
    refine C8 ?_;exact⟨ρ,d,fr,h,F1,c.good,R.mono c.ff,λv l H2 j q y=>k v l H2 (c.trans j) q λz=>(y z).back (F:=F) c.hh⟩
def oI:SA X C [] []:=PA.imp CK λσ H Q z3=>by
 obtain⟨ρ,ds,h,F,g,R,k⟩:=z3;cases h;exact k [] F H (Step.refl g) rfl
def jC(ha:SE X C e l)(q:SA X C es xs)(hs:aS (e::es) X.env=(d_,eval e X.env)::aS es X.env):SA X C (e::es) (l::xs):=
 PA.imp (t4 ha q hs) λσ H Q z3=>by
  obtain⟨ρ,ds,h,F,g,R,k⟩:=z3;simp only[kR]at h;obtain⟨⟨d,fr⟩,h1,h⟩:=cY h;obtain⟨r,h2,h⟩:=eD h;cases h;exact⟨ρ,d,fr,h1,F,g,R,λv F1 H1 c y _=>⟨ρ,r,h2,F1,c.good,R.mono c.ff,λvs z H2 j B=>k _ z H2 (c.trans j) ⟨v,vs,rfl,y.mono j.ff,B⟩⟩⟩
def oY(h:n<=1000000):n<=aB:=by exact aa h (by decide)
def IM:SF X C [] []:=PA.imp CK λσ H Q z3=>by
 obtain⟨ρ,ds,c,h,F,g,R,k⟩:=z3;cases h;exact k [] F H (Step.refl g) rfl λ_=>⟨[],fh,(λa z=>by cases z),rfl,rfl⟩
def D9(ha:SE X C e y)(B:SF X C es xs)(hs:aS (e::es) X.env=(d_,eval e X.env)::aS es X.env):SF X C (e::es) (y::xs):=
 PA.imp (t4 ha B hs) λσ H Q z3=>by
  obtain⟨ρ,ds,U,h,F,g,R,k⟩:=z3;obtain⟨⟨d,fr⟩,h1,h⟩:=cY h;obtain⟨⟨r,D⟩,h2,h⟩:=eD h;cases h;refine⟨ρ,d,fr,h1,F,g,R,λv F1 H1 c q J=>⟨ρ,r,D,h2,F1,c.good,R.mono c.ff,λvs L H2 j M O=>k _ L H2 (c.trans j) ⟨v,vs,rfl,q.mono j.ff,M⟩ λz=>?_⟩⟩;simp only[aj,kW]at z;refine fB.cons c.hh j.hh ?_ (O z.2)
  rcases z.1 with l|l
  ·exact J l
  ·exact .jY c.good l q
set_option tactic.hygienic true
def Ru{x1}(h:SF X C es xs):SE X C (.Tuple es x1 pos) (.tup xs):=
 PE.imp (R0 h) λσ H Q z3=>by
  obtain⟨ρ,d,fr,h,F,g,R,k⟩:=z3;obtain⟨⟨ds,q⟩,h1,h⟩:=cY h;dsimp only at h;split at h
  ·rename_i hz;cases h;refine⟨ρ,ds,_,h1,F,g,R,λvs F1 H1 c j l=>⟨by rw[j.length];exact oY hz,λp hp=>?_⟩⟩;exact k _ _ _ (c.trans (Step.alloc c.good hp)) ⟨p,vs,rfl,.inl cC,j.mono (bY.upd (c.good.sub.free hp))⟩ λz=>.tup hp (l z)
  ·cases h
def Rz(h:SF X C es xs):SE X C (.List es pos) (.lst xs):=
 PE.imp (R8 h) λσ H Q z3=>by
  obtain⟨ρ,d,fr,h,F,g,R,k⟩:=z3;obtain⟨⟨ds,v⟩,h1,h⟩:=cY h;dsimp only at h;split at h
  ·rename_i hz;cases h;refine⟨ρ,ds,_,h1,F,g,R,λvs F1 H1 c j l=>⟨by rw[j.length];exact oY hz,λp hp=>?_⟩⟩;have q:=j.mono (bY.upd (o:=.lst vs) (c.good.sub.free hp));exact k _ _ _ (c.trans (Step.alloc c.good hp)) ⟨p,vs,rfl,.inl (.inl cC),q⟩ λz=>.lst c.hh hp (l z)
  ·cases h
set_option tactic.hygienic false
def Rf(K:Fg)(n:Nat)(f:List Dat->g_):Sp:=λvs H Q _=>vs.length=n/\gL K f vs H Q
def qS(j:∀ρ d fr,bE C x ρ=a_ (d,fr)->∃ds,kR C xs ρ=a_ ds/\f ds=a_ (d,fr)) :
  ∀σ H Q,gE X.K C x σ H Q->XM (gL X.K f) (gA X.K C xs) σ H Q:=λσ H Q z3=>by
 obtain⟨ρ,d,fr,h,F,g,R,k⟩:=z3;obtain⟨ds,h1,h2⟩:=j ρ d fr h;refine⟨ρ,ds,h1,F,g,R,λvs F1 H1 c q=>⟨ds,d,fr,h2,F1,c.good,q,λv y H2 l B D=>k v y H2 (c.trans l) B λz=>(D z).back (F:=F) c.hh⟩⟩
theorem mT:∀{xs:List Ex}{ρ:iG}{ds:List Dat},kR C xs ρ=a_ ds->ds.length=xs.length
 |[],ρ,ds,h=>by simp only[kR]at h;cases h;rfl
 |x::xs,ρ,ds,h=>by
   simp only[kR]at h;obtain⟨d,_,h⟩:=cY h;obtain⟨r,h2,h⟩:=eD h;cases h;rw[a8,a8,mT h2]
def M7(j n:Nat)(G:nK X.prog X.w X.K X.mg X.base Hz k f fd ps (Rf X.K n (C j)))(z:mW k X.A)(B:Gl X x)(D:X.mg x=a_ (.ref f))(J:gJ X.K (.ref f)=c_)(hb:Binds X.K fd ps [])
  (ha:SA X C (e::es) (c::xs))(L:(c::xs).length=n)(l:(x == ("__debug__":bu))=d_)(he:aS (e::es) X.env=(d_,eval e X.env)::aS es X.env)(q:(backTo pos (aS es X.env)).any (·.1)=d_) :
  SE X C (.Call (.Name x p) (e::es) [] pos) (.call j (c::xs)):=
 PE.imp (NF G z B D J hb .nil PL ha l he q) λσ H Q h=>by
  have h':=qS (x:=.call j (c::xs)) (λρ d fr h=>cY h) σ H Q h;obtain⟨ρ,ds,h1,F,g,R,k⟩:=h';refine⟨ρ,ds,h1,F,g,R,λvs F1 H1 v y=>?_⟩;show Rf X.K n (C j) (vs++[]) H1 Q E0;rw[aM];exact⟨by rw[y.length,mT h1,L],k vs F1 H1 v y⟩
def Ec{id:String}(hc:lF X (.builtin id) (gL X.K (gW bt)))(j:Gl X x)(k:X.mg x=b_)(l:bootBuiltins x=a_ (.builtin id))(ha:SA X C (e::es) xs)(q:x≠"__name__")(c:(x == ("__debug__":bu))=d_)
  (he:aS (e::es) X.env=(d_,eval e X.env)::aS es X.env)(g:(backTo pos (aS es X.env)).any (·.1)=d_):SE X C (.Call (.Name x p) (e::es) [] pos) (.blt bt xs):=
 PE.imp (Ap hc j k l ha q c he g) (qS λρ d fr h=>cY h)
def yw{T:String}(hc:lF X (.type T) (gL X.K (gW bt)))(j:Gl X x)(k:X.mg x=b_)(l:bootBuiltins x=a_ (.type T))(ha:SA X C (e::es) xs)(q:x≠"__name__")(c:(x == ("__debug__":bu))=d_)
  (he:aS (e::es) X.env=(d_,eval e X.env)::aS es X.env)(g:(backTo pos (aS es X.env)).any (·.1)=d_):SE X C (.Call (.Name x p) (e::es) [] pos) (.blt bt xs):=
 PE.imp (GZ hc j k l ha q c he g) (qS λρ d fr h=>cY h)
end
section
variable{a b:be}{xs:List Ex}{s:ak}
theorem oW:∀{n:Nat}{ds:List Dat}{j:Nat}{d:Dat},eC n ds=c_->ds[j]?=a_ d->iR n d=c_
 |_,[],_,_,_,e=>by simp at e
 |n,x::xs,0,d,h,e=>by
   simp only[eC,aj]at h;simp at e;subst e;exact h.1
 |n,x::xs,j+1,d,h,e=>by
   simp only[eC,aj]at h;exact oW h.2 (by simpa using e)
theorem p4:∀xs ys:List Dat,mz xs ys=((aT (min xs.length ys.length)).all (λj=>nW (xs.getD j .non) (ys.getD j .non)) && xs.length == ys.length)
 |[],[]=>by simp[mz]
 |[],y::ys=>by simp[mz]
 |x::xs,[]=>by simp[mz]
 |x::xs,y::ys=>by
   have h:=p4 xs ys;simp only[mz,a8,Nat.succ_min_succ,Nat.succ_eq_add_one];rw[h,BQ,dv];simp[Function.comp_def,Pu]
def _root_.L2.Inv.lstR{a:aI}{vs:List V}(I:Inv X h_ σ H s)(g:Good F H)(h:mV X.K F a vs):∃its:List ah,cM vs its/\PlainL s.heap a its.toArray/\vs.length<=aB:=I.list (g.sub.seq h)
def _root_.L2.Inv.tupR{a:aI}{vs:List V}(I:Inv X h_ σ H s)(g:Good F H)(h:Tq X.K F a vs):∃its:List ah,cM vs its/\zt s.heap a its.toArray/\vs.length<=aB:=I.tuple (h.mono g.sub).sq
def _root_.L2.Inv.noLT{a:aI}{vs ws:List V}(I:Inv X h_ σ H s)(g:Good F H)(h:mV X.K F a vs)(h':Tq X.K F a ws):False:=by
 obtain⟨its,_,⟨o,n,e,c,_⟩,_⟩:=I.lstR g h;obtain⟨its',_,⟨o',d,j,_⟩,_⟩:=I.tupR g h';rw[e]at d;cases d;rw[c]at j
 injection j with z
 exact absurd z (by decide)
mutual
noncomputable def sP:Dat->Bool
 |.dct _ _=>d_
 |.dcn _=>d_
 |.tup xs=>g9 xs
 |.lst xs=>g9 xs
 |_=>c_
noncomputable def g9:List Dat->Bool
 |[]=>c_
 |x::xs=>sP x && g9 xs
end
mutual
theorem uU:∀(n:Nat)(d:Dat),iR n d=c_->sP d=c_
 |n,.non,_=>rfl
 |n,.bl _,_=>rfl
 |n,.int _,_=>rfl
 |n,.str _,_=>rfl
 |0,.tup _,h=>by simp[iR]at h
 |0,.lst _,h=>by simp[iR]at h
 |n+1,.tup xs,h=>rX n xs (by simpa [iR]using h)
 |n+1,.lst xs,h=>rX n xs (by simpa [iR]using h)
 |n,.dct _ _,h=>by cases n<;>simp[iR]at h
 |n,.dcn _,h=>by cases n<;>simp[iR]at h
theorem rX:∀(n:Nat)(ds:List Dat),eC n ds=c_->g9 ds=c_
 |n,[],_=>rfl
 |n,d::ds,h=>by
   have h':iR n d=c_/\eC n ds=c_:=by cases n<;>simpa [eC]using h
   simp only[g9,uU n d h'.1,rX n ds h'.2,kG]
end
mutual
theorem Ah(I:Inv X h_ σ H s)(g:Good F H):∀(da j:Dat){x:V},sP da=c_->sP j=c_->Rep X.K F da x->Rep X.K F j x->nW da j=c_
 |.non,j,x,na,nb,k,d=>by
   rw[k]at d
   cases j with
   |non=>rfl
   |tup _=>obtain⟨_,_,z,_⟩:=d;cases z
   |lst _=>obtain⟨_,_,z,_⟩:=d;cases z
   |dct _ _=>exact nomatch nb
   |dcn _=>exact nomatch nb
   |_=>cases d
 |.bl b,j,x,na,nb,k,d=>by
   rw[k]at d
   cases j with
   |bl c=>cases d;simp[nW]
   |tup _=>obtain⟨_,_,z,_⟩:=d;cases z
   |lst _=>obtain⟨_,_,z,_⟩:=d;cases z
   |dct _ _=>exact nomatch nb
   |dcn _=>exact nomatch nb
   |_=>cases d
 |.int i,j,x,na,nb,k,d=>by
   rw[k]at d
   cases j with
   |int c=>cases d;simp[nW]
   |tup _=>obtain⟨_,_,z,_⟩:=d;cases z
   |lst _=>obtain⟨_,_,z,_⟩:=d;cases z
   |dct _ _=>exact nomatch nb
   |dcn _=>exact nomatch nb
   |_=>cases d
 |.str i,j,x,na,nb,k,d=>by
   rw[k]at d
   cases j with
   |str c=>cases d;simp[nW]
   |tup _=>obtain⟨_,_,z,_⟩:=d;cases z
   |lst _=>obtain⟨_,_,z,_⟩:=d;cases z
   |dct _ _=>exact nomatch nb
   |dcn _=>exact nomatch nb
   |_=>cases d
 |.dct _ _,_,_,na,_,_,_=>nomatch na
 |.dcn _,_,_,na,_,_,_=>nomatch na
 |.tup ds,j,x,na,nb,y,d=>by
   obtain⟨p,vs,e,t,r⟩:=y;subst e
   cases j with
   |tup es=>
     obtain⟨q,us,l,t',v⟩:=d;cases l;have ev :=I.mN (t.mono g.sub).sq (t'.mono g.sub).sq;subst ev;exact rM I g ds es na nb r v
   |lst es=>
     obtain⟨q,us,l,t',v⟩:=d;cases l;exact(I.noLT g t' t).elim
   |dct _ _=>exact nomatch nb
   |dcn _=>exact nomatch nb
   |_=>cases d
 |.lst ds,j,x,na,nb,y,d=>by
   obtain⟨p,vs,e,t,r⟩:=y;subst e
   cases j with
   |lst es=>
     obtain⟨q,us,l,t',v⟩:=d;cases l;have ev :=I.mR (g.sub.seq t) (g.sub.seq t');subst ev;exact rM I g ds es na nb r v
   |tup es=>
     obtain⟨q,us,l,t',v⟩:=d;cases l;exact(I.noLT g t t').elim
   |dct _ _=>exact nomatch nb
   |dcn _=>exact nomatch nb
   |_=>cases d
theorem rM(I:Inv X h_ σ H s)(g:Good F H):∀(ds es:List Dat){vs:List V},g9 ds=c_->g9 es=c_->cT X.K F ds vs->cT X.K F es vs->mz ds es=c_
 |[],es,vs,na,nb,h,h'=>by
   rw[show vs=[]from h]at h'
   cases es with
   |nil=>rfl
   |cons _ _=>obtain⟨_,_,z,_⟩:=h';cases z
 |d::ds,es,vs,na,nb,q,h'=>by
   obtain⟨v,r,e,h1,h2⟩:=q;subst e
   cases es with
   |nil=>exact nomatch (show v::r=[]from h')
   |cons f fs=>
     obtain⟨B,D,y,k,l⟩:=h';cases y;simp only[mz,aj];have c:sP d=c_/\g9 ds=c_:=by simpa [g9]using na
     have j:sP f=c_/\g9 fs=c_:=by simpa [g9]using nb
     exact⟨Ah I g d f c.1 j.1 h1 k,rM I g ds fs c.2 j.2 h2 l⟩
end
def DT(r:cM vs its)(h:j<its.toArray.size):∃v,vs[j]?=a_ v/\RelV v its.toArray[j]:=by
 have hl:=r.length;have c:j<vs.length:=by exact aa h (ae hl.symm)
 obtain⟨u,d,g⟩:=r.get (af c);refine⟨_,af c,?_⟩
 have:its.toArray[j]=u:=by
  have h':j<its.length:=by simpa using h
  rw[af h']at d;exact aW d
 rw[this];exact g
def SN(h:iR n (.dcn ks)=c_):False:=by
 cases n<;>simp[iR]at h
def SM(h:iR n (.dct ks vs)=c_):False:=by
 cases n<;>simp[iR]at h
inductive Vw (s:ak):Dat->ah->Prop
 |non:Vw s .non .none
 |bl (b:Bool):Vw s (.bl b) (.bool b)
 |int (i:Int) (t:DL):Vw s (.int i) (.int i t)
 |str (x:bu) (t:DL):Vw s (.str x) (.str x t)
 |tup {ds:List Dat} {p:aI} {its:Array ah}:s.heap.IsTuple p its->Vw s (.tup ds) (.ref p)
 |lst {ds:List Dat} {p:aI} {its:Array ah}:s.heap.IsList p its->Vw s (.lst ds) (.ref p)
def vw(I:Inv X h_ σ H s)(g:Good F H)(sa:iR n da=c_)(c:Rep X.K F da x)(d:RelV x u):Vw s da u:=by
 cases da with
 |non=>cases c;rw[d];exact .non
 |bl b=>cases c;rw[d];exact .bl b
 |int i=>cases c;obtain⟨t,rfl⟩:=d;exact .int i t
 |str z=>cases c;obtain⟨t,rfl⟩:=d;exact .str z t
 |tup ds=>
   obtain⟨p,vs,rfl,t,r⟩:=c;obtain⟨its,j,pl,_⟩:=I.tupR g t;rw[d];exact .tup pl
 |lst ds=>
   obtain⟨p,vs,rfl,t,r⟩:=c;obtain⟨its,j,pl,_⟩:=I.lstR g t;rw[d];exact .lst pl.isList
 |dct _ _=>exact(SM sa).elim
 |dcn _=>exact(SN sa).elim
noncomputable def isT:Dat->Bool
 |.tup _=>c_
 |_=>d_
noncomputable def Ou:Dat->Bool
 |.lst _=>c_
 |_=>d_
def LD(a b:Dat):Bool:=match a with
 |.tup _=>isT b
 |.lst _=>Ou b
 |_=>d_
def Zy(A:bT)(s:ak)(u w:ah)(b:Bool):Prop:=F8 A s u w b/\F7 A s u w b/\zD A s u w (!b)
def K2{A:bT}(c:A.units<dk)(a:Vw s da u)(b:Vw s db w)(h:LD da db=d_):Zy A s u w (nW da db):=by
 cases a with
 |non=>
   cases b with
   |non=>exact⟨.same _,.none_none,.none_none⟩
   |bl _=>exact⟨.none_bool _,.none_bool _,.none_bool _⟩
   |int _ _=>exact⟨.none_int _ _,.none_int _ _,.none_int _ _⟩
   |str _ _=>exact⟨.none_str _ _,.none_str _ _,.none_str _ _⟩
   |tup q=>exact⟨.none_tuple q c,.none_tuple q c,.none_tuple q c⟩
   |lst q=>exact⟨.none_list q c,.none_list q c,.none_list q c⟩
 |bl _=>
   cases b with
   |non=>exact⟨.bool_none _,.bool_none _,.bool_none _⟩
   |bl _=>exact⟨.bool_bool _ _,.bool_bool _ _,.bool_bool _ _⟩
   |int _ _=>exact⟨.bool_int _ _ _,.bool_int _ _ _,.bool_int _ _ _⟩
   |str _ _=>exact⟨.bool_str _ _ _,.bool_str _ _ _,.bool_str _ _ _⟩
   |tup q=>exact⟨.bool_tuple _ q c,.bool_tuple _ q c,.bool_tuple _ q c⟩
   |lst q=>exact⟨.bool_list _ q c,.bool_list _ q c,.bool_list _ q c⟩
 |int _ _=>
   cases b with
   |non=>exact⟨.int_none _ _,.int_none _ _,.int_none _ _⟩
   |bl _=>exact⟨.int_bool _ _ _,.int_bool _ _ _,.int_bool _ _ _⟩
   |int _ _=>exact⟨.int_int _ _ _ _,.int_int _ _ _ _,.int_int _ _ _ _⟩
   |str _ _=>exact⟨.int_str _ _ _ _,.int_str _ _ _ _,.int_str _ _ _ _⟩
   |tup q=>exact⟨.int_tuple _ _ q c,.int_tuple _ _ q c,.int_tuple _ _ q c⟩
   |lst q=>exact⟨.int_list _ _ q c,.int_list _ _ q c,.int_list _ _ q c⟩
 |str _ _=>
   cases b with
   |non=>exact⟨.str_none _ _,.str_none _ _,.str_none _ _⟩
   |bl _=>exact⟨.str_bool _ _ _,.str_bool _ _ _,.str_bool _ _ _⟩
   |int _ _=>exact⟨.str_int _ _ _ _,.str_int _ _ _ _,.str_int _ _ _ _⟩
   |str _ _=>exact⟨.str_str _ _ _ _,.str_str _ _ _ _,.str_str _ _ _ _⟩
   |tup q=>exact⟨.str_tuple _ _ q c,.str_tuple _ _ q c,.str_tuple _ _ q c⟩
   |lst q=>exact⟨.str_list _ _ q c,.str_list _ _ q c,.str_list _ _ q c⟩
 |tup p=>
   cases b with
   |non=>exact⟨.tuple_none p c,.tuple_none p c,.tuple_none p c⟩
   |bl _=>exact⟨.tuple_bool _ p c,.tuple_bool _ p c,.tuple_bool _ p c⟩
   |int _ _=>exact⟨.tuple_int _ _ p c,.tuple_int _ _ p c,.tuple_int _ _ p c⟩
   |str _ _=>exact⟨.tuple_str _ _ p c,.tuple_str _ _ p c,.tuple_str _ _ p c⟩
   |tup q=>cases h
   |lst q=>exact⟨.tuple_list p q c,.tuple_list p q c,.tuple_list p q c⟩
 |lst p=>
   cases b with
   |non=>exact⟨.list_none p c,.list_none p c,.list_none p c⟩
   |bl _=>exact⟨.list_bool _ p c,.list_bool _ p c,.list_bool _ p c⟩
   |int _ _=>exact⟨.list_int _ _ p c,.list_int _ _ p c,.list_int _ _ p c⟩
   |str _ _=>exact⟨.list_str _ _ p c,.list_str _ _ p c,.list_str _ _ p c⟩
   |tup q=>exact⟨.list_tuple p q c,.list_tuple p q c,.list_tuple p q c⟩
   |lst q=>cases h
def vz(I:Inv X h_ σ H s)(g:Good F H):∀(n:Nat) (A:bT) (da k:Dat) {x y:V} {u w:ah},A.units+n<dk->iR n da=c_->iR n k=c_->Rep X.K F da x->Rep X.K F k y->RelV x u->RelV y w->
  Zy A s u w (nW da k):=by
 intro n
 induction n with
 |zero=>
   intro A da k x y u w W sa z B D O R;exact K2 W (vw I g sa B O) (vw I g z D R) (by cases da<;>first|rfl|(cases sa;done))
 |succ n ih=>
   intro A da k x y u w W sa z B D O R;have c:A.units<dk:=aG (aX _ _) W;by_cases U:LD da k=d_
   ·exact K2 c (vw I g sa B O) (vw I g z D R) U
   have Y:A.in1.units+n<dk:=by show A.units+1+n<dk;omega
   have items:∀{ds es:List Dat} {vs us:List V} {its l:List ah},eC n ds=c_->eC n es=c_->cT X.K F ds vs->cT X.K F es us->cM vs its->cM us l->
     (∀j(h1:j<its.toArray.size)(h2:j<l.toArray.size),F8 A.in1 s its.toArray[j] l.toArray[j] (nW (ds.getD j .non) (es.getD j .non)))/\its.toArray.size=ds.length/\l.toArray.size=es.length:=by
    intro ds es vs us its l s1 s2 Z r2 J L;refine⟨λj h1 h2=>?_,by rw[aO,<-J.length,Z.length],by rw[aO,<-L.length,r2.length]⟩;obtain⟨v,e1,q1⟩:=DT J h1;obtain⟨v',e2,q2⟩:=DT L h2;have l1:j<ds.length:=by have:=Z.length;have:=(aP.mp e1).1;omega
    have l2:j<es.length:=by have:=r2.length;have:=(aP.mp e2).1;omega
    obtain⟨z1,f1,p1⟩:=Z.get (af l1);obtain⟨z2,f2,p2⟩:=r2.get (af l2);rw[e1]at f1;cases f1;rw[e2]at f2;cases f2;have g1:ds.getD j .non=ds[j]:=by simp[List.getD,l1]
    have g2:es.getD j .non=es[j]:=by simp[List.getD,l2]
    rw[g1,g2];exact(ih A.in1 _ _ Y (oW s1 (af l1)) (oW s2 (af l2)) p1 p2 q1 q2).1
   have both:∀{p q:aI},x=.ref p->y=.ref q->F7 A s (.ref p) (.ref q) (nW da k)->zD A s (.ref p) (.ref q) (!nW da k)->Zy A s u w (nW da k):=by
    intro p q e1 e2 h h';subst e1 e2;obtain rfl:u=.ref p:=O;obtain rfl:w=.ref q:=R;refine⟨?_,h,h'⟩;by_cases M:p=q
    ·subst M;rw[Ah I g da k (uU _ _ sa) (uU _ _ z) B D];exact .same _
    ·exact .of_refs M h
   cases da with
   |tup ds=>
     cases k with
     |tup es=>
       obtain⟨p,vs,rfl,t,r⟩:=id B;obtain⟨its,J,pl,_⟩:=I.tupR g t;obtain⟨q,us,rfl,t',r'⟩:=id D;obtain⟨l,L,d,_⟩:=I.tupR g t';obtain⟨hi,e1,e2⟩:=items sa z r r' J L;have h1:=SeqAt.RcAt.tuples pl d c hi;have h2:=SeqAt.RcNeAt.tuples pl d c hi;rw[e1,e2,<-p4]at h1 h2;exact both rfl rfl h1 h2
     |_=>exact absurd rfl U
   |lst ds=>
     cases k with
     |lst es=>
       obtain⟨p,vs,rfl,t,r⟩:=id B;obtain⟨its,J,pl,_⟩:=I.lstR g t;obtain⟨q,us,rfl,t',r'⟩:=id D;obtain⟨l,L,d,_⟩:=I.lstR g t';obtain⟨hi,e1,e2⟩:=items sa z r r' J L;have e:=p4 ds es;by_cases hsz:its.toArray.size=l.toArray.size
       ·have h1:=SeqAt.RcAt.lists pl.isList d.isList hsz c hi;have h2:=SeqAt.RcNeAt.lists pl.isList d.isList hsz c hi;have e3:(ds.length == es.length)=c_:=by rw[<-e1,<-e2,hsz];exact beq_self_eq_true _
        rw[e3,iF,<-e1,<-e2,<-hsz,Nat.min_self]at e;rw[<-e]at h1 h2;exact both rfl rfl h1 h2
       ·have hz:(its.toArray.size != l.toArray.size)=c_:=by simpa using hsz
        have h1:=SeqAt.RcAt.lists_lengths pl.isList d.isList hz c;have h2:=SeqAt.RcNeAt.lists_lengths pl.isList d.isList hz c;have e3:(ds.length == es.length)=d_:=by rw[<-e1,<-e2];simpa using hsz
        rw[e3,lV]at e;refine both rfl rfl ?_ ?_
        ·show F7 _ _ _ _ (mz ds es);rw[e];exact h1
        ·show zD _ _ _ _ (!mz ds es);rw[e];exact h2
     |_=>exact absurd rfl U
   |_=>exact absurd rfl U
end
section
variable{X:Cx}
def D5 (h:a_ (a,b)=a_ (a',b')):a=a'/\b=b':=by cases h;exact⟨rfl,rfl⟩
def JH:jJ X (binaryOp .Add) (λx y H Q=>∃a b ys,x=.ref a/\y=.ref b/\sx X.K H a []/\sx X.K H b ys/\Q (.ref b) H):=by
 intro h_ s σ H x y v u Q I l z h;obtain⟨a,b,ys,rfl,rfl,ha,hb,q⟩:=h;cases l;cases z;obtain⟨its,B,D,_⟩:=I.tuple ha;obtain⟨J,R,L,_⟩:=I.tuple hb;cases B;obtain⟨⟨cls,M,data,sl⟩,ho,hc,n,hd⟩:=id D;obtain⟨⟨k,j,data2,yt⟩,c,d,O,g⟩:=id L;simp only at hc hd d g;subst hc hd d g;exact vS ⟨_,ho,rfl⟩ ⟨_,c,rfl⟩ x6 FY m8 mJ (me _ _) (tuple_addW0 a b _ J.toArray n O M j sl yt rfl) ⟨ho,c,.ref b,H,I,rfl,q⟩
set_option tactic.hygienic true
def NT:jJ X (binaryOp .Add) (gB X.K (hJ .add)):=by
 intro h_ s σ H x y v u Q I j B h;obtain⟨da,db,d,fr,h,F,g,J,L,k⟩:=h;cases da<;>cases db<;>simp only[hJ,Xw,reduceCtorEq]at h
 ·obtain⟨rfl,rfl⟩:=D5 h;exact Sy h_ s σ H _ _ v u Q I j B ⟨_,_,J,L,k _ F H (Step.refl g) rfl bx⟩
 ·split at h
  ·rename_i hz;obtain⟨rfl,rfl⟩:=D5 h;exact CL h_ s σ H _ _ v u Q I j B ⟨_,_,J,L,hz,k _ F H (Step.refl g) rfl bx⟩
  ·cases h
 ·split at h
  ·rename_i xs ys hz;obtain⟨rfl,rfl⟩:=D5 h;obtain⟨p,vs,rfl,t,r⟩:=J;obtain⟨q,us,rfl,t',c⟩:=L;by_cases Z:vs=[]
   ·subst Z;have e :=uk r.length.symm;subst e;exact JH h_ s σ H _ _ v u Q I j B ⟨p,q,us,rfl,rfl,(t.mono g.sub).sq,(t'.mono g.sub).sq,k _ F H (Step.refl g) ⟨q,us,rfl,t',c⟩ bx⟩
   refine NQ h_ s σ H _ _ v u Q I j B ⟨p,q,vs,us,rfl,rfl,(t.mono g.sub).sq,(t'.mono g.sub).sq,Z,?_,?_,?_⟩
   ·rw[r.length,c.length];exact hz
   ·intro z;subst z;have:=c.length;have e :=uk this.symm;subst e;refine k _ F H (Step.refl g) ⟨p,vs,rfl,t,?_⟩ bx;rw[aM];exact r
   ·intro _ l hl;exact k _ _ _ (Step.alloc g hl) ⟨l,vs++us,rfl,.inl cC,(r.append c).mono (bY.upd (g.sub.free hl))⟩ bx
  ·cases h
 ·split at h
  ·rename_i xs ys hz;obtain⟨rfl,rfl⟩:=D5 h;obtain⟨p,vs,rfl,t,r⟩:=J;obtain⟨q,us,rfl,t',c⟩:=L;obtain⟨its,w1,pl,_⟩:=I.lstR g t;obtain⟨M,w2,O,_⟩:=I.lstR g t';obtain rfl:v=.ref p:=j;obtain rfl:u=.ref q:=B;obtain⟨⟨cls,dd,data,sl⟩,ho,hc,n,hd⟩:=pl.isList;obtain⟨⟨cls2,R,data2,yt⟩,D,U,n2,W⟩:=O.isList;subst hc hd U W;refine vS ⟨_,ho,rfl⟩ ⟨_,D,rfl⟩ noFill_list_add seq_list_add PySem.F.slot_list_add PySem.F.entry_list_add (PySem.F.args_list_add_2 _ _) (list_addW p q its.toArray M.toArray n n2 dd R sl yt (by rw[aO,aO,<-w1.length,<-w2.length,r.length,c.length];exact hz)) ⟨ho,D,?_⟩;have ea:its.toArray++M.toArray=(its++M).toArray:=by simp
   rw[ea];have Y:(vs++us).length<=aB:=by rw[az,r.length,c.length];exact hz
   have r2:=(r.append c).mono (bY.upd (o:=.lst (vs++us)) (g.sub.free I.fresh));exact⟨.ref _,_,I.WK (w1.append w2) Y,rfl,k _ _ _ (Step.alloc g I.fresh) ⟨_,vs++us,rfl,.inl (.inl cC),r2⟩ λz=>.lst (bY.refl _) I.fresh (.jY g z (r.append c))⟩
  ·cases h
def PQ{op:B2}{o:Vp}{l:Int->Int->Prop}{f:Int->Int->Int}(h:jJ X (binaryOp op) (rI l λi j=>.int (f i j)))
  (hb:∀da c d fr,hJ o da c=a_ (d,fr)->∃i j,da=.int i/\c=.int j/\l i j/\d=.int (f i j)/\fr=d_):jJ X (binaryOp op) (gB X.K (hJ o)):=
 jJ.imp h λx y H Q q=>by
  obtain⟨da,c,d,fr,h,F,g,v,z,k⟩:=q;obtain⟨i,j,rfl,rfl,hc,rfl,rfl⟩:=hb da c d fr h;exact⟨i,j,v,z,hc,k _ F H (Step.refl g) rfl bx⟩
def JI{op:B2}{o:Vp}{f:Int->Int->Int}(h:jJ X (binaryOp op) (LY λi j=>.int (f i j)))
  (hb:∀da c d fr,hJ o da c=a_ (d,fr)->∃i j,da=.int i/\c=.int j/\d=.int (f i j)/\fr=d_):jJ X (binaryOp op) (gB X.K (hJ o)):=
 jJ.imp h λx y H Q l=>by
  obtain⟨da,c,d,fr,h,F,g,q,v,k⟩:=l;obtain⟨i,j,rfl,rfl,rfl,rfl⟩:=hb da c d fr h;exact⟨i,j,q,v,k _ F H (Step.refl g) rfl bx⟩
def NI:jJ X (binaryOp .Sub) (gB X.K (hJ .sub)):=JI Sh λda c d fr h=>by
 cases da<;>cases c<;>simp only[hJ,FL,reduceCtorEq]at h
 cases h;exact⟨_,_,rfl,rfl,rfl,rfl⟩
def NS:jJ X (binaryOp .BitAnd) (gB X.K (hJ .band)):=JI Sw λda c d fr h=>by
 cases da<;>cases c<;>simp only[hJ,FL,reduceCtorEq]at h
 cases h;exact⟨_,_,rfl,rfl,rfl,rfl⟩
def NN:jJ X (binaryOp .Mult) (gB X.K (hJ .mul)):=by
 intro h_ s σ H x y v u Q I c l h;obtain⟨da,D,d,fr,h,F,g,q,B,k⟩:=h;cases da<;>cases D<;>simp only[hJ,Xt,reduceCtorEq]at h
 ·split at h
  ·rename_i hz;cases h;exact Sk h_ s σ H _ _ v u Q I c l ⟨_,_,q,B,hz,k _ F H (Step.refl g) rfl bx⟩
  ·cases h
 ·split at h
  ·rename_i z j hz;cases h;rw[q]at c;rw[B]at l;obtain⟨t,rfl⟩:=c;obtain⟨t',rfl⟩:=l;exact PySem.SB.mul hz λJ L=>⟨.str _,H,I.tok L,⟨J,rfl⟩,k _ F H (Step.refl g) rfl bx⟩
  ·cases h
def NO:jJ X (binaryOp .Mod) (gB X.K (hJ .mod)):=PQ Sl λda c d fr h=>by
 cases da<;>cases c<;>simp only[hJ,FL,reduceCtorEq]at h
 split at h
 ·rename_i hz;cases h;exact⟨_,_,rfl,rfl,hz,rfl,rfl⟩
 ·cases h
def NJ:jJ X (binaryOp .RShift) (gB X.K (hJ .shr)):=PQ Si λda c d fr h=>by
 cases da<;>cases c<;>simp only[hJ,FL,reduceCtorEq]at h
 split at h
 ·rename_i hz;cases h;exact⟨_,_,rfl,rfl,hz,rfl,rfl⟩
 ·cases h
def j8(h:p5 o da db=a_ (d,fr)):∃b,fQ o da db=a_ b/\d=.bl b/\fr=d_:=by
 obtain⟨b,h1,h2⟩:=eD h;cases h2;exact⟨b,h1,rfl,rfl⟩
def Dt{op:CmpOp}{o:XF}{f:Int->Int->Bool}(h:jJ X (compareOp op) (LY λi j=>.bl (f i j)))(hb:∀da c b,fQ o da c=a_ b->∃i j,da=.int i/\c=.int j/\b=f i j):jJ X (compareOp op) (gB X.K (p5 o)):=
 jJ.imp h λx y H Q l=>by
  obtain⟨da,c,d,fr,h,F,g,q,v,k⟩:=l;obtain⟨b,hd,rfl,rfl⟩:=j8 h;obtain⟨i,j,rfl,rfl,rfl⟩:=hb da c b hd;exact⟨i,j,q,v,k _ F H (Step.refl g) rfl bx⟩
def Sm:jJ X (compareOp .Lt) (gB X.K (p5 .lt)):=Dt Wn λda c b h=>by
 cases da<;>cases c<;>simp only[fQ,Uy,reduceCtorEq]at h
 cases h;exact⟨_,_,rfl,rfl,rfl⟩
def Sq:jJ X (compareOp .Gt) (gB X.K (p5 .gt)):=Dt Wo λda c b h=>by
 cases da<;>cases c<;>simp only[fQ,Uy,reduceCtorEq]at h
 cases h;exact⟨_,_,rfl,rfl,rfl⟩
def Sr:jJ X (compareOp .GtE) (gB X.K (p5 .ge)):=Dt Wp λda c b h=>by
 cases da<;>cases c<;>simp only[fQ,Uy,reduceCtorEq]at h
 cases h;exact⟨_,_,rfl,rfl,rfl⟩
def Su(j:X.A.units+20<dk):jJ X (compareOp .Eq) (gB X.K (p5 .eq)):=λh_ s σ H x y v u Q I l q c=>by
 obtain⟨da,z,d,fr,h,F,g,B,D,k⟩:=c;obtain⟨b,hd,rfl,rfl⟩:=j8 h;simp only[fQ]at hd;split at hd
 ·rename_i hs;cases hd;simp only[aj]at hs;exact(vz I g 20 X.A da z j hs.1 hs.2 B D l q).2.1 X.prog X.w _ _ ⟨.bl _,H,I,rfl,k _ F H (Step.refl g) rfl bx⟩
 ·cases hd
set_option tactic.hygienic false
end
structure Ow(K:Fg)(H₀ F H:Hp)(σ:St)(ρ:dI)(Ss:Nat->List aI):Prop where
 own:∀(i:Nat)d,ρ[i]?=a_ (a_ (d,c_))->∃v,σ[i]?=a_ (a_ v)/\lL K H d v (Ss i)/\(Ss i).Nodup/\∀a∈Ss i,F a=b_/\H₀ a=b_
 sep:∀(i j:Nat)d d',i≠j->ρ[i]?=a_ (a_ (d,c_))->ρ[j]?=a_ (a_ (d',c_))->∀a∈Ss i,a∉Ss j
structure Rl(K:Fg)(Fz H₀ F H:Hp)(σ:St)(ρ:dI):Prop where
 step:Step Fz H₀ F H
 len:σ.length=ρ.length
 val:∀(i:Nat)d,ρ[i]?=a_ (a_ (d,d_))->∃v,σ[i]?=a_ (a_ v)/\Rep K F d v
 ow:∃Ss,Ow K H₀ F H σ ρ Ss
section
variable{K:Fg}{F:Hp}{σ:St}{ρ:dI}
def Mx{i:Nat}{d:Dat}(h:(zN ρ)[i]?=a_ (a_ d)):ρ[i]?=a_ (a_ (d,d_)):=by
 unfold zN at h;rw[aN]at h
 cases q:ρ[i]? with
 |none=>rw[q]at h;cases h
 |some o=>
   rw[q]at h;have h':=aW h
   cases o with
   |none=>cases h'
   |some z=>
     obtain⟨d',b⟩:=z
     cases b with
     |true=>cases h'
     |false=>cases h';rfl
def Rl.zN(R:Rl K Fz H₀ F H σ ρ):mX K F σ (zN ρ):=λi d e=>R.val i d (Mx e)
def Ow.moved(O:Ow K H₀ F H σ ρ Ss)(st:Step F H F' H'):Ow K H₀ F' H' σ ρ Ss where
 own:=λi d e=>by
  obtain⟨v,j,c,k,g⟩:=O.own i d e;refine⟨v,j,c.mono st.hh,k,λa m=>⟨?_,(g a m).2⟩⟩;obtain⟨o,ho,_⟩:=c.vA _ a m;exact st.un a o ho (g a m).1
 sep:=O.sep
def Rl.moved(R:Rl K Fz H₀ F H σ ρ)(st:Step F H F' H'):Rl K Fz H₀ F' H' σ ρ where
 step:=R.step.trans st
 len:=R.len
 val:=λi d e=>let ⟨v,q1,q2⟩:=R.val i d e;⟨v,q1,q2.mono st.ff⟩
 ow:=let ⟨Ss,O⟩:=R.ow;⟨Ss,O.moved st⟩
def EL(i j:Nat)(f:g_->g_):(ρ.modify i f)[j]?=if i=j then(ρ[j]?).map f else ρ[j]? :=by
 rw[List.getElem?_modify];by_cases h:i=j
 ·simp only[h,if_true];rfl
 ·simp only[h,if_false];cases ρ[j]?<;>rfl
def jk(q:(ρ.modify i λo=>o.map λs=>(s.1,d_))[j]?=a_ (a_ (d,b))):(i=j/\b=d_/\∃c,ρ[j]?=a_ (a_ (d,c)))\/(i≠j/\ρ[j]?=a_ (a_ (d,b))):=by
 rw[EL]at q;by_cases h:i=j
 ·rw[if_pos h]at q;refine .inl ⟨h,?_⟩
  cases z:ρ[j]? with
  |none=>rw[z]at q;cases q
  |some o=>
    rw[z]at q
    cases o with
    |none=>cases q
    |some s=>cases q;exact⟨rfl,s.2,rfl⟩
 ·rw[if_neg h]at q;exact .inr ⟨h,q⟩
def Rl.OF(R:Rl K Fz H₀ F H σ ρ)(i:Nat):∃F',bY F F'/\Rl K Fz H₀ F' H σ (ρ.modify i λo=>o.map λs=>(s.1,d_)):=by
 obtain⟨Ss,O⟩:=R.ow;by_cases ho:∃d,ρ[i]?=a_ (a_ (d,c_))
 ·obtain⟨d,ho⟩:=ho;obtain⟨v,e1,e2,e3,Z⟩:=O.own i d ho;have B:bY F (fz F H (Ss i)):=si R.step.good.sub;refine⟨fz F H (Ss i),B,⟨⟨yQ R.step.good,R.step.ff.trans B,R.step.hh,λa o q n=>?_⟩,?_,λj d' q=>?_,Ss,λj d' q=>?_,λj k d1 d2 g D J=>?_⟩⟩
  ·rw[sj λm=>?_]
   ·exact R.step.un a o q n
   ·rw[(Z a m).2]at q;cases q
  ·rw[HF];exact R.len
  ·rcases jk q with⟨rfl,_,W,c⟩|⟨_,c⟩
   ·rw[ho]at c;cases c;exact⟨v,e1,e2.mG R.step.good d λa m=>m⟩
   ·obtain⟨w,L,M⟩:=R.val j d' c;exact⟨w,L,M.mono B⟩
  ·rcases jk q with⟨_,z,_⟩|⟨U,c⟩
   ·cases z
   ·obtain⟨w,L,M,g3,Y⟩:=O.own j d' c;refine⟨w,L,M,g3,λa m=>⟨?_,(Y a m).2⟩⟩;rw[sj (O.sep j i d' d (eK U) c ho a m)];exact(Y a m).1
  ·rcases jk D with⟨_,z,_⟩|⟨_,l⟩
   ·cases z
   ·rcases jk J with⟨_,z,_⟩|⟨_,y⟩
    ·cases z
    ·exact O.sep j k d1 d2 g l y
 ·refine⟨F,bY.refl _,⟨R.step,by rw[HF];exact R.len,λj d' q=>?_,Ss,λj d' q=>?_,λj k d1 d2 g D J=>?_⟩⟩
  ·rcases jk q with⟨rfl,_,W,c⟩|⟨_,c⟩
   ·cases W with
    |true=>exact absurd ⟨_,c⟩ ho
    |false=>exact R.val _ d' c
   ·exact R.val j d' c
  ·rcases jk q with⟨_,z,_⟩|⟨_,c⟩
   ·cases z
   ·exact O.own j d' c
  ·rcases jk D with⟨_,z,_⟩|⟨_,l⟩
   ·cases z
   ·rcases jk J with⟨_,z,_⟩|⟨_,y⟩
    ·cases z
    ·exact O.sep j k d1 d2 g l y
def Rl.freeze(R:Rl K Fz H₀ F H σ ρ):∀is:List Nat,∃F',bY F F'/\Rl K Fz H₀ F' H σ (mG is ρ):=by
 intro is
 induction is generalizing F ρ with
 |nil=>exact⟨F,bY.refl _,R⟩
 |cons i is c=>
   obtain⟨F1,s1,d⟩:=R.OF i;obtain⟨g,s2,R2⟩:=c d;exact⟨g,s1.trans s2,R2⟩
theorem Ff:∀(is:List Nat)(ρ:dI)(j:Nat),(mG is ρ)[j]?=if j∈is then(ρ[j]?).map (λo=>o.map λs=>(s.1,d_))else ρ[j]?
 |[],ρ,j=>by simp[mG]
 |i::is,ρ,j=>by
   have e:mG (i::is) ρ=mG is (ρ.modify i λo=>o.map λs=>(s.1,d_)):=rfl;rw[e,Ff is,EL];by_cases h:i=j
   ·subst h;rw[if_pos rfl,if_pos (g7)];by_cases m:i∈is
    ·rw[if_pos m]
     cases ρ[i]? with
     |none=>rfl
     |some o=>cases o<;>rfl
    ·rw[if_neg m]
   ·rw[if_neg h];by_cases m:j∈is
    ·rw[if_pos m,if_pos (iE _ m)]
    ·rw[if_neg m,if_neg λz=>(aw.mp z).elim (λz=>h z.symm) m]
def Hj:mG (aT ρ.length) ρ=sk ρ:=by
 apply jT;intro j;rw[Ff];unfold sk;rw[aN];by_cases h:j∈aT ρ.length
 ·rw[if_pos h]
 ·rw[if_neg h];have:ρ[j]?=b_:=dh (by simpa using h);rw[this];rfl
def Rl.i5(R:Rl K Fz H₀ F H σ ρ):∃F',bY F F'/\Rl K Fz H₀ F' H σ (sk ρ):=by
 obtain⟨F',s,c⟩:=R.freeze (aT ρ.length);rw[Hj]at c;exact⟨F',s,c⟩
def iD(q:(ρ.set i x)[j]?=a_ (a_ (d,b))):(i=j/\x=a_ (d,b))\/(i≠j/\ρ[j]?=a_ (a_ (d,b))):=by
 rw[jP]at q;by_cases h:i=j
 ·rw[if_pos h]at q;split at q
  ·exact .inl ⟨h,aW q⟩
  ·cases q
 ·rw[if_neg h]at q;exact .inr ⟨h,q⟩
def Pw(hl:i<σ.length):(σ.set i (a_ v))[i]?=a_ (a_ v):=om hl
def xn(q:(ρ.set i x)[i]?=a_ y):i<ρ.length:=by
 rw[jP,if_pos rfl]at q;split at q
 ·assumption
 ·cases q
def Rl.Cu(R:Rl K Fz H₀ F H σ ρ)(r:Rep K F d v):Rl K Fz H₀ F H (σ.set i (a_ v)) (ρ.set i (a_ (d,d_))):=by
 obtain⟨Ss,O⟩:=R.ow;refine⟨R.step,by simpa using R.len,λj d' q=>?_,Ss,λj d' q=>?_,λj k d1 d2 g J L=>?_⟩
 ·rcases iD q with⟨rfl,e⟩|⟨c,l⟩
  ·cases e;exact⟨v,Pw (by rw[R.len];exact xn q),r⟩
  ·obtain⟨w,y,z⟩:=R.val j d' l;exact⟨w,by rw[fi c];exact y,z⟩
 ·rcases iD q with⟨rfl,e⟩|⟨c,l⟩
  ·cases e
  ·obtain⟨w,y,z⟩:=O.own j d' l;exact⟨w,by rw[fi c];exact y,z⟩
 ·rcases iD J with⟨_,e⟩|⟨_,B⟩
  ·cases e
  ·rcases iD L with⟨_,e⟩|⟨_,D⟩
   ·cases e
   ·exact O.sep j k d1 d2 g B D
def Rl.Rr(R:Rl K Fz H₀ F H σ ρ)(O:Ow K H₀ F H σ ρ Ss)(o:lL K H d v S)(nd:S.Nodup)(M:∀a∈S,F a=b_/\H₀ a=b_)
  (g:∀(j:Nat)d',i≠j->ρ[j]?=a_ (a_ (d',c_))->∀a∈Ss j,a∉S):Rl K Fz H₀ F H (σ.set i (a_ v)) (ρ.set i (a_ (d,c_))):=by
 refine⟨R.step,by simpa using R.len,λj d' q=>?_,λj=>if j=i then S else Ss j,λj d' q=>?_,λj k d1 d2 y U L=>?_⟩
 ·rcases iD q with⟨rfl,e⟩|⟨c,B⟩
  ·cases e
  ·obtain⟨w,D,J⟩:=R.val j d' B;exact⟨w,by rw[fi c];exact D,J⟩
 ·rcases iD q with⟨rfl,e⟩|⟨c,B⟩
  ·cases e;rw[if_pos rfl];exact⟨v,Pw (by rw[R.len];exact xn q),o,nd,M⟩
  ·obtain⟨w,D,J⟩:=O.own j d' B;rw[if_neg (eK c)];exact⟨w,by rw[fi c];exact D,J⟩
 ·intro a m
  rcases iD U with⟨rfl,e⟩|⟨h1,z⟩
  ·rw[if_pos rfl]at m
   rcases iD L with⟨e2,_⟩|⟨h2,l⟩
   ·exact absurd e2 y
   ·rw[if_neg (eK h2)];exact λW=>g k d2 h2 l a W m
  ·rw[if_neg (eK h1)]at m
   rcases iD L with⟨rfl,e⟩|⟨h2,l⟩
   ·rw[if_pos rfl];exact g j d1 h1 z a m
   ·rw[if_neg (eK h2)];exact O.sep j k d1 d2 y z l a m
def Rl.full{K:Fg}(R:Rl K Fz H₀ F H σ (sk ρ)):mX K F σ (M.full ρ):=by rw[<-Cc];exact R.zN
noncomputable def uz(F:Hp)(S:List aI):Hp:=λa=>if a∈S then b_ else F a
def wJ(h:a∈S):uz F S a=b_:=if_pos h
def oE(h:a∉S):uz F S a=F a:=if_neg h
def Step.X9(st:Step F H F' H')(g:Good F H)(j:∀a∈S,H a=b_)(o:lL K H' d v S):Step F H (uz F' S) H':=by
 refine⟨⟨λa o' q=>?_,λa vs q=>?_⟩,λa o' q=>?_,st.hh,λa o' q n=>?_⟩
 ·by_cases m:a∈S
  ·rw[wJ m]at q;cases q
  ·rw[oE m]at q;exact st.good.sub a o' q
 ·rw[oE λm=>?_]
  ·exact st.good.tup a vs q
  ·obtain⟨u,c,k⟩:=o.vA _ a m;rw[q]at c;cases c;exact k
 ·rw[oE λm=>?_]
  ·exact st.ff a o' q
  ·rw[g.sub.free (j a m)]at q;cases q
 ·by_cases m:a∈S
  ·exact wJ m
  ·rw[oE m];exact st.un a o' q n
def Fj(R:Rl K Fz H₀ F H σ ρ)(h:Hk C e ρ=a_ (d,fr,ρ'))
  (k:∀v Fm F' H',bY F Fm->Rl K Fz H₀ Fm H σ ρ'->Step Fm H F' H'->Rep K F' d v->(fr=c_->gD K H H' d v)->Q v H'):∃g,bE C e g=a_ (d,fr)/\tE K g d fr σ H Q:=by
 unfold Hk at h;obtain⟨⟨d1,D⟩,h2,h⟩:=cY h;dsimp only at h;by_cases j:(im d1 || D)=c_
 ·rw[if_pos j]at h;have hh:d=d1/\fr=D/\ρ'=ρ:=by cases h;exact⟨rfl,rfl,rfl⟩
  obtain⟨l,y,z⟩:=hh;subst l y z;obtain⟨M,sp,J⟩:=R.i5;refine⟨_,h2,M,J.step.good,J.full,λv F1 H1 st r f=>?_⟩;have c:=Step.shrink R.step.good sp st
  cases hi:im d with
  |true=>exact k v F (shr F H F1) H1 (bY.refl _) R c (r.shrink R.step.good st d hi) f
  |false=>
    rw[hi,Bool.false_or]at j;obtain⟨S,n,e1,o⟩:=f j;have O:=yQ (S:=S) c.good
    have B:Step F H (fz (shr F H F1) H1 S) H1:=by
     refine⟨O,c.ff.trans (si c.good.sub),c.hh,λa u q nn=>?_⟩;rw[sj λm=>?_]
     ·exact c.un a u q nn
     ·rw[e1 a m]at q;cases q
    exact k v F _ H1 (bY.refl _) R B (o.mG c.good d λa m=>m) f
 ·rw[if_neg j]at h;obtain⟨⟨d2,U⟩,h3,h⟩:=eD h;cases h;obtain⟨L,s2,R2⟩:=R.freeze e.fv;exact⟨_,h3,L,R2.step.good,R2.zN,λv F' H' st r f=>k v L F' H' s2 R2 st r f⟩
def yW(R:Rl K Fz H₀ F H σ ρ)(h:Hk C e ρ=a_ (d,fr,ρ'))
  (k:∀v Fm F' H',bY F Fm->Rl K Fz H₀ Fm H σ ρ'->Step Fm H F' H'->Rep K F' d v->(fr=c_->gD K H H' d v)->Q v H'):gE K C e σ H Q:=
 let ⟨ρe,h1,h2⟩:=Fj R h k;⟨ρe,d,fr,h1,h2⟩
end
def vp(K:Fg)(Fz H₀ F:Hp)(D:Ends):Out->Prop
 |.nx ρ'=>∀F' H' c,bY F F'->Rl K Fz H₀ F' H' c ρ'->D.nx c H'
 |.bk ρ'=>∀F' H' c,bY F F'->Rl K Fz H₀ F' H' c ρ'->D.bk c H'
 |.ct ρ'=>∀F' H' c,bY F F'->Rl K Fz H₀ F' H' c ρ'->D.ct c H'
 |.rt d fr=>∀v F' H',Step Fz H₀ F' H'->Rep K F' d v->(fr=c_->gD K H₀ H' d v)->D.rt v H'
def vp.mono{K:Fg}{D:Ends}(s:bY F F1)(h:vp K Fz H₀ F D o):vp K Fz H₀ F1 D o:=by
 cases o with
 |nx ρ'=>exact λF' H' c s' R=>h F' H' c (s.trans s') R
 |bk ρ'=>exact λF' H' c s' R=>h F' H' c (s.trans s') R
 |ct ρ'=>exact λF' H' c s' R=>h F' H' c (s.trans s') R
 |rt d fr=>exact h
def gS(K:Fg)(C:Fs)(x:Sx):TS:=λD σ H=>∃Fz H₀ F ρ out,ot C x ρ=a_ out/\Rl K Fz H₀ F H σ ρ/\vp K Fz H₀ F D out
def ZM(K:Fg)(C:Fs)(xs:List Sx):TS:=λD σ H=>∃Fz H₀ F ρ out,dP C xs ρ=a_ out/\Rl K Fz H₀ F H σ ρ/\vp K Fz H₀ F D out
abbrev SS(X:Cx)(C:Fs)(st:kX)(x:Sx):Prop:=PS X st (gS X.K C x)
abbrev L5(X:Cx)(C:Fs)(st:List kX)(xs:List Sx):Prop:=zz X st (ZM X.K C xs)
section
variable{X:Cx}{HN:be}{st:kX}{pos:zp}
def MJ:L5 X C [] []:=zz.imp Nw λD σ H z3=>by
 obtain⟨Fz,H₀,F,ρ,out,h,R,k⟩:=z3;cases h;exact k F H σ (bY.refl _) R
def ID(h1:SS X C st x)(h2:L5 X C sts xs):L5 X C (st::sts) (x::xs):=zz.imp (Jm h1 h2) λD σ H z3=>by
 obtain⟨Fz,H₀,F,ρ,out,h,R,k⟩:=z3;simp only[dP]at h;obtain⟨o,ho,h⟩:=cY h;refine⟨Fz,H₀,F,ρ,o,ho,R,?_⟩
 cases o with
 |nx ρ1=>exact λF1 H1 c s1 g=>⟨Fz,H₀,F1,ρ1,out,h,g,k.mono s1⟩
 |bk ρ1=>cases h;exact k
 |ct ρ1=>cases h;exact k
 |rt d fr=>cases h;exact k
def Q2{st:kX}:SS X C st .LX:=λh_ s σ H D I c=>by
 obtain⟨Fz,H₀,F,ρ,out,h,R,k⟩:=c;cases h
def Q3(he:SE X C e xe):SS X C (.Return (a_ e) pos) (.ret xe):=PS.imp (Jo he) λD σ H z3=>by
 obtain⟨Fz,H₀,F,ρ,out,h,R,k⟩:=z3;obtain⟨⟨d,fr⟩,h1,h⟩:=eD h;cases h;obtain⟨g,sp,c⟩:=R.i5;exact⟨_,d,fr,h1,g,c.step.good,c.full,λv F' H' st r f=>k v F' H' (c.step.trans st) r λz=>(f z).back (F:=F) R.step.hh⟩
def MN{i:Nat}{x:bu}{p:zp}(l:X.N[i]?=a_ x)(y:Qu X.env.scope x)(hd:(x == ("__debug__":bu))=d_)(g:(x == ("__classdict__":bu))=d_):SS X C (.Return (a_ (.Name x p)) pos) (.qv i):=
 PS.imp (Jo (rR l y hd g)) λD σ H z3=>by
  obtain⟨Fz,H₀,F,ρ,out,h,R,k⟩:=z3;obtain⟨⟨d,b⟩,h1,h⟩:=eD h;cases h
  have c:ρ[i]?=a_ (a_ (d,b)):=by
   cases q:ρ[i]? with
   |none=>rw[q]at h1;cases h1
   |some z=>rw[q]at h1;exact congrArg a_ h1
  cases b with
  |false=>
    obtain⟨v,e1,r⟩:=R.val i d c;exact⟨v,e1,k v F H R.step r bx⟩
  |true=>
    obtain⟨Ss,O⟩:=R.ow;obtain⟨v,e1,e2,e3,j⟩:=O.own i d c;have B:bY F (fz F H (Ss i)):=si R.step.good.sub
    have st:Step Fz H₀ (fz F H (Ss i)) H:=by
     refine⟨yQ R.step.good,R.step.ff.trans B,R.step.hh,λa o q n=>?_⟩;rw[sj λm=>?_]
     ·exact R.step.un a o q n
     ·rw[(j a m).2]at q;cases q
    exact⟨v,e1,k v _ H st (e2.mG R.step.good d λa m=>m) λ_=>⟨Ss i,e3,λa m=>(j a m).2,e2⟩⟩
def Q7(he:SE X C e xe)(hs:swapsWith e b_ pos.line X.env=pure d_):SS X C (.Expr e pos) (.exp xe):=PS.imp (tY he hs) λD σ H z3=>by
 obtain⟨Fz,H₀,F,ρ,out,h,R,k⟩:=z3;obtain⟨⟨d,fr⟩,h1,h⟩:=eD h;cases h;obtain⟨g,sp,c⟩:=R.i5;exact⟨_,d,fr,h1,g,c.step.good,c.full,λv F1 H1 st r f=>k (shr F H F1) H1 σ (Step.shrink R.step.good sp st).ff (R.moved (Step.shrink R.step.good sp st))⟩
def VO(hc:ST X C HN xc)(ha:L5 X C sa ya)(hb:L5 X C sb yb):SS X C (.If HN sa sb pos) (.ifs xc ya yb):=PS.imp (Wg hc ha hb) λD σ H z3=>by
 obtain⟨Fz,H₀,F,ρ,out,h,R,k⟩:=z3;obtain⟨⟨d,fr⟩,h1,h⟩:=cY h;obtain⟨z,hz,h⟩:=cY h;obtain⟨j,sp,g⟩:=R.i5;refine⟨_,d,fr,z,h1,hz,j,g.step.good,g.full,λF1 H1 st=>?_⟩;have c:=Step.shrink R.step.good sp st
 cases z with
 |true=>
   exact C7 ⟨Fz,H₀,_,ρ,out,h,R.moved c,k.mono c.ff⟩
 |false=>
   exact C8 ⟨Fz,H₀,_,ρ,out,h,R.moved c,k.mono c.ff⟩
def GA{D:Ends}(R:Rl X.K Fz H₀ F H σ ρ)(h1:Hk C xe ρ=a_ (d,fr,ρ'))(k:vp X.K Fz H₀ F D (.nx (ρ'.set i (a_ (d,fr && !im d))))) :
  ∃g,bE C xe g=a_ (d,fr)/\tE X.K g d fr σ H (λv H'=>D.nx (σ.set i (a_ v)) H'):=by
 refine Fj R h1 λv Fm F' H' B l st r f=>?_;have k' :=k
 cases y:fr && !im d with
 |false=>
   rw[y]at k';exact k' F' H' _ (B.trans st.ff) ((l.moved st).Cu r)
 |true=>
   rw[y]at k';simp only[aj]at y;obtain⟨S,nd,e1,o⟩:=f y.1;have c:=Step.X9 st l.step.good e1 o;obtain⟨M,J⟩:=l.ow;refine k' (uz F' S) H' _ (B.trans c.ff) ((l.moved c).Rr (J.moved c) o nd (λa m=>⟨wJ m,R.step.hh.free (e1 a m)⟩) λj d2 _ q a m1 m2=>?_);obtain⟨U,O,z,_,_⟩:=J.own j d2 q;obtain⟨u,L,_⟩:=z.vA _ a m1;rw[e1 a m2]at L;cases L
def zZ(c:∀σ H Q,gE X.K C xe σ H Q->te σ H Q):∀D σ H,gS X.K C (.set i xe) D σ H->Gu te (kL i) D σ H:=λD σ H z3=>by
 obtain⟨Fz,H₀,F,ρ,out,h,R,k⟩:=z3;obtain⟨⟨d,fr,ρ'⟩,h1,h⟩:=eD h;cases h;obtain⟨g,e1,e2⟩:=GA R h1 k;exact c _ _ _ ⟨g,d,fr,e1,e2⟩
def IG{i:Nat}{x:bu}(c:X.N.Nodup)(hi:X.N[i]?=a_ x)(d:Loc X.env.scope x)(he:SE X C e xe)(hs:swapsWith e (a_ (.Name x pos')) pos.line X.env=pure d_)
  (hf:X.fn x=c_\/X.env.scope.names.lookup x=a_ .local):SS X C (.Assign [.Name x pos'] e pos) (.set i xe):=
 PS.imp (RV c hi d he hs hf) (zZ λ_ _ _ h=>h)
end
end M
namespace L2
open PySem PySem.Spec PyProof.Rows
noncomputable def e9(X:Cx)(scope:mE)(cl:List (bu×aI))(N:List bu)(c:ak)(d:Hp)(C:aI)(ex:List aI):Cx:=
 { X with N:=N,s₀:=c,H₀:=d,env:=compEnvC scope cl C X.env,outer:=X.stack,stack:=X.stack,ex:=ex,fn:=λ_=>d_,pn:=[],xe:=λ_ _=>False }
def L6(X:Cx)(ifs:List be)(t:TT):Prop:=
 ∀(h_:List (aI×kM))(s:ak)(σ:St)(H:Hp)(Q:Bool->Hp->Prop),Inv X h_ σ H s->t σ H Q->
  aC (aD X.prog X.w) X.A (forIn ifs c_ λc r=>if r=c_ then do let ok <-isTrue c X.env (eval c X.env);pure (i9 ok)else pure (i9 r)) (TP X h_ σ Q) X.xe s
def Nu:L6 X [] (λ_ H Q=>Q c_ H):=λ_ _ _ H _ I h=>wpAny_tests_nil ⟨H,I,h⟩
def Nt(h:PT X c t):L6 X [c] t:=λh_ s σ H Q I d=>wpAny_tests_one (h h_ s σ H Q I d)
noncomputable def iw(nt:Nat)(caps:List Nat)(σ:St):St:=dt nt b_++caps.map λj=>(σ[j]?).join
def IB(wi:TI)(nt:Nat)(caps:List Nat)(g:TG)(j:TT)(te:TE):TE:=λσ H Q=>wi σ H λJ H1=>∃W:Nat->Nat->List V->Hp->Prop,(∃m,W 0 m [] H1)/\∀i m ys H,W i m ys H->
 (J.stop i H/\ys.length<=aB/\∀p,H p=b_->Q (.ref p) (upd H p (.lst ys)))\/
 (J.go i H/\ys.length<aB/\∀x H',J.yld i H x H'->g x (iw nt caps σ) H' λσ2 H2=>j σ2 H2 λb d=>
  if b=c_ then te σ2 d λy H4=>∃c,c<m/\W (i+1) c (ys++[y]) H4 else ∃c,c<m/\W (i+1) c ys d)
structure jq(X:Cx)(scope:mE)(tn cn:List bu)(caps:List Nat):Prop where
 kind:scope.kind=.function
 nocell:∀y∈scope.names,y.2≠.cell
 locs:∀y∈scope.names,y.2=.local->scope.names.lookup y.1=a_ .local
 frees:∀y∈scope.names,y.2=.free->X.env.kindOf y.1=a_ .cell\/X.env.kindOf y.1=a_ .free
 nofree:∀x,scope.names.lookup x=a_ .free->(x,eG)∈scope.names
 caps:caps.map (λj=>X.N[j]?)=cn.map a_
 capk:∀x∈cn,X.env.kindOf x=a_ .cell\/X.env.kindOf x=a_ .free
 capn:∀x∈cn,scope.names.lookup x=a_ .free
theorem uK{env:Po}(x:bu):∀names:List (bu×kE),(names.map λ(n,k)=>if(k == eG && env.scope.kind == .function && env.kindOf n == a_ .cell)then(n,lQ)else(n,k)).lookup x =
  (names.lookup x).map λk=>if(k == eG && env.scope.kind == .function && env.kindOf x == a_ .cell)then lQ else k
 |[]=>rfl
 |(n,k)::r=>by
   by_cases c:x=n
   ·subst c;simp only[ax,List.lookup_cons_self,bV];split<;>simp
   ·have hb:(x == n)=d_:=by simpa using c
    rw[eW,hb,<-uK x r,ax];dsimp only;split<;>rw[eW,hb]
def oJ(x:bu):(relabel scope env).names.lookup x=(scope.names.lookup x).map λk=>if(k == eG && env.scope.kind == .function && env.kindOf x == a_ .cell)then lQ else k:=uK x scope.names
def yz{scope:mE}(hc:∀y∈scope.names,y.2≠lQ)(h:(relabel scope env).names.lookup x=a_ .cell\/(relabel scope env).names.lookup x=a_ .free):scope.names.lookup x=a_ .free:=by
 rw[oJ]at h
 cases q:scope.names.lookup x with
 |none=>rw[q]at h;simp at h
 |some k=>
   rw[q]at h;simp only[bV,hV]at h;by_cases c:k=.free
   ·rw[c]
   ·have hb:(k == eG)=d_:=by simpa using c
    rw[hb]at h
    rcases h with h|h
    ·subst h;exact absurd rfl (hc (x,.cell) (gX q))
    ·exact absurd h c
def qx{scope:mE}(h:scope.names.lookup x=a_ .free):(relabel scope env).names.lookup x≠a_ .local:=by
 rw[oJ,h];simp only[bV,ne_eq,hV];split<;>(intro z;cases z)
section
variable{X:Cx}{h_:List (aI×kM)}{σ:St}{H:Hp}
theorem p6{env:Po}:∀(names:List (bu×kE)) (cs:List (bu×aI)),(∀y∈names,y.2=.free->∃c,env.cells.lookup y.1=a_ c)->(∀n c,cs.lookup n=a_ c->env.cells.lookup n=a_ c)->
  ∃cl:List (bu×aI),(forIn (m:=zE) names cs λx r=>if(x.2 == eG)=c_ then do let a <-cellOf env x.1;pure (i9 ((x.1,a)::r))else pure (i9 r))=pure cl/\(∀n c,cl.lookup n=a_ c->env.cells.lookup n=a_ c)/\
   (∀n c,cs.lookup n=a_ c->∃L,cl.lookup n=a_ L)/\∀n,(n,eG)∈names->∃c,cl.lookup n=a_ c
 |[],cs,_,h2=>⟨cs,rfl,h2,λn c e=>⟨c,e⟩,λn z=>nomatch z⟩
 |(n,k)::r,cs,h1,h2=>by
   by_cases v:k=.free
   ·subst v;obtain⟨c,hc⟩:=h1 (n,.free) g7 rfl
    have g:cellOf env n=pure c:=by
     unfold cellOf;rw[hc]
    obtain⟨cl,e,B,l,D⟩:=p6 r ((n,c)::cs) (λy J=>h1 y (iE _ J)) (λm d e=>by
     rw[eW]at e;by_cases j:m=n
     ·subst j;simp at e;rw[<-e];exact hc
     ·have:(m == n)=d_:=by simpa using j
      rw[this]at e
      exact h2 m d e)
    refine⟨cl,?_,B,λm d hd=>?_,λm j=>?_⟩
    ·rw[ox];simp only[beq_self_eq_true,if_true,g,pure_bind];exact e
    ·by_cases q:m=n
     ·subst q;exact l m c (by simp)
     ·have:(m == n)=d_:=by simpa using q
      exact l m d (by rw[eW,this];exact hd)
    ·rcases aw.mp j with z|z
     ·cases z;exact l n c (by simp)
     ·exact D m z
   ·have hb:(k == eG)=d_:=by simpa using v
    obtain⟨cl,e,B,l,D⟩:=p6 r cs (λy J=>h1 y (iE _ J)) h2;refine⟨cl,?_,B,l,λm j=>?_⟩
    ·rw[ox];simp only[hb,bH,if_false,pure_bind];exact e
    ·rcases aw.mp j with z|z
     ·cases z;exact absurd rfl v
     ·exact D m z
def vC(ok:X.Ok)(S:jq X scope tn cn caps):∃cl:List (bu×aI),closureFor scope X.env=pure cl/\(∀n c,cl.lookup n=a_ c->X.env.cells.lookup n=a_ c)/\∀n,(n,eG)∈scope.names->∃c,cl.lookup n=a_ c:=by
 obtain⟨cl,e,d,_,g⟩:=p6 scope.names [] (λy j k=>ok.has y.1 (S.frees y j k)) (λn c e=>by simp at e);refine⟨cl,?_,d,g⟩;unfold closureFor;rw[bind_pure];exact e
def Inv.Iv{D:aI}(I:Inv X h_ σ H s)(l:qU X h_ H D)(hs:X.s₀.heap.objs.size<=D)(new:jZ X.prog X.w (upd H D o) s.heap D o):Inv X h_ σ (upd H D o) s:=by
 obtain⟨g,v,hf,_,hc,hp⟩:=l
 have k:∀b d,X.s₀.heap.get? b=a_ d->b≠D:=λb d e z=>by
  subst z;exact absurd (bc (hl9 e) hs) (bq _)
 refine⟨I.ok,I.os,I.bare,⟨I.base.keep,I.base.slot,λb d e n y=>?_,I.base.there,λb xs e=>?_,λb d u e=>?_,λb ps e=>?_⟩,I.loc,I.cell,?_,λx c e=>?_,λp j=>?_,λb u e=>?_,I.len⟩
 ·rw[cL (k b d e)];exact I.base.free b d e n y
 ·rw[cL (eL (I.base.tups b xs e) g)];exact I.base.tups b xs e
 ·rw[cL (eL (I.base.frzs b d u e) g)];exact I.base.frzs b d u e
 ·obtain⟨m,q⟩:=I.base.tbls b ps e;exact⟨m,by rw[cL (eL q g)];exact q⟩
 ·rw[cL (eK v)];exact I.free
 ·rw[cL (hc x c e)];exact I.freeC x c e
 ·obtain⟨B,J,L,M,O⟩:=I.pin p j;exact⟨B,by rw[cL (hp p j)];exact J,L,M,O⟩
 ·by_cases hb:b=D
  ·subst hb;rw[cC]at e;cases e;exact new
  ·rw[cL hb]at e;exact(I.hok b u e).n6 (λ_ _ _ q=>q) (λc q=>by rw[cL (eL q g)];exact q) λc xs q=>by rw[cL (eL q g)];exact q
def oP{iter:be}{ifs:List be}(J:Nat->ak->Prop)
  (turn:∀n s,J n s->aC (aD prog w) A (pyNext it) (λr s₁=>match r with
   |none=>R (.ok .next) s₁
   |some v=>aC (aD prog w) A (letOwnedTupleGo target it v) (λ_ d=>aC (aD prog w) A (assign target env v) (λ_ j=>
     aC (aD prog w) A (forIn ifs c_ λc r=>if r=c_ then do let ok <-isTrue c env (eval c env);pure (i9 ok)else pure (i9 r)) (λok g=>
      if ok=c_ then aC (aD prog w) A (eval elt env) (λx k=>
       aC (aD prog w) A (call (.builtin "list.append") [acc,x]) (λ_ l=>∃m,m<n/\J m l) (λ_ _=>False) k) (λ_ _=>False) g
      else ∃m,m<n/\J m g) (λ_ _=>False) j) (λ_ _=>False) d) (λ_ _=>False) s₁) (λ_ _=>False) s)
  (n:Nat)(h:J n s) :
  codeAny (aD prog w) A (.compLoop (.ListComp elt [⟨target,iter,ifs,0⟩] scope pos) 0 it acc env) R s:=by
 refine codeAny_loop rfl J (λn s L=>?_) n h;refine wpAny_noted ?_;rw[compTurn_list];refine wb9 (FV (wb9 (dm (turn n s L) (λr s₁ h₁=>?_) λ_ _ h'=>h'.elim)))
 cases r with
 |none=>exact wu9 h₁
 |some v=>
   refine wb9 (dm h₁ (λ_ d y=>?_) λ_ _ h'=>h'.elim);refine wb9 (dm y (λ_ j z=>wb9 (dm z (λok g q=>?_) λ_ _ h'=>h'.elim)) λ_ _ h'=>h'.elim)
   cases ok with
   |false=>exact wu9 ⟨rfl,q⟩
   |true=>
     exact wb9 (wb9 (dm q (λx k B=>wb9 (dm B (λ_ l D=>wu9 (wu9 ⟨rfl,D⟩)) λ_ _ h'=>h'.elim)) λ_ _ h'=>h'.elim))
def pJ(nt:Nat)(g:TG):Prop:=∀x σ H Q,g x σ H Q->g x σ H λσ2 H2=>Q σ2 H2/\σ2.length=σ.length/\∀i,nt<=i->σ2[i]?=σ[i]?
def ur(h:i<nt):pJ nt (kL i):=λx σ H Q q=>by
 refine⟨q,by simp,λj c=>?_⟩;rw[fi (λz=>(aV h (aa c (ae z.symm))))]
def vH(nt:Nat)(g:Qy):Prop:=∀xs σ H Q,g xs σ H Q->g xs σ H λσ2 H2=>Q σ2 H2/\σ2.length=σ.length/\∀i,nt<=i->σ2[i]?=σ[i]?
def Gr:vH nt Hi:=λxs σ H Q ⟨e,q⟩=>⟨e,q,rfl,λ_ _=>rfl⟩
def Ci(mono:∀x σ H Q Q',(∀σ2 H2,Q σ2 H2->Q' σ2 H2)->t x σ H Q->t x σ H Q')(c:∀x σ H Q Q',(∀σ2 H2,Q σ2 H2->Q' σ2 H2)->u x σ H Q->u x σ H Q')(ht:pJ nt t)(d:vH nt u):vH nt (xD t u):=λxs σ H Q g=>by
 obtain⟨v,r,e,q⟩:=g;refine⟨v,r,e,?_⟩;refine mono _ _ _ _ _ (λσ2 H2 ⟨j,k,s2⟩=>?_) (ht _ _ _ _ q);exact c _ _ _ _ _ (λl B ⟨y,z,s3⟩=>⟨y,z.trans k,λi hi=>(s3 i hi).trans (s2 i hi)⟩) (d _ _ _ _ j)
def Gq{K:aL}(c:vH nt u):pJ nt (KJ K n u):=λx σ H Q ⟨a,xs,e,h1,h2,q⟩=>⟨a,xs,e,h1,h2,c _ _ _ _ q⟩
def vo:∀x σ H Q Q',(∀σ2 H2,Q σ2 H2->Q' σ2 H2)->kL i x σ H Q->kL i x σ H Q':=λ_ _ _ _ _ h q=>h _ _ q
def Hh:∀x σ H Q Q',(∀σ2 H2,Q σ2 H2->Q' σ2 H2)->Hi x σ H Q->Hi x σ H Q':=λ_ _ _ _ _ h q=>⟨q.1,h _ _ q.2⟩
def Di(c:∀x σ H Q Q',(∀σ2 H2,Q σ2 H2->Q' σ2 H2)->t x σ H Q->t x σ H Q')(d:∀x σ H Q Q',(∀σ2 H2,Q σ2 H2->Q' σ2 H2)->u x σ H Q->u x σ H Q') :
  ∀x σ H Q Q',(∀σ2 H2,Q σ2 H2->Q' σ2 H2)->xD t u x σ H Q->xD t u x σ H Q':=λ_ _ _ _ _ h ⟨v,r,e,q⟩=>⟨v,r,e,c _ _ _ _ _ (λ_ _ g=>d _ _ _ _ _ h g) q⟩
def BE(X:Cx)(h_:List (aI×kM))(σ:St)(Q:VK)(c:ah)(C:aI)(r:Result)(s':ak):Prop:=
 r=.ok .next/\∃D H',c=.ref D/\(∃m,s'.heap.Ns C m)/\Inv X h_ σ H' s'/\qU X h_ H' C/\Q (.ref D) H'
def vB{iter:be}{ifs:List be}{cl:List (bu×aI)}
  (hcalm:X.calm=c_)(S:jq X scope tn cn caps)(L:∀n c,cl.lookup n=a_ c->X.env.cells.lookup n=a_ c)(hhas:∀n,(n,eG)∈scope.names->∃c,cl.lookup n=a_ c)
  (hg:∀(cl:List (bu×aI))(B:ak)(Z:Hp)(C:aI)(ex:List aI),PG (e9 X scope cl (tn++cn) B Z C ex) tg g)(touch:pJ tn.length g)
  (ht:∀(cl:List (bu×aI))(B:ak)(Z:Hp)(C:aI)(ex:List aI),L6 (e9 X scope cl (tn++cn) B Z C ex) ifs tt)
  (he:∀(cl:List (bu×aI))(B:ak)(Z:Hp)(C:aI)(ex:List aI),PE (e9 X scope cl (tn++cn) B Z C ex) elt te)
  (hi:Zq X h_ σ tg (λJ H1=>∃W:Nat->Nat->List V->Hp->Prop,(∃m,W 0 m [] H1)/\∀i m ys H,W i m ys H->
   (J.stop i H/\ys.length<=aB/\∀p,H p=b_->Q (.ref p) (upd H p (.lst ys)))\/
   (J.go i H/\ys.length<aB/\∀x H',J.yld i H x H'->g x (iw tn.length caps σ) H' λσ2 H2=>tt σ2 H2 λb H3=>
    if b=c_ then te σ2 H3 λy H4=>∃m',m'<m/\W (i+1) m' (ys++[y]) H4 else ∃m',m'<m/\W (i+1) m' ys H3)) itv B) :
  aC (aD X.prog X.w) X.A (newList []) (λacc s₃=>aC (aD X.prog X.w) X.A (newFunctionEnv scope X.env.globals cl [] X.env.qual b_ .none (a_ X.env)) (λcenv s₄=>
   codeAny (aD X.prog X.w) X.A (.compStart (.ListComp elt [⟨tg,iter,ifs,0⟩] scope pos) 0 itv acc { cenv with scope:=relabel scope X.env }) (BE X h_ σ Q acc cenv.locals) s₄) E s₃) E B:=by
 obtain⟨it,fp,tnn,J,H2,e,M,T,st2,f2,W,⟨m0,w0⟩,turn⟩:=hi;subst e;refine cy (wpAny_newFunctionEnv S.nocell (by intro y hy;simp at hy) (λh₁ U O=>?_) S.kind);dsimp only at U O ⊢;generalize hH2:B.heap.push { cls:=.type "list",dict:=b_,data:=.seq ([]:List ah).toArray }=G2 at U O ⊢;have hC:G2.objs.size=B.heap.objs.size+1:=by rw[<-hH2,c8]
 have hDC:B.heap.objs.size≠G2.objs.size:=by rw[hC];exact br (eZ _)
 have old:∀b o,B.heap.get? b=a_ o->h₁.get? b=a_ o:=λb o e=>O.extBut b o (by rw[hC];exact br (j3 (hl9 e))) (hp9 _ (hH2▸hp9 _ e));have hacc:h₁.get? B.heap.objs.size=a_ { cls:=.type "list",data:=.seq ([]:List ah).toArray }:=O.extBut _ _ hDC (hp9 _ (hH2▸aJ _ rfl));generalize R:B.heap.objs.size=D at *;generalize hCd:G2.objs.size=C at *;have hCD:@Eq Nat C (D+1):=hC;have hlt:D<C:=by rw[hC];exact eZ _
 have hDD:@Eq Nat B.heap.objs.size D:=R;have t7:∀b o,B.heap.get? b=a_ o->b<D:=λb o e=>R▸hl9 e;have fresh:∀a,D<=a->H2 a=b_:=λa h=>M.hok.fresh (R▸h);have hfpS:∀b∈fp,b<D:=λb hb=>by obtain⟨o,e,_⟩:=T.obj 0 _ st2 b hb;exact t7 b o e
 have frL:∀b∈HL X.stack,b<D:=λb hb=>by
  obtain⟨_,o,ho,_⟩:=M.stack.mem hb;exact t7 b o ho
 have clL:∀x c,cl.lookup x=a_ c->c<D:=λx c e=>by
  obtain⟨v,q⟩:=M.cell x c (L x c e);exact R▸q.lt
 let Y:Cx:=e9 X scope cl (tn++cn) B H2 C fp
 have okY:Y.Ok:=by
  refine⟨M.ok.mod,S.kind,M.ok.glob,M.ok.blt,?_,λx y c h1 h2=>M.ok.inj x y c (L x c h1) (L y c h2),λx hx=>?_,(λx c h=>nomatch h),M.ok.hd,M.ok.frames,.inl rfl,λb hb=>⟨?_,λx c e=>?_⟩,λb o e=>M.bs b o e,?_,λb o e hb=>?_,λb hb z=>?_,M.stack,M.DZ⟩
  ·show B.heap.objs.size<=C;exact bb (aG (ae hDD) hlt)
  ·have hx':(relabel scope X.env).names.lookup x=a_ .cell\/(relabel scope X.env).names.lookup x=a_ .free:=hx;have hfree:scope.names.lookup x=a_ .free:=yz S.nocell hx';exact hhas x (S.nofree x hfree)
  ·show b≠C;exact br (cR (hfpS b hb) hlt)
  ·have e':cl.lookup x=a_ c:=e;exact(f2 b hb).2.2.2.2.1 x c (L x c e')
  ·show X.base.objs.size<=B.heap.objs.size;exact aa M.ok.bsz M.sz
  ·rcases(f2 b hb).2.2.2.1 with z|z
   ·exact M.ok.noex b o e z
   ·exact absurd (bc (bc (hl9 e) M.ok.bsz) z) (bq _)
  ·have hb':=f2 b hb
   rcases aw.mp (M.ux b z)with q|q
   ·exact hb'.2.1 q
   ·exact hb'.2.2.1 q
 have invY:∀(s':ak) (m:bu->Option ah),s'.os=B.os->oi s'.gens->(∀b o,B.heap.get? b=a_ o->s'.heap.get? b=a_ o)->s'.heap.Ns C m->(∀(i:Nat) (x:bu) (v:V),(tn++cn)[i]?=a_ x->(iw tn.length caps σ)[i]?=a_ (a_ v)->Qu Y.env.scope x->∃u,RelV v u/\Look Y.env s'.heap m x u)->
   Inv Y (X.pn++h_) (iw tn.length caps σ) H2 s':=λs' m ho hb hk hn hl=>by
  refine⟨okY,ho,hb,Un.kept hk,⟨m,hn,hl⟩,λx c e=>?_,fresh C (bb hlt),λx c e=>M.freeC x c (L x c e),λp hp=>?_,M.hok.kept hk,?_⟩
  ·obtain⟨v,q⟩:=M.cell x c (L x c e);exact⟨v,q.keeps hk⟩
  ·have hp':p∈X.pn++h_:=by simpa [Y,e9]using hp
   obtain⟨q1,q2,q3,q4,q5⟩:=M.pin p hp';refine⟨hk _ _ q1,q2,?_,λz=>?_,q5⟩
   ·show p.1≠C;exact br (cR (t7 _ _ q1) hlt)
   ·rcases aw.mp (M.ux p.1 z)with w|w
    ·exact q3 w
    ·exact q4 w
  ·show(iw tn.length caps σ).length=(tn++cn).length;have e:=congrArg jB S.caps;simp only[ai]at e;simp[iw,e]
 have loop:∀s₃:ak,s₃={ B with heap:=h₁,toks:=B.toks+([]:List (bu×ah)).length }->
   codeAny (aD X.prog X.w) X.A (.compLoop (.ListComp elt [⟨tg,iter,ifs,0⟩] scope pos) 0 (.ref it) (.ref D) (compEnvC scope cl C X.env)) (BE X h_ σ Q (.ref D) C) s₃:=by
  rintro s₃ rfl
  have I3:Inv Y (X.pn++h_) (iw tn.length caps σ) H2 { B with heap:=h₁,toks:=B.toks+([]:List (bu×ah)).length }:=by
   refine invY _ _ rfl M.bare old U λi x v e1 e2 e3=>?_
   have hi:tn.length<=i:=by
    by_cases hi:tn.length<=i
    ·exact hi
    ·unfold iw at e2;rw[aQ (by simpa using hi),eB]at e2;split at e2<;>cases e2
   unfold iw at e2;rw[aH (by simpa using hi),iJ]at e2;rw[aH hi]at e1;rw[aN]at e2
   cases hj:caps[i - tn.length]? with
   |none=>rw[hj]at e2;cases e2
   |some j=>
     rw[hj]at e2;have e2':(σ[j]?).join=a_ v:=aW e2
     have hσ:σ[j]?=a_ (a_ v):=by
      cases q:σ[j]? with
      |none=>rw[q]at e2';cases e2'
      | some z=>rw[q]at e2';cases z with
        |none=>cases e2'
        |some z=>exact congrArg a_ e2'
     have hN:X.N[j]?=a_ x:=by
      have e:=congrArg (λl=>l[i - tn.length]?) S.caps;simp only[aN,hj,e1,bV]at e;exact aW e
     have hk:=S.capk x (aU e1);obtain⟨m,hn,hl⟩:=M.loc;have hv:Qu X.env.scope x:=hk.elim (λz=>.inr (.inl z)) λz=>.inr (.inr z);obtain⟨u,ru,l⟩:=hl j x v hN hσ hv;refine⟨u,ru,.inr ?_⟩
     rcases l with⟨k,_⟩|⟨k,c,ec,hcell⟩
     ·rw[k]at hk;rcases hk with z|z<;>cases z
     ·
      rcases e3 with z|z|z
      ·
       exact absurd z (qx (S.capn x (aU e1)))
      ·obtain⟨c',ec'⟩:=okY.has x (.inl z);have ecc:c'=c:=aW ((L x c' ec').symm.trans ec);rw[ecc]at ec';exact⟨.inl z,c,ec',hcell.keeps old⟩
      ·obtain⟨c',ec'⟩:=okY.has x (.inr z);have ecc:c'=c:=aW ((L x c' ec').symm.trans ec);rw[ecc]at ec';exact⟨.inr z,c,ec',hcell.keeps old⟩
  have pinD:∀{σ':St} {H':Hp} {s':ak} {its:List ah} {n:Nat},Inv Y (X.pn++h_) σ' H' s'->H' D=b_->s'.heap.get? D=a_ { cls:=.type "list",data:=.seq its.toArray n }->
    Inv Y ((X.pn++h_)++[(D,{ cls:=.type "list",data:=.seq its.toArray n })]) σ' H' s':=λ{σ' H' s' its n}I' hn hd=>by
   refine I'.qy λp hp=>?_
   rcases ao.mp hp with z|z
   ·exact I'.pin p (ag _ z)
   ·have e:=aA.mp z;subst e;refine⟨hd,hn,hDC,λz=>?_,(λv z=>nomatch z)⟩;exact absurd (frL D z) (bq _)
  have fpD:∀{H':Hp},H' D=b_->∀b,b=D->qU Y (X.pn++h_) H' b:=λ{H'}hn b hb=>by
   subst hb;refine⟨hn,hDC,λz=>absurd (frL b z) (bq _),.inr (ae R),λx c e z=>?_,λp hp z=>?_⟩
   ·have:=clL x c e;rw[z]at this;exact absurd this (bq _)
   ·have hp':p∈X.pn++h_:=by simpa [Y,e9]using hp
    have:=t7 _ _ (M.pin p hp').1;rw[z]at this;exact absurd this (bq _)
  have stat:∀{H':Hp}{pl:List (aI×kM)},(∀b∈fp,H' b=b_)->(∀p∈pl,p.1=D)->∀b∈fp,qU Y ((X.pn++h_)++pl) H' b:=λ{H' pl}hn hpl b hb=>by
   obtain⟨g0,g1,g2,g3,g4,g5⟩:=f2 b hb;refine⟨hn b hb,?_,λz=>?_,.inl hb,λx c e=>g4 x c (L x c e),λp hp z=>?_⟩
   ·show b≠C;exact br (cR (hfpS b hb) hlt)
   ·rcases aw.mp (M.ux b z)with w|w
    ·exact g1 w
    ·exact g2 w
   ·have hp':p∈(X.pn++h_)++pl:=by simpa [Y,e9]using hp
    rcases ao.mp hp' with w|w
    ·exact g5 p w z
    ·have h1:=hpl p w;have h2:=hfpS b hb;rw[<-z,h1]at h2;exact absurd h2 (bq _)
  refine oP (λn s'=>∃(i:Nat) (ys:List V) (its:List ah) (k:Nat) (H':Hp),Inv Y (X.pn++h_) (iw tn.length caps σ) H' s'/\H' D=b_/\s'.heap.get? D=a_ { cls:=.type "list",data:=.seq its.toArray k }/\cM ys its/\
   tnn i s'.heap/\(∀b∈fp,H' b=b_)/\W i n ys H') ?_ m0 ⟨0,[],[],0,H2,I3,fresh D (au _),hacc,.nil,T.keep _ _ _ st2 λb hb o e=>old b o e,λb hb=>(f2 b hb).1,w0⟩
  rintro n s4 ⟨i,ys,its,k,H4,I4,hD4,ho4,rv4,st4,fr4,w4⟩;have I4':=pinD I4 hD4 ho4
  have pl1:∀p∈[((D,{ cls:=.type "list",data:=.seq its.toArray k }):aI×kM)],p.1=D:=λp hp=>by
   rw[aA.mp hp]
  rcases turn i n ys H4 w4 with⟨stop,hz,qn⟩|⟨go,hz,step⟩
  ·
   refine iM (T.done Y rfl rfl rfl hcalm i _ s4 _ H4 _ I4' (stat fr4 pl1) st4 stop) λr s5 ⟨hr,I5⟩=>?_;subst hr;have hd5:=(I5.pin (D,{ cls:=.type "list",data:=.seq its.toArray k }) (ag _ (ag _ (aA.mpr rfl)))).1;have I5':Inv Y (X.pn++h_) (iw tn.length caps σ) H4 s5:=I5.mM;have J5:Inv X h_ σ H4 s5:=M.Xg (ch:=fp) I5'.os I5'.base I5'.hok I5'.bare λb hb=>⟨(f2 b hb).2.2.2.1,(f2 b hb).2.1,(f2 b hb).2.2.2.2.1,(f2 b hb).2.2.2.2.2⟩
   have up:∀a,D<=a->H4 a=b_->qU X h_ H4 a:=λa ha hn=>by
    refine⟨hn,?_,λz=>?_,.inr ?_,λx c e z=>?_,λp hp z=>?_⟩
    ·have h1:=M.lt;intro z;rw[<-z,R]at h1;exact absurd (bc h1 ha) (bq _)
    ·exact M.Ww (a:=a) (by rw[R];exact ha) z
    ·exact aa M.sz (by rw[R];exact ha)
    ·obtain⟨v,q⟩:=M.cell x c e;have h1:=q.lt;rw[z,R]at h1;exact absurd (bc h1 ha) (bq _)
    ·have h1:=t7 _ _ (M.pin p hp).1;rw[z]at h1;exact absurd (bc h1 ha) (bq _)
   have J6:Inv X h_ σ (upd H4 D (.lst ys)) s5:=J5.Iv (up D (au _) hD4) (by have h1:=M.sz;rw[R]at h1;exact h1) ⟨hz,its,k,rv4,hd5⟩;obtain⟨m5,hn5,_⟩:=I5'.loc;refine⟨rfl,D,upd H4 D (.lst ys),rfl,⟨m5,hn5⟩,J6,?_,qn D hD4⟩;have hC4:H4 C=b_:=I5'.free;obtain⟨u0,u1,u2,u3,u4,u5⟩:=up C (bb hlt) hC4;exact⟨by rw[cL (eK hDC)];exact u0,u1,u2,u3,u4,u5⟩
  ·refine iM (T.item Y rfl rfl rfl hcalm i _ s4 _ H4 _ I4' (stat fr4 pl1) st4 go) λr s5 ⟨u,hr,h5⟩=>?_;subst hr;refine iM h5 λ_ s6 ⟨x,H6,I6,r6,y6,st6,fr6⟩=>?_;have I6':=I6.pinned (stat fr6 pl1) (T.obj _ _ st6);refine iM (hg cl B H2 C fp _ s6 _ H6 x u _ I6' r6 (touch _ _ _ _ (step x H6 y6))) λ_ s7 ⟨σ7,H7,I7,q7,l7,e7⟩=>?_
   have back:∀{H':Hp} {s':ak} {ys':List V} {its':List ah} {k':Nat} {n':Nat},Inv Y (X.pn++h_++mm fp s6.heap) σ7 H' s'->H' D=b_->s'.heap.get? D=a_ { cls:=.type "list",data:=.seq its'.toArray k' }->cM ys' its'->W (i+1) n' ys' H'->
     ∃(i:Nat) (ys:List V) (its:List ah) (k:Nat) (H':Hp),Inv Y (X.pn++h_) (iw tn.length caps σ) H' s'/\H' D=b_/\s'.heap.get? D=a_ { cls:=.type "list",data:=.seq its.toArray k }/\cM ys its/\tnn i s'.heap/\(∀b∈fp,H' b=b_)/\W i n' ys H':=
    λ{H' s' ys' its' k' n'}I' hd ho rv w=>by
     refine⟨i+1,ys',its',k',H',(I'.mM).weak (by rw[l7]) (λj v hj=>?_),hd,ho,rv,T.keep _ _ _ st6 λb hb o e=>(I'.pin (b,o) (ag _ (ag _ (nu hb e)))).1,λb hb=>?_,w⟩
     ·have hj':tn.length<=j:=by
       by_cases hj':tn.length<=j
       ·exact hj'
       ·unfold iw at hj;rw[aQ (by simpa using hj'),eB]at hj;split at hj<;>cases hj
      rw[e7 j hj'];exact hj
     ·obtain⟨o,e,d⟩:=T.obj _ _ st6 b hb;exact(I'.pin (b,o) (ag _ (ag _ (nu hb e)))).2.1
   have pinOf:∀{σ':St}{H':Hp}{s':ak},Inv Y (((X.pn++h_)++[(D,{ cls:=.type "list",data:=.seq its.toArray k })])++mm fp s6.heap) σ' H' s'->s'.heap.get? D=a_ { cls:=.type "list",data:=.seq its.toArray k }/\H' D=b_:=λI'=>by
    obtain⟨q1,q2,_⟩:=I'.pin (D,{ cls:=.type "list",data:=.seq its.toArray k }) (ag _ (aq _ (ag _ (aA.mpr rfl))));exact⟨q1,q2⟩
   have dropD:∀{σ':St}{H':Hp}{s':ak},Inv Y (((X.pn++h_)++[(D,{ cls:=.type "list",data:=.seq its.toArray k })])++mm fp s6.heap) σ' H' s'->Inv Y (X.pn++h_++mm fp s6.heap) σ' H' s':=λI'=>
    I'.qy λp hp=>I'.pin p (ag _ (by
     rcases ao.mp hp with z|z
     ·exact aq _ (aq _ z)
     ·exact ag _ z))
   refine iM (ht cl B H2 C fp _ s7 σ7 H7 _ I7 q7) λb s8 ⟨H8,I8,q8⟩=>?_
   cases b with
   |false=>
     rw[if_neg lU];rw[if_neg lU]at q8;obtain⟨m',hm,w8⟩:=q8;exact⟨m',hm,back (dropD I8) (pinOf I8).2 (pinOf I8).1 rv4 w8⟩
   |true=>
     rw[if_pos rfl];rw[if_pos rfl]at q8;refine iM (he cl B H2 C fp _ s8 σ7 H8 _ I8 q8) λv s9 ⟨y,H9,I9,r9,m',hm,w9⟩=>?_;obtain⟨ho9,hD9⟩:=pinOf I9;refine wpAny_list_append_plain (hsz:=by have:=rv4.length;simp;exact bb (aG (ae this.symm) hz)) (items:=its.toArray) ⟨k,ho9⟩ λh' hl' hs'=>?_;obtain⟨k',hk'⟩:=hl';have I9':=dropD I9;have f9:=fpD hD9 D rfl
     have I10:Inv Y (X.pn++h_++mm fp s6.heap) σ7 H9 { s9 with heap:=h' }:=by
      refine I9'.turned (t':=s9.toks) (it:=D) (λb o hb e=>hs'.extBut b o hb e) hD9 hDC (.inr (ae R)) f9.2.2.2.2.1 λp hp=>?_;have hp':p∈X.pn++h_++mm fp s6.heap:=by simpa [Y,e9]using hp
      rcases ao.mp hp' with z|z
      ·exact br (t7 _ _ (M.pin p z).1)
      ·obtain⟨hb,_⟩:=w5 z;exact br (hfpS _ hb)
     refine⟨m',hm,back (ys':=ys++[y]) (its':=its++[v]) (k':=k') I10 hD9 ?_ (rv4.append (.cons r9 .nil)) w9⟩;simpa using hk'
 exact codeAny_compStart_list (loop _ rfl) (T.self X.A 0 _ _ _ (T.keep _ _ _ st2 λb hb o e=>old b o e) (loop _ rfl))
def NC{iter:be}{ifs:List be}
  (j:X.calm=c_)(S:jq X scope tn cn caps)(hi:PI X tg iter wi)
  (O:∀(cl:List (bu×aI))(c:ak)(d:Hp)(C:aI)(ex:List aI),PG (e9 X scope cl (tn++cn) c d C ex) tg g)(k:pJ tn.length g)
  (ht:∀(cl:List (bu×aI))(c:ak)(d:Hp)(C:aI)(ex:List aI),L6 (e9 X scope cl (tn++cn) c d C ex) ifs tt)
  (he:∀(cl:List (bu×aI))(c:ak)(d:Hp)(C:aI)(ex:List aI),PE (e9 X scope cl (tn++cn) c d C ex) elt te)
  (hs:∀x,foldedSetIterable iter X.env x=pure x):PE X (.ListComp elt [⟨tg,iter,ifs,0⟩] scope pos) (IB wi tn.length caps g tt te):=by
 intro h_ s σ H Q I h;obtain⟨cl,y,h1,h2⟩:=vC I.ok S;refine FX rfl hs y S.kind S.locs (iM (hi h_ s σ H _ I h) λv s1 R=>iM R λitv s2 B=>?_);refine dm (vB j S h1 h2 O k ht he B) (λU s3 W=>dm W (λM s4 Y=>kC Y λr s5 Z=>?_) λ_ _ z=>z) λ_ _ z=>z;obtain⟨rfl,D,H',rfl,⟨m,hn⟩,J,l,q⟩:=Z;refine⟨m,hn,λh' L=>⟨.ref D,H',?_,rfl,q⟩⟩;exact J.turned (λb o hb e=>L.extBut b o hb e) l.1 l.2.1 l.2.2.2.1 l.2.2.2.2.1 l.2.2.2.2.2
def CF{iter:be}{ifs:List be}{k:zp}(hN:X.N.Nodup)(O:X.N[i]?=a_ x)(hx:Loc X.env.scope x)
  (y:X.calm=c_)(S:jq X scope tn cn caps)(hi:PI X tg iter wi)
  (hg:∀(cl:List (bu×aI))(c:ak)(d:Hp)(C:aI)(ex:List aI),PG (e9 X scope cl (tn++cn) c d C ex) tg g)(B:pJ tn.length g)
  (ht:∀(cl:List (bu×aI))(c:ak)(d:Hp)(C:aI)(ex:List aI),L6 (e9 X scope cl (tn++cn) c d C ex) ifs tt)
  (he:∀(cl:List (bu×aI))(c:ak)(d:Hp)(C:aI)(ex:List aI),PE (e9 X scope cl (tn++cn) c d C ex) elt te)
  (R:swapsWith (.ListComp elt [⟨tg,iter,ifs,0⟩] scope pos) (a_ (.Name x pos')) k.line X.env=pure c_)
  (hs:∀x,foldedSetIterable iter X.env x=pure x)(hf:X.fn x=c_\/X.env.scope.names.lookup x=a_ .local) :
  PS X (.Assign [.Name x pos'] (.ListComp elt [⟨tg,iter,ifs,0⟩] scope pos) k) (Gu (IB wi tn.length caps g tt te) (kL i)):=by
 intro h_ s σ H D I h;obtain⟨cl,U,h1,h2⟩:=vC I.ok S;rw[exec_Assign_Name_used _ _ _ _ R];refine wb9 (FV (wb9 ?_));refine wb9 (dm (FX rfl hs U S.kind S.locs (iM (hi h_ s σ H _ I h) λv s1 hv=>iM hv λitv s2 W=>?_)) (λ_ s' hq=>wu9 (wu9 hq)) λ_ _ e=>e);refine dm (vB (Q:=λx H1=>kL i x σ H1 D.nx) y S h1 h2 hg B ht he W) (λacc s3 q3=>dm q3 (λj s4 q4=>kC q4 λr s5 q5=>?_) λ_ _ z=>z) λ_ _ z=>z;obtain⟨rfl,D',H',rfl,⟨m,hn⟩,J,l,q⟩:=q5;refine wpAny_assign_Name ?_;obtain⟨M,es,ep,Y,L,Z⟩:=id hn
 have J':Inv X (h_++[(j.locals,M)]) σ H' s5:=J.qy λp hp=>by
  rcases ao.mp hp with z|z
  ·exact J.pin p (ag _ z)
  ·have e:p=(j.locals,M):=by simpa using z
   subst e;exact⟨Y,l.1,l.2.1,l.2.2.1,λv z=>by rw[L]at z;cases z⟩
 refine uw J' hN O hx (v:=.ref D') rfl (λs6 I6=>?_) hf;have e6:=(I6.pin (j.locals,M) (by simp)).1;refine⟨m,⟨M,es,ep,e6,L,Z⟩,λh' hs'=>⟨_,H',?_,q⟩⟩;exact(I6.mM).turned (λb o hb e=>hs'.extBut b o hb e) l.1 l.2.1 l.2.2.2.1 l.2.2.2.2.1 l.2.2.2.2.2
end
end L2
namespace M
open PySem PySem.Spec PyProof.Rows L2
def kg(K:Fg)(F1:Hp)(J:It)(items:List Dat):Prop:=∀F H,Good F H->bY F1 F->
 (∀(i:Nat)d,items[i]?=a_ d->J.go i H/\∀x H',J.yld i H x H'->∃F',Step F H F' H'/\Rep K F' d x)/\∀i,items.length<=i->J.stop i H
noncomputable def vt(x:Iw)(F:Hp):Hp:=match x with
 |.rng _=>λ_=>b_
 |_=>F
def A4(h:bY F F'):bY (vt x F) F':=by
 unfold vt;split
 ·intro a o e;cases e
 ·exact h
def gI(K:Fg)(C:Fs)(x:Iw):TI:=λσ H R=>∃ρ items F,yX C x ρ=a_ items/\Good F H/\mX K F σ ρ/\∀J F1 H1,Step F H F1 H1->kg K (vt x F1) J items->R J H1
abbrev SI(X:Cx)(C:Fs)(tg iter:be)(x:Iw):Prop:=PI X tg iter (gI X.K C x)
noncomputable def XE(x:bu):It:=⟨λi _=>i<x.cps.size,λi H v H'=>H'=H/\∃c,x.cps[i]?=a_ c/\v=V.str ⟨#[c]⟩,λi _=>x.cps.size<=i⟩
def Ir{K:aL}(x:bu)(t:DL)(it:aI):Turn P w K tg (XE x) [it] it (λi h=>h.IsStrIter it "str_ascii_iterator" x t i) where
 mem:=by simp
 obj:=λi h st b hb=>by
  have e:b=it:=by simpa using hb
  subst e;obtain⟨o,e,c,d⟩:=st;exact⟨o,e,λv z=>by rw[d]at z;cases z⟩
 keep:=λi h h' st k=>by
  obtain⟨o,e,c,d⟩:=st;exact⟨o,k it (by simp) o e,c,d⟩
 item:=by
  intro X l q y hc i h_ s σ H E I hf st g;subst l q y;obtain⟨B,D,U,J,L,M⟩:=hf it (by simp);have R:x.cps[i]?=a_ (x.cps[i]'g):=aF g;refine wpAny_pyNext_ascii_item st R λh' j W=>?_;have Y:Inv X h_ σ H { s with heap:=h',toks:=s.toks+1 }:=I.turned (λb o hb e=>(W.2 b hb).trans e) B D J L M;obtain⟨o,e,c,d⟩:=id j;exact⟨_,rfl,vm (s:={ s with heap:=h',toks:=s.toks+1 }) e c d (by decide) ⟨.str ⟨#[x.cps[i]'g]⟩,H,Y,⟨_,rfl⟩,⟨rfl,_,R,rfl⟩,j,λb hb=>(hf b hb).1⟩⟩
 done:=by
  intro X l q y hc i h_ s σ H E I hf st g;subst l q y;obtain⟨B,D,U,J,L,M⟩:=hf it (by simp);have O:x.cps.size<=i:=g;exact wpAny_pyNext_ascii_end (I.ok.hd hc) st (fG O) λh' Z=>⟨rfl,I.turned (t':=s.toks) (λb o hb e=>Z b o hb e) B D J L M⟩
 self:=λ_ _ _ _ _ st h=>wpAny_pyIter_striter_ascii st h
def Ip{K:aL}(x:bu)(t:DL)(it:aI):Turn P w K tg (XE x) [it] it (λi h=>h.IsStrIter it "str_iterator" x t i) where
 mem:=by simp
 obj:=λi h st b hb=>by
  have e:b=it:=by simpa using hb
  subst e;obtain⟨o,e,c,d⟩:=st;exact⟨o,e,λv z=>by rw[d]at z;cases z⟩
 keep:=λi h h' st k=>by
  obtain⟨o,e,c,d⟩:=st;exact⟨o,k it (by simp) o e,c,d⟩
 item:=by
  intro X l q y hc i h_ s σ H E I hf st g;subst l q y;obtain⟨B,D,U,J,L,M⟩:=hf it (by simp);have R:x.cps[i]?=a_ (x.cps[i]'g):=aF g;refine wpAny_pyNext_wide_item st R λh' j W=>?_;have Y:Inv X h_ σ H { s with heap:=h',toks:=s.toks+1 }:=I.turned (λb o hb e=>(W.2 b hb).trans e) B D J L M;obtain⟨o,e,c,d⟩:=id j;exact⟨_,rfl,vm (s:={ s with heap:=h',toks:=s.toks+1 }) e c d (by decide) ⟨.str ⟨#[x.cps[i]'g]⟩,H,Y,⟨_,rfl⟩,⟨rfl,_,R,rfl⟩,j,λb hb=>(hf b hb).1⟩⟩
 done:=by
  intro X l q y hc i h_ s σ H E I hf st g;subst l q y;obtain⟨B,D,U,J,L,M⟩:=hf it (by simp);have O:x.cps.size<=i:=g;exact wpAny_pyNext_wide_end (I.ok.hd hc) st (fG O) λh' Z=>⟨rfl,I.turned (t':=s.toks) (λb o hb e=>Z b o hb e) B D J L M⟩
 self:=λ_ _ _ _ _ st h=>wpAny_pyIter_striter_wide st h
def Y2(tl:TE):TI:=λσ H R=>tl σ H λv H1=>∃x,v=.str x/\R (XE x) H1
def Ju(hl:PE X l tl):PI X tg l (Y2 tl):=by
 intro h_ s σ H R I h;refine iM (hl h_ s σ H _ I h) λv s1 ⟨y,H1,c,d,g⟩=>?_;obtain⟨x,e,q⟩:=g;subst e;obtain⟨t,rfl⟩:=d
 have fin:∀b∈[s1.heap.objs.size],qU X h_ H1 b:=λb hb=>by
  have e:b=s1.heap.objs.size:=by simpa using hb
  subst e;exact c.wd (au _) (c.hok.fresh (au _))
 cases ha:x.cps.all (·< 128)with
 |true=>exact wpAny_pyIter_ascii ha ⟨s1.heap.objs.size,[s1.heap.objs.size],_,_,H1,rfl,c.kept (t':=s1.toks) λb o e=>hp9 _ e,Ir x t _,⟨_,aJ _ rfl,rfl,rfl⟩,fin,q⟩
 |false=>exact wpAny_pyIter_wide ha ⟨s1.heap.objs.size,[s1.heap.objs.size],_,_,H1,rfl,c.kept (t':=s1.toks) λb o e=>hp9 _ e,Ip x t _,⟨_,aJ _ rfl,rfl,rfl⟩,fin,q⟩
def AN{K:Fg}:kg K F1 (XE x) (x.cps.toList.map λc=>Dat.str ⟨#[c]⟩):=λF H g s=>by
 refine⟨λi d hd=>?_,λi hi=>(by simpa using hi:x.cps.size<=i)⟩;rw[aN]at hd;obtain⟨c,hc,rfl⟩:=eD hd;have j:x.cps[i]?=a_ c:=by rw[<-dM];exact hc
 refine⟨(bR.mp j).1,λv H' y=>?_⟩;obtain⟨rfl,k,e1,rfl⟩:=y;rw[j]at e1;cases e1;exact⟨F,Step.refl g,rfl⟩
section
variable{iter:be}
def PI.imp(h:PI X tg iter w)(f:∀σ H R,w' σ H R->w σ H R):PI X tg iter w':=λh_ s σ H R I q=>h h_ s σ H R I (f _ _ _ q)
def PI.or(h:PI X tg iter w)(h':PI X tg iter w'):PI X tg iter (λσ H R=>w σ H R\/w' σ H R):=λh_ s σ H R I q=>by
 rcases q with q|q
 ·exact h h_ s σ H R I q
 ·exact h' h_ s σ H R I q
def xu{K:Fg}(h:mV K F1 a vs)(r:cT K F1 ds vs):kg K F1 (Zw K a) ds:=λF H g s=>by
 have c:=g.sub.seq (s.seq h);refine⟨λi d hd=>?_,λi hi=>⟨vs,c,by rw[r.length];exact hi⟩⟩;obtain⟨v,e1,e2⟩:=r.get hd;refine⟨⟨vs,v,c,e1⟩,λx H' y=>?_⟩;obtain⟨rfl,y⟩:=y;have:=y vs c;rw[e1]at this;cases this;exact⟨F,Step.refl g,e2.mono s⟩
def AM{K:Fg}(h:Tq K F1 a vs)(r:cT K F1 ds vs):kg K F1 (Zv K a) ds:=λF H g s=>by
 have c:=((h.mono s).mono g.sub).sq;refine⟨λi d hd=>?_,λi hi=>⟨vs,c,by rw[r.length];exact hi⟩⟩;obtain⟨v,e1,e2⟩:=r.get hd;refine⟨⟨vs,v,c,e1⟩,λx H' y=>?_⟩;obtain⟨rfl,y⟩:=y;have:=y vs c;rw[e1]at this;cases this;exact⟨F,Step.refl g,e2.mono s⟩
def Rk(h:SE X C e xe):SI X C tg e (.itv xe):=PI.imp (PI.or (PI.or (Ey h) (Jt h)) (Ju h)) λσ H R z3=>by
 obtain⟨ρ,items,F,hi,g,j,k⟩:=z3;obtain⟨⟨d,fr⟩,h1,h2⟩:=cY hi
 cases d with
 |lst ds=>
   cases h2;refine .inl (.inl ⟨ρ,_,fr,h1,F,g,j,λv F1 H1 st r _=>?_⟩);obtain⟨a,vs,rfl,c,r⟩:=r;exact⟨a,rfl,⟨vs,st.good.sub.seq c⟩,k _ F1 H1 st (xu c r)⟩
 |tup ds=>
   cases h2;refine .inl (.inr ⟨ρ,_,fr,h1,F,g,j,λv F1 H1 st r _=>?_⟩);obtain⟨a,vs,rfl,c,r⟩:=r;exact⟨a,rfl,⟨vs,(c.mono st.good.sub).sq⟩,k _ F1 H1 st (AM c r)⟩
 |str x=>
   cases h2;refine .inr ⟨ρ,_,fr,h1,F,g,j,λv F1 H1 st r _=>?_⟩;cases r;exact⟨x,rfl,k _ F1 H1 st AN⟩
 |_=>cases h2
def Kh{K:Fg}{lo:Int}:kg K F1 (X3 lo n) ((aT n).map λk:Nat=>Dat.int (lo+k)):=λF H g s=>by
 refine⟨λi d hd=>?_,λi hi=>(by simpa using hi:n<=i)⟩;rw[aN]at hd
 have hi:i<n:=by
  by_cases hi:i<n
  ·exact hi
  ·rw[dh (by simpa using hi)]at hd;cases hd
 rw[af (by simpa using hi)]at hd;simp only[qZ,bV,hV]at hd;subst hd;refine⟨hi,λx H' y=>?_⟩;obtain⟨rfl,rfl⟩:=y;exact⟨F,Step.refl g,rfl⟩
set_option tactic.hygienic true in
def MZ(d:Gl X "range")(l:X.mg "range"=b_)(ha:SA X C [a] [xa])(hs:aS [a] X.env=[(d_,eval a X.env)]):SI X C tg (.Call (.Name "range" p) [a] [] pos) (.rng [xa]):=
 PI.imp (GY d l ha hs) λσ H R z3=>by
  obtain⟨ρ,items,F,hi,g,q,k⟩:=z3;obtain⟨ds,h1,h2⟩:=cY hi;refine⟨ρ,ds,h1,F,g,q,λvs F1 H1 st r=>?_⟩;unfold CC at h2;split at h2
  ·rename_i j;split at h2
   ·rename_i hz;cases h2;obtain⟨v,w,rfl,y,c⟩:=r;cases y;cases c;refine⟨j,rfl,by omega,fW hz.1 (by decide),k _ F1 H1 st ?_⟩;have:=Kh (K:=X.K) (F1:=vt (.rng [xa]) F1) (lo:=0) (n:=j.toNat);simpa using this
   ·cases h2
  ·have:=mT h1;cases this
  ·have:=mT h1;cases this
  ·cases h2
end
def G5(h:qA f (d::ds)=a_ ys):∃o r,f d=a_ o/\qA f ds=a_ r/\ys=(match o with|some y=>(y.1::r.1,(y.2 || im y.1) && r.2)|none=>r):=by
 simp only[qA]at h;obtain⟨o,h1,h⟩:=cY h;obtain⟨r,h2,h⟩:=eD h;exact⟨o,r,h1,h2,by cases o<;>exact h.symm⟩
def UO(K:Fg)(nt:Nat)(one:Bool)(g:TG):Prop:=∀F H σ ρ d x ρ1 Q,Good F H->mX K F σ ρ->nt<=σ.length->σ.length=ρ.length->Rep K F d x->FK nt one d ρ=a_ ρ1->(∀c,mX K F c ρ1->Q c H)->g x σ H Q
def Ak{K:Fg}{σ:St}{ρ:iG}(hl:σ.length=ρ.length)(R:mX K F σ ρ)(r:Rep K F d v):mX K F (σ.set i (a_ v)) (ρ.set i (a_ d)):=λj d' q=>by
 rw[jP]at q ⊢;by_cases c:i=j
 ·rw[if_pos c]at q ⊢;split at q
  ·cases q;rw[if_pos (by omega)];exact⟨v,rfl,r⟩
  ·cases q
 ·rw[if_neg c]at q ⊢;exact R j d' q
def MB{K:Fg}:UO K nt c_ (kL 0):=λF H σ ρ d x ρ1 Q g R c hl r hb k=>by
 simp only[FK,hV]at hb;subst hb;exact k _ (Ak hl R r)
def Ht{K:Fg}(R:mX K F σ ρ):mX K F (iw nt caps σ) (jG nt caps ρ):=λi d q=>by
 unfold jG at q;unfold iw;by_cases hi:i<nt
 ·rw[aQ (by simpa using hi),eB,if_pos hi]at q;cases q
 ·rw[aH (by simpa using hi),iJ,aN]at q;rw[aH (by simpa using hi),iJ,aN]
  cases g:caps[i - nt]? with
  |none=>rw[g]at q;cases q
  |some j=>
    rw[g]at q;have c:(ρ[j]?).join=a_ d:=aW q
    have k:ρ[j]?=a_ (a_ d):=by
     cases z:ρ[j]? with
     |none=>rw[z]at c;cases c
     |some o=>rw[z]at c;exact congrArg a_ c
    obtain⟨v,e1,e2⟩:=R j d k;refine⟨v,?_,e2⟩;rw[bV,e1];rfl
def Va(K:Fg)(C:Fs)(xs:List Ex):TT:=λσ H Q=>∃ρ b,xJ C xs ρ=a_ b/\tT K ρ b σ H Q
section
variable{iter:be}
def MG:L6 Y [] (Va Y.K C []):=λh_ s σ H Q I c=>by
 obtain⟨ρ,b,h,F,g,R,k⟩:=c;simp only[xJ]at h;cases h;exact Nu h_ s σ H Q I (k F H (Step.refl g))
def MF(h:ST Y C c xe):L6 Y [c] (Va Y.K C [xe]):=λh_ s σ H Q I j=>by
 obtain⟨ρ,b,hb,F,g,R,k⟩:=j;refine Nt h h_ s σ H Q I ?_;simp only[xJ]at hb;obtain⟨⟨d,fr⟩,h1,hb⟩:=cY hb;obtain⟨z,hz,hb⟩:=cY hb;refine⟨ρ,d,fr,z,h1,hz,F,g,R,λF1 H1 st=>?_⟩
 cases z with
 |true=>cases hb;exact k F1 H1 st
 |false=>cases hb;exact k F1 H1 st
set_option tactic.hygienic true in
def xO{K:Fg}(tgc:UO K nt one g)(hcl:∀ρ items,yX C it ρ=a_ items->True) :
  ∀σ H Q,gE K C (.comp nt one caps it xs xe) σ H Q->IB (gI K C it) nt caps g (Va K C xs) (gE K C xe) σ H Q:=λσ H Q z3=>by
 obtain⟨ρ,d,fr,h,F,g0,R,k⟩:=z3;obtain⟨items,h1,h⟩:=cY h;split at h
 ·rename_i hz;obtain⟨⟨all,av⟩,h2,h⟩:=eD h;cases h;refine⟨ρ,items,F,h1,g0,R,λJ F1 H1 l ok=>?_⟩;refine⟨λi m ys H'=>∃F' L O dr U,Step F1 H1 F' H'/\qA (pG C nt one (jG nt caps ρ) xs xe) (items.drop i)=a_ (dr,U)/\all=L++dr/\av=(O && U)/\cT K F' L ys/\(O=c_->fB K H1 H' L ys)/\m=items.length - i/\i<=items.length/\L.length<=i,⟨items.length,F1,[],c_,all,av,Step.refl l.good,h2,rfl,rfl,rfl,λ_=>.nil,rfl,aR _,au _⟩,?_⟩;rintro i m ys H' ⟨F',L,O,dr,U,st,hm,ha,B,ry,fy,rfl,hi,W⟩;have hy:ys.length<=1000000:=by rw[ry.length];exact aa W (aa hi hz)
  obtain⟨okg,Ws⟩:=ok F' H' st.good (A4 st.ff);by_cases q:i<items.length
  ·obtain⟨go,yl⟩:=okg i items[i] (af q);refine .inr ⟨go,by exact aG hy (by decide),λx H2 y2=>?_⟩;obtain⟨F2,c,r2⟩:=yl x H2 y2;rw[eR q]at hm;obtain⟨o,⟨rr,rv⟩,h3,h4,h5⟩:=G5 hm;obtain⟨ρ1,h6,h3⟩:=cY h3;obtain⟨b,h7,h3⟩:=cY h3;have RS:mX K F2 (iw nt caps σ) (jG nt caps ρ):=(Ht R).mono ((l.ff.trans st.ff).trans c.ff);refine tgc F2 H2 _ _ _ x ρ1 _ c.good RS (by simp[iw]) (by simp[iw,jG]) r2 h6 λσ1 Y=>?_;refine⟨ρ1,b,h7,F2,c.good,Y,λF3 H3 j=>?_⟩
   cases b with
   |true=>
     obtain⟨⟨y,M⟩,h8,h3⟩:=eD h3;cases h3;refine⟨ρ1,y,M,h8,F3,j.good,Y.mono j.ff,λv F4 H4 D r4 f4=>?_⟩;have stA:=((st.trans c).trans j).trans D;have e5:dr=y::rr/\U=((M || im y) && rv):=by cases h5;exact⟨rfl,rfl⟩
     refine⟨items.length - (i+1),by omega,F4,L++[y],O && (M || im y),rr,rv,stA,h4,by rw[ha,e5.1];simp,by rw[B,e5.2,Pu],(ry.mono ((c.ff.trans j.ff).trans D.ff)).append (.one r4),λz=>?_,rfl,q,by simp;omega⟩;simp only[aj,kW]at z;have Z:=c.hh.trans j.hh;refine fB.snoc (st.hh.trans Z) D.hh ((fy z.1).mono Z) ?_
     rcases z.2 with z2|z2
     ·exact f4 z2
     ·exact .jY D.good z2 r4
   |false=>
     cases h3;have e5:dr=rr/\U=rv:=by cases h5;exact⟨rfl,rfl⟩
     exact⟨items.length - (i+1),by omega,F3,L,O,rr,rv,(st.trans c).trans j,h4,by rw[ha,e5.1],by rw[B,e5.2],ry.mono (c.ff.trans j.ff),λz=>(fy z).mono (c.hh.trans j.hh),rfl,q,bW W⟩
  ·have e :=bA hi (bF q);subst e;refine .inl ⟨Ws _ (au _),oY hy,λp hp=>?_⟩;rw[tR]at hm;cases hm;rw[aM]at ha;rw[iF]at B;subst ha B;have ry':=ry.mono (bY.upd (o:=.lst ys) (st.good.sub.free hp));exact k _ _ _ ((l.trans st).trans (Step.alloc st.good hp)) ⟨p,ys,rfl,.inl (.inl cC),ry'⟩ λz=>.lst (l.hh.trans st.hh) hp ((fy z).back (F:=F) l.hh)
 ·cases h
end
def ve{K:Fg}(h:yL d=a_ k)(r:Rep K F d v):v=kV k:=by
 cases d with
 |int i=>cases h;exact r
 |str x=>cases h;exact r
 |_=>cases h
set_option tactic.hygienic true in
theorem xp{K:Fg}:∀{ds:List Dat}{k_:List (Key×V)},pD k (k_.map (·.1)) ds=a_ d->cT K F ds (k_.map (·.2))->∃v,oD k_ k=a_ v/\Rep K F d v
 |[],[],h,_=>by cases h
 |[],_::_,h,_=>by cases h
 |_::_,[],h,_=>by cases h
 |e::ds,p::k_,h,r=>by
   obtain⟨v,w,q,c,g⟩:=r;cases q;simp only[ax,pD]at h;split at h
   ·rename_i z;cases h;exact⟨p.2,qo z,c⟩
   ·rename_i z;obtain⟨v,j,l⟩:=xp h g;exact⟨v,(qp z).trans j,l⟩
section
variable{X:Cx}{C:Fs}{e:be}{σ:St}{F H:Hp}
def FN{K:Fg}(r:cT K F ds vs)(h:rd ds i=a_ d):∃v,rd vs i=a_ v/\Rep K F d v:=by
 unfold rd at h ⊢;rw[r.length];obtain⟨j,h1,h2⟩:=cY h;obtain⟨v,e1,e2⟩:=r.get h2;exact⟨v,by rw[h1];exact e1,e2⟩
set_option tactic.hygienic true in
def YT(O:X.A.units+1<dk):UT X (gB X.K λx y=>(vf x y).map λd=>(d,d_)):=by
 intro value slice h_ s σ H x y v u Q I l q h hs;obtain⟨da,J,d,fr,h,F,g,B,D,k⟩:=h;obtain⟨d',h1,h2⟩:=eD h;obtain⟨rfl,rfl⟩:d'=d/\d_=fr:=by cases h2;exact⟨rfl,rfl⟩
 by_cases j:∃ks ds,da=.dct ks ds
 ·obtain⟨ks,ds,rfl⟩:=j;have L:(yL J).bind (λk=>pD k ks ds)=a_ d':=by cases J<;>exact h1
  obtain⟨kk,R,hl⟩:=cY L;obtain⟨a,k_,rfl,U,rfl,W⟩:=B;obtain⟨w,e1,e2⟩:=xp hl W;obtain rfl:=ve R D;cases l;have M:BK H a (kV kk) (a_ w):=by rw[<-e1];exact BK.k (g.sub _ _ U)
  exact Mh (td I M) vL.lookup (xN O I M q λu' s' I' Y=>⟨w,H,I',Y,k _ F H (Step.refl g) e2 bx⟩) hs
 cases da<;>first|exact absurd ⟨_,_,rfl⟩ j|skip
 all_goals cases J<;>simp only[vf,reduceCtorEq]at h1
 ·
  split at h1
  ·rename_i z i hz;obtain⟨c,h3,Z⟩:=eD h1;subst Z;exact TK value slice h_ s σ H x y v u Q I l q ⟨z,i,c,B,D,hz,h3,k _ F H (Step.refl g) rfl bx⟩ hs
  ·cases h1
 ·rename_i ds i;obtain⟨p,vs,rfl,t,r⟩:=B;obtain⟨w,e1,e2⟩:=FN r h1;exact TJ value slice h_ s σ H _ y v u Q I l q ⟨p,vs,i,w,rfl,D,(t.mono g.sub).sq,e1,k _ F H (Step.refl g) e2 bx⟩ hs
 ·rename_i ds i;obtain⟨p,vs,rfl,t,r⟩:=B;obtain⟨w,e1,e2⟩:=FN r h1;exact EY value slice h_ s σ H _ y v u Q I l q ⟨p,vs,i,w,rfl,D,g.sub.seq t,e1,k _ F H (Step.refl g) e2 bx⟩ hs
def gO(K:Fg)(C:Fs)(x:Option Ex):TO:=λσ H Q=>∃ρ o F,Xr C ρ x=a_ o/\Good F H/\mX K F σ ρ/\∀F' H',Step F H F' H'->Q o H'
abbrev SO(X:Cx)(C:Fs)(e:Option be)(x:Option Ex):Prop:=PO X e (gO X.K C x)
def PO.imp{e:Option be}{t t':TO}(h:PO X e t)(f:∀σ H Q,t' σ H Q->t σ H Q):PO X e t':=λh_ s σ H Q I q=>h h_ s σ H Q I (f _ _ _ q)
def MT:SO X C b_ b_:=PO.imp Nz λσ H Q z3=>by
 obtain⟨ρ,o,F,ho,g,R,k⟩:=z3;cases ho;exact k F H (Step.refl g)
def MS(h:SE X C e xa):SO X C (a_ e) (a_ xa):=PO.imp (Ny h) λσ H Q z3=>by
 obtain⟨ρ,o,F,ho,g,R,k⟩:=z3;obtain⟨⟨d,fr⟩,h1,h2⟩:=cY ho
 cases d with
 |int i=>
   cases h2;exact⟨ρ,_,fr,h1,F,g,R,λv F1 H1 st r _=>⟨i,r,k F1 H1 st⟩⟩
 |_=>cases h2
def gSl(K:Fg):V->Option Int->Option Int->Hp->VK->Prop:=λx lo hi H Q=>∃da d fr F,D7 da lo hi=a_ (d,fr)/\Good F H/\Rep K F da x/\∀v F' H',Step F H F' H'->Rep K F' d v->(fr=c_->gD K H H' d v)->Q v H'
def y7{K:Fg}(lo hi:Option Int)(r:cT K F ds vs):cT K F (cutD ds lo hi) (Ds vs lo hi):=by
 unfold cutD Ds;rw[<-r.length];exact(r.drop _).take _
def qJ{s:ak}{sl:aI}{lo:Option Int}(ht:zt s.heap t items)(hs:s.heap.IsSliceOf sl vl vu .none)(pl:rq vl lo)(l:rq vu hi)
  (k:HT.iS items.size 0 lo=0/\HT.iS items.size items.size hi=items.size)
  (h:Q (.ref t) s):aC (aD prog w) A (getItem (.ref t) (.ref sl)) Q E s:=by
 obtain⟨os,d,g,q⟩:=id hs;have j:s.TypeIs (.ref sl) "slice":=⟨os,d,g⟩
 unfold getItem
 try with_reducible refine bZ ?_
 first|refine wb9 (wu9 ?_)|skip
 refine wb9 (wpAny_sequenceKey ht.typeIs (by decide) ?_)
 refine wb9 (cF (name:=ab "__getitem__") ht.typeIs dc
  (bK dc ht.typeIs entry_tuple_getitem ?_ (args_tuple_getitem _ _)))
 show aC _ _ (kn (.ref t) >>= _) _ _ s;refine wb9 (tupleItemsOf_ ht ?_);refine wb9 (iN j ?_);rw[if_pos (by decide)];refine wb9 (HT.mO hs pl l ?_)
 have c:((((HT.iS items.size 0 lo:Nat):Int) == 0 && (1:Int) == 1 && (HT.iS items.size items.size hi - HT.iS items.size 0 lo) == items.size)=c_):=by
  rw[k.1,k.2];simp
 show aC _ _ (if(((HT.iS items.size 0 lo:Nat):Int) == 0 && (1:Int) == 1 && (HT.iS items.size items.size hi - HT.iS items.size 0 lo) == items.size)=c_ then _ else _) _ _ s;rw[if_pos c];refine wb9 (m:=qi (.ref t)) ?_;unfold qi;refine wb9 (iN ht.typeIs (wu9 ?_));rw[if_pos (by decide)];exact wb9 (gf (wu9 ⟨_,rfl,wu9 h⟩))
set_option tactic.hygienic true
def Yp:X0 X (gSl X.K):=by
 intro h_ s σ H x v O R lo hi sl Q I B hs pl D h;obtain⟨da,d,fr,F,h,g,L,k⟩:=h
 cases da with
 |lst ds=>
   cases h;obtain⟨p,vs,rfl,t,r⟩:=L;refine MX h_ s σ H _ v O R lo hi sl Q I B hs pl D ⟨p,vs,rfl,g.sub.seq t,λq y=>?_⟩;have W:=(y7 lo hi r).mono (bY.upd (o:=.lst (Ds vs lo hi)) (g.sub.free y));exact k _ _ _ (Step.alloc g y) ⟨q,_,rfl,.inl (.inl cC),W⟩ λz=>.lst (bY.refl _) y (.jY g z (y7 lo hi r))
 |str z=>
   simp only[D7]at h;split at h
   ·rename_i hz;cases h;rw[L]at B;obtain⟨t,rfl⟩:=B;obtain⟨o,ho,hc,hd⟩:=hs;refine⟨"str",_,PySem.F.slot_str_getitem.lookup,typeIs_str _ _ _,?_⟩;have fin:∀t' k',EP X h_ σ Q (.str (fe z lo hi) t') { s with toks:=k' }:=λt' k'=>⟨.str _,H,I.tok k',⟨t',rfl⟩,k _ F H (Step.refl g) rfl bx⟩
    have c:=aa (zC z lo hi) hz
    cases pl with
    |none=>
      cases D with
      |none=>exact ki (l:=b_) (u:=b_) (st:=b_) ⟨o,ho,hc,hd⟩ rfl (qb ⟨c,fin⟩)
      |int j M=>exact ki (l:=b_) (u:=a_ (j,M)) (st:=b_) ⟨o,ho,hc,hd⟩ rfl (qb ⟨c,fin⟩)
    |int i U=>
      cases D with
      |none=>exact ki (l:=a_ (i,U)) (u:=b_) (st:=b_) ⟨o,ho,hc,hd⟩ rfl (qb ⟨c,fin⟩)
      |int j M=>exact ki (l:=a_ (i,U)) (u:=a_ (j,M)) (st:=b_) ⟨o,ho,hc,hd⟩ rfl (qb ⟨c,fin⟩)
   ·cases h
 |tup ds=>
   cases h;obtain⟨p,vs,rfl,t,r⟩:=L;by_cases J:HT.iS ds.length 0 lo=0/\HT.iS ds.length ds.length hi=ds.length
   ·have e:cutD ds lo hi=ds:=by
     unfold cutD;rw[J.1,J.2,fj,Nat.sub_zero,LQ]
    rw[e]at k;cases B;obtain⟨its,Y,ht,hz⟩:=I.tuple (t.mono g.sub).sq;have hlen:its.toArray.size=ds.length:=by rw[aO,<-Y.length,r.length]
    exact⟨"tuple",_,dc.lookup,ht.typeIs,qJ ht hs pl D (by rw[hlen];exact J) ⟨.ref p,H,I,rfl,k _ F H (Step.refl g) ⟨p,vs,rfl,t,r⟩ bx⟩⟩
   ·refine Ri h_ s σ H _ v O R lo hi sl Q I B hs pl D ⟨p,vs,rfl,(t.mono g.sub).sq,by rw[r.length];exact J,λq y=>?_⟩;exact k _ _ _ (Step.alloc g y) ⟨q,_,rfl,.inl cC,(y7 lo hi r).mono (bY.upd (g.sub.free y))⟩ bx
 |_=>cases h
def VV{lo:Option be}(ha:SE X C a xa)(hl:SO X C lo xb)(hh:SO X C hi xc):SE X C (.Subscript a (.Slice lo hi b_ p2) pos) (.sl xa xb xc):=
 PE.imp (Jz Yp ha hl hh) λσ H Q z3=>by
  obtain⟨ρ,d,fr,h,F,g,R,k⟩:=z3;obtain⟨⟨da,B⟩,h1,h⟩:=cY h;obtain⟨l,h2,h⟩:=cY h;obtain⟨u,h3,h⟩:=cY h;refine⟨ρ,da,B,h1,F,g,R,λv F1 H1 c D _=>⟨ρ,l,F1,h2,c.good,R.mono c.ff,λJ H2 j=>⟨ρ,u,J,h3,j.good,R.mono (c.ff.trans j.ff),λL W q=>?_⟩⟩⟩;exact⟨da,d,fr,L,h,q.good,D.mono (j.ff.trans q.ff),λw M H4 y O U=>k w M H4 (((c.trans j).trans q).trans y) O λz=>(U z).back (F:=F) ((c.hh.trans j.hh).trans q.hh)⟩
def Sj(j:X.A.units+20<dk):jJ X (compareOp .NotEq) (gB X.K (p5 .ne)):=λh_ s σ H x y v u Q I l q c=>by
 obtain⟨da,z,d,fr,h,F,g,B,D,k⟩:=c;obtain⟨b,hd,rfl,rfl⟩:=j8 h;simp only[fQ]at hd;split at hd
 ·rename_i hs;cases hd;simp only[aj]at hs;exact(vz I g 20 X.A da z j hs.1 hs.2 B D l q).2.2 X.prog X.w _ _ ⟨.bl _,H,I,rfl,k _ F H (Step.refl g) rfl bx⟩
 ·cases hd
set_option tactic.hygienic false
def NP:jJ X (compareOp .Is) (gB X.K (p5 .isn)):=jJ.imp Sn λx y H Q j=>by
 obtain⟨da,l,d,fr,h,F,g,c,q,k⟩:=j;obtain⟨b,hd,rfl,rfl⟩:=j8 h
 cases l with
 |non=>
   simp only[fQ,Ze]at hd;cases hd;refine⟨q,?_⟩
   cases da with
   |non=>cases c;exact k _ F H (Step.refl g) rfl bx
   |tup ds=>obtain⟨p,vs,rfl,_⟩:=c;exact k _ F H (Step.refl g) rfl bx
   |lst ds=>obtain⟨p,vs,rfl,_⟩:=c;exact k _ F H (Step.refl g) rfl bx
   |dct _ ds=>obtain⟨p,vs,rfl,_⟩:=c;exact k _ F H (Step.refl g) rfl bx
   |dcn _=>obtain⟨p,vs,rfl,_⟩:=c;exact k _ F H (Step.refl g) rfl bx
   |_=>cases c;exact k _ F H (Step.refl g) rfl bx
 |_=>cases da<;>cases hd
def JG:jJ X (compareOp .IsNot) (gB X.K (p5 .nisn)):=jJ.imp NL λx y H Q j=>by
 obtain⟨da,l,d,fr,h,F,g,c,q,k⟩:=j;obtain⟨b,hd,rfl,rfl⟩:=j8 h
 cases l with
 |non=>
   cases hd;refine⟨q,?_⟩
   cases da with
   |non=>cases c;exact k _ F H (Step.refl g) rfl bx
   |tup ds=>obtain⟨p,vs,rfl,_⟩:=c;exact k _ F H (Step.refl g) rfl bx
   |lst ds=>obtain⟨p,vs,rfl,_⟩:=c;exact k _ F H (Step.refl g) rfl bx
   |dct _ ds=>obtain⟨p,vs,rfl,_⟩:=c;exact k _ F H (Step.refl g) rfl bx
   |dcn _=>obtain⟨p,vs,rfl,_⟩:=c;exact k _ F H (Step.refl g) rfl bx
   |_=>cases c;exact k _ F H (Step.refl g) rfl bx
 |_=>cases da<;>cases hd
end
end M
namespace L2
open PySem PySem.Spec PyProof.Rows
def og(tp:Bool)(h:cx)(it l:aI)(i:Nat):Prop:=match tp with
 |true=>h.IsTupleIter it l i
 |false=>h.IsListIter it l i
def oR(tp:Bool)(h:cx)(l:aI)(xs:Array ah):Prop:=match tp with
 |true=>h.IsTuple l xs
 |false=>h.IsList l xs
def og.keep{h':cx}(y:og tp h it l i)(k:∀o,h.get? it=a_ o->h'.get? it=a_ o):og tp h' it l i:=by
 cases tp<;>exact(let ⟨o,e,r⟩:=y;⟨o,k o e,r⟩)
def oR.keep{h':cx}(y:oR tp h l xs)(k:∀o,h.get? l=a_ o->h'.get? l=a_ o):oR tp h' l xs:=by
 cases tp<;>exact(let ⟨o,e,r⟩:=y;⟨o,k o e,r⟩)
def og.obj(y:og tp h it l i):∃o,h.get? it=a_ o/\o.cls=.type (if tp then "tuple_iterator" else "list_iterator")/\o.data=.fields #[.ref l,.int i 0]:=by
 cases tp<;>exact y
def oR.obj(y:oR tp h l xs):∃o,h.get? l=a_ o/\o.cls=.type (if tp then "tuple" else "list")/\∃n,o.data=.seq xs n:=by
 cases tp<;>exact y
section
open Builtin
variable{A:bT}{s:ak}
def JN(g:s.heap.IsTupleIter it q i)(y:s.heap.IsTuple q xs)(z:xs[i]?=a_ v)
  (k:∀h',h'.IsTupleIter it q (i+1)->cA it s.heap h'->Q v { s with heap:=h' }):aC (aD prog w) A (ee (.ref it)) Q E s:=by
 obtain⟨D,d,B,c⟩:=id g;obtain⟨J,j,_,L,l⟩:=y;refine wb9 (cF g.typeIs f7 (bK f7 g.typeIs qc ?_ (pO _)));show aC (aD prog w) _ (field (.ref it) 0 >>= _) _ _ s;refine wb9 (cV d c rfl ?_);refine wb9 (cV d c rfl ?_);refine wb9 (cW j l ?_);simp only[tF,z];refine wb9 (wpAny_setField d c (by simp) (wu9 ⟨v,rfl,wu9 (k _ ⟨_,eU _ d (Obj.isFreed_of_fields (HY c _)),(Obj.cls_mapFields ..).trans B,?_⟩ (nM ..))⟩));rw[HY c];simp[rawInt]
def NX(v:A.handled=b_)(c:s.heap.IsTupleIter it q i)(y:s.heap.IsTuple q xs)(z:xs[i]?=b_)
  (k:∀h' e,DP it s.heap h'->(∃o,h'.get? e=a_ o/\o.cls=.type "StopIteration")->E (.ref e) { s with heap:=h' }):aC (aD prog w) A (ee (.ref it)) Q E s:=by
 obtain⟨B,d,D,g⟩:=id c;obtain⟨J,j,_,L,l⟩:=y;unfold ee;refine wb9 (cF (name:=ab "__next__") c.typeIs f7 (bK f7 c.typeIs qc ?_ (pO _)));show aC (aD prog w) _ (field (.ref it) 0 >>= _) _ _ s;refine wb9 (cV d g (x:=.ref q) rfl ?_);show aC (aD prog w) _ (if(cG q == dU)=c_ then _ else _) _ _ s;rw[if_neg (show¬((cG q == dU)=c_)from lU)];show aC (aD prog w) _ (field (.ref it) 1 >>= _) _ _ s;refine wb9 (cV d g (x:=.int i 0) rfl ?_);show aC (aD prog w) _ (seqItems? (.ref q) >>= _) _ _ s;refine wb9 (cW j l ?_);simp only[tF,z];refine wb9 (gf (wb9 (wpAny_setField d g (by simp) ?_)));show aC (aD prog w) _ (newExc (.type "StopIteration") [] >>= _) _ _ _;refine wb9 ?_;simp only[newExc,newTuple];refine wb9 (cy (wb9 (m:=firstArgMember _ _) (kh (a:=dU) (by first|rfl|(simp only[firstArgMember];rfl)) (cy ?_ (by size_fits)))) (by size_fits));simp only[raiseNew];refine wb9 (wpAny_handled ?_)
 first|rw[show A.in1.handled=b_ from v]|rw[v]
 exact wb9 (wu9 (wpAny_throw (k _ _ (((nM ..).extBut.push _).push _) ⟨_,aJ _ rfl,rfl⟩)))
def NW(c:og tp s.heap it q i)(d:oR tp s.heap q xs)(g:xs[i]?=a_ v)
  (k:∀h',og tp h' it q (i+1)->cA it s.heap h'->Q v { s with heap:=h' }):aC (aD prog w) A (ee (.ref it)) Q E s:=by
 cases tp
 ·exact wpAny_nextOf_list_item c d g k
 ·exact JN c d g k
def SK(c:A.handled=b_)(d:og tp s.heap it q i)(g:oR tp s.heap q xs)(j:xs[i]?=b_)
  (k:∀h' e,DP it s.heap h'->(∃o,h'.get? e=a_ o/\o.cls=.type "StopIteration")->E (.ref e) { s with heap:=h' }):aC (aD prog w) A (ee (.ref it)) Q E s:=by
 cases tp
 ·exact wpAny_nextOf_list_end c d g j k
 ·exact NX c d g j k
end
noncomputable def YW(tp:Bool):String:=if tp then "tuple_iterator" else "list_iterator"
def C9(tp:Bool)(l:aI):kM:={ cls:=.type (YW tp),data:=.fields #[.ref l,.int 0 0] }
def Ot{h:cx}(e:h.get? it=a_ (C9 tp l)):og tp h it l 0:=by
 cases tp<;>exact⟨_,e,rfl,rfl⟩
section
variable{s:ak}
def GU(c:oR tp s.heap l xs)(k:Q (.ref s.heap.objs.size) { s with heap:=s.heap.push (C9 tp l) }):aC (aD prog w) A (HW (.ref l)) Q E s:=by
 cases tp
 ·exact vQ c k
 ·exact wpAny_pyIter_tuple c k
end
section
end
section
variable{h':cx}
def Inv.tV{t':Nat}{ch:List aI}(I:Inv X h_ σ H s)(k:∀b o,b∉ch->s.heap.get? b=a_ o->h'.get? b=a_ o)(hf:∀b∈ch,qU X h_ H b):Inv X h_ σ H { s with heap:=h',toks:=t' }:=by
 have d:∀b u,H b=a_ u->b∉ch:=λb u e z=>by rw[(hf b z).1]at e;cases e
 refine I.step (λb hb=>⟨(hf b hb).2.2.2.1,(hf b hb).2.1,(hf b hb).2.2.2.2.1,(hf b hb).2.2.2.2.2⟩) (λb o _ _ hc e _=>k b o hc e) (λb o _ _ hc e _=>⟨o.slots,k b o hc e⟩) (λ_ _ _ _ n=>n)
  (λb o hc e=>⟨o,k b o hc e⟩) (λ_ _ e=>e) (λ_ _ _ e=>e) (λb ps e=>⟨#[],by rw[e];simp⟩) (λm g=>?_) (λb u e=>?_) I.bare
 ·obtain⟨o,es,ep,ho,r⟩:=g;exact⟨o,es,ep,k _ o (λz=>(hf _ z).2.1 rfl) ho,r⟩
 ·refine(I.hok b u e).n6 (λc v hc q=>k c v ?_ q) (λ_ q=>q) λ_ _ q=>q
  rcases hc with z|z
  ·rw[z];exact d b u e
  ·exact d c _ z
end
def DF(tp:Bool)(K:aL)(H:Hp)(a:aI)(xs:List V):Prop:=match tp with
 |true=>sx K H a xs
 |false=>mV K H a xs
def DF.inj(I:Inv X h_ σ H s)(h:DF tp X.K H a xs)(h':DF tp X.K H a ys):xs=ys:=by
 cases tp
 ·exact I.mR h h'
 ·exact I.mN h h'
def DF.at (I:Inv X h_ σ H s)(h:DF tp X.K H a xs):∃its:List ah,cM xs its/\oR tp s.heap a its.toArray:=by
 cases tp
 ·obtain⟨its,c,p,_⟩:=I.list h;exact⟨its,c,p.isList⟩
 ·obtain⟨its,c,p,_⟩:=I.tuple h;exact⟨its,c,p⟩
def lK(h:cx)(it:aI)(x:bu)(t:DL)(i:Nat):Prop:=h.IsStrIter it (strIterType x) x t i
def lK.keep{h':cx}(y:lK h it x t i)(k:∀o,h.get? it=a_ o->h'.get? it=a_ o):lK h' it x t i:=let ⟨o,e,r⟩:=y;⟨o,k o e,r⟩
section
open Builtin
variable{A:bT}{s:ak}
def yo(d:lK s.heap it x t i)(g:x.cps[i]?=a_ c)
  (k:∀h',lK h' it x t (i+1)->cA it s.heap h'->Q (.str ⟨#[c]⟩ s.toks) { s with heap:=h',toks:=s.toks+1 }):aC (aD prog w) A (ee (.ref it)) Q E s:=by
 unfold lK strIterType at d k;cases ha:x.cps.all (·< 128)
 ·simp only[ha,bH,if_false]at d k;exact wpAny_nextOf_wide_item d g k
 ·simp only[ha,if_true]at d k;exact wpAny_nextOf_ascii_item d g k
def Cj(d:A.handled=b_)(c:lK s.heap it x t i)(g:x.cps[i]?=b_)
  (k:∀h' e,DP it s.heap h'->(∃o,h'.get? e=a_ o/\o.cls=.type "StopIteration")->E (.ref e) { s with heap:=h' }):aC (aD prog w) A (ee (.ref it)) Q E s:=by
 unfold lK strIterType at c;cases ha:x.cps.all (·< 128)
 ·simp only[ha,bH,if_false]at c;exact wpAny_nextOf_wide_end d c g k
 ·simp only[ha,if_true]at c;exact wpAny_nextOf_ascii_end d c g k
end
noncomputable def pk(x:bu)(t:DL):kM:={ cls:=.type (strIterType x),data:=.fields #[.str x t,.int 0 0] }
def D8{h:cx}(e:h.get? it=a_ (pk x t)):lK h it x t 0:=⟨_,e,rfl,rfl⟩
section
end
noncomputable def XE(x y:bu):It:=
 ⟨λi _=>∃c d,x.cps[i]?=a_ c/\y.cps[i]?=a_ d,
  λi H v H'=>∃T,H T=b_/\v=.ref T/\∃c d,x.cps[i]?=a_ c/\y.cps[i]?=a_ d/\H'=upd H T (.tup [.str ⟨#[c]⟩,.str ⟨#[d]⟩]),
  λi _=>x.cps[i]?=b_\/y.cps[i]?=b_⟩
def K9{A:bT}(hh:A.handled=b_)(it:aI)(x:bu)(t:DL) :
  Draws prog w A it [it] x.cps.size (λi v=>∃u c,x.cps[i]?=a_ c/\v=.str ⟨#[c]⟩ u) (λi h=>lK h it x t i) where
 live:=λ_ _ st=>let ⟨o,ho,_⟩:=st;⟨o,ho⟩
 frame:=λ_ _ _ st j=>st.keep λo e=>j it (by simp) o e
 item:=λi s Q E hi st k=>yo st (c:=x.cps[i]) (by simp[hi]) λh' d g=>k _ h' _ ⟨_,_,by simp[hi],rfl⟩ d g
 done:=λs Q E st l=>Cj hh st (by simp) l
def Hm{A:bT}(hh:A.handled=b_)(it:aI)(x:bu)(t:DL)(i:Nat)(hi:x.cps.size<=i) :
  Draws prog w A it [it] i (λ_ _=>True) (λj h=>j=i/\lK h it x t i) where
 live:=λ_ _ st=>let ⟨o,ho,_⟩:=st.2;⟨o,ho⟩
 frame:=λ_ _ _ st c=>⟨st.1,st.2.keep λo e=>c it (by simp) o e⟩
 item:=λj s Q E d st k=>absurd st.1 (br d)
 done:=λs Q E st g=>Cj hh st.2 (by simp[hi]) g
set_option tactic.hygienic true in
def Ue(x:bu)(t:DL) :
  Meets (fU.«enumerate.__new__» ⟨[.type "enumerate",.str x t],[]⟩) (λ_ R s=>
   R (.ok (.ret (.ref (s.heap.push (pk x t)).objs.size))) { s with heap:=(s.heap.push (pk x t)).push { cls:=.type "enumerate",data:=.fields #[.none,.bool d_,.ref s.heap.objs.size,rawInt 0,.none,.none] } }):=
 .of_wp λprog w A R s h=>by
  obtain⟨hp,g,d,k,os⟩:=s;have j:=sub_enumerate
  wp_walk
  refine wpAny_stack_any λst=>wu9 ?_;split
  ·rename_i c _ _ _ _ _;cases(c == iY "enumerate")
   ·wp_walk using oh (x:=x) (t:=t)
    exact⟨_,rfl,h⟩
   ·wp_walk using oh (x:=x) (t:=t)
    exact⟨_,rfl,h⟩
  ·wp_walk using oh (x:=x) (t:=t)
   exact⟨_,rfl,h⟩
section
variable{s:ak}
def OM
  (k:∀h',IsEnum h' (s.heap.objs.size+1) s.heap.objs.size 0 .none->lK h' s.heap.objs.size x t 0->(∀b o,s.heap.get? b=a_ o->h'.get? b=a_ o)->Q (.ref (s.heap.objs.size+1)) { s with heap:=h' }) :
  aC (aD prog w) A (call (.type "enumerate") [.str x t]) Q E s:=by
 refine HX PySem.F.called_enumerate (by decide) (PySem.F.typeCall_enumerate_1 _) (PySem.F.newCall_enumerate_1 _) (λobj=>ug obj _) PySem.F.entry_enumerate_new (Ue x t) ?_;have d:(s.heap.push (pk x t)).objs.size=s.heap.objs.size+1:=c8 ..;have c:((s.heap.push (pk x t)).push { cls:=.type "enumerate",data:=.fields #[.none,.bool d_,.ref s.heap.objs.size,rawInt 0,.none,.none] }).get? (s.heap.push (pk x t)).objs.size=a_ { cls:=.type "enumerate",data:=.fields #[.none,.bool d_,.ref s.heap.objs.size,rawInt 0,.none,.none] }:=aJ _ rfl;have g:((s.heap.push (pk x t)).push { cls:=.type "enumerate",data:=.fields #[.none,.bool d_,.ref s.heap.objs.size,rawInt 0,.none,.none] }).get? s.heap.objs.size=a_ (pk x t):=hp9 _ (aJ _ rfl);rw[d]at c;rw[d];exact⟨⟨_,c,rfl⟩,k _ c (D8 g) λb o x=>hp9 _ (hp9 _ x)⟩
end
def UU(x:bu):It:=
 ⟨λi H=>i<x.cps.size,λi H v H'=>∃T,H T=b_/\v=.ref T/\∃c,x.cps[i]?=a_ c/\H'=upd H T (.tup [.int i,.str ⟨#[c]⟩]),λi H=>x.cps.size<=i⟩
def Mz{K:aL}(x:bu)(t:DL)(e it:aI)(j:e≠it) :
  Turn P w K (.Tuple elts k pos) (UU x) [e,it] e (λi h=>(∃d,IsEnum h e it i d)/\lK h it x t i) where
 mem:=by simp
 obj:=λi h st c hc=>by
  obtain⟨⟨d,he⟩,o1,e1,_,d1⟩:=st;simp only[aw,bP,or_false]at hc
  rcases hc with rfl|rfl
  ·exact⟨_,he,λv z=>nomatch z⟩
  ·exact⟨_,e1,λv z=>by rw[d1]at z;cases z⟩
 keep:=λi h h' st k=>by
  obtain⟨⟨d,he⟩,h1⟩:=st;exact⟨⟨d,k e (by simp) _ he⟩,h1.keep λo q=>k it (by simp) o q⟩
 item:=by
  intro X B D J hc i h_ s σ H E I hf st L;subst B D J;obtain⟨⟨d,he⟩,h1⟩:=st;refine wpAny_pyNext_enum_itemD (K9 (A:=X.A.in1) (I.ok.hd hc) it x t) he h1 L j (by simp[j]) λv h' l U W Y Z g4 M=>?_;obtain⟨u,c,O,rfl⟩:=U;refine⟨_,rfl,wpAny_letOwnedTupleGo_enum W λh'' R g=>?_⟩
  have kk:∀c o,c∉[e,it]->s.heap.get? c=a_ o->h''.get? c=a_ o:=λc o hc q=>by
   simp only[aw,bP,or_false,not_or]at hc;exact g.extBut c o hc.1 (M c o hc.1 hc.2 q)
  have I1:Inv X h_ σ H { s with heap:=h'',toks:=l+1 }:=I.tV (t':=l+1) kk hf;have nz:s.heap.objs.size≠e:=j2 (hl9 he);have hT:h''.get? s.heap.objs.size=a_ { cls:=.type "tuple",data:=.seq #[.int i l,.str ⟨#[c]⟩ u] }:=g.extBut _ _ nz Z;have y:H s.heap.objs.size=b_:=I.hok.fresh (au _)
  have I2:Inv X h_ σ (upd H s.heap.objs.size (.tup [.int i,.str ⟨#[c]⟩])) { s with heap:=h'',toks:=l+1 }:=by
   refine I1.Iv (I.wd (au _) y) I.sz ⟨by rw[eM];show 2<=16777216;decide,[.int i l,.str ⟨#[c]⟩ u],.cons ⟨_,rfl⟩ (.cons ⟨_,rfl⟩ .nil),?_⟩;exact⟨_,hT,rfl,_,rfl⟩
  refine⟨.ref s.heap.objs.size,_,I2,rfl,⟨_,y,rfl,c,O,rfl⟩,⟨⟨_,by simpa using R⟩,Y.keep λo q=>g.extBut _ o j.symm q⟩,λc hc=>?_⟩;rw[cL ?_]
  ·exact(hf c hc).1
  ·have:c<s.heap.objs.size:=by
    simp only[aw,bP,or_false]at hc
    rcases hc with rfl|rfl
    ·exact hl9 he
    ·obtain⟨_,q,_⟩:=h1;exact hl9 q
   exact br this
 done:=by
  intro X B D J hc i h_ s σ H E I hf st L;subst B D J;obtain⟨⟨d,he⟩,h1⟩:=st;refine wpAny_pyNext_enum_endD (Hm (A:=X.A.in1) (I.ok.hd hc) it x t i L) he ⟨rfl,h1⟩ λh' M=>⟨rfl,I.tV (t':=s.toks) (ch:=[it]) (λc o hc q=>?_) λc hc=>hf c ?_⟩
  ·exact M c o (by simpa using hc) q
  ·simp only[aw,bP,or_false]at hc ⊢;exact .inr hc
 self:=λ_ _ _ _ _ st h=>let ⟨⟨_,he⟩,_⟩:=st;wpAny_pyIter_enum he h
section
open Builtin
variable{A:bT}{s:ak}
structure Xx(z T U i j b:aI):Prop where
 Tz:T≠z
 Uz:U≠z
 iz:i≠z
 jz:j≠z
 TU:T≠U
 Ti:T≠i
 Tj:T≠j
 Ui:U≠i
 Uj:U≠j
 ij:i≠j
 bz:b≠z
 bU:b≠U
 bi:b≠i
 bj:b≠j
def Ms{z T U i j:aI}{p:bu}{tp:DL}{b:aI}{ys:Array ah}{m n x:Nat}{y:ah}{c d:ah}{Q:ah->ak->Prop}(P:Xx z T U i j b)(L:rn s.heap z T U .none)(gT:iO s.heap T (.ref i) (.ref j))(gU:iO s.heap U c d)
  (gi:lK s.heap i p tp m)(gj:og c_ s.heap j b n)(gb:oR c_ s.heap b ys)(gx:p.cps[m]?=a_ x)(gy:ys[n]?=a_ y)
  (k:∀h',rn h' z T U (rawInt s.heap.objs.size)->iO h' U (.str ⟨#[x]⟩ s.toks) y->lK h' i p tp (m+1)->og c_ h' j b (n+1)->iO h' s.heap.objs.size (.str ⟨#[x]⟩ s.toks) y->h'.objs.size=s.heap.objs.size+1->
   (∀e o,e≠z->e≠U->e≠i->e≠j->s.heap.get? e=a_ o->h'.get? e=a_ o)->Q (.ref s.heap.objs.size) { s with heap:=h',toks:=s.toks+1 }) :
  aC (aD prog w) A (fU.«zip.__next__» ⟨[.ref z],[]⟩) (λf s'=>∃v,f=.done (.ret v)/\Q v s') E s:=by
 show aC (aD prog w) _ (field (.ref z) 2 >>= _) _ _ _;refine wb9 (cV L rfl (x:=.bool d_) rfl ?_);show aC (aD prog w) _ (field (.ref z) 3 >>= _) _ _ _;refine wb9 (cV L rfl (x:=.ref T) rfl (wb9 (cW gT rfl ?_)));show aC (aD prog w) _ (rC (.ref z) >>= _) _ _ _;refine wb9 ?_;unfold rC;refine wb9 (cV L rfl (x:=.none) rfl (wu9 ?_));simp only[if_true];refine wb9 (gf (wb9 (cV L rfl (x:=.ref U) rfl (wb9 (bI L (by simp) λh1 B s1=>?_)))));replace B:rn h1 z T U .ellipsis:=B;refine wb9 ?_;simp only[tP,Mm,ox,Pr];refine wb9 (wb9 (tM ?_));show aC (aD prog w) _ (ee (.ref i) >>= _) _ _ _;refine wb9 (yo (gi.keep λo e=>s1.extBut _ o P.iz e) gx λh2 gi2 s2=>wu9 ?_);have M:iO h2 U c d:=s2.extBut _ _ P.Ui (s1.extBut _ _ P.Uz gU);refine wb9 (cW M rfl (wb9 (rk M λh3 D s3=>wb9 (lG (wu9 ?_)))));replace D:iO h3 U (.str ⟨#[x]⟩ s.toks) d:=D;refine wb9 (wb9 (tM ?_));show aC (aD prog w) _ (ee (.ref j) >>= _) _ _ _;refine wb9 (NW (gj.keep λo e=>s3.extBut _ o P.Uj.symm (s2.extBut _ o P.ij.symm (s1.extBut _ o P.jz e))) (gb.keep λo e=>s3.extBut _ o P.bU (s2.extBut _ o P.bi (s1.extBut _ o P.bz e))) gy λh4 gj4 O=>wu9 ?_);have R:iO h4 U (.str ⟨#[x]⟩ s.toks) d:=O.extBut _ _ P.Uj D;refine wb9 (cW R rfl (wb9 (rk R λh5 g W=>wb9 (lG (wu9 (wu9 ?_))))));replace g:iO h5 U (.str ⟨#[x]⟩ s.toks) y:=g;refine wb9 (cW g rfl (wb9 (BW ?_)));have sz:h5.objs.size=s.heap.objs.size:=by rw[W.1,O.1,s3.1,s2.1,s1.1]
 have Y:rn h5 z T U .ellipsis:=W.extBut _ _ P.Uz.symm (O.extBut _ _ P.jz.symm (s3.extBut _ _ P.Uz.symm (s2.extBut _ _ P.iz.symm B)));have k5:∀e o,e≠z->e≠U->e≠i->e≠j->s.heap.get? e=a_ o->h5.get? e=a_ o:=λe o e1 e2 e3 e4 q=>W.extBut _ _ e2 (O.extBut _ _ e4 (s3.extBut _ _ e2 (s2.extBut _ _ e3 (s1.extBut _ _ e1 q))));have gi5:lK h5 i p tp (m+1):=gi2.keep λo e=>W.extBut _ o P.Ui.symm (O.extBut _ o P.ij (s3.extBut _ o P.Ui.symm e));have gj5:og c_ h5 j b (n+1):=gj4.keep λo e=>W.extBut _ o P.Uj.symm e;have Z:z<h5.objs.size:=hl9 Y;show aC (aD prog w) _ (qW (.ref z) (.ref h5.objs.size) >>= _) _ _ _;refine wb9 ?_;unfold qW;have gz6:rn (h5.push { cls:=.type "tuple",data:=.seq #[.str ⟨#[x]⟩ s.toks,y] }) z T U .ellipsis:=hp9 _ Y;refine wb9 (bI gz6 (by simp) λh7 J s7=>?_);replace J:rn h7 z T U (rawInt h5.objs.size):=J;refine bI J (by simp) λh8 l s8=>wu9 ⟨_,rfl,?_⟩;replace l:rn h8 z T U (rawInt h5.objs.size):=l;have up:∀e o,e≠z->h5.get? e=a_ o->h8.get? e=a_ o:=λe o e1 q=>s8.extBut _ _ e1 (s7.extBut _ _ e1 (hp9 _ q));have gN:iO h8 h5.objs.size (.str ⟨#[x]⟩ s.toks) y:=s8.extBut _ _ (j2 Z) (s7.extBut _ _ (j2 Z) (aJ _ rfl));have sz8:h8.objs.size=h5.objs.size+1:=by rw[s8.1,s7.1,c8]
 rw[sz]at l gN sz8;show Q (.ref h5.objs.size) _;rw[sz];exact k h8 l (up _ _ P.Uz g) (gi5.keep λo e=>up _ o P.iz e) (gj5.keep λo e=>up _ o P.jz e) gN sz8 λe o e1 e2 e3 e4 q=>up e o e1 (k5 e o e1 e2 e3 e4 q)
def QD{T U:aI}(Y:A.handled=b_)(P:Xx z T U i j b)(B:rn s.heap z T U .none)(gT:iO s.heap T (.ref i) (.ref j))(gU:iO s.heap U c d)
  (Z:lK s.heap i p tp m)(gj:og c_ s.heap j b n)(gb:oR c_ s.heap b ys)(ge:p.cps[m]?=b_\/ys[n]?=b_)
  (k:∀h' e,(∀e o,e≠z->e≠U->e≠i->e≠j->s.heap.get? e=a_ o->h'.get? e=a_ o)->(∃o,h'.get? e=a_ o/\o.cls=.type "StopIteration")->∀tk,E (.ref e) { s with heap:=h',toks:=tk }) :
  aC (aD prog w) A (fU.«zip.__next__» ⟨[.ref z],[]⟩) Q E s:=by
 show aC (aD prog w) _ (field (.ref z) 2 >>= _) _ _ _;refine wb9 (cV B rfl (x:=.bool d_) rfl ?_);refine wb9 (cV B rfl rfl (wb9 (cW gT rfl ?_)));refine wb9 ?_;refine wb9 (cV B rfl rfl (wu9 ?_));refine wb9 (gf (wb9 (cV B rfl rfl (wb9 (bI B (by simp) λh1 y s1=>?_)))));replace y :=y;refine wb9 ?_;simp only[tP,Mm,ox,Pr];refine wb9 (wb9 (tM ?_))
 cases M:p.cps[m]? with
 |none=>
   refine wb9 (Cj Y (Z.keep λo e=>s1.extBut _ o P.iz e) M λh2 e s2 he=>?_);obtain⟨O,l,v⟩:=he;have D :=s2 _ _ P.iz.symm y;have R:e≠z:=λq=>by subst q;rw[D]at l;cases l;simp at v
   exact bI D (by simp) λh3 _ s3=>k h3 e (λc o c1 _ W _ q=>s3.extBut _ _ c1 (s2 _ _ W (s1.extBut _ _ c1 q))) ⟨O,s3.extBut _ _ R l,v⟩ _
 |some x=>
   have gy:ys[n]?=b_:=by
    rcases ge with g|g
    ·rw[M]at g;cases g
    ·exact g
   refine wb9 (yo (Z.keep λo e=>s1.extBut _ o P.iz e) M λh2 gi2 s2=>wu9 ?_);have J :=s2.extBut _ _ P.Ui (s1.extBut _ _ P.Uz gU);refine wb9 (cW J rfl (wb9 (rk J λh3 gU3 s3=>wb9 (lG (wu9 ?_)))));refine wb9 (wb9 (tM ?_));refine wb9 (SK Y (gj.keep λo e=>s3.extBut _ o P.Uj.symm (s2.extBut _ o P.ij.symm (s1.extBut _ o P.jz e))) (gb.keep λo e=>s3.extBut _ o P.bU (s2.extBut _ o P.bi (s1.extBut _ o P.bz e))) gy λh4 e s4 he=>?_);obtain⟨O,l,v⟩:=he;have L :=s4 _ _ P.jz.symm (s3.extBut _ _ P.Uz.symm (s2.extBut _ _ P.iz.symm y));have R:e≠z:=λq=>by subst q;rw[L]at l;cases l;simp at v
   exact bI L (by simp) λh5 _ s5=>k h5 e (λc o c1 c2 W c4 q=>s5.extBut _ _ c1 (s4 _ _ c4 (s3.extBut _ _ c2 (s2.extBut _ _ W (s1.extBut _ _ c1 q))))) ⟨O,s5.extBut _ _ R l,v⟩ _
def Jk{T U:aI}(P:Xx z T U i j b)(g:rn s.heap z T U .none)(gT:iO s.heap T (.ref i) (.ref j))(l:iO s.heap U c d)
  (q:lK s.heap i p tp m)(v:og c_ s.heap j b n)(B:oR c_ s.heap b ys)(D:p.cps[m]?=a_ x)(J:ys[n]?=a_ y)
  (k:∀h',rn h' z T U (rawInt s.heap.objs.size)->iO h' U (.str ⟨#[x]⟩ s.toks) y->lK h' i p tp (m+1)->og c_ h' j b (n+1)->iO h' s.heap.objs.size (.str ⟨#[x]⟩ s.toks) y->h'.objs.size=s.heap.objs.size+1->
   (∀e o,e≠z->e≠U->e≠i->e≠j->s.heap.get? e=a_ o->h'.get? e=a_ o)->Q (a_ (.ref s.heap.objs.size)) { s with heap:=h',toks:=s.toks+1 }):aC (aD prog w) A (pyNext (.ref z)) Q E s:=by
 have ty:s.TypeIs (.ref z) "zip":=⟨_,g,rfl⟩
 exact wb9 (i6 (cF ty jM (bK jM ty yh (Ms P g gT l q v B D J λh' L M O R W Y Z=>wu9 (k h' L M O R W Y Z)) (wu _))))
def Nq{T U:aI}(q:A.handled=b_)(P:Xx z T U i j b)(g:rn s.heap z T U .none)(gT:iO s.heap T (.ref i) (.ref j))(v:iO s.heap U c d)
  (y:lK s.heap i p tp m)(B:og c_ s.heap j b n)(D:oR c_ s.heap b ys)(ge:p.cps[m]?=b_\/ys[n]?=b_)
  (k:∀h',(∀e o,e≠z->e≠U->e≠i->e≠j->s.heap.get? e=a_ o->h'.get? e=a_ o)->∀l,Q b_ { s with heap:=h',toks:=l }):aC (aD prog w) A (pyNext (.ref z)) Q E s:=by
 have ty:s.TypeIs (.ref z) "zip":=⟨_,g,rfl⟩
 refine wb9 (i6 (cF ty jM (bK jM ty yh (QD q P g gT v y B D ge λh' e J he l=>?_) (wu _))));obtain⟨o,ho,hc⟩:=he;exact wb9 (dF ⟨o,ho,hc⟩ BX (wu9 (k _ J _)))
end
abbrev XI(h:cx)(x:bu)(t:DL)(b:aI):cx:=((h.push (pk x t)).push (C9 c_ b)).push { cls:=.type "tuple",data:=.seq #[.ref h.objs.size,.ref (h.push (pk x t)).objs.size] }
abbrev XH(h:cx)(x:bu)(t:DL)(b:aI):cx:=(XI h x t b).push { cls:=.type "tuple",data:=.seq #[.none,.none] }
abbrev U3(h:cx)(x:bu)(t:DL)(b:aI):cx:=(XH h x t b).push { cls:=.type "zip",data:=.fields #[.none,.bool d_,.bool d_,.ref ((h.push (pk x t)).push (C9 c_ b)).objs.size,.ref (XI h x t b).objs.size] }
def QC(x:bu)(t:DL)(b:aI)(ys:Array ah):Meets (fU.«zip.__new__» ⟨[.type "zip",.str x t,.ref b],[]⟩) (λ_ R s=>oR c_ s.heap b ys/\R (.ok (.ret (.ref (XH s.heap x t b).objs.size))) { s with heap:=U3 s.heap x t b }):=
 .of_wp λprog w A R s q=>by
  obtain⟨hp,g,d,c,os⟩:=s;obtain⟨j,q⟩:=q;have sz:=PySem.sub_zip;have e2:oR c_ (Shared.heap ⟨hp.push { cls:=.type (strIterType x),data:=.fields #[.str x t,.int 0 0] },g,d,c,os⟩) b ys:=oR.keep j λo e=>hp9 _ e
  wp_walk using oh (x:=x) (t:=t),GU e2
  exact⟨_,rfl,q⟩
section
variable{s:ak}
def Mt
  (B:oR c_ s.heap b ys)(k:∀h',rn h' (s.heap.objs.size+4) (s.heap.objs.size+2) (s.heap.objs.size+3) .none->iO h' (s.heap.objs.size+2) (.ref s.heap.objs.size) (.ref (s.heap.objs.size+1))->iO h' (s.heap.objs.size+3) .none .none->
   lK h' s.heap.objs.size x t 0->og c_ h' (s.heap.objs.size+1) b 0->(∀c o,s.heap.get? c=a_ o->h'.get? c=a_ o)->Q (.ref (s.heap.objs.size+4)) { s with heap:=h' }):aC (aD prog w) A (call (.type "zip") [.str x t,.ref b]) Q E s:=by
 refine HX PySem.F.called_zip (by decide) (PySem.F.typeCall_zip_2 _ _) (PySem.F.newCall_zip_2 _ _) (λD=>PySem.F.args_object_init_3 D _ _) PySem.F.entry_zip_new (QC x t b ys) ⟨B,?_⟩;have d:(s.heap.push (pk x t)).objs.size=s.heap.objs.size+1:=c8 ..;have g:((s.heap.push (pk x t)).push (C9 c_ b)).objs.size=s.heap.objs.size+2:=by rw[c8,d]
 have z3:(XI s.heap x t b).objs.size=s.heap.objs.size+3:=by rw[c8,g]
 have l:(XH s.heap x t b).objs.size=s.heap.objs.size+4:=by rw[c8,z3]
 have j:(U3 s.heap x t b).get? (XH s.heap x t b).objs.size=a_ _:=aJ _ rfl;have v:(U3 s.heap x t b).get? (XI s.heap x t b).objs.size=a_ _:=hp9 _ (aJ _ rfl);have y:(U3 s.heap x t b).get? ((s.heap.push (pk x t)).push (C9 c_ b)).objs.size=a_ _:=hp9 _ (hp9 _ (aJ _ rfl));have z:(U3 s.heap x t b).get? (s.heap.push (pk x t)).objs.size=a_ (C9 c_ b):=hp9 _ (hp9 _ (hp9 _ (aJ _ rfl)));have J:(U3 s.heap x t b).get? s.heap.objs.size=a_ (pk x t):=hp9 _ (hp9 _ (hp9 _ (hp9 _ (aJ _ rfl))));rw[g,z3,l]at j;rw[d,g]at y;rw[z3]at v;rw[d]at z;rw[l];exact⟨⟨_,j,rfl⟩,k _ j y v (D8 J) (Ot z) λc o q=>hp9 _ (hp9 _ (hp9 _ (hp9 _ (hp9 _ q))))⟩
end
noncomputable def Itm(K:aL)(x:bu)(b:aI):It:=
 ⟨λi H=>∃c ys y,x.cps[i]?=a_ c/\DF c_ K H b ys/\ys[i]?=a_ y,
  λi H v H'=>∃T,H T=b_/\v=.ref T/\∃c y,x.cps[i]?=a_ c/\(∀ys,DF c_ K H b ys->ys[i]?=a_ y)/\H'=upd H T (.tup [.str ⟨#[c]⟩,y]),
  λi H=>∃ys,DF c_ K H b ys/\(x.cps[i]?=b_\/ys.length<=i)⟩
def Gj{K:aL}(x:bu)(t:DL)(b z TI TO l i2:aI)(D:Xx z TI TO l i2 b) :
  Turn P w K (.Tuple elts k pos) (Itm K x b) [z,TI,TO,l,i2] z (λi h=>rn h z TI TO .none/\iO h TI (.ref l) (.ref i2)/\(∃u v,iO h TO u v)/\lK h l x t i/\og c_ h i2 b i) where
 mem:=by simp
 obj:=λi h st c hc=>by
  obtain⟨hz,g,⟨u,v,j⟩,⟨o1,e1,_,d1⟩,h2⟩:=st;obtain⟨o2,e2,_,d2⟩:=h2.obj;simp only[aw,bP,or_false]at hc
  rcases hc with rfl|rfl|rfl|rfl|rfl
  ·exact⟨_,hz,λv z=>nomatch z⟩
  ·exact⟨_,g,λv z=>nomatch z⟩
  ·exact⟨_,j,λv z=>nomatch z⟩
  ·exact⟨_,e1,λv z=>by rw[d1]at z;cases z⟩
  ·exact⟨_,e2,λv z=>by rw[d2]at z;cases z⟩
 keep:=λi h h' st k=>by
  obtain⟨hz,g,⟨u,v,j⟩,h1,h2⟩:=st;exact⟨k z (by simp) _ hz,k TI (by simp) _ g,⟨u,v,k TO (by simp) _ j⟩,h1.keep λo e=>k l (by simp) o e,h2.keep λo e=>k i2 (by simp) o e⟩
 item:=by
  intro X M O R hc i h_ s σ H E I hf st B;subst M O R;obtain⟨c1,ys,y,hx,hb,hy⟩:=B;obtain⟨j_,q,U⟩:=DF.at I hb;obtain⟨W,Y,Z⟩:=q.get hy;obtain⟨hz,g,⟨w1,w2,j⟩,h1,h2⟩:=st;refine Jk D hz g j h1 h2 U hx (y:=W) (by simpa using Y) λh' g1 g2 g3 g4 g5 g6 L=>?_;refine⟨_,rfl,wpAny_letOwnedTupleGo_zip g1 λh'' g1' d=>?_⟩
  have fc:∀c∈[z,TO,l,i2],qU X h_ H c:=λc hc=>hf c (by
   simp only[aw,bP,or_false]at hc ⊢
   rcases hc with rfl|rfl|rfl|rfl<;>simp)
  have kk:∀c o,c∉[z,TO,l,i2]->s.heap.get? c=a_ o->h''.get? c=a_ o:=λc o hc e=>by
   simp only[aw,bP,or_false,not_or]at hc;exact d.extBut c o hc.1 (L c o hc.1 hc.2.1 hc.2.2.1 hc.2.2.2 e)
  have I1:Inv X h_ σ H { s with heap:=h'',toks:=s.toks+1 }:=I.tV (t':=s.toks+1) kk fc;have nz:s.heap.objs.size≠z:=j2 (hl9 hz);have hT:h''.get? s.heap.objs.size=a_ { cls:=.type "tuple",data:=.seq #[.str ⟨#[c1]⟩ s.toks,W] }:=d.extBut _ _ nz g5;have J:H s.heap.objs.size=b_:=I.hok.fresh (au _)
  have I2:Inv X h_ σ (upd H s.heap.objs.size (.tup [.str ⟨#[c1]⟩,y])) { s with heap:=h'',toks:=s.toks+1 }:=by
   refine I1.Iv (I.wd (au _) J) I.sz ⟨by rw[eM];show 2<=16777216;decide,[.str ⟨#[c1]⟩ s.toks,W],.cons ⟨_,rfl⟩ (.cons Z .nil),?_⟩;exact⟨_,hT,rfl,_,rfl⟩
  refine⟨.ref s.heap.objs.size,_,I2,rfl,⟨_,J,rfl,c1,y,hx,λys' h1=>by rw[DF.inj I h1 hb];exact hy,rfl⟩,⟨g1',?_,⟨_,_,d.extBut _ _ D.Uz g2⟩,g3.keep λo e=>d.extBut _ o D.iz e,g4.keep λo e=>d.extBut _ o D.jz e⟩,λc hc=>?_⟩
  ·exact d.extBut _ _ D.Tz (L _ _ D.Tz D.TU D.Ti D.Tj g)
  ·rw[cL ?_]
   ·exact(hf c hc).1
   ·have:c<s.heap.objs.size:=by
     simp only[aw,bP,or_false]at hc
     rcases hc with rfl|rfl|rfl|rfl|rfl
     ·exact hl9 hz
     ·exact hl9 g
     ·exact hl9 j
     ·obtain⟨_,e,_⟩:=h1;exact hl9 e
     ·obtain⟨_,e,_⟩:=h2.obj;exact hl9 e
    exact br this
 done:=by
  intro X M O R hc i h_ s σ H E I hf st B;subst M O R;obtain⟨hz,g,⟨w1,w2,j⟩,h1,h2⟩:=st;obtain⟨ys,hb,B⟩:=B;obtain⟨j_,q,U⟩:=DF.at I hb;refine Nq (I.ok.hd hc) D hz g j h1 h2 U (B.imp id λh=>by simpa [q.length]using h) λh' L tk=>⟨rfl,I.tV (t':=tk) (ch:=[z,TO,l,i2]) (λc o hc e=>?_) λc hc=>hf c ?_⟩
  ·simp only[aw,bP,or_false,not_or]at hc;exact L c o hc.1 hc.2.1 hc.2.2.1 hc.2.2.2 e
  ·simp only[aw,bP,or_false]at hc ⊢
   rcases hc with rfl|rfl|rfl|rfl<;>simp
 self:=λ_ _ _ _ _ st h=>wpAny_pyIter_zip st.1 h
end L2
namespace M
open PySem PySem.Spec PyProof.Rows L2
section
variable{X:Cx}{a b:be}{pos:zp}{σ:St}{F H:Hp}{iter:be}
theorem zJ:∀(xs ys:List Dat) (i:Nat),(n5 xs ys)[i]?=match xs[i]?,ys[i]? with
  |some x,a_ y=>a_ (.tup [x,y])
  |_,_=>b_
 |[],_,_=>by simp[n5]
 |_::_,[],i=>by
   have:∀o:Option Dat,(match o,(b_:Option Dat)with|some x,a_ y=>a_ (Dat.tup [x,y])|_,_=>b_)=b_:=λo=>by cases o<;>rfl
   simp[n5]
 |x::xs,y::ys,0=>by simp[n5]
 |x::xs,y::ys,i+1=>by simp only[n5,bO];exact zJ xs ys i
theorem zI:∀(xs ys:List Dat),(n5 xs ys).length=min xs.length ys.length
 |[],_=>by simp[n5]
 |_::_,[]=>by simp[n5]
 |x::xs,y::ys=>by simp only[n5,a8,zI xs ys];simp
def XZ(tp:Bool)(K:Fg)(F:Hp)(a:aI)(vs:List V):Prop:=match tp with
 |true=>Tq K F a vs
 |false=>mV K F a vs
def XZ.up{tp:Bool}{K:Fg}{F F' H:Hp}{a:aI}{vs:List V}(h:XZ tp K F a vs)(s:bY F F')(g:Good F' H):DF tp K H a vs:=by
 cases tp
 ·exact g.sub.seq (s.seq h)
 ·exact((Tq.mono s h).mono g.sub).sq
def WV(K:Fg)(ta:TA):TI:=λσ H R=>ta σ H λvs H1=>∃x b,vs=[.str x,.ref b]/\(∃ys,DF c_ K H1 b ys)/\R (L2.Itm K x b) H1
def NA(z:Gl X "zip")(B:X.mg "zip"=b_)(ha:PA X [a,b] ta)(hs:aS [a,b] X.env=[(d_,eval a X.env),(d_,eval b X.env)])(d:aS [b] X.env=[(d_,eval b X.env)]) :
  PI X (.Tuple elts k tpos) (.Call (.Name "zip" p) [a,b] [] pos) (WV X.K ta):=by
 intro h_ s σ H R I h;refine Call_ (lu I z B (by decide +kernel:bootBuiltins "zip"=a_ (.type "zip")) (c7 (iM (ha pos h_ s σ H _ I h) λus s1 ⟨vs,H1,l,D,J⟩=>?_) (by rw[hs,d]) (by rw[d];rfl)));obtain⟨x,b,e,⟨ys,L⟩,q⟩:=J;subst e
 cases D with
 |cons r v=>
   cases v with
   |cons M v=>
     cases v;obtain⟨t,rfl⟩:=r;cases M;obtain⟨j_,O,g⟩:=DF.at l L;have n2:@LT.lt Nat _ b s1.heap.objs.size:=by obtain⟨_,e,_⟩:=g.obj;exact hl9 e
     refine Mt g λh' y U W Y Z kk=>?_;have I2:Inv X h_ σ H1 { s1 with heap:=h' }:=l.kept kk
     refine wpAny_pyIter_zip y ⟨_,[s1.heap.objs.size+4,s1.heap.objs.size+2,s1.heap.objs.size+3,s1.heap.objs.size,s1.heap.objs.size+1],_,_,H1,rfl,I2,
      Gj x t b _ _ _ _ _ ⟨?_,?_,?_,?_,?_,?_,?_,?_,?_,?_,?_,?_,?_,?_⟩,⟨y,U,⟨_,_,W⟩,Y,Z⟩,λc hc=>?_,q⟩
     all_goals try (show@Ne Nat _ _;omega)
     have j:s1.heap.objs.size<=c:=by
      simp only[aw,bP,or_false]at hc
      rcases hc with rfl|rfl|rfl|rfl|rfl<;>first|exact aX _ _|exact au _
     exact l.wd j (l.hok.fresh j)
def signs_get(x:bu)(i:Nat):((dY x).map Dat.str)[i]?=(x.cps[i]?).map λc=>.str ⟨#[c]⟩:=by
 unfold dY;rw[aN,aN,dM];cases x.cps[i]?<;>rfl
def G9{K:Fg}{F1:Hp}(x:bu){b:aI}{us:List V}{es:List Dat}(h':Tq K F1 b us)(k:cT K F1 es us):kg K F1 (L2.Itm K x b) (n5 ((dY x).map .str) es):=λF H g s=>by
 have c:DF c_ K H b us:=XZ.up h' s g;refine⟨λi d hd=>?_,λi hi=>⟨us,c,?_⟩⟩
 ·rw[zJ,signs_get]at hd
  cases e1:x.cps[i]? with
  |none=>rw[e1]at hd;cases hd
  |some c1=>
    cases e2:es[i]? with
    |none=>rw[e1,e2]at hd;cases hd
    |some d2=>
      rw[e1,e2]at hd;cases hd;obtain⟨j,l,B⟩:=k.get e2;refine⟨⟨c1,us,j,e1,c,l⟩,λv H' z=>?_⟩;obtain⟨T,q,rfl,d1,M,y,D,rfl⟩:=z;rw[e1]at y;cases y;have J:=aW (l.symm.trans (D us c));subst J;refine⟨_,Step.alloc g q,⟨T,_,rfl,.inl cC,?_⟩⟩;have L:bY F1 (upd F T (.tup [.str ⟨#[c1]⟩,j])):=s.trans (bY.upd (g.sub.free q));exact⟨_,_,rfl,rfl,j,[],rfl,B.mono L,rfl⟩
 ·rw[zI]at hi;simp only[dY,ai,ba]at hi;rw[k.length];have:x.cps.size<=i\/es.length<=i:=by omega
  exact this.imp (λz=>fG z) id
def QE(h:Px ds=a_ items):∃x ys,ds=[.str x,.tup ys]/\items=n5 ((dY x).map .str) ys:=by
 obtain⟨a,b,rfl⟩:∃a b,ds=[a,b]:=by
  cases ds with
  |nil=>cases h
  |cons a r=>
    cases r with
    |nil=>cases h
    |cons b r=>
      cases r with
      |nil=>exact⟨a,b,rfl⟩
      |cons _ _=>cases h
 have h:zip2 a b=a_ items:=h
 cases a with
 |str x=>
   cases b with
   |tup ys=>cases h;exact⟨_,_,rfl,rfl⟩
   |_=>cases h
 |_=>cases h
def Rj(q:Gl X "zip")(y:X.mg "zip"=b_)(ha:SA X C [a,b] [xa,xb])(hs:aS [a,b] X.env=[(d_,eval a X.env),(d_,eval b X.env)])(c:aS [b] X.env=[(d_,eval b X.env)]) :
  SI X C (.Tuple elts k tp) (.Call (.Name "zip" p) [a,b] [] pos) (.zip [xa,xb]):=λh_ s σ H R I z=>by
 obtain⟨ρ,items,F,hi,g,B,kk⟩:=z;obtain⟨ds,h1,h2⟩:=cY hi;obtain⟨x,ys,rfl,rfl⟩:=QE h2;refine NA q y ha hs c h_ s σ H R I ⟨ρ,_,h1,F,g,B,λvs F1 H1 st r=>?_⟩;obtain⟨v,w,rfl,D,M,O,rfl,J,e3⟩:=r;cases e3;cases D;obtain⟨L,d,rfl,l,j⟩:=J;exact⟨x,L,rfl,⟨d,XZ.up l (bY.refl _) st.good⟩,kk _ F1 H1 st (G9 x l j)⟩
theorem Bi:∀(xs:List Dat)(k i:Nat),(we k xs)[i]?=(xs[i]?).map λx=>.tup [.int (k+i:Nat),x]
 |[],_,_=>by simp[we]
 |x::xs,k,0=>by simp[we]
 |x::xs,k,i+1=>by
   simp only[we,bO];rw[Bi xs (k+1) i]
   congr 2
   funext y;rw[show k+1+i=k+(i+1)from(jy _ _ _)]
theorem Bh:∀(xs:List Dat)(k:Nat),(we k xs).length=xs.length
 |[],_=>rfl
 |x::xs,k=>by simp only[we,a8,Bh xs (k+1)]
def iEs(ta:TA):TI:=λσ H R=>ta σ H λvs H1=>∃x,vs=[.str x]/\R (UU x) H1
def Wh(l:Gl X "enumerate")(v:X.mg "enumerate"=b_)(ha:PA X [a] ta)(hs:aS [a] X.env=[(d_,eval a X.env)]) :
  PI X (.Tuple elts k tpos) (.Call (.Name "enumerate" p) [a] [] pos) (iEs ta):=by
 intro h_ s σ H R I h;refine Call_ (lu I l v (by decide +kernel:bootBuiltins "enumerate"=a_ (.type "enumerate")) (c7 (iM (ha pos h_ s σ H _ I h) λus s1 ⟨vs,H1,g,y,z⟩=>?_) (by rw[hs];rfl) (by rfl)));obtain⟨x,e,q⟩:=z;subst e;obtain⟨u,rfl,t,rfl⟩:=vals1 y;refine OM λh' j B kk=>?_;have D:Inv X h_ σ H1 { s1 with heap:=h' }:=g.kept kk;refine wpAny_pyIter_enum j ⟨_,[s1.heap.objs.size+1,s1.heap.objs.size],_,_,H1,rfl,D,Mz x t _ _ ?_,⟨⟨_,j⟩,B⟩,λc hc=>?_,q⟩
 ·simp
 have d:s1.heap.objs.size<=c:=by
  simp only[aw,bP,or_false]at hc
  rcases hc with rfl|rfl<;>first|exact aX _ _|exact au _
 exact g.wd d (g.hok.fresh d)
def Oq{K:Fg}:kg K F1 (UU x) (we 0 (x.cps.toList.map λc=>Dat.str ⟨#[c]⟩)):=λF H g s=>by
 refine⟨λi d hd=>?_,λi hi=>?_⟩
 ·rw[Bi,aN,LP]at hd;obtain⟨c,hc,rfl⟩:=eD hd;have j:x.cps[i]?=a_ c:=by simpa using hc
  have hi:i<x.cps.size:=(bR.mp j).1;refine⟨hi,λv H' y=>?_⟩;obtain⟨T,k,rfl,c2,h2,rfl⟩:=y;rw[j]at h2;cases h2;refine⟨_,Step.alloc g k,⟨T,_,rfl,.inl cC,?_⟩⟩;exact⟨.int i,[.str ⟨#[c]⟩],rfl,by rw[gG];exact rfl,.str ⟨#[c]⟩,[],rfl,rfl,rfl⟩
 ·rw[Bh]at hi;show x.cps.size<=i;simpa using hi
def Ro(c:Gl X "enumerate")(j:X.mg "enumerate"=b_)(ha:SA X C [a] [xa])(hs:aS [a] X.env=[(d_,eval a X.env)]) :
  SI X C (.Tuple elts k tp) (.Call (.Name "enumerate" p) [a] [] pos) (.enu xa):=λh_ s σ H R I l=>by
 obtain⟨ρ,items,F,hi,g,q,kk⟩:=l;obtain⟨⟨d,fr⟩,h1,h2⟩:=cY hi;obtain⟨xs,h3,y⟩:=eD h2;subst y
 obtain⟨z,rfl⟩:∃z,d=.str z:=by
  cases d with
  |str z=>exact⟨z,rfl⟩
  |_=>cases h3
 cases h3;refine Wh c j ha hs h_ s σ H R I ⟨ρ,[.str z],by simp only[kR,h1,bw,bV],F,g,q,λvs F1 H1 st r=>?_⟩;obtain⟨v,w,rfl,B,e3⟩:=r;cases e3;cases B;exact⟨z,rfl,kk _ F1 H1 st Oq⟩
def sg{f:List Dat->g_}{K:Fg}{xs:List V}{H:Hp}{Q:VK}(hf:∀ds d fr,f ds=a_ (d,fr)->ds.length=1)(h:gL K f xs H Q) :
  ∃da d fr F v,f [da]=a_ (d,fr)/\xs=[v]/\Good F H/\Rep K F da v/\∀w F' H',Step F H F' H'->Rep K F' d w->(fr=c_->gD K H H' d w)->Q w H':=by
 obtain⟨ds,d,fr,h1,F,g,r,k⟩:=h
 match ds,hf ds d fr h1 with
 |[da],_=>
   obtain⟨v,w,rfl,j,c⟩:=r;cases c;exact⟨da,d,fr,F,v,h1,rfl,g,j,k⟩
def LA:∀{ds:List Dat}{r:Dat×Bool},b1 f ds=a_ r->ds.length=1
 |[_],_,_=>rfl
 |[],_,h=>by cases h
 |_::_::_,_,h=>by cases h
def oQ{b:XG}:∀ds d fr,gW b ds=a_ (d,fr)->ds.length=1:=λds d fr h=>by
 cases b<;>first|exact LA h|cases h
set_option tactic.hygienic true
def Hv:lF X (.builtin "len") (gL X.K (gW .len)):=λh_ s σ H xs us Q I r h=>by
 obtain⟨da,d,fr,F,v,h1,rfl,g,c,k⟩:=sg oQ h
 cases da with
 |lst ds=>
   cases h1;obtain⟨p,vs,rfl,t,j⟩:=c;refine qQ h_ s σ H _ us Q I r ⟨p,vs,rfl,.inl (g.sub.seq t),?_⟩;rw[j.length];exact k _ F H (Step.refl g) rfl bx
 |tup ds=>
   cases h1;obtain⟨p,vs,rfl,t,j⟩:=c;refine qQ h_ s σ H _ us Q I r ⟨p,vs,rfl,.inr (t.mono g.sub).sq,?_⟩;rw[j.length];exact k _ F H (Step.refl g) rfl bx
 |str z=>
   simp only[gW,b1,Xv]at h1;split at h1
   ·rename_i hz;cases h1;cases c;exact zh h_ s σ H _ us Q I r ⟨z,rfl,hz,k _ F H (Step.refl g) rfl bx⟩
   ·cases h1
 |dct ks ds=>
   cases h1;obtain⟨p,k_,rfl,l,rfl,y⟩:=c;obtain⟨u,rfl,q⟩:=vals1 r;cases q;refine Xb I (.inl (g.sub _ _ l)) λt s' I'=>⟨.int _,H,I',⟨t,rfl⟩,?_⟩
   have e1:k_.length=(k_.map (·.1)).length:=(ai ..).symm;rw[e1];exact k _ F H (Step.refl g) rfl bx
 |_=>cases h1
def Hu:lF X (.type "str") (gL X.K (gW .str)):=λh_ s σ H xs us Q I r h=>by
 obtain⟨da,d,fr,F,v,h1,rfl,g,c,k⟩:=sg oQ h
 cases da with
 |int i=>
   simp only[gW,b1,Xs]at h1;split at h1
   ·rename_i hl;cases h1;cases c;exact zf h_ s σ H _ us Q I r ⟨i,rfl,hl,k _ F H (Step.refl g) rfl bx⟩
   ·cases h1
 |_=>cases h1
set_option tactic.hygienic false
def Dv:lF X (.type "list") (gL X.K (gW .list)):=λh_ s σ H xs us Q I r h=>by
 obtain⟨da,d,fr,F,v,h1,rfl,g,j,k⟩:=sg oQ h
 have fin:∀{vs:List V}{ds:List Dat},cT X.K F ds vs->(d,fr)=(Dat.lst ds,jL ds)->∀l,H l=b_->Q (.ref l) (upd H l (.lst vs)):=λ{vs ds}c e l hl=>by
  cases e;have q:=c.mono (bY.upd (o:=.lst vs) (g.sub.free hl));exact k _ _ _ (Step.alloc g hl) ⟨l,vs,rfl,.inl (.inl cC),q⟩ λz=>.lst (bY.refl _) hl (.jY g z c)
 cases da with
 |lst ds=>
   obtain⟨p,vs,rfl,t,c⟩:=j;exact qP h_ s σ H _ us Q I r ⟨p,vs,rfl,.inl (g.sub.seq t),fin c (aW h1).symm⟩
 |tup ds=>
   obtain⟨p,vs,rfl,t,c⟩:=j;exact qP h_ s σ H _ us Q I r ⟨p,vs,rfl,.inr (t.mono g.sub).sq,fin c (aW h1).symm⟩
 |_=>cases h1
def Bv:lF X (.type "tuple") (gL X.K (gW .tuple)):=λh_ s σ H xs us Q I r h=>by
 obtain⟨da,d,fr,F,v,h1,rfl,g,j,k⟩:=sg oQ h
 cases da with
 |lst ds=>
   cases h1;obtain⟨p,vs,rfl,t,c⟩:=j;exact pH h_ s σ H _ us Q I r ⟨p,vs,rfl,.inl ⟨g.sub.seq t,λl hl=>k _ _ _ (Step.alloc g hl) ⟨l,vs,rfl,.inl cC,c.mono (bY.upd (g.sub.free hl))⟩ bx⟩⟩
 |tup ds=>
   cases h1;obtain⟨p,vs,rfl,t,c⟩:=j;exact pH h_ s σ H _ us Q I r ⟨p,vs,rfl,.inr ⟨(t.mono g.sub).sq,k _ F H (Step.refl g) ⟨p,vs,rfl,t,c⟩ bx⟩⟩
 |_=>cases h1
theorem xx{K:Fg}:∀{ds:List Dat}{is:List Int}{vs:List V}{us:List ah},sV ds=a_ is->cT K F ds vs->cM vs us->BO us is
 |[],is,vs,us,h,r,w=>by
   cases h;rw[r]at w;cases w;exact .nil
 |d::ds,is,vs,us,h,c,w=>by
   obtain⟨v,r,e,h1,h2⟩:=c;subst e
   cases d with
   |int i=>
     obtain⟨g,hb,h⟩:=eD h;cases h;cases h1
     cases w with
     |cons q w=>obtain⟨t,rfl⟩:=q;exact .cons i t (xx hb h2 w)
   |_=>cases h
def lD(o:Vp):List Dat->g_
 |[x,y]=>hJ o x y
 |_=>b_
end
section
variable{X:Cx}{pos:zp}{xs:List Ex}{F H:Hp}{iter:be}
noncomputable def tyName:Ty->String
 |.int=>"int"
 |.bool=>"bool"
 |.str=>"str"
 |.tuple=>"tuple"
 |.list=>"list"
noncomputable def WN:Dat->String
 |.non=>"NoneType"
 |.bl _=>"bool"
 |.int _=>"int"
 |.str _=>"str"
 |.tup _=>"tuple"
 |.lst _=>"list"
 |.dct _ _=>"dict"
 |.dcn _=>"dict"
def Tu(K:Fg)(t:Ty)(d:Dat):PySem.W.kitOne K (.type (WN d)) (.type (tyName t))=a_ (Km t d):=by
 cases t<;>cases d<;>rfl
def Yx(K:Fg)(t:Ty):List V->Hp->VK->Prop:=λxs H Q=>∃da F v,xs=[v,.ty (tyName t)]/\Good F H/\Rep K F da v/\Q (.bl (Km t da)) H
def Hw:lF X (.builtin "isinstance") (Yx X.K t):=λh_ s σ H xs us Q I r h=>by
 obtain⟨da,F,v,rfl,g,d,q⟩:=h;obtain⟨u,w,rfl,j,k⟩:=vals2 r;obtain rfl:w=.type (tyName t):=k;have e:=Tu X.K t da;have fin:∀l,EP X h_ σ Q (.bool (Km t da)) { s with toks:=l }:=λl=>⟨.bl _,H,I.tok l,rfl,q⟩
 cases da with
 |non=>cases d;obtain rfl:u=.none:=j;exact fZ PySem.W.kitx_none I.C4 kA e (λz=>nomatch z) fin
 |bl y=>cases d;obtain rfl:u=.bool y:=j;exact fZ PySem.W.kitx_bool I.C4 kA e (λz=>nomatch z) fin
 |int y=>cases d;obtain⟨c,rfl⟩:=j;exact fZ PySem.W.kitx_int I.C4 kA e (λz=>nomatch z) fin
 |str y=>cases d;obtain⟨c,rfl⟩:=j;exact fZ PySem.W.kitx_str I.C4 kA e (λz=>nomatch z) fin
 |tup ds=>
   obtain⟨p,vs,rfl,c,_⟩:=d;obtain rfl:u=.ref p:=j;obtain⟨its,_,⟨o,h1,h2,_⟩,_⟩:=I.tupR g c;exact fZ PySem.W.kitx_tuple I.C4 ⟨o,h1,h2⟩ e (λz=>nomatch z) fin
 |lst ds=>
   obtain⟨p,vs,rfl,c,_⟩:=d;obtain rfl:u=.ref p:=j;obtain⟨its,_,⟨o,n,h1,h2,_⟩,_⟩:=I.lstR g c;exact fZ PySem.W.kitx_list I.C4 ⟨o,h1,h2⟩ e (λz=>nomatch z) fin
 |dct ks ds=>
   obtain⟨p,k_,rfl,c,_⟩:=d;obtain rfl:u=.ref p:=j;obtain⟨_,_,_,_,o,es,ep,h1,h2,_⟩:=I.hok p _ (g.sub _ _ c);exact fZ DK I.C4 ⟨o,h1,h2.1⟩ e (λz=>nomatch z) fin
 |dcn ks=>
   obtain⟨p,xs,rfl,c,_⟩:=d;obtain rfl:u=.ref p:=j;obtain⟨_,_,o,es,ep,h1,h2,_⟩:=I.hok p _ (g.sub _ _ c);exact fZ DK I.C4 ⟨o,h1,h2.1⟩ e (λz=>nomatch z) fin
def RB(t:Ty)(z:Gl X "isinstance")(B:X.mg "isinstance"=b_)(c:Gl X x)(j:X.mg x=b_)(l:bootBuiltins x=a_ (.type (tyName t)))(ha:SE X C a xa)(D:x≠"__name__")(q:(x == ("__debug__":bu))=d_)
  (he:aS [a,.Name x p2] X.env=(d_,eval a X.env)::aS [.Name x p2] X.env)(y:(backTo pos (aS [.Name x p2] X.env)).any (·.1)=d_) :
  SE X C (.Call (.Name "isinstance" p) [a,.Name x p2] [] pos) (.blt (.isi t) [xa]):=
 PE.imp (Ap Hw z B (by decide +kernel:bootBuiltins "isinstance"=a_ (.builtin "isinstance")) (t4 ha (t4 (NG c j l (v:=.ty (tyName t)) rfl D q) CK) he) (by decide) (by decide) he y) λσ H Q z3=>by
  obtain⟨ρ,d,fr,h,F,g,R,k⟩:=z3;obtain⟨ds,h1,h2⟩:=cY h;obtain⟨⟨da,J⟩,h3,h1⟩:=cY h1;cases h1;cases h2;exact⟨ρ,da,J,h3,F,g,R,λv F1 H1 st r _=>⟨da,F1,v,rfl,st.good,r,k _ F1 H1 st rfl bx⟩⟩
end
end M
namespace L2
open PySem PySem.Spec PyProof.Rows
def zV:Me "reversed" "__init__" "object.__init__":=.of (owner:="object") (n:="__init__") (by kernel_rfl) (by decide +kernel) (by decide +kernel) (by decide +kernel) (.inl (by decide +kernel)) (by kernel_rfl)
def Du:TypeCalled "reversed" "reversed.__new__" "object.__init__":=⟨by decide +kernel,PySem.F.create_reversed,⟨_,_,PySem.F.mro_reversed⟩,PySem.F.made_reversed,by decide +kernel,PySem.F.sub_reversed_self,zV⟩
section
end
def sX:entryFor table "reversed.__next__"=a_ fU.«reversed.__next__» :=entryFor_of_tree (by kernel_rfl)
def kr:Me "reversed" "__next__" "reversed.__next__":=.of (owner:="reversed") (n:="__next__") (by kernel_rfl) (by decide +kernel) (by decide +kernel) (by decide +kernel) (.inl (by decide +kernel)) (by kernel_rfl)
def Sf:F9.lookup (Ma ['d','e','s','r','e','v','e','r'].reverse)=a_ Manifest.sig_reversed:=by kernel_rfl
def tv(a:ah):argsOk "reversed.__next__" ⟨[a],[]⟩:=by
 kernel_rfl
def Bk:entryFor table "reversed.__iter__"=a_ fU.«dict_keyiterator.__iter__» :=BY (id':="dict_keyiterator.__iter__") (by kernel_rfl) rfl (by decide +kernel) (by kernel_rfl)
def sL:Me "reversed" "__iter__" "reversed.__iter__":=.of (owner:="reversed") (n:="__iter__") (by kernel_rfl) (by decide +kernel) (by decide +kernel) (by decide +kernel) (.inl (by decide +kernel)) (by kernel_rfl)
def BF(a:ah):argsOk "reversed.__iter__" ⟨[a],[]⟩:=by
 unfold argsOk;rw[signature?_of (id:="reversed.__iter__") (n:=['_','_','r','e','t','i','_','_']) (o:=['d','e','s','r','e','v','e','r']) (by kernel_rfl) Sf];kernel_rfl
section
end
def C0:typeLookup (.type "tuple") "__reversed__"=pure b_:=by kernel_rfl
def zR:isSubtype (.type "tuple") (.type "dict")=pure d_:=by rw[isSubtype_type];kernel_rfl
noncomputable abbrev Nh(p:aI)(i:Int):kM:={ cls:=.type "reversed",data:=.fields #[.ref p,rawInt i] }
def RL(p:aI)(its:Array ah)(c:¬(its.size:Int)>=2 ^ 63):Meets (fU.«reversed.__new__» ⟨[.type "reversed",.ref p],[]⟩) (λ_ R s=>zt s.heap p its/\∀d,R (.ok (.ret (.ref s.heap.objs.size))) { s with heap:=s.heap.push (Nh p ((its.size:Int) - 1)),toks:=d }):=
 .of_wp λprog w A R s g=>by
  obtain⟨ht,q⟩:=g;refine wb9 (kh (newClass_reversed _) ?_);refine wb9 (kh (by first|rfl|kernel_rfl) ?_);refine wb9 (kh (by first|rfl|kernel_rfl) ?_);refine wb9 (fJ ht.typeIs C0 ?_);refine wb9 ?_;refine wb9 (dF ht.typeIs zR ?_);refine wb9 (fJ ht.typeIs uf.lookup ?_);refine kh (by first|rfl|kernel_rfl) ?_;refine wb9 (tO ht (rJ.mp c) ?_);show aC (aD prog w) _ (newObj (.type "reversed") (.fields [cG p,rawInt ((its.size) - 1)].toArray) >>= _) _ _ _;refine wb9 (cy ?_ (by size_fits));exact wu9 ⟨_,rfl,q _⟩
section
variable{s:ak}
def Ng(ht:zt s.heap p its)(d:¬(its.size:Int)>=2 ^ 63)(k:∀c,Q (.ref s.heap.objs.size) { s with heap:=s.heap.push (Nh p ((its.size:Int) - 1)),toks:=c }):aC (aD prog w) A (call (.type "reversed") [.ref p]) Q E s:=by
 refine HX Du (by decide) (PySem.F.typeCall_reversed_1 _) (PySem.F.newCall_reversed_1 _) (λg=>ug g _) PySem.F.entry_reversed_new (RL p its d) ?_;exact⟨ht,λc=>⟨⟨_,aJ _ rfl,rfl⟩,k c⟩⟩
end
section
variable{A:bT}{s:ak}{its:Array ah}
def uJ(y:s.heap.get? I=a_ (Nh p i)):s.TypeIs (.ref I) "reversed":=⟨_,y,rfl⟩
def Nf(d:its.size<=aB)(c:j<its.size)(ht:zt s.heap p its)(y:s.heap.get? I=a_ (Nh p j))(k:∀h' l,h'.get? I=a_ (Nh p ((j:Int) - 1))->cA I s.heap h'->Q (a_ its[j]) { s with heap:=h',toks:=l }) :
  aC (aD prog w) A (pyNext (.ref I)) Q E s:=by
 refine wb9 (i6 (cF (uJ y) kr (bK kr (uJ y) sX ?_ (tv _))));show aC (aD prog w) _ (field (.ref I) 0 >>= _) _ _ s;refine wb9 (cV y rfl (x:=.ref p) rfl ?_);refine wb9 (cV y rfl rfl ?_);refine wb9 (fJ ht.typeIs uf.lookup ?_);refine wb9 (wpAny_mkInt ?_);have hz :=d
 have hs:seqIndex? (j) its.size=a_ j:=by
  unfold seqIndex?;have q:¬(j:Int)<0:=by omega
  simp[c,q]
 refine wb9 (i6 (qY ht (by simp) (fK (oA.mpr (aa c hz)) (by decide)) hs (aF c) ?_));refine wb9 (cV y rfl rfl ?_);refine wb9 (bI y (by simp) λh' g v=>?_);exact wu9 ⟨_,rfl,wu9 (k h' _ g v)⟩
def RM(c:A.handled=b_)(y:s.heap.get? I=a_ (Nh p (-1)))(k:∀h',(∀b o,b≠I->s.heap.get? b=a_ o->h'.get? b=a_ o)->Q b_ { s with heap:=h' }) :
  aC (aD prog w) A (pyNext (.ref I)) Q E s:=by
 refine wb9 (i6 (cF (uJ y) kr (bK kr (uJ y) sX ?_ (tv _))));show aC (aD prog w) _ (field (.ref I) 0 >>= _) _ _ s;refine wb9 (cV y rfl (x:=.ref p) rfl ?_);refine wb9 (cV y rfl rfl ?_);refine wb9 (gf ?_);refine wb9 ?_;refine wb9 (bI y (by simp) λh1 d s1=>bI d (by simp) λh2 g s2=>?_);refine wb9 (tW c λh' e kp he=>?_);obtain⟨o,ho,hc⟩:=he;exact wb9 (dF ⟨o,ho,hc⟩ BX (wu9 (k _ λb o n q=>kp _ _ (s2.extBut _ _ n (s1.extBut _ _ n q)))))
end
end L2
namespace M
open PySem PySem.Spec PyProof.Rows L2
theorem wO:∀{us:List ah}{is:List bu},pQ us is->cM (is.map V.str) us
 |_,_,.nil=>.nil
 |_,_,.cons n t h=>.cons ⟨t,rfl⟩ (wO h)
theorem Yr{K:Fg}:∀(is:List bu),cT K F (is.map Dat.str) (is.map V.str)
 |[]=>rfl
 |i::is=>⟨_,_,rfl,rfl,Yr is⟩
theorem WU:∀(is:List bu),jL (is.map Dat.str)=c_
 |[]=>rfl
 |i::is=>by rw[ax];simp only[jL,im,zy];exact WU is
section
end
section
end
section
variable{X:Cx}{iter:be}{ifs:List be}
def M6(j:X.calm=c_)(S:jq X scope tn cn caps)(hi:SI X C tg iter it)(k:pJ tn.length g)(l:UO X.K tn.length one g)
  (q:∀(cl:List (bu×aI))(c:ak)(d:Hp)(Ca:aI)(ex:List aI),PG (e9 X scope cl (tn++cn) c d Ca ex) tg g)
  (ht:∀(cl:List (bu×aI))(c:ak)(d:Hp)(Ca:aI)(ex:List aI),L6 (e9 X scope cl (tn++cn) c d Ca ex) ifs (Va X.K C xs))
  (he:∀(cl:List (bu×aI))(c:ak)(d:Hp)(Ca:aI)(ex:List aI),SE (e9 X scope cl (tn++cn) c d Ca ex) C elt xe)
  (hs:∀x,foldedSetIterable iter X.env x=pure x):SE X C (.ListComp elt [⟨tg,iter,ifs,0⟩] scope pos) (.comp tn.length one caps it xs xe):=
 PE.imp (NC j S hi q k ht he hs) (xO l λ_ _ _=>trivial)
def Co{j:zp}(z:X.N.Nodup)(q:X.N[i]?=a_ x)(B:Loc X.env.scope x)(k:X.calm=c_)(S:jq X scope tn cn caps)(hi:SI X C tg iter it)(l:pJ tn.length g)(v:UO X.K tn.length one g)
  (D:∀(cl:List (bu×aI))(c:ak)(d:Hp)(Ca:aI)(ex:List aI),PG (e9 X scope cl (tn++cn) c d Ca ex) tg g)
  (ht:∀(cl:List (bu×aI))(c:ak)(d:Hp)(Ca:aI)(ex:List aI),L6 (e9 X scope cl (tn++cn) c d Ca ex) ifs (Va X.K C xs))
  (he:∀(cl:List (bu×aI))(c:ak)(d:Hp)(Ca:aI)(ex:List aI),SE (e9 X scope cl (tn++cn) c d Ca ex) C elt xe)
  (y:swapsWith (.ListComp elt [⟨tg,iter,ifs,0⟩] scope pos) (a_ (.Name x pos')) j.line X.env=pure c_)
  (hs:∀x,foldedSetIterable iter X.env x=pure x)(hf:X.fn x=c_\/X.env.scope.names.lookup x=a_ .local) :
  SS X C (.Assign [.Name x pos'] (.ListComp elt [⟨tg,iter,ifs,0⟩] scope pos) j) (.set i (.comp tn.length one caps it xs xe)):=
 PS.imp (CF z q B k S hi D l ht he y hs hf) (zZ (xO v λ_ _ _=>trivial))
end
def UN(K:Fg)(one:Bool)(j:List Nat)(g:TG):Prop:=∀Fz H₀ F H σ ρ d x ρ1 Q,Rl K Fz H₀ F H σ ρ->Rep K F d x->iV one j d ρ=a_ ρ1->(∀c,Rl K Fz H₀ F H c ρ1->Q c H)->g x σ H Q
def MA{K:Fg}:UN K c_ [i] (kL i):=λFz H₀ F H σ ρ d x ρ1 Q R r hb k=>by
 simp only[iV,hV]at hb;subst hb;exact k _ (R.Cu r)
def XT:List Nat->Qy
 |[]=>Hi
 |i::is=>xD (kL i) (XT is)
theorem KL{K:Fg}:∀(g:List Nat){σ:St}{ρ:dI},Rl K Fz H₀ F H σ ρ->∀ds:List Dat,ds.length=g.length->(∀c,Rl K Fz H₀ F H c (oX g ds ρ)->Q c H)->∀vs,cT K F ds vs->XT g vs σ H Q
 |[],σ,ρ,R,ds,hz,k,vs,r=>by
   cases ds with
   |nil=>exact⟨r,k _ R⟩
   |cons _ _=>cases hz
 |i::is,σ,ρ,R,ds,hz,k,vs,r=>by
   cases ds with
   |nil=>cases hz
   |cons d ds=>
     obtain⟨v,w,e,j,l⟩:=r;subst e;exact⟨v,w,rfl,KL is (R.Cu j) ds (by simpa using hz) k w l⟩
set_option tactic.hygienic true in
def Iy{K:Fg}:UN K d_ ts (KJ K ts.length (XT ts)):=λFz H₀ F H σ ρ d x ρ1 Q R r hb k=>by
 simp only[iV]at hb
 cases d with
 |tup ds=>
   dsimp only at hb;split at hb
   ·rename_i hz;cases hb;obtain⟨a,vs,rfl,t,r⟩:=r;refine⟨a,vs,rfl,(t.mono R.step.good.sub).sq,by rw[r.length];exact hz,?_⟩;exact KL ts R ds hz k vs r
   ·cases hb
 |_=>cases hb
section
variable{X:Cx}{iter:be}{pos:zp}
def K1{K:Fg}(R:Rl K Fz H₀ F H σ ρ)(h:Ud C (.rng es) ρ=a_ (items,ρ'))
  (k:∀J F1 H1,bY F F1->Rl K Fz H₀ F1 H1 σ ρ'->kg K (vt (.rng es) F1) J items->Q J H1):gI K C (.rng es) σ H Q:=by
 simp only[Ud]at h;obtain⟨ds,h1,h⟩:=eD h;cases h;obtain⟨g,sp,d⟩:=R.i5;refine⟨_,_,g,h1,d.step.good,d.full,λJ F1 H1 st ok=>?_⟩;have c:=Step.shrink R.step.good sp st;exact k J _ H1 c.ff (R.moved c) ok
def vy{K:Fg}(R:Rl K Fz H₀ F H σ ρ)(h:(yX C it (zN (mG is ρ))).map (λds=>(ds,mG is ρ))=a_ (items,ρ'))
  (k:∀J F1 H1,bY F F1->Rl K Fz H₀ F1 H1 σ ρ'->kg K (vt it F1) J items->Q J H1):gI K C it σ H Q:=by
 obtain⟨ds,h1,h⟩:=eD h;cases h;obtain⟨c,s2,R2⟩:=R.freeze is;exact⟨_,_,c,h1,R2.step.good,R2.zN,λJ F1 H1 st ok=>k J F1 H1 (s2.trans st.ff) (R2.moved st) ok⟩
def qC{K:Fg}{D:Ends}(Y:UN K one ts g)(s1:bY F F1)(R1:Rl K Fz H₀ F1 H1 σ ρ')(le:∀y,bY F1 y->bY F0 y)(ok:kg K F0 J items)
  (h:jd (iV one ts) (dP C xs) items ρ'=a_ out)(k:vp K Fz H₀ F D out):∃W:Nat->Nat->St->Hp->Prop,(∃m,W 0 m σ H1)/\∀i m σ H,W i m σ H->
   (J.stop i H/\D.nx σ H)\/(J.go i H/\∃N:St->Hp->Prop,(∀c H',N c H'->∃B,B<m/\W (i+1) B c H')/\∀x H',J.yld i H x H'->g x σ H' λσ2 H2=>ZM K C xs { D with nx:=N,ct:=N,bk:=D.nx } σ2 H2):=by
 refine⟨λi m σ H=>∃F ρ,Rl K Fz H₀ F H σ ρ/\bY F1 F/\jd (iV one ts) (dP C xs) (items.drop i) ρ=a_ out/\m=items.length - i/\i<=items.length,⟨items.length,F1,ρ',R1,bY.refl _,h,rfl,aR _⟩,?_⟩;rintro i m σ2 H2 ⟨y,Z,R2,s2,hl,rfl,hi'⟩;obtain⟨okg,Ws⟩:=ok y H2 R2.step.good (le y s2);by_cases j:i<items.length
 ·obtain⟨go,yl⟩:=okg i items[i] (af j);refine .inr ⟨go,λc H'=>∃B,B<items.length - i/\∃F ρ,Rl K Fz H₀ F H' c ρ/\bY F1 F/\jd (iV one ts) (dP C xs) (items.drop (i+1)) ρ=a_ out/\B=items.length - (i+1)/\i+1<=items.length,λc H' z=>z,λx H3 y3=>?_⟩;obtain⟨F3,L,r3⟩:=yl x H3 y3;rw[eR j]at hl;simp only[jd]at hl;obtain⟨M,hb3,hl⟩:=cY hl;obtain⟨o,ho,hl⟩:=cY hl;refine Y Fz H₀ F3 H3 σ2 Z _ x M _ (R2.moved L) r3 hb3 λσ4 R4=>?_;have l:bY F1 F3:=s2.trans L.ff;refine⟨Fz,H₀,F3,M,o,ho,R4,?_⟩
  cases o with
  |nx q=>exact λO H5 v R U=>⟨items.length - (i+1),by omega,O,q,U,l.trans R,hl,rfl,j⟩
  |ct q=>exact λO H5 v R U=>⟨items.length - (i+1),by omega,O,q,U,l.trans R,hl,rfl,j⟩
  |bk q=>
    cases hl;exact λO H5 v R U=>k O H5 v ((s1.trans l).trans R) U
  |rt d fr=>
    cases hl;exact k
 ·have e:i=items.length:=bA hi' (bF j);subst e;rw[tR]at hl;simp only[jd]at hl;cases hl;exact .inl ⟨Ws _ (au _),k y H2 σ2 (s1.trans s2) R2⟩
def yq(hp:sD (aD X.prog X.w) X.A X.env X.xe)(hc:X.calm=c_)(hi:SI X C tg iter it)(c:∀a,it≠.itv a)(j:PG X tg g)(d:UN X.K one ts g)(hb:L5 X C body xs)
  (hs:∀x,foldedSetIterable iter X.env x=pure x):SS X C (.For tg iter body [] pos) (.loop one ts it xs):=
 PS.imp (Jp hp hc hi j hb hs) λD σ H z3=>by
  obtain⟨Fz,H₀,F,ρ,out,h,R,k⟩:=z3;obtain⟨⟨items,ρ'⟩,h1,h⟩:=cY h;have fin:∀J F1 H1,bY F F1->Rl X.K Fz H₀ F1 H1 σ ρ'->kg X.K (vt it F1) J items->_:=λJ F1 H1 s1 l ok=>qC d s1 l (λq s=>A4 s) ok h k
  cases it with
  |itv a=>exact absurd rfl (c a)
  |rng es=>exact K1 R h1 fin
  |zip es=>exact vy R h1 fin
  |enu a=>exact vy R h1 fin
  |rev a=>exact vy R h1 fin
def MP(hp:sD (aD X.prog X.w) X.A X.env X.xe)(hc:X.calm=c_)(he:SE X C iter xe)(B:PG X tg g)(c:UN X.K one ts g)(hb:L5 X C body xs)
  (hs:∀x,foldedSetIterable iter X.env x=pure x):SS X C (.For tg iter body [] pos) (.loop one ts (.itv xe) xs):=
 PS.imp (Jp hp hc (PI.or (PI.or (Ey he) (Jt he)) (Ju he)) B hb hs) λD σ H z3=>by
  obtain⟨Fz,H₀,F,ρ,out,h,R,k⟩:=z3;obtain⟨⟨items,ρ'⟩,h1,h⟩:=cY h;obtain⟨⟨d,fr,ρ1⟩,h2,h3⟩:=cY h1;obtain⟨ds,q,h5⟩:=eD h3;cases h5
  cases d with
  |lst es=>
    cases q;refine .inl (.inl (yW R h2 λv Fm F' H' j l st r f=>?_));obtain⟨p,vs,rfl,t,y⟩:=r;exact⟨p,rfl,⟨vs,st.good.sub.seq t⟩,qC (D:=D) c (j.trans st.ff) (l.moved st) (λz s=>s) (xu t y) h k⟩
  |tup es=>
    cases q;refine .inl (.inr (yW R h2 λv Fm F' H' j l st r f=>?_));obtain⟨p,vs,rfl,t,y⟩:=r;exact⟨p,rfl,⟨vs,(t.mono st.good.sub).sq⟩,qC (D:=D) c (j.trans st.ff) (l.moved st) (λz s=>s) (AM t y) h k⟩
  |str x=>
    cases q;refine .inr (yW R h2 λv Fm F' H' j l st r f=>?_);cases r;exact⟨x,rfl,qC (D:=D) c (j.trans st.ff) (l.moved st) (λz s=>s) AN h k⟩
  |_=>cases q
def IF{HN:be}(hp:sD (aD X.prog X.w) X.A X.env X.xe)(hc:ST X C HN xc)(hb:L5 X C body xs):SS X C (.While HN body [] pos) (.Vq xc xs):=
 PS.imp (Jn hp hc hb) λD σ H z3=>by
  obtain⟨Fz,H₀,F,ρ,out,h,R,k⟩:=z3;have h:zL (λρ=>(bE C xc (full ρ)).bind λx=>fL x.1) (dP C xs) ng ρ=a_ out:=h;generalize ng=n at h;refine⟨λm σ H=>∃F1 ρ,Rl X.K Fz H₀ F1 H σ ρ/\bY F F1/\zL (λρ=>(bE C xc (full ρ)).bind λx=>fL x.1) (dP C xs) m ρ=a_ out,⟨n,F,ρ,R,bY.refl _,h⟩,?_⟩;rintro m J H1 ⟨F1,ρ1,L,s1,c⟩
  cases m with
  |zero=>cases c
  |succ m=>
    obtain⟨b,M,c⟩:=cY c;obtain⟨⟨d,fr⟩,h1,hz⟩:=cY M;obtain⟨Z,sp,W⟩:=L.i5;refine⟨_,d,fr,b,h1,hz,Z,W.step.good,W.full,λF2 H2 st=>?_⟩;have j:=Step.shrink L.step.good sp st;have R2:=L.moved j
    cases b with
    |false=>
      refine C8 ?_;cases c;exact k _ H2 J (s1.trans j.ff) R2
    |true=>
      refine C7 ?_;obtain⟨o,ho,c⟩:=cY c;refine⟨λq H'=>∃Y,Y<m+1/\∃F1 ρ,Rl X.K Fz H₀ F1 H' q ρ/\bY F F1/\zL (λρ=>(bE C xc (full ρ)).bind λx=>fL x.1) (dP C xs) Y ρ=a_ out,λq H' z=>z,?_⟩;refine⟨Fz,H₀,_,ρ1,o,ho,R2,?_⟩;have O:=s1.trans j.ff
      cases o with
      |nx g=>exact λv U l y B=>⟨m,by omega,v,g,B,O.trans y,c⟩
      |ct g=>exact λv U l y B=>⟨m,by omega,v,g,B,O.trans y,c⟩
      |bk g=>
        cases c;exact λv U l y B=>k v U l (O.trans y) B
      |rt d fr=>
        cases c;exact k
set_option tactic.hygienic true in
def Q0(he:SE X C e xe)(c:UN X.K d_ ts tg')(j:PG X tgt tg')
  (hs:swapsWithSole [tgt] e pos.line X.env=pure d_)(l:swappedStores [tgt] e X.env=pure b_)(h1:(assignEach [tgt] X.env).map (·.2)=[assign tgt X.env]):SS X C (.Assign [tgt] e pos) (.Vs ts xe):=
 PS.imp (CG he j hs l h1) λD σ H z3=>by
  obtain⟨Fz,H₀,F,ρ,out,h,R,k⟩:=z3;obtain⟨⟨d,fr,ρ'⟩,h1,h⟩:=cY h
  cases d with
  |tup ds=>
    have h:(if ds.length=ts.length then a_ (Out.nx (oX ts ds ρ'))else b_)=a_ out:=h;split at h
    ·rename_i hz;cases h;refine yW R h1 λv Fm F' H' q y st r f=>?_;refine c Fz H₀ F' H' σ ρ' (.tup ds) v (oX ts ds ρ') _ (y.moved st) r ?_ λg z=>k F' H' g (q.trans st.ff) z;simp only[iV];rw[if_pos hz]
    ·cases h
  |_=>cases h
end
section
variable{K:Fg}{base:cx}
set_option tactic.hygienic true in
def T7{st:kX}(F:X5 K x qual st f fd)(S:qV N ps (dW st))(B:ps.length<=N.length)
  (c:∀(cdv:ah)(A:bT)(outer:List Po)(s:ak)(H:Hp)(E:XK),mW k (A.deeper (envOfC qual (dW st) s.heap.objs.size f cdv))->
   L5 (Bo Hz P w K mg base N qual (dW st) f cdv A outer s H E).U6 C (o7 st) body):nK P w K mg base Hz (k+1) f fd ps (Rf K ps.length (OL C ps.length N.length body)):=by
 refine F.ok S (λvs H Q E h=>h.1) λcdv A outer s H vs Q E D h=>⟨_,c cdv A outer s H E D,?_⟩
 obtain⟨hl,ds,d,fr,he,Fz,g,r,y⟩:=h;unfold OL at he;split at he
 ·rename_i z;obtain⟨o,ho,he⟩:=cY he;refine⟨Fz,H,Fz,_,o,ho,⟨Step.refl g,?_,λi d' q=>?_,λ_=>[],λi d' q=>?_,λi j d1 d2 J l U=>?_⟩,?_⟩
  ·unfold L2.start;simp[hl,z]
  ·have hi:i<ds.length:=by
    by_cases hi:i<ds.length
    ·exact hi
    ·rw[aH (by simpa using hi),eB]at q;split at q<;>cases q
   rw[aQ (by simpa using hi),aN]at q;obtain⟨d2,e1,e2⟩:=eD q;cases e2;obtain⟨v,e3,L⟩:=r.get e1;refine⟨v,?_,L⟩;unfold L2.start;rw[aQ (by simp;exact aa hi (aa (ae z) (ae hl.symm))),aN,e3];rfl
  ·exfalso;by_cases hi:i<ds.length
   ·rw[aQ (by simpa using hi),aN]at q;obtain⟨d2,e1,e2⟩:=eD q;cases e2
   ·rw[aH (by simpa using hi),eB]at q;split at q<;>cases q
  ·exfalso;by_cases hi:i<ds.length
   ·rw[aQ (by simpa using hi),aN]at l;obtain⟨d2,e1,e2⟩:=eD l;cases e2
   ·rw[aH (by simpa using hi),eB]at l;split at l<;>cases l
  ·cases o with
   |nx ρ'=>
     cases he;exact λF' H' M s' R=>y _ F' H' R.step rfl bx
   |rt d' O=>
     cases he;exact y
   |bk _=>cases he
   |ct _=>cases he
 ·cases he
end
theorem cZ.take{K:Fg}:∀(n:Nat){ds:List Dat}{vs:List V}{S:List aI},cZ K H ds vs S->∃c g,cZ K H (ds.take n) (vs.take n) c/\cZ K H (ds.drop n) (vs.drop n) g/\S=c++g
 |0,ds,vs,S,h=>⟨[],S,⟨rfl,rfl⟩,h,rfl⟩
 |n+1,[],vs,S,h=>by
   obtain⟨rfl,rfl⟩:=h;exact⟨[],[],⟨rfl,rfl⟩,⟨rfl,rfl⟩,rfl⟩
 |n+1,d::ds,vs,S,k=>by
   obtain⟨v,r,c,g,e,h1,h2,q⟩:=k;subst e q;obtain⟨j,l,y,z,B⟩:=cZ.take n h2;exact⟨c++j,l,⟨v,r.take n,c,j,rfl,h1,y,rfl⟩,z,by rw[B,aE]⟩
theorem cZ.setAt{K:Fg}{T:List aI}(h':lL K H d' v' T):∀(n:Nat){ds:List Dat}{vs:List V}{S:List aI},n<ds.length->cZ K H ds vs S->∃c g l,cZ K H (ds.set n d') (vs.set n v') (c++T++l)/\S=c++g++l
 |n,[],vs,S,j,h=>absurd j (by simp)
 |0,d::ds,vs,S,_,k=>by
   obtain⟨v,r,c,g,e,h1,h2,q⟩:=k;subst e q;exact⟨[],c,g,⟨v',r,T,g,rfl,h',h2,by simp⟩,by simp⟩
 |n+1,d::ds,vs,S,j,k=>by
   obtain⟨v,r,c,g,e,h1,h2,q⟩:=k;subst e q;obtain⟨y,B,z,D,J⟩:=cZ.setAt h' n (by simpa using j) h2;refine⟨c++y,B,z,⟨v,r.set n v',c,y++T++z,rfl,h1,D,by simp⟩,by rw[J];simp⟩
section
variable{K:Fg}
def Rl.mut(R:Rl K Fz H₀ F H σ ρ)(O:Ow K H₀ F H σ ρ Ss)(hi:ρ[i]?=a_ (a_ (d,c_)))(J:σ[i]?=a_ (a_ v))
  (hl:l∈Ss i)(Y:Hy o')(o:lL K (upd H l o') d' v S')(nd:S'.Nodup)(L:∀a∈S',a∈Ss i\/(F a=b_/\H₀ a=b_/\∀(j:Nat)d2,ρ[j]?=a_ (a_ (d2,c_))->a∉Ss j)) :
  Rl K Fz H₀ F (upd H l o') σ (ρ.set i (a_ (d',c_))):=by
 obtain⟨w,e1,e2,e3,M⟩:=O.own i d hi;have Z :=(M l hl).1;have h0 :=(M l hl).2;obtain⟨ol,U,mul⟩:=e2.vA _ l hl;have nt:∀vs,H l≠a_ (.tup vs):=λvs z=>by rw[U]at z;cases z;exact mul
 refine⟨⟨⟨λa u q=>?_,λa us q=>?_⟩,R.step.ff,λa u q=>?_,R.step.un⟩,by simpa using R.len,λj d2 q=>?_,λj=>if j=i then S' else Ss j,λj d2 q=>?_,λj k d1 d2 B q1 W=>?_⟩
 ·rw[cL (eL q Z)];exact R.step.good.sub a u q
 ·by_cases ha:a=l
  ·subst ha;rw[cC]at q;cases q;exact Y.elim
  ·rw[cL ha]at q;exact R.step.good.tup a us q
 ·rw[cL (eL q h0)];exact R.step.hh a u q
 ·rcases iD q with⟨rfl,e⟩|⟨g,D⟩
  ·cases e
  ·exact R.val j d2 D
 ·rcases iD q with⟨rfl,e⟩|⟨g,D⟩
  ·cases e;rw[if_pos rfl];refine⟨v,J,o,nd,λa m=>?_⟩
   rcases L a m with m|m
   ·exact M a m
   ·exact⟨m.1,m.2.1⟩
  ·rw[if_neg (eK g)];obtain⟨w,g1,g2,g3,g4⟩:=O.own j d2 D;exact⟨w,g1,g2.upd nt d2 (O.sep i j d d2 g hi D l hl),g3,g4⟩
 ·intro a m
  rcases iD q1 with⟨rfl,e⟩|⟨h1,y⟩
  ·rw[if_pos rfl]at m
   rcases iD W with⟨e2,_⟩|⟨h2,c⟩
   ·exact absurd e2 B
   ·rw[if_neg (eK h2)]
    rcases L a m with m|m
    ·exact O.sep _ k d d2 h2 hi c a m
    ·exact m.2.2 k d2 c
  ·rw[if_neg (eK h1)]at m
   rcases iD W with⟨rfl,e⟩|⟨h2,c⟩
   ·rw[if_pos rfl];intro m2
    rcases L a m2 with m2|m2
    ·exact O.sep _ j d d1 h1 hi y a m2 m
    ·exact m2.2.2 j d1 y m
   ·rw[if_neg (eK h2)];exact O.sep j k d1 d2 B y c a m
def Step.Vt(st:Step F H F' H')(g:Good F H)(d:∀a∈S,H a=b_)(o:cZ K H' ds vs S):Step F H (uz F' S) H':=by
 refine⟨⟨λa o' q=>?_,λa vs q=>?_⟩,λa o' q=>?_,st.hh,λa o' q n=>?_⟩
 ·by_cases m:a∈S
  ·rw[wJ m]at q;cases q
  ·rw[oE m]at q;exact st.good.sub a o' q
 ·rw[oE λm=>?_]
  ·exact st.good.tup a vs q
  ·obtain⟨u,c,j⟩:=o.vA _ a m;rw[q]at c;cases c;exact j
 ·rw[oE λm=>?_]
  ·exact st.ff a o' q
  ·rw[g.sub.free (d a m)]at q;cases q
 ·by_cases m:a∈S
  ·exact wJ m
  ·rw[oE m];exact st.un a o' q n
def yY(R:Rl K Fz H₀ F H σ ρ)(h:nE C es (M.full ρ)=a_ (ds,c_))
  (k:∀vs F' H' S,Step F H F' H'->cZ K H' ds vs S->S.Nodup->(∀a∈S,H a=b_/\F' a=b_)->Q vs H'):gF K C es σ H Q:=by
 obtain⟨g,sp,d⟩:=R.i5;refine⟨_,ds,c_,h,g,d.step.good,d.full,λvs F1 H1 st r f=>?_⟩;obtain⟨S,n,e1,o⟩:=f rfl;have c:=Step.shrink R.step.good sp st;exact k vs _ H1 S (Step.Vt c R.step.good e1 o) o n λa m=>⟨e1 a m,wJ m⟩
end
noncomputable def TF:V->Option Key
 |.int i=>a_ (.inl i)
 |.str x=>a_ (.inr x)
 |_=>b_
def Kf(h:TF v=a_ k):v=kV k:=by
 cases v<;>first|(cases h;rfl)|cases h
def Oo(k:Key):TF (kV k)=a_ k:=by cases k<;>rfl
noncomputable def rN(k:Key)(y:V):List (Key×V)->List (Key×V)
 |[]=>[(k,y)]
 |p::r=>if p.1=k then(p.1,y)::r else p::rN k y r
theorem Ej:∀(r:List (Key×V)),(r.any λc=>decide (c.1=k))=d_->r.map (λc=>if c.1=k then(c.1,y)else c)=r
 |[],_=>rfl
 |p::r,h=>by
   rw[jj,Bool.or_eq_false_iff]at h;rw[ax,if_neg (of_decide_eq_false h.1),Ej r h.2]
theorem Er:∀(k_:List (Key×V)),Av k (k_.map (·.1))=c_->putK k_ k y=rN k y k_
 |[],_=>rfl
 |p::r,h=>by
   simp only[ax,Av]at h;by_cases e:p.1=k
   ·rw[if_pos e]at h
    have h2:(r.any λc=>decide (c.1=k))=d_:=by
     simp only[jX]at h;rw[List.any_map]at h;exact h
    unfold putK rN;rw[if_pos e,if_pos (by rw[jj,decide_eq_true e];rfl),ax,if_pos e,Ej r h2]
   ·rw[if_neg e]at h;have d:=Er (y:=y) r h;unfold rN;rw[if_neg e,<-d];unfold putK;rw[jj,decide_eq_false e,Bool.false_or];split
    ·rw[ax,if_neg e]
    ·rfl
theorem wW:∀(k_:List (Key×V))(ds:List Dat),ds.length=k_.length->(rN k y k_).map (·.1)=(putD k d (k_.map (·.1)) ds).1
 |[],ds,h=>by
   cases ds with
   |nil=>rfl
   |cons _ _=>cases h
 |p::r,[],h=>by cases h
 |p::r,e::ds,h=>by
   have c:=wW (k:=k) (y:=y) (d:=d) r ds (by simpa using h);simp only[rN,ax,putD];by_cases q:p.1=k
   ·rw[if_pos q,if_pos q];rfl
   ·rw[if_neg q,if_neg q,ax,c]
theorem cZ.put{K:Fg}{T:List aI}(o:lL K H d y T)(B:T.Nodup):∀(k_:List (Key×V)) (ds:List Dat) (S:List aI),cZ K H ds (k_.map (·.2)) S->S.Nodup->(∀a∈S,a∉T)->
  ∃S',cZ K H (putD k d (k_.map (·.1)) ds).2 ((rN k y k_).map (·.2)) S'/\S'.Nodup/\∀a∈S',a∈S\/a∈T
 |[],[],S,os,g,c=>⟨T,.one o,B,λa m=>.inr m⟩
 |[],e::ds,S,os,g,c=>by
   obtain⟨v,r,D,j,q,_⟩:=os;cases q
 |p::r,[],S,os,g,c=>by
   obtain⟨q,_⟩:=os;cases q
 |p::r,e::ds,S,os,g,c=>by
   obtain⟨v,U,D,j,q,M,J,rfl⟩:=os;cases q;have l:=ck.mp g;simp only[rN,ax,putD];by_cases q:p.1=k
   ·rw[if_pos q,if_pos q];refine⟨T++j,⟨y,r.map (·.2),T,j,rfl,o,J,rfl⟩,ck.mpr ⟨B,l.2.1,λa m b m2 z=>c b (ag _ m2) (z▸m)⟩,λa m=>?_⟩
    rcases ao.mp m with m|m
    ·exact .inr m
    ·exact .inl (ag _ m)
   ·rw[if_neg q,if_neg q];obtain⟨S',O,R,L⟩:=cZ.put (k:=k) o B r ds j J l.2.1 λa m=>c a (ag _ m);refine⟨D++S',⟨p.2,(rN k y r).map (·.2),D,S',rfl,M,O,rfl⟩,ck.mpr ⟨l.1,R,λa m b m2 z=>?_⟩,λa m=>?_⟩
    ·subst z
     rcases L a m2 with z|z
     ·exact l.2.2 a m a z rfl
     ·exact c a (aq _ m) z
    ·rcases ao.mp m with m|m
     ·exact .inl (aq _ m)
     ·rcases L a m with z|z
      ·exact .inl (ag _ z)
      ·exact .inr z
noncomputable def SJ:HO->List V->Option HO
 |.lst xs,[y]=>if xs.length<aB then a_ (.lst (xs++[y]))else b_
 |_,_=>b_
def Wu:HO->List V->Option HO
 | .lst xs,l=>match l with
   |[.int i,y]=>if xs.length<aB/\-1000000<=i/\i<=1000000 then a_ (.lst (insI y i xs))else b_
   |_=>b_
 |_,_=>b_
def G1:HO->List V->Option HO
 | .lst xs,l=>match l with
   |[y,.int i]=>if -1000000<=i/\i<=1000000 then(IQ y i xs).map .lst else b_
   |_=>b_
 | .dK k_,l=>match l with
   |[y,v]=>(TF v).bind λk=>if k_.length<aB then a_ (.dK (putK k_ k y))else b_
   |_=>b_
 |_,_=>b_
def Au:HQ->HO->List V->Option HO
 |.app,a,l=>SJ a l
 |.ins,a,l=>Wu a l
 |.seti,a,l=>G1 a l
 |_,_,_=>b_
def j7{T:List aI}(nd:(S++T).Nodup):S.Nodup/\T.Nodup/\∀a∈S,a∉T:=by
 obtain⟨h1,h2,h3⟩:=ck.mp nd;exact⟨h1,h2,λa m n=>h3 a m a n rfl⟩
def iT{S T:List aI}(h1:S.Nodup)(h2:T.Nodup)(h3:∀a∈S,a∉T):(S++T).Nodup:=ck.mpr ⟨h1,h2,λa m b n z=>h3 a m (z▸n)⟩
def BI(K:Fg)(H:Hp)(op:HQ)(d':Dat)(v:V)(vs:List V)(S T:List aI):Prop:=
 ∃l c ob' S',v=.ref l/\l∈S/\H l=a_ c/\Au op c vs=a_ ob'/\Hy ob'/\lL K (upd H l ob') d' v S'/\S'.Nodup/\∀a∈S',a∈S\/a∈T
section
variable{K:Fg}{T:List aI}
def N5{d1:Dat}(hl:H l=a_ (.lst xs))(os:cZ K H es xs S')(nd:(l::S').Nodup)(q:lL K H d1 y T)(nt:T.Nodup)(k:∀a∈l::S',a∉T)(hz:es.length<aB):BI K H .app (.lst (es++[d1])) (.ref l) [y] (l::S') T:=by
 have j:=aZ.mp nd;have c:∀vs,H l≠a_ (.tup vs):=λvs z=>by rw[hl]at z;cases z
 have d:l∉T:=k l g7;have g:=os.length;refine⟨l,_,.lst (xs++[y]),l::(S'++T),rfl,g7,hl,by simp only[Au,SJ];rw[if_pos (by rw[g];exact hz)],trivial,⟨l,xs++[y],S'++T,rfl,cC,(os.upd c _ j.1).append (.one (q.upd c _ d)),rfl⟩,?_,λb m=>?_⟩
 ·refine aZ.mpr ⟨λm=>?_,iT j.2 nt λb m=>k b (iE _ m)⟩
  rcases ao.mp m with m|m
  ·exact j.1 m
  ·exact d m
 ·rcases aw.mp m with rfl|m
  ·exact .inl g7
  ·rcases ao.mp m with m|m
   ·exact .inl (iE _ m)
   ·exact .inr m
def N4{d1:Dat}(hl:H l=a_ (.lst xs))(os:cZ K H es xs S')(nd:(l::S').Nodup)(L:lL K H d1 y T)(nt:T.Nodup)(q:∀a∈l::S',a∉T)(hz:es.length<aB/\-1000000<=i/\i<=1000000):BI K H .ins (.lst (insI d1 i es)) (.ref l) [.int i,y] (l::S') T:=by
 have j:=aZ.mp nd;have d:∀vs,H l≠a_ (.tup vs):=λvs z=>by rw[hl]at z;cases z
 have k :=q l g7;have c:=os.length;obtain⟨B,D,M,O,R⟩:=os.take (HT.iS es.length 0 (a_ i));subst R;have v:HT.iS xs.length 0 (a_ i)=HT.iS es.length 0 (a_ i):=by rw[c]
 have g:=j7 j.2;refine⟨l,_,.lst (insI y i xs),l::(B++(T++D)),rfl,g7,hl,by simp only[Au,Wu];rw[if_pos (by rw[c];exact hz)],trivial,⟨l,insI y i xs,B++(T++D),rfl,cC,?_,rfl⟩,?_,λb m=>?_⟩
 ·have U:=O.upd (o:=.lst (insI y i xs)) d _ (λm=>j.1 (ag _ m));have W:=(cZ.one (L.upd d _ k)).append U;have J:=(M.upd d _ (λm=>j.1 (aq _ m))).append W;have e2:insI y i xs=xs.take (HT.iS es.length 0 (a_ i))++([y]++xs.drop (HT.iS es.length 0 (a_ i))):=by unfold insI;rw[v];rfl
  generalize Y:L2.upd H l (.lst (insI y i xs))=H2 at J ⊢;rw[e2];exact J
 ·refine aZ.mpr ⟨λm=>?_,iT g.1 (iT nt g.2.1 λb m m2=>q b (iE _ (ag _ m2)) m) λb m m2=>?_⟩
  ·rcases ao.mp m with m|m
   ·exact j.1 (aq _ m)
   ·rcases ao.mp m with m|m
    ·exact k m
    ·exact j.1 (ag _ m)
  ·rcases ao.mp m2 with m2|m2
   ·exact q b (iE _ (aq _ m)) m2
   ·exact g.2.2 b m m2
 ·rcases aw.mp m with rfl|m
  ·exact .inl g7
  ·rcases ao.mp m with m|m
   ·exact .inl (iE _ (aq _ m))
   ·rcases ao.mp m with m|m
    ·exact .inr m
    ·exact .inl (iE _ (ag _ m))
def TM(h:C5 n i=a_ k):k<n:=(yM h).2.1
def N3{d1:Dat}(hl:H l=a_ (.lst xs))(os:cZ K H es xs S')(nd:(l::S').Nodup)(L:lL K H d1 y T)(nt:T.Nodup)(g:∀a∈l::S',a∉T)(hz:-1000000<=i/\i<=1000000)(h2:C5 es.length i=a_ k):BI K H .seti (.lst (es.set k d1)) (.ref l) [y,.int i] (l::S') T:=by
 have j:=aZ.mp nd;have q:∀vs,H l≠a_ (.tup vs):=λvs z=>by rw[hl]at z;cases z
 have v :=g l g7;have c:=os.length;obtain⟨B,U,D,M,O⟩:=os.setAt L k (TM h2);subst O;have J:=j7 j.2;have R:=j7 J.1
 have d:l∉B++T++D:=λm=>by
  rcases ao.mp m with m|m
  ·rcases ao.mp m with m|m
   ·exact j.1 (aq _ (aq _ m))
   ·exact v m
  ·exact j.1 (ag _ m)
 refine⟨l,_,.lst (xs.set k y),l::(B++T++D),rfl,g7,hl,?_,trivial,⟨l,xs.set k y,B++T++D,rfl,cC,M.upd q _ d,rfl⟩,?_,λb m=>?_⟩
 ·simp only[Au,G1];rw[if_pos hz];unfold IQ;rw[c,h2];rfl
 ·refine aZ.mpr ⟨d,iT (iT R.1 nt λb m=>g b (iE _ (aq _ (aq _ m)))) J.2.1 λb m m2=>?_⟩
  rcases ao.mp m with m|m
  ·exact J.2.2 b (aq _ m) m2
  ·exact g b (iE _ (ag _ m2)) m
 ·rcases aw.mp m with rfl|m
  ·exact .inl g7
  ·rcases ao.mp m with m|m
   ·rcases ao.mp m with m|m
    ·exact .inl (iE _ (aq _ (aq _ m)))
    ·exact .inr m
   ·exact .inl (iE _ (ag _ m))
end
def JW{K:Fg}{T:List aI}{d1:Dat}(hl:H l=a_ (.dK k_))(os:cZ K H ds (k_.map (·.2)) S')(nd:(l::S').Nodup)(J:lL K H d1 y T)(nt:T.Nodup)(v:∀a∈l::S',a∉T)(hz:(k_.map (·.1)).length<aB/\Av k (k_.map (·.1))=c_) :
  BI K H .seti (.dct (putD k d1 (k_.map (·.1)) ds).1 (putD k d1 (k_.map (·.1)) ds).2) (.ref l) [y,kV k] (l::S') T:=by
 have B:=aZ.mp nd;have g:∀vs,H l≠a_ (.tup vs):=λvs z=>by rw[hl]at z;cases z
 have j :=v l g7;have c:ds.length=k_.length:=by have:=os.length;simpa using this.symm
 obtain⟨q,L,M,D⟩:=cZ.put J nt k_ ds S' os B.2 λa m=>v a (iE _ m)
 have d:l∉q:=λm=>by
  rcases D l m with z|z
  ·exact B.1 z
  ·exact j z
 refine⟨l,_,.dK (rN k y k_),l::q,rfl,g7,hl,?_,trivial,⟨l,rN k y k_,q,rfl,cC,wW k_ ds c,L.upd g _ d,rfl⟩,aZ.mpr ⟨d,M⟩,λb m=>?_⟩
 ·simp only[Au,G1,Oo,bw];rw[if_pos (by simpa using hz.1),Er k_ hz.2]
 ·rcases aw.mp m with rfl|m
  ·exact .inl g7
  ·rcases D b m with z|z
   ·exact .inl (iE _ z)
   ·exact .inr z
set_option tactic.hygienic true in
def yD{K:Fg}{T:List aI}(h1:op≠.ext)(h2:op≠.dput)(h:kJ op d ds=a_ d')(o:lL K H d v S)(nd:S.Nodup)(a:cZ K H ds vs T)(nt:T.Nodup)(L:∀a∈S,a∉T):BI K H op d' v vs S T:=by
 have hd:(∃es,d=.lst es)\/(op=.seti/\∃ks ws,d=.dct ks ws):=by
  cases d with
  |lst es=>exact .inl ⟨es,rfl⟩
  |dct ks ws=>cases op<;>first|exact absurd rfl h1|exact absurd rfl h2|exact .inr ⟨rfl,ks,ws,rfl⟩|cases h
  |dcn _=>cases op<;>first|exact absurd rfl h1|exact absurd rfl h2|cases h
  |_=>cases op<;>cases h
 rcases hd with hd|⟨rfl,ks,ws,rfl⟩
 rotate_left
 ·obtain⟨l,k_,S',rfl,hl,rfl,os,rfl⟩:=o
  cases ds with
  |nil=>cases h
  |cons d1 ds=>
    cases ds with
    |nil=>cases h
    |cons d0 ds=>
      cases ds with
      |cons _ _=>cases h
      |nil=>
        simp only[kJ,QJ]at h;obtain⟨k,O,h⟩:=cY h;split at h
        ·rename_i hz;cases h;obtain⟨y,r,R,U,e,g,B,q⟩:=a;obtain⟨W,Z,Y,D,J,z,j,c⟩:=B;obtain⟨rfl,rfl⟩:=j
         have hy:W=kV k/\Y=[]:=by
          cases d0 with
          |int i=>cases O;exact z
          |str x=>cases O;exact z
          |_=>cases O
         obtain⟨rfl,rfl⟩:=hy;rw[aM]at c;subst e J c;rw[aM]at q;subst q;exact JW hl os nd g nt L hz
        ·cases h
 obtain⟨es,rfl⟩:=hd;obtain⟨l,xs,S',rfl,hl,os,rfl⟩:=o
 cases op with
 |ext=>exact absurd rfl h1
 |dput=>exact absurd rfl h2
 |app=>
   cases ds with
   |nil=>cases h
   |cons d1 ds=>
     cases ds with
     |cons _ _=>cases h
     |nil=>
       obtain⟨y,r,R,U,e,g,j,q⟩:=a;obtain⟨rfl,rfl⟩:=j;rw[aM]at q;subst e q;simp only[kJ,Vv]at h;split at h
       ·rename_i hz;cases h;exact N5 hl os nd g nt L hz
       ·cases h
 |ins=>
   cases ds with
   |nil=>cases h
   |cons d0 ds=>
     cases ds with
     |nil=>cases d0<;>cases h
     |cons d1 ds=>
       cases ds with
       |cons _ _=>cases d0<;>cases h
       |nil=>
         cases d0 with
         |int i=>
           obtain⟨W,Z,Y,D,J,z,B,c⟩:=a;obtain⟨y,r,R,U,e,g,j,q⟩:=B;obtain⟨rfl,rfl⟩:=j;obtain⟨rfl,rfl⟩:=z;rw[aM]at q;subst e J q;rw[Mn]at c;subst c;simp only[kJ,Vu]at h;split at h
           ·rename_i hz;cases h;exact N4 hl os nd g nt L hz
           ·cases h
         |_=>cases h
 |pop=>cases h
 |clr=>cases h
 |seti=>
   cases ds with
   |nil=>cases h
   |cons d1 ds=>
     cases ds with
     |nil=>cases h
     |cons d0 ds=>
       cases ds with
       |cons _ _=>cases d0<;>cases h
       |nil=>
         cases d0 with
         |int i=>
           obtain⟨y,r,R,U,e,g,B,q⟩:=a;obtain⟨W,Z,Y,D,J,z,j,c⟩:=B;obtain⟨rfl,rfl⟩:=j;obtain⟨rfl,rfl⟩:=z;rw[aM]at c;subst e J c;rw[aM]at q;subst q;simp only[kJ,QJ]at h;split at h
           ·rename_i hz;obtain⟨es',M,h⟩:=eD h;cases h;unfold IQ at M;obtain⟨k,g2,M⟩:=eD M;subst M;exact N3 hl os nd g nt L hz g2
           ·cases h
         |_=>cases h
section
variable{X:Cx}{K:Fg}
def T4(h:gF K C [xa,xb] σ H Q):gE K C xa σ H λx H1=>gE K C xb σ H1 λy H2=>Q [x,y] H2:=by
 obtain⟨ρ,ds,O,h,F,g,R,k⟩:=h;simp only[nE]at h;obtain⟨⟨d,fr⟩,h1,h⟩:=cY h;obtain⟨⟨r,U⟩,h2,h⟩:=eD h;cases h;obtain⟨⟨d2,l⟩,h3,D⟩:=cY h2;cases D;refine⟨ρ,d,fr,h1,F,g,R,λv F1 H1 c q J=>⟨ρ,d2,l,h3,F1,c.good,R.mono c.ff,λw L H2 j B M=>k [v,w] L H2 (c.trans j) ⟨v,[w],rfl,q.mono j.ff,w,[],rfl,B,rfl⟩ λz=>?_⟩⟩;simp only[iF,kW,aj]at z;refine fB.cons c.hh j.hh ?_ (fB.cons (H1:=H2) j.hh (bY.refl _) ?_ .nil)
 ·rcases z.1 with z|z
  ·exact J z
  ·exact .jY c.good z q
 ·rcases z.2 with z|z
  ·exact M z
  ·exact .jY j.good z B
def oZ(h:gE K C x σ H Q)(f:∀v H1,bY H H1->Q v H1->Q' v H1):gE K C x σ H Q':=by
 obtain⟨ρ,d,fr,h,F,g,R,k⟩:=h;exact⟨ρ,d,fr,h,F,g,R,λv F' H' st r fr=>f v H' st.hh (k v F' H' st r fr)⟩
def AA(h:ot C (.mut op i es) ρ=a_ out) :
  ∃ds d d',nE C es (full ρ)=a_ (ds,c_)/\ρ[i]?=a_ (a_ (d,c_))/\kJ op d ds=a_ d'/\out=.nx (ρ.set i (a_ (d',c_))):=by
 obtain⟨⟨ds,g⟩,h3,h⟩:=cY h;have h:(if g=c_ then SX op i ρ ds (ρ[i]?).join else b_)=a_ out:=h;by_cases c:g=c_
 ·rw[if_pos c]at h;subst c
  cases q:ρ[i]? with
  |none=>rw[q]at h;cases h
  |some z=>
    rw[q]at h
    match z,h with
    |some (d,c_),h=>
      obtain⟨d',j,h5⟩:=eD h;exact⟨ds,d,d',h3,rfl,j,h5.symm⟩
 ·rw[if_neg c]at h;cases h
def Az(h1:op≠.ext)(h2:op≠.dput){D:Ends}(h:gS K C (.mut op i es) D σ H) :
  ∃l c,σ[i]?=a_ (a_ (.ref l))/\H l=a_ c/\(op≠.seti->∃xs,c=.lst xs)/\gF K C es σ H λvs H1=>∃y ob',H1 l=a_ y/\Au op y vs=a_ ob'/\D.nx σ (upd H1 l ob'):=by
 obtain⟨Fz,H₀,F,ρ,out,h,R,k⟩:=h;obtain⟨ds,d,d',h3,hi,z,rfl⟩:=AA h;obtain⟨Ss,O⟩:=R.ow;obtain⟨v,e1,e2,e3,e4⟩:=O.own i d hi
 have J:∃l c,v=.ref l/\H l=a_ c/\(op≠.seti->∃xs,c=.lst xs):=by
  cases d with
  |lst es=>
    obtain⟨l,xs,S',rfl,hl,os,eS⟩:=id e2;exact⟨l,_,rfl,hl,λ_=>⟨xs,rfl⟩⟩
  |dct ks ws=>
    obtain⟨l,k_,S',rfl,hl,_⟩:=id e2;refine⟨l,_,rfl,hl,λL=>?_⟩
    cases op<;>first|exact absurd rfl h1|exact absurd rfl h2|exact absurd rfl L|cases z
  |dcn _=>cases op<;>first|exact absurd rfl h1|exact absurd rfl h2|cases z
  |_=>cases op<;>cases z
 obtain⟨l,c,rfl,hl,M⟩:=J;refine⟨l,c,e1,hl,M,yY R h3 λvs F' H' T st ow nT B=>?_⟩;have O':=O.moved st;have R':=R.moved st
 have dj:∀a∈Ss i,a∉T:=λa m m2=>by
  obtain⟨u,g,_⟩:=e2.vA _ a m;rw[(B a m2).1]at g;cases g
 obtain⟨l2,y,ob',S2,ev,U,W,Y,mu,o2,Z,hS2⟩:=yD h1 h2 z (e2.mono st.hh) e3 ow nT dj;cases ev;refine⟨y,ob',W,Y,k F' _ σ st.ff (R'.mut O' hi e1 U mu o2 Z λa m=>?_)⟩
 rcases hS2 a m with m|m
 ·exact .inl m
 ·refine .inr ⟨(B a m).2,R.step.hh.free (B a m).1,λj d2 q m2=>?_⟩;obtain⟨w,_,g2,_⟩:=O.own j d2 q;obtain⟨u,g,_⟩:=g2.vA _ a m2;rw[(B a m).1]at g;cases g
def MO{st:kX}(h1:op≠.ext)(h2:op≠.dput)(h3:op≠.seti)(j:∀l c ob' vs H Q,H l=a_ c->Au op c vs=a_ ob'->(∀u,Q u (upd H l ob'))->r (.ref l) vs H Q)
  (q:PS X st (DV (VG X.K "list" r (Gs i) (gF X.K C es)))):SS X C st (.mut op i es):=PS.imp q λD σ H h=>by
 obtain⟨l,v,e1,hl,d,g⟩:=Az h1 h2 h;obtain⟨xs,rfl⟩:=d h3;refine⟨.ref l,e1,.inl ⟨rfl,xs,mV.of hl⟩,?_⟩;obtain⟨ρ,ds,y,h,F,z,R,k⟩:=g;exact⟨ρ,ds,y,h,F,z,R,λvs F' H' st r f=>let ⟨c,ob',q1,q2,q3⟩:=k vs F' H' st r f;j l c ob' vs H' _ q1 q2 λ_=>q3⟩
def Ji:V->V->V->Hp->(Hp->Prop)->Prop:=λo i v H Q=>∃p k_ k,o=.ref p/\i=kV k/\H p=a_ (.dK k_)/\k_.length<aB/\Q (upd H p (.dK (putK k_ k v)))
def Eb(j:X.A.units+1<dk):UP X (λo i v H Q=>Em o i v H Q\/Ji o i v H Q):=λh_ s σ H o i v l y u Q I c d g h=>by
 rcases h with h|⟨p,k_,k,rfl,rfl,hp,hz,q⟩
 ·exact set_list h_ s σ H o i v l y u Q I c d g h
 ·cases c;exact Ho j I (Pg.k hp hz) d g λs' I'=>⟨_,I',q⟩
set_option tactic.hygienic true in
def MM{st:kX}(z:PS X st (Gu (gE X.K C xe) (TZ (Gs i) (gE X.K C xi) (λo i v H Q=>Em o i v H Q\/Ji o i v H Q)))):SS X C st (.mut .seti i [xe,xi]):=PS.imp z λD σ H h=>by
 obtain⟨l,B,e1,hl,_,g⟩:=Az (by simp) (by simp) h;have J:=T4 g;refine oZ J λx H1 s1 L=>⟨.ref l,e1,oZ L λy H2 s2 M=>?_⟩
 obtain⟨O,ob',d,c,q⟩:=M
 cases O with
 |lst ys=>
   cases y with
   |int k=>
     simp only[Au,G1]at c;split at c
     ·obtain⟨zs,R,U⟩:=eD c;cases U;obtain⟨j,W,Y⟩:=eD R;subst Y;exact .inl ⟨l,ys,k,j,rfl,rfl,d,W,q⟩
     ·cases c
   |_=>cases c
 |dK k_=>
   obtain⟨k,Z,c⟩:=cY c;split at c
   ·rename_i hz;cases c;exact .inr ⟨l,k_,k,rfl,Kf Z,d,hz,q⟩
   ·cases c
 |_=>cases c
end
section
set_option tactic.hygienic true in
def Kz:∀l c ob' vs H(Q:VK),H l=a_ c->Au .app c vs=a_ ob'->(∀u,Q u (upd H l ob'))->En (.ref l) vs H Q:=λl c ob' vs H Q h1 h2 h3=>by
 cases c with
 |lst xs=>
   cases vs with
   |nil=>cases h2
   |cons y vs=>
     cases vs with
     |cons _ _=>cases h2
     |nil=>
       simp only[Au,SJ]at h2;split at h2
       ·rename_i hz;cases h2;exact⟨l,xs,y,rfl,rfl,h1,hz,h3 _⟩
       ·cases h2
 |_=>cases h2
end
def Be{items c:Array ah}(d:items.size+c.size<=aB):¬(!items.isEmpty && fR (items.size+c.size))=c_:=by
 rw[Aw d];simp
def KS(l:aI)(items:Array ah)(n:Nat)(b:aI)(c:Array ah)(y:Nat)(j:Option aI)(yt:Array (Option ah))(z:¬(!items.isEmpty && fR (items.size+c.size))=c_)(k:items.size<=aB)(q:items.size+c.size<=aB+1) :
  Meets (fU.«list.extend» ⟨[.ref l,.ref b],[]⟩) (λ_ R s=>s.heap.get? l=a_ { cls:=.type "list",dict:=b_,data:=.seq items n,slots:=#[] }/\s.heap.get? b=a_ { cls:=.type "tuple",dict:=j,data:=.seq c y,slots:=yt }/\R (.ok (.ret dU)) { s with heap:=s.heap.update l (eY λx=>x++c),toks:=s.toks }):=
 .of_wp λprog w A R s h=>by
  obtain⟨hp,g,d,B,os⟩:=s;obtain⟨hl,hb,h⟩:=h;have D:=AutoSeq1.idx_int;have J:=AutoSeq1.sub_tuple_tuple;have L:=AutoSeq1.sub_list_list;have M:=AutoSeq1.sub_tuple_list;have O:=AutoSeq1.sub_list_tuple;have v:(items++c).size<=aB+1:=by rw[Array.size_append];exact q
  wp_walk using(iW hl rfl (hz:=k) (_hz':=v)),qa hl,qa hb
  exact⟨_,rfl,h⟩
def KY(l:aI)(items:Array ah)(n:Nat)(b:aI)(c:Array ah)(k:Nat)(j:Option aI)(yt:Array (Option ah))(q:¬(!items.isEmpty && fR (items.size+c.size))=c_)(v:items.size<=aB)(y:items.size+c.size<=aB+1) :
  Meets (fU.«list.extend» ⟨[.ref l,.ref b],[]⟩) (λ_ R s=>s.heap.get? l=a_ { cls:=.type "list",dict:=b_,data:=.seq items n,slots:=#[] }/\s.heap.get? b=a_ { cls:=.type "list",dict:=j,data:=.seq c k,slots:=yt }/\R (.ok (.ret dU)) { s with heap:=s.heap.update l (eY λx=>x++c),toks:=s.toks }):=
 .of_wp λprog w A R s h=>by
  obtain⟨hp,g,d,z,os⟩:=s;obtain⟨hl,hb,h⟩:=h
  wp_walk using(iW hl rfl ),qa hl,qa hb
  exact⟨_,rfl,h⟩
section
variable{K:Fg}
def Wc(K:Fg):V->List V->Hp->VK->Prop:=λx vs H Q=>∃l b xs c,x=.ref l/\vs=[.ref b]/\H l=a_ (.lst xs)/\(mV K H b c\/sx K H b c)/\xs.length+c.length<=aB/\Q .non (upd H l (.lst (xs++c)))
def S7:Zr X "list.extend" (Wc X.K):=by
 intro h_ s σ H x vs v us Q I M O h;obtain⟨l,b,xs,D,rfl,rfl,J,hB,hz,q⟩:=h;cases M;obtain⟨u,rfl,R⟩:=O.one;cases R;obtain⟨z,its,n,r,hl,e⟩:=I.G6 J
 have fin:∀(c:List ah)(L:Nat),cM D c->EP X h_ σ Q .none { s with heap:=s.heap.update l (eY λx=>x++c.toArray),toks:=L }:=λc L d=>
  ⟨.non,_,I.To J e (by simp) (r.append d) (by rw[az];exact hz),rfl,q⟩
 have g:∀{c:List ah},cM D c->its.toArray.size+c.toArray.size<=aB:=λd=>by rw[aO,aO,<-r.length,<-d.length];exact hz
 rcases hB with hB|hB
 ·obtain⟨c,d,⟨y,B,e2,hc,hd,hs⟩,_⟩:=I.list hB;obtain⟨j,k,data2,yt⟩:=y;subst hc hd hs;exact BZ ja ⟨_,e,rfl⟩ rz (qh _ _) (KY l its.toArray n b c.toArray B _ yt (Be (g d)) (by exact aa (ae hl.symm) z) (bW (g d))) ⟨e,e2,fin c _ d⟩
 ·obtain⟨c,d,⟨y,e2,hc,B,hd⟩,_⟩:=I.tuple hB;obtain⟨j,k,data2,yt⟩:=y;subst hc hd;exact BZ ja ⟨_,e,rfl⟩ rz (qh _ _) (KS l its.toArray n b c.toArray B k yt (Be (g d)) (by have:=g d;omega) (by have:=g d;omega)) ⟨e,e2,fin c _ d⟩
def QA(K:Fg)(H:Hp)(d':Dat)(v:V)(vs:List V)(S T:List aI):Prop:=
 ∃l xs b c S',v=.ref l/\l∈S/\H l=a_ (.lst xs)/\vs=[.ref b]/\(mV K H b c\/sx K H b c)/\xs.length+c.length<=aB/\lL K (upd H l (.lst (xs++c))) d' v S'/\S'.Nodup/\∀a∈S',a∈S\/a∈T
def KW{T:List aI}(hl:H l=a_ (.lst xs))(os:cZ K H es xs S')(nd:(l::S').Nodup)(hb:mV K H b zs\/sx K H b zs)(of:cZ K H fs zs T')(g:∀a∈T',a∈T)(nt:T'.Nodup)(k:∀a∈l::S',a∉T)(hz:es.length+fs.length<=aB) :
  QA K H (.lst (es++fs)) (.ref l) [.ref b] (l::S') T:=by
 have j:=aZ.mp nd;have c:∀vs,H l≠a_ (.tup vs):=λvs z=>by rw[hl]at z;cases z
 have d :=λm=>k l g7 (g l m);refine⟨l,xs,b,zs,l::(S'++T'),rfl,g7,hl,rfl,hb,by rw[os.length,of.length];exact hz,⟨l,xs++zs,S'++T',rfl,cC,(os.upd c _ j.1).append (of.upd c _ d),rfl⟩,?_,λa m=>?_⟩
 ·refine aZ.mpr ⟨λm=>?_,iT j.2 nt λa m m2=>k a (iE _ m) (g a m2)⟩
  rcases ao.mp m with m|m
  ·exact j.1 m
  ·exact d m
 ·rcases aw.mp m with rfl|m
  ·exact .inl g7
  ·rcases ao.mp m with m|m
   ·exact .inl (iE _ m)
   ·exact .inr (g a m)
set_option tactic.hygienic true in
def OI{T:List aI}(h:kJ .ext d ds=a_ d')(o:lL K H d v S)(nd:S.Nodup)(a:cZ K H ds vs T)(nt:T.Nodup)(c:∀a∈S,a∉T):QA K H d' v vs S T:=by
 cases d with
 |lst es=>
   obtain⟨l,xs,S',rfl,hl,os,rfl⟩:=o
   cases ds with
   |nil=>cases h
   |cons d1 ds=>
     cases ds with
     |cons _ _=>cases d1<;>cases h
     |nil=>
       obtain⟨y,r,z,B,e,g,j,q⟩:=a;obtain⟨rfl,rfl⟩:=j;rw[aM]at q;subst e q
       cases d1 with
       |lst fs=>
         simp only[kJ,QK]at h;split at h
         ·rename_i hz;cases h;obtain⟨b,k,D,rfl,hb,of,rfl⟩:=g;exact KW hl os nd (.inl (.inl (.inl hb))) of (λa m=>iE _ m) (aZ.mp nt).2 c hz
         ·cases h
       |tup fs=>
         simp only[kJ,QK]at h;split at h
         ·rename_i hz;cases h;obtain⟨b,k,rfl,hb,of⟩:=g;exact KW hl os nd (.inr hb.sq) of (λa m=>m) nt c hz
         ·cases h
       |_=>cases h
 |_=>cases h
def KU{D:Ends}(h:gS K C (.mut .ext i es) D σ H) :
  ∃l c,σ[i]?=a_ (a_ (.ref l))/\H l=a_ (.lst c)/\gF K C es σ H λvs H1=>∃xs b g,H1 l=a_ (.lst xs)/\vs=[.ref b]/\(mV K H1 b g\/sx K H1 b g)/\xs.length+g.length<=aB/\D.nx σ (upd H1 l (.lst (xs++g))):=by
 obtain⟨Fz,H₀,F,ρ,out,h,R,k⟩:=h;obtain⟨ds,d,d',h3,hi,Y,rfl⟩:=AA h;obtain⟨Ss,O⟩:=R.ow;obtain⟨v,e1,e2,e3,e4⟩:=O.own i d hi
 have B:∃l c,v=.ref l/\H l=a_ (.lst c):=by
  cases d with
  |lst es=>
    obtain⟨l,xs,S',rfl,hl,os,eS⟩:=id e2;exact⟨l,xs,rfl,hl⟩
  |_=>cases Y
 obtain⟨l,c,rfl,hl⟩:=B;refine⟨l,c,e1,hl,yY R h3 λvs F' H' T st ow Z z=>?_⟩;have O':=O.moved st;have R':=R.moved st
 have dj:∀a∈Ss i,a∉T:=λa m m2=>by
  obtain⟨u,y,_⟩:=e2.vA _ a m;rw[(z a m2).1]at y;cases y
 obtain⟨l2,xs,b,g,S2,ev,J,L,M,hq,hz,o2,U,W⟩:=OI Y (e2.mono st.hh) e3 ow Z dj;cases ev;refine⟨xs,b,g,L,M,hq,hz,k F' _ σ st.ff (R'.mut O' hi e1 J trivial o2 U λa m=>?_)⟩
 rcases W a m with m|m
 ·exact .inl m
 ·refine .inr ⟨(z a m).2,R.step.hh.free (z a m).1,λj d2 q m2=>?_⟩;obtain⟨w,_,g2,_⟩:=O.own j d2 q;obtain⟨u,y,_⟩:=g2.vA _ a m2;rw[(z a m).1]at y;cases y
def Q6{st:kX}(d:PS X st (DV (VG X.K "list" (Wc X.K) (Gs i) (gF X.K C es)))):SS X C st (.mut .ext i es):=PS.imp d λD σ H h=>by
 obtain⟨l,c,e1,hl,g⟩:=KU h;refine⟨.ref l,e1,.inl ⟨rfl,c,mV.of hl⟩,?_⟩;obtain⟨ρ,ds,j,h,F,q,R,k⟩:=g;exact⟨ρ,ds,j,h,F,q,R,λvs F' H' st r f=>let ⟨xs,b,zs,q1,q2,q3,q4,q5⟩:=k vs F' H' st r f;⟨l,b,xs,zs,rfl,q2,q1,q3,q4,q5⟩⟩
end
section
variable{X:Cx}{K:Fg}
def _root_.L2.Inv.noNT(I:Inv X h_ σ H s)(g:Good F H)(h:F a=a_ (.dN xs))(h':Tq X.K F a ws):False:=by
 obtain⟨_,_,o,es,ep,h1,h2,_⟩:=I.hok a _ (g.sub _ _ h);obtain⟨its,_,⟨o',h3,c,_⟩,_⟩:=I.tupR g h';rw[h1]at h3;cases h3;rw[h2.1]at c;exact absurd (nL c) (by decide)
def _root_.L2.Inv.noNL(I:Inv X h_ σ H s)(g:Good F H)(h:F a=a_ (.dN xs))(h':mV X.K F a ws):False:=by
 obtain⟨_,_,o,es,ep,h1,h2,_⟩:=I.hok a _ (g.sub _ _ h);obtain⟨its,_,pl,_⟩:=I.lstR g h';obtain⟨o',h3,c,_⟩:=pl.isList;rw[h1]at h3;cases h3;rw[h2.1]at c;exact absurd (nL c) (by decide)
theorem xq:∀{ds:List Dat}{q:List Key}{vs:List V},vd ds=a_ q->cT K F ds vs->vs=q.map kV
 |[],_,_,h,r=>by cases h;exact r
 |d::ds,_,_,h,g=>by
   obtain⟨v,w,e,h1,h2⟩:=g;obtain⟨k,c,h⟩:=cY h;obtain⟨q,j,h⟩:=eD h;cases h;subst e;rw[ax,<-xq j h2]
   congr 1
   cases d with
   |int i=>cases c;exact h1
   |str x=>cases c;exact h1
   |_=>cases c
theorem EK:∀{ds:List Dat}{q:List N2}{vs:List V},LZ ds=a_ q->cT K F ds vs->L9 K F q vs
 |[],_,_,h,r=>by cases h;exact r
 |d::ds,_,_,h,l=>by
   obtain⟨v,w,e,h1,h2⟩:=l;simp only[LZ]at h;obtain⟨k,c,h⟩:=cY h;obtain⟨q,y,h⟩:=eD h;cases h;subst e;have g:=EK y h2
   cases d with
   |int i=>cases c;cases h1;exact⟨w,rfl,g⟩
   |str x=>cases c;cases h1;exact⟨w,rfl,g⟩
   |tup es=>
     simp only[XQ]at c;obtain⟨z,j,c⟩:=eD c;cases c;obtain⟨a,vs,rfl,t,r⟩:=h1;rw[xq j r]at t;exact⟨a,w,rfl,t,g⟩
   |_=>cases c
theorem EG:∀{ds:List Dat}{q:List NK}{vs:List V},SQ ds=a_ q->cT K F ds vs->L8 K F q vs
 |[],_,_,h,r=>by cases h;exact r
 |d::ds,_,_,h,l=>by
   obtain⟨v,w,e,h1,h2⟩:=l;obtain⟨k,c,h⟩:=cY h;obtain⟨q,y,h⟩:=eD h;cases h;subst e;have g:=EG y h2
   cases d with
   |int i=>cases c;cases h1;exact⟨w,rfl,g⟩
   |str x=>cases c;cases h1;exact⟨w,rfl,g⟩
   |tup es=>
     obtain⟨z,j,c⟩:=eD c;cases c;obtain⟨a,vs,rfl,t,r⟩:=h1;exact⟨a,w,vs,rfl,t,EK j r,g⟩
   |_=>cases c
def NY(h:NZ da=a_ k)(r:Rep K F da v):∃a,v=.ref a/\X1 K F k a:=by
 cases da with
 |tup ds=>
   obtain⟨a,vs,rfl,t,r⟩:=r;exact⟨a,rfl,vs,t,EG h r⟩
 |_=>cases h
theorem EZ:∀{q:List Key}{us:List ah},cM (q.map kV) us->∀h:cx,rh (C3 X.prog X.w) h q us
 |[],_,w,_=>by cases w;exact .nil
 |k::q,_,w,h=>by
   cases w with
   |cons a b=>exact .cons (xt a) (EZ b h)
theorem rT(I:Inv X h_ σ H s)(g:Good F H):∀{k:List N2}{vs:List V}{us:List ah},L9 X.K F k vs->cM vs us->rh (i2 X.prog X.w) s.heap k us
 |[],_,_,h,w=>by rw[show _=[]from h]at w;cases w;exact .nil
 |.inl k::ks,_,_,h,w=>by
   obtain⟨r,e,h⟩:=h;subst e
   cases w with
   |cons q w=>exact .cons (I:=i2 X.prog X.w) (k:=.inl k) (xt q) (rT I g h w)
 |.inr q::ks,_,_,h,w=>by
   obtain⟨b,r,e,t,h⟩:=h;subst e
   cases w with
   |cons c w=>
     refine .cons (I:=i2 X.prog X.w) (k:=.inr q) ?_ (rT I g h w);cases(show _=cG b from c);obtain⟨its,d,⟨o,h1,h2,n,h3⟩,_⟩:=I.tupR g t;exact⟨b,rfl,o,its.toArray,n,h1,h2,h3,by simpa using EZ (X:=X) d s.heap⟩
theorem rS(I:Inv X h_ σ H s)(g:Good F H):∀{k:List NK}{vs:List V}{us:List ah},L8 X.K F k vs->cM vs us->UR X.prog X.w s.heap k us
 |[],_,_,h,w=>by rw[h]at w;cases w;exact .nil
 |.inl k::ks,_,_,h,w=>by
   obtain⟨r,e,h⟩:=h;subst e
   cases w with
   |cons q w=>exact .cons (xt q) (rS I g h w)
 |.inr q::ks,_,_,h,w=>by
   obtain⟨b,r,us,e,t,c,h⟩:=h;subst e
   cases w with
   |cons d w=>
     refine .cons ?_ (rS I g h w);cases(d);obtain⟨its,j,⟨o,h1,h2,n,h3⟩,_⟩:=I.tupR g t;exact⟨b,rfl,o,its.toArray,n,h1,h2,h3,by simpa using rT I g c j⟩
def JS(I:Inv X h_ σ H s)(g:Good F H)(h:X1 X.K F k a):(PZ X.prog X.w).is s.heap k a:=by
 obtain⟨vs,t,r⟩:=h;obtain⟨its,c,⟨o,h1,h2,n,h3⟩,_⟩:=I.tupR g t;exact⟨o,its.toArray,n,h1,h2,h3,by simpa using rS I g r c⟩
end
section
variable{X:Cx}
def _root_.L2.Inv.noDT(I:Inv X h_ σ H s)(g:Good F H)(h:F a=a_ (.dK k_))(h':Tq X.K F a ws):False:=by
 obtain⟨_,_,_,_,o,es,ep,h1,h2,_⟩:=I.hok a _ (g.sub _ _ h);obtain⟨its,_,⟨o',h3,c,_⟩,_⟩:=I.tupR g h';rw[h1]at h3;cases h3;rw[h2.1]at c;exact absurd (nL c) (by decide)
def _root_.L2.Inv.noDL(I:Inv X h_ σ H s)(g:Good F H)(h:F a=a_ (.dK k_))(h':mV X.K F a ws):False:=by
 obtain⟨_,_,_,_,o,es,ep,h1,h2,_⟩:=I.hok a _ (g.sub _ _ h);obtain⟨its,_,pl,_⟩:=I.lstR g h';obtain⟨o',h3,c,_⟩:=pl.isList;rw[h1]at h3;cases h3;rw[h2.1]at c;exact absurd (nL c) (by decide)
mutual
theorem Ek(I:Inv X h_ σ H s)(g:Good F H):∀(da l:Dat){x:V},Rep X.K F da x->Rep X.K F l x->da=l
 |.non,l,x,v,d=>by
   rw[v]at d
   cases l with
   |non=>rfl
   |tup _=>obtain⟨_,_,z,_⟩:=d;cases z
   |lst _=>obtain⟨_,_,z,_⟩:=d;cases z
   |dct _ _=>obtain⟨_,_,z,_⟩:=d;cases z
   |dcn _=>obtain⟨_,_,z,_⟩:=d;cases z
   |_=>cases d
 |.bl b,l,x,v,d=>by
   rw[v]at d
   cases l with
   |bl c=>cases d;rfl
   |tup _=>obtain⟨_,_,z,_⟩:=d;cases z
   |lst _=>obtain⟨_,_,z,_⟩:=d;cases z
   |dct _ _=>obtain⟨_,_,z,_⟩:=d;cases z
   |dcn _=>obtain⟨_,_,z,_⟩:=d;cases z
   |_=>cases d
 |.int i,l,x,v,d=>by
   rw[v]at d
   cases l with
   |int c=>cases d;rfl
   |tup _=>obtain⟨_,_,z,_⟩:=d;cases z
   |lst _=>obtain⟨_,_,z,_⟩:=d;cases z
   |dct _ _=>obtain⟨_,_,z,_⟩:=d;cases z
   |dcn _=>obtain⟨_,_,z,_⟩:=d;cases z
   |_=>cases d
 |.str i,l,x,v,d=>by
   rw[v]at d
   cases l with
   |str c=>cases d;rfl
   |tup _=>obtain⟨_,_,z,_⟩:=d;cases z
   |lst _=>obtain⟨_,_,z,_⟩:=d;cases z
   |dct _ _=>obtain⟨_,_,z,_⟩:=d;cases z
   |dcn _=>obtain⟨_,_,z,_⟩:=d;cases z
   |_=>cases d
 |.tup ds,l,x,z3,d=>by
   obtain⟨p,vs,e,t,r⟩:=z3;subst e
   cases l with
   |tup es=>
     obtain⟨q,us,j,t',k⟩:=d;cases j;have ev :=I.mN (t.mono g.sub).sq (t'.mono g.sub).sq;subst ev;rw[qw I g ds es r k]
   |lst es=>
     obtain⟨q,us,j,t',k⟩:=d;cases j;exact(I.noLT g t' t).elim
   |dct ks es=>
     obtain⟨q,us,j,t',k⟩:=d;cases j;exact(I.noDT g t' t).elim
   |dcn ks=>
     obtain⟨q,us,j,t',k⟩:=d;cases j;exact(I.noNT g t' t).elim
   |_=>cases d
 |.lst ds,l,x,z3,d=>by
   obtain⟨p,vs,e,t,r⟩:=z3;subst e
   cases l with
   |lst es=>
     obtain⟨q,us,j,t',k⟩:=d;cases j;have ev :=I.mR (g.sub.seq t) (g.sub.seq t');subst ev;rw[qw I g ds es r k]
   |tup es=>
     obtain⟨q,us,j,t',k⟩:=d;cases j;exact(I.noLT g t t').elim
   |dct ks es=>
     obtain⟨q,us,j,t',k⟩:=d;cases j;exact(I.noDL g t' t).elim
   |dcn ks=>
     obtain⟨q,us,j,t',k⟩:=d;cases j;exact(I.noNL g t' t).elim
   |_=>cases d
 |.dct ks ds,l,x,z3,d=>by
   obtain⟨p,k_,e,t,kk,r⟩:=z3;subst e
   cases l with
   |dct y es=>
     obtain⟨q,us,j,t',k',k⟩:=d;cases j;rw[t]at t';cases t';rw[<-kk,<-k',qw I g ds es r k]
   |lst es=>
     obtain⟨q,us,j,t',k⟩:=d;cases j;exact(I.noDL g t t').elim
   |tup es=>
     obtain⟨q,us,j,t',k⟩:=d;cases j;exact(I.noDT g t t').elim
   |dcn _=>
     obtain⟨q,us,j,t',k⟩:=d;cases j;rw[t]at t';cases t'
   |_=>cases d
 |.dcn ks,l,x,z3,d=>by
   obtain⟨p,xs,e,t,r⟩:=z3;subst e
   cases l with
   |dcn y=>
     obtain⟨q,us,j,t',k⟩:=d;cases j;rw[t]at t';cases t';rw[<-r.1,<-k.1]
   |dct _ _=>
     obtain⟨q,us,j,t',k⟩:=d;cases j;rw[t]at t';cases t'
   |lst es=>
     obtain⟨q,us,j,t',k⟩:=d;cases j;exact(I.noNL g t t').elim
   |tup es=>
     obtain⟨q,us,j,t',k⟩:=d;cases j;exact(I.noNT g t t').elim
   |_=>cases d
theorem qw(I:Inv X h_ σ H s)(g:Good F H):∀(ds es:List Dat){vs:List V},cT X.K F ds vs->cT X.K F es vs->ds=es
 |[],es,vs,h,h'=>by
   rw[show vs=[]from h]at h'
   cases es with
   |nil=>rfl
   |cons _ _=>obtain⟨_,_,z,_⟩:=h';cases z
 |d::ds,es,vs,z3,h'=>by
   obtain⟨v,r,e,h1,h2⟩:=z3;subst e
   cases es with
   |nil=>exact nomatch (show v::r=[]from h')
   |cons f fs=>
     obtain⟨l,q,k,c,j⟩:=h';cases k;rw[Ek I g d f h1 c,qw I g ds fs h2 j]
end
noncomputable def HM(da:Dat)(ds:List Dat)(its:List ah)(w:ah):Bool:=@decide (∃(i:Nat) (d:Dat),its[i]?=a_ w/\ds[i]?=a_ d/\nW d da=c_) (mf _)
def Dp(I:Inv X h_ σ H s)(g:Good F H){da:Dat}{ds:List Dat}{vs:List V}{its:List ah}(r:cT X.K F ds vs)(w:cM vs its){i:Nat}{d:Dat}{u:ah}(h1:its[i]?=a_ u)(h2:ds[i]?=a_ d):HM da ds its u=nW d da:=by
 have one:∀(j:Nat)d',its[j]?=a_ u->ds[j]?=a_ d'->d'=d:=λj d' k l=>by
  obtain⟨v,e1,e2⟩:=r.get h2;obtain⟨L,q,y⟩:=r.get l;obtain⟨M,B,J⟩:=w.get e1;obtain⟨O,c,z⟩:=w.get q;rw[h1]at B;cases B;rw[k]at c;cases c;have:=J.inj z;subst this;exact(Ek I g d d' e2 y).symm
 by_cases hd:nW d da=c_
 ·rw[hd];exact@decide_eq_true _ (mf _) ⟨i,d,h1,h2,hd⟩
 ·have:nW d da=d_:=by simpa using hd
  rw[this];refine@decide_eq_false _ (mf _) λ⟨j,d',k,l,D⟩=>?_;rw[one j d' k l]at D;exact hd D
def zk(I:Inv X h_ σ H s)(g:Good F H)(r:cT X.K F ds vs)(w:cM vs its):its.any (HM da ds its)=ds.any λy=>nW y da:=by
 have hl:its.length=ds.length:=by rw[<-w.length,r.length]
 rw[Bool.eq_iff_iff,tS,tS];constructor
 ·rintro⟨u,hu,h⟩;obtain⟨i,hi,e⟩:=kZ hu;have c:i<ds.length:=aa hi (ae hl);refine⟨ds[i],bh c,?_⟩;rw[<-Dp I g r w (by rw[af hi,e]) (af c)];exact h
 ·rintro⟨d,hd,h⟩;obtain⟨i,hi,e⟩:=kZ hd;have c:i<its.length:=aa hi (ae hl.symm);refine⟨its[i],bh c,?_⟩;rw[Dp I g r w (af c) (by rw[af hi,e])];exact h
def Dn(I:Inv X h_ σ H s)(g:Good F H)(A:bT)(j:A.units+20<dk)(sa:iR 20 da=c_)(ss:eC 20 ds=c_)(k:Rep X.K F da x)(l:RelV x u)(r:cT X.K F ds vs)(w:cM vs its) :
  ∀y∈its,F8 A s y u (HM da ds its y):=λy q=>by
 obtain⟨i,hi,e⟩:=kZ q;have hl:its.length=ds.length:=by rw[<-w.length,r.length]
 have c :=aa hi (ae hl);have h1:its[i]?=a_ y:=by rw[af hi,e]
 have h2:=af c;rw[Dp I g r w h1 h2];obtain⟨v,e1,e2⟩:=r.get h2;obtain⟨B,d,z⟩:=w.get e1;rw[h1]at d;cases d;exact(vz I g 20 A ds[i] da j (oW ss h2) sa e2 k z l).1
set_option tactic.hygienic true
def So(O:X.A.units+21<dk):jJ X (compareOp .In) (gB X.K (p5 .isin)):=λh_ s σ H x y v u Q I l q B=>by
 obtain⟨da,M,d,fr,h,F,g,D,J,k⟩:=B;obtain⟨b,hd,rfl,rfl⟩:=j8 h;have j:X.A.in1.units+20<dk:=by show X.A.units+1+20<dk;omega
 cases M with
 |str z=>
   cases da with
   |str R=>
     simp only[fQ,ZT]at hd;cases hd;exact G0 h_ s σ H x y v u Q I l q ⟨_,_,D,J,k _ F H (Step.refl g) rfl bx⟩
   |_=>cases hd
 |lst ds=>
   have c:(if iR 20 da && eC 20 ds then a_ (ds.any λy=>nW y da)else b_)=a_ b:=by cases da<;>exact hd
   split at c
   ·rename_i hs;rw[aj]at hs;cases c;obtain⟨p,vs,rfl,t,r⟩:=J;obtain rfl:u=.ref p:=q;obtain⟨its,w,pl,_⟩:=I.lstR g t;refine SeqAt.in_listAt (HM da ds its) pl.isList (λy L=>Dn I g _ j hs.1 hs.2 D l r w y (by simpa using L)) ⟨.bl _,H,I,rfl,?_⟩;rw[show its.toArray.any (HM da ds its)=its.any (HM da ds its) by simp,zk I g r w];exact k _ F H (Step.refl g) rfl bx
   ·cases c
 |tup ds=>
   have c:(if iR 20 da && eC 20 ds then a_ (ds.any λy=>nW y da)else b_)=a_ b:=by cases da<;>exact hd
   split at c
   ·rename_i hs;rw[aj]at hs;cases c;obtain⟨p,vs,rfl,t,r⟩:=J;obtain rfl:u=.ref p:=q;obtain⟨its,w,pl,_⟩:=I.tupR g t;refine SeqAt.in_tupleAt (HM da ds its) pl (λy L=>Dn I g _ j hs.1 hs.2 D l r w y (by simpa using L)) ⟨.bl _,H,I,rfl,?_⟩;rw[show its.toArray.any (HM da ds its)=its.any (HM da ds its) by simp,zk I g r w];exact k _ F H (Step.refl g) rfl bx
   ·cases c
 |_=>cases da<;>cases hd
def NM(O:X.A.units+21<dk):jJ X (compareOp .NotIn) (gB X.K (p5 .nin)):=λh_ s σ H x y v u Q I q B j=>by
 obtain⟨da,L,d,fr,h,F,g,D,J,k⟩:=j;obtain⟨b,hd,rfl,rfl⟩:=j8 h;have l:X.A.in1.units+20<dk:=by omega
 cases L with
 |str z=>
   cases da with
   |str R=>
     cases hd;exact yA h_ s σ H x y v u Q I q B ⟨_,_,D,J,k _ F H (Step.refl g) rfl bx⟩
   |_=>cases hd
 |lst ds=>
   have c:(if iR 20 da && eC 20 ds then a_ (!(ds.any λy=>nW y da))else b_)=a_ b:=by cases da<;>exact hd
   split at c
   ·rename_i hs;rw[aj]at hs;cases c;obtain⟨p,vs,rfl,t,r⟩:=J;obtain rfl:u=.ref p:=B;obtain⟨its,w,pl,_⟩:=I.lstR g t;refine SeqAt.notIn_listAt (HM da ds its) pl.isList (λy M=>Dn I g _ l hs.1 hs.2 D q r w y (by simpa using M)) ⟨.bl _,H,I,rfl,?_⟩;rw[show its.toArray.any (HM da ds its)=its.any (HM da ds its) by simp,zk I g r w];exact k _ F H (Step.refl g) rfl bx
   ·cases c
 |_=>cases da<;>cases hd
set_option tactic.hygienic false
end
def gM(K:Fg)(f:Dat->List Dat->g_):V->List V->Hp->VK->Prop:=λx xs H Q=>∃da ds d fr F,f da ds=a_ (d,fr)/\Good F H/\Rep K F da x/\cT K F ds xs/\∀v F' H',Step F H F' H'->Rep K F' d v->(fr=c_->gD K H H' d v)->Q v H'
section
variable{X:Cx}
def xm(hs:∀da ds r,jc m da ds=a_ r->∃z,da=.str z):∀σ H Q,gE X.K C (.jr m xo xs) σ H Q->VG X.K "str" (gM X.K (jc m)) (gE X.K C xo) (gA X.K C xs) σ H Q:=λσ H Q z3=>by
 obtain⟨ρ,d,fr,h,F,g,R,k⟩:=z3;obtain⟨⟨da,B⟩,h1,h⟩:=cY h;obtain⟨ds,h2,h3⟩:=cY h;obtain⟨z,hz⟩:=hs da ds _ h3;refine⟨ρ,da,B,h1,F,g,R,λv F1 H1 c l _=>⟨?_,ρ,ds,h2,F1,c.good,R.mono c.ff,λvs D H2 j J=>⟨da,ds,d,fr,D,h3,j.good,l.mono j.ff,J,λw L M y O U=>k w L M ((c.trans j).trans y) O λq=>(U q).back (F:=F) (c.hh.trans j.hh)⟩⟩⟩;rw[hz]at l;rw[l];exact rfl
def CO(hs:∀da ds r,jc m da ds=a_ r->∃z,da=.str z):∀σ H Q,gE X.K C (.jr m xo []) σ H Q->VF X.K "str" (gM X.K (jc m)) (gE X.K C xo) σ H Q:=λσ H Q z3=>by
 obtain⟨ρ,d,fr,h,F,g,R,k⟩:=z3;obtain⟨⟨da,y⟩,h1,h⟩:=cY h;obtain⟨ds,h2,h3⟩:=cY h;cases h2;obtain⟨z,hz⟩:=hs da [] _ h3;refine⟨ρ,da,y,h1,F,g,R,λv F1 H1 c j _=>⟨?_,da,[],d,fr,F1,h3,c.good,j,rfl,λw B D l J L=>k w B D (c.trans l) J λq=>(L q).back (F:=F) c.hh⟩⟩;rw[hz]at j;rw[show v=.str z from j];exact rfl
def Il(r:cT X.K F [] vs)(w:cM vs us):us=[]:=by
 rw[r]at w;cases w;rfl
section
def oM(h:jc .startswith da ds=a_ r):∃x y i,da=.str x/\ds=[.str y,.int i]/\r=(.bl (hZ x y i),d_):=by
 have h:YJ da ds=a_ r:=h;unfold YJ at h;split at h
 ·cases h;exact⟨_,_,_,rfl,rfl,rfl⟩
 ·cases h
set_option tactic.hygienic true
def xw(h:jc .upper da ds=a_ r):∃x,da=.str x/\ds=[]/\jc .upper (.str x) []=a_ r:=by
 cases da with
 |str x=>
   cases ds with
   |nil=>exact⟨x,rfl,rfl,h⟩
   |cons d1 ds=>cases ds<;>cases d1<;>cases h
 |_=>cases ds<;>first|cases h|(rename_i d1 ds;cases ds<;>cases d1<;>cases h)
def AQ(h:jc .join da ds=a_ r):∃x es,da=.str x/\ds=[.lst es]/\jc .join (.str x) [.lst es]=a_ r:=by
 cases da with
 |str x=>
   cases ds with
   |nil=>cases h
   |cons d1 ds=>
     cases ds with
     |nil=>
       cases d1 with
       |lst y=>exact⟨x,y,rfl,rfl,h⟩
       |_=>cases h
     |cons _ _=>cases d1<;>cases h
 |_=>cases ds<;>first|cases h|(rename_i d1 ds;cases ds<;>cases d1<;>cases h)
def My(r:cT X.K F [.str y,.int i] vs)(w:cM vs us):∃t u,us=[.str y t,.int i u]:=by
 obtain⟨v,q,rfl,c,j,k,rfl,d,g⟩:=r;rw[g,c,d]at w;obtain⟨l,z,rfl,⟨t,rfl⟩,⟨B,rfl⟩⟩:=vals2 w;exact⟨_,_,rfl⟩
def wa:Qz X "str.startswith" (gM X.K (jc .startswith)):=λh_ s σ H x xs v us Q I j l c=>by
 obtain⟨da,ds,d,fr,F,h,g,q,z,k⟩:=c;obtain⟨B,y,i,rfl,rfl,h⟩:=oM h;cases h;rw[show x=.str B from q]at j;obtain⟨t,rfl⟩:=j;obtain⟨u,D,rfl⟩:=My z l;exact SC.startswith3 ⟨.bl _,H,I,rfl,k _ F H (Step.refl g) rfl bx⟩
def JZ:Qz X "str.upper" (gM X.K (jc .upper)):=λh_ s σ H x xs v us Q I j l c=>by
 obtain⟨da,ds,d,fr,F,h,g,q,y,k⟩:=c;obtain⟨z,rfl,rfl,h⟩:=xw h;simp only[jc,XS]at h;split at h
 ·rename_i hz;cases h;rw[q]at j;obtain⟨t,rfl⟩:=j;obtain rfl:=Il y l;exact SCL.upper (aa hz (by decide)) λ_=>⟨.str _,H,I.tok _,⟨_,rfl⟩,k _ F H (Step.refl g) rfl bx⟩
 ·cases h
theorem zS:∀{es:List Dat}{ys:List bu}{vs:List V}{us:List ah},uv es=a_ ys->cT X.K F es vs->cM vs us->pQ us ys
 |[],ys,vs,us,h,r,w=>by
   cases h;rw[show vs=[]from r]at w;cases w;exact .nil
 |d::es,ys,vs,us,h,r,w=>by
   cases d with
   |str x=>
     simp only[uv]at h;obtain⟨l,h1,h⟩:=eD h;cases h;obtain⟨v,q,e,c,g⟩:=r;subst e;rw[show v=.str x from c]at w
     cases w with
     |cons j k=>
       obtain⟨t,rfl⟩:=j;exact .cons x t (zS h1 g k)
   |_=>cases h
def N9:Qz X "str.join" (gM X.K (jc .join)):=λh_ s σ H x xs v us Q I j l c=>by
 obtain⟨da,ds,d,fr,F,h,g,y,z,k⟩:=c;obtain⟨O,es,rfl,rfl,h⟩:=AQ h;obtain⟨ys,h1,h⟩:=cY h;split at h
 ·rename_i hz;cases h;rw[y]at j;obtain⟨t,rfl⟩:=j;obtain⟨R,q,e,⟨p,vs,e1,B,D⟩,J⟩:=z;rw[J]at e;subst e e1;obtain⟨u,rfl,L⟩:=vals1 l;obtain rfl:u=.ref p:=L;obtain⟨its,M,pl,_⟩:=I.lstR g B;exact join_list pl.isList (by simpa using zS h1 D M) (aa hz (by decide)) λt' k'=>⟨.str _,H,I.tok _,⟨_,rfl⟩,k _ F H (Step.refl g) rfl bx⟩
 ·cases h
set_option tactic.hygienic false
end
end
section
variable{X:Cx}{es:List be}
def gD.qN{K:Fg}(hp:H p=b_):gD K H (L2.upd H p (.dK [])) (.dct [] []) (.ref p):=
 ⟨[p],by simp,λa m=>by rw[aA.mp m];exact hp,p,[],[],rfl,cC,rfl,⟨rfl,rfl⟩,rfl⟩
def M5:SE X C (.Dict [] [] pos) .qN:=PE.imp JC λσ H Q z3 p hp=>by
 obtain⟨ρ,d,fr,h,F,g,R,k⟩:=z3;cases h;exact k _ _ _ (Step.alloc g hp) ⟨p,[],rfl,cC,rfl,rfl⟩ λ_=>.qN hp
noncomputable def baseOk:be->Bool
 |.Call (.Name _ _) [] [] _=>d_
 |_=>c_
def sr(h:baseOk o=c_):attributeBase o m env w=w:=by
 cases o with
 |Call f a k p=>
   cases f with
   |Name x q=>
     cases a with
     |nil=>
       cases k with
       |nil=>cases h
       |cons _ _=>rfl
     |cons _ _=>rfl
   |_=>rfl
 |_=>rfl
def VY{id:String}{ap cp:zp}(slot:Me "str" name id)(ty:typeOf (.builtin id)=pure (.type "method_descriptor"))(c:Qz X id (gM X.K (jc m)))(hs:∀da ds r,jc m da ds=a_ r->∃z,da=.str z)
  (ho:SE X C o xo)(ha:SA X C [e] [xa])(hb:baseOk o=c_)(hl:(ap.endLine == cp.line)=c_)(h1:aS [e] X.env=(d_,eval e X.env)::aS [] X.env):SE X C (.Call (.Attribute o name ap) [e] [] cp) (.jr m xo [xa]):=
 PE.imp (Aq m9 slot ty c ho ha (sr hb) (by rw[h1];rfl) hl h1 rfl) (xm hs)
def VX{id:String}{ap cp:zp}(slot:Me "str" name id)(ty:typeOf (.builtin id)=pure (.type "method_descriptor"))(c:Qz X id (gM X.K (jc m)))(hs:∀da ds r,jc m da ds=a_ r->∃z,da=.str z)
  (ho:SE X C o xo)(ha:SA X C [e,e2] [xa,xb])(hb:baseOk o=c_)(hl:(ap.endLine == cp.line)=c_)(h1:aS [e,e2] X.env=(d_,eval e X.env)::aS [e2] X.env)(h2:aS [e2] X.env=[(d_,eval e2 X.env)]):SE X C (.Call (.Attribute o name ap) [e,e2] [] cp) (.jr m xo [xa,xb]):=
 PE.imp (Aq m9 slot ty c ho ha (sr hb) (by rw[h1,h2];rfl) hl h1 (by rw[h2];rfl)) (xm hs)
def VZ{id:String}{ap cp:zp}(slot:Me "str" name id)(ty:typeOf (.builtin id)=pure (.type "method_descriptor"))(c:Qz X id (gM X.K (jc m)))(hs:∀da ds r,jc m da ds=a_ r->∃z,da=.str z)
  (ho:SE X C o xo)(hb:baseOk o=c_)(hl:(ap.endLine == cp.line)=c_):SE X C (.Call (.Attribute o name ap) [] [] cp) (.jr m xo []):=
 PE.imp (Sa m9 slot ty c ho (sr hb) hl) (CO hs)
noncomputable def Uw(m:bu)(k:Nat):Option X2:=
 if m="join"/\k=1 then a_ .join else if m="startswith"/\k=2 then a_ .startswith else if m="upper"/\k=0 then a_ .upper else b_
set_option tactic.hygienic true in
def OZ{k:X2}{ap cp:zp}(l:X.A.units+21<dk)(h:Uw m es.length=a_ k)(ho:SE X C o xo)(ha:SA X C es xs)(hlen:xs.length=es.length)(j:∀e,es=[e]->aS [e] X.env=(d_,eval e X.env)::aS [] X.env)(d:∀e e2,es=[e,e2]->aS [e,e2] X.env=(d_,eval e X.env)::aS [e2] X.env/\aS [e2] X.env=[(d_,eval e2 X.env)])(hb:baseOk o=c_)(hl:(ap.endLine == cp.line)=c_) :
  SE X C (.Call (.Attribute o m ap) es [] cp) (.jr k xo xs):=by
 have one:es.length=1->∃e c,es=[e]/\xs=[c]:=λq=>by
  match es,xs,hlen,q with
  |[e],[c],_,_=>exact⟨e,c,rfl,rfl⟩
 have nil:es.length=0->es=[]/\xs=[]:=λq=>by
  match es,xs,hlen,q with
  |[],[],_,_=>exact⟨rfl,rfl⟩
 unfold Uw at h;split at h
 ·rename_i q;cases h;obtain⟨rfl,q⟩:=q;obtain⟨e,c,rfl,rfl⟩:=one q;exact VY PySem.F.slot_str_join PySem.F.type_str_join N9 (λ_ _ _ h=>let ⟨x,_,q,_⟩:=AQ h;⟨x,q⟩) ho ha hb hl (j e rfl)
 split at h
 ·rename_i q;cases h;obtain⟨rfl,q⟩:=q
  obtain⟨e,e2,c,g,rfl,rfl⟩:∃e e2 c g,es=[e,e2]/\xs=[c,g]:=by
   match es,xs,hlen,q with
   |[e,e2],[c,g],_,_=>exact⟨e,e2,c,g,rfl,rfl⟩
  exact VX PySem.F.slot_str_startswith PySem.F.type_str_startswith wa (λ_ _ _ h=>let ⟨x,_,_,q,_⟩:=oM h;⟨x,q⟩) ho ha hb hl (d e e2 rfl).1 (d e e2 rfl).2
 split at h
 ·rename_i q;cases h;obtain⟨rfl,q⟩:=q;obtain⟨rfl,rfl⟩:=nil q;exact VZ PySem.F.slot_str_upper PySem.F.type_str_upper JZ (λ_ _ _ h=>let ⟨x,q,_⟩:=xw h;⟨x,q⟩) ho hb hl
 ·cases h
end
structure LO{α:Type}(lt:α->α->Bool):Prop where
 irr:∀x,lt x x=d_
 tr:∀x y z,lt x y=c_->lt y z=c_->lt x z=c_
 tot:∀x y,lt x y=d_->lt y x=d_->x=y
def LO.Pa (o:LO lt)(h:lt x y=c_):lt y x=d_:=by
 cases q:lt y x with
 |false=>rfl
 |true=>have:=o.tr _ _ _ h q;rw[o.irr]at this;cases this
def LO.WL (o:LO lt)(h:lt y x=d_)(h':lt z y=d_):lt z x=d_:=by
 cases q:lt z x with
 |false=>rfl
 |true=>
   cases r:lt y z with
   |true=>have:=o.tr _ _ _ r q;rw[h]at this;cases this
   |false=>have:=o.tot _ _ r h';subst this;rw[h]at q;cases q
def loI:LO ltI:=⟨λx=>by simp[ltI],λx y z h h'=>by simp[ltI]at *;omega,λx y h h'=>by simp[ltI]at *;exact Int.le_antisymm h' h⟩
def P4:LO t7:=⟨λx=>by simp[t7],λx y z h h'=>by
  simp only[t7,decide_eq_true_eq]at *
  exact List.lt_trans h h',λx y h h'=>by
  simp only[t7,decide_eq_false_iff_not]at *;have:x.cps.toList=y.cps.toList:=List.le_antisymm (List.not_lt.mp h') (List.not_lt.mp h);obtain⟨a⟩:=x;obtain⟨b⟩:=y;obtain⟨a⟩:=a;obtain⟨b⟩:=b;simp at this
  rw[this]⟩
section
variable{α:Type}
set_option tactic.hygienic true
theorem uZ(o:LO lt):∀{l:List α},z∈vh lt x l↔z=x\/z∈l
 |[]=>by simp[vh]
 |y::ys=>by
   unfold vh;split
   ·rw[aw]
   ·rename_i h1;split
    ·rw[aw,uZ o,aw];constructor
     ·rintro(h|h|h)
      ·exact .inr (.inl h)
      ·exact .inl h
      ·exact .inr (.inr h)
     ·rintro(h|h|h)
      ·exact .inr (.inl h)
      ·exact .inl h
      ·exact .inr (.inr h)
    ·rename_i h2;have:=o.tot x y (by simpa using h1) (by simpa using h2);subst this;rw[aw];exact⟨λh=>.inr h,λh=>h.elim .inl id⟩
theorem jo(o:LO lt):∀{l:List α},z∈gC lt l↔z∈l
 |[]=>Iff.rfl
 |x::l=>by rw[gC,uZ o,jo o,aw]
theorem Ep(o:LO lt):∀{l:List α},l.Pairwise (λa b=>lt a b=c_)->(vh lt x l).Pairwise (λa b=>lt a b=c_)
 |[],_=>by simp[vh]
 |y::ys,h=>by
   obtain⟨h1,h2⟩:=cv.mp h;unfold vh;split
   ·rename_i q;refine cv.mpr ⟨λz hz=>?_,h⟩
    rcases aw.mp hz with rfl|hz
    ·exact q
    ·exact o.tr _ _ _ q (h1 z hz)
   ·split
    ·rename_i q;refine cv.mpr ⟨λz hz=>?_,Ep o h2⟩
     rcases(uZ o).mp hz with rfl|hz
     ·exact q
     ·exact h1 z hz
    ·exact h
theorem jD(o:LO lt):∀(l:List α),(gC lt l).Pairwise (λa b=>lt a b=c_)
 |[]=>.nil
 |x::l=>Ep o (jD o l)
def mQ(o:LO lt){l:List α}(h:l.Pairwise (λa b=>lt a b=c_)):l.Nodup:=h.imp λq e=>by subst e;rw[o.irr]at q;cases q
theorem rQ:∀{l:List α},(wc lt x l).Perm (x::l)
 |[]=>.refl _
 |y::ys=>by
   unfold wc;split
   ·exact(rQ.cons y).trans (.swap _ _ _)
   ·exact .refl _
theorem k9:∀(l:List α),(mL lt l).Perm l
 |[]=>.refl _
 |x::l=>rQ.trans ((k9 l).cons x)
theorem Eo(o:LO lt):∀{l:List α},l.Pairwise (λa b=>lt b a=d_)->(wc lt x l).Pairwise (λa b=>lt b a=d_)
 |[],_=>by simp[wc]
 |y::ys,h=>by
   obtain⟨h1,h2⟩:=cv.mp h;unfold wc;split
   ·rename_i q;refine cv.mpr ⟨λz hz=>?_,Eo o h2⟩
    rcases aw.mp (rQ.mem_iff.mp hz)with rfl|hz
    ·exact o.Pa q
    ·exact h1 z hz
   ·rename_i q;have c:lt y x=d_:=by simpa using q
    refine cv.mpr ⟨λz hz=>?_,h⟩
    rcases aw.mp hz with rfl|hz
    ·exact c
    ·exact o.WL c (h1 z hz)
set_option tactic.hygienic false
theorem Al(o:LO lt):∀(l:List α),(mL lt l).Pairwise (λa b=>lt b a=d_)
 |[]=>.nil
 |x::l=>Eo o (Al o l)
def Ig(o:LO lt){r:List α}(hp:r.Perm l)(hs:r.Pairwise (λa b=>lt b a=d_)):r=mL lt l:=
 lI (le:=λa b=>lt b a=d_) (λa b _ _ h h'=>o.tot _ _ h' h) hs (Al o l) (hp.trans (k9 l).symm)
end
theorem Jd:∀{l:List bu}{p:bu},risingS p l=c_->(p::l).Pairwise (λa b=>t7 b a=d_)
 |[],p,_=>by simp
 |x::r,p,h=>by
   simp only[risingS,aj,jX]at h;obtain⟨h1,h2⟩:=h;rw[ltCps_eq]at h1;have c:t7 x p=d_:=h1;have d:=Jd h2;refine cv.mpr ⟨λz hz=>?_,d⟩
   rcases aw.mp hz with rfl|hz
   ·exact c
   ·exact P4.WL c ((cv.mp d).1 z hz)
def Q8(h:sortedS l=c_):l.Pairwise (λa b=>t7 b a=d_):=by
 cases l with
 |nil=>exact .nil
 |cons x r=>exact Jd h
section
variable{X:Cx}
def D3{h':cx}{out:List ah}(I:Inv X h_ σ H s)(ex:∀b o,s.heap.get? b=a_ o->h'.get? b=a_ o)(hl:s.heap.objs.size<=l)(g:h'.get? l=a_ (seqObj "list" out.toArray e))(w:cM vs out)(hz:vs.length<=aB) :
  Inv X h_ σ (upd H l (.lst vs)) { s with heap:=h',drawn:=d,toks:=tk }:=by
 have c:Inv X h_ σ (upd H l (.lst vs)) { s with heap:=h',toks:=tk }:=I.laid ex hl ⟨hz,out,e,w,g⟩;exact⟨c.ok,c.os,c.bare,c.base,c.loc,c.cell,c.free,c.freeC,c.pin,c.hok,c.len⟩
def Gz(h:ItemsOf (SignAt x) acc x.cps.size):pQ acc.toList (dY x):=by
 obtain⟨h1,h2⟩:=h
 have e:acc.toList.map strOf=dY x:=by
  apply kB
  ·simp[dY,h1]
  ·intro n a b;have ha:n<acc.size:=by simpa using a
   obtain⟨c,u,d,g⟩:=h2 n acc[n] (aF ha);simp only[tQ,ph,dY];rw[g];have hb:n<x.cps.size:=by rw[<-h1];exact ha
   rw[aF hb]at d;cases d;rfl
 rw[<-e];refine strsAre_map _ λv j=>?_;obtain⟨n,k,rfl⟩:=cH.mp j;have ha:n<acc.size:=by simpa using k
 obtain⟨c,u,d,g⟩:=h2 n acc[n] (aF ha);exact⟨_,u,by simpa using g⟩
def Lh{A:bT}{x:bu}(hh:A.handled=b_)(hz:x.cps.size<=aB):DJ prog w A s (.str x tx) (λvs=>∃ss',pQ vs ss'/\ss'.Perm (dY x)):=by
 intro g j Q' e k;exact Br (e.trans hh) hz λh1 d c ex sz it=>k c.toList h1 s.drawn d ex sz ⟨_,Gz it,.refl _⟩
def Ba{Q:VK}{F:Hp}{d:Dat}{fr:Bool}{l:aI}{is:List bu}(g:Good F H)(c:H l=b_)(k:∀w F' H',Step F H F' H'->Rep X.K F' (.lst (is.map .str)) w->(c_=c_->gD X.K H H' (.lst (is.map .str)) w)->Q w H'):Q (.ref l) (upd H l (.lst (is.map V.str))):=
 k _ _ _ (Step.alloc g c) ⟨l,_,rfl,.inl (.inl cC),Yr is⟩ λ_=>.lst (bY.refl _) c (.jY g (WU is) (Yr is))
def Cq(h:n<64):n<=aB:=by exact bb (aa h (by decide))
def VP{js:List bu}(I:Inv X h_ σ H s)(j:js.length<64)(hc:DJ X.prog X.w X.A s v (λvs=>∃c,pQ vs c/\c.Perm is))(he:∀r:List bu,r.Perm is->r.Pairwise (λa b=>t7 b a=d_)->r=js)(hi:is.length=js.length)
  (k:∀l,H l=b_->Q (.ref l) (upd H l (.lst (js.map V.str)))):aC (aD X.prog X.w) X.A (call (.builtin "sorted") [v]) (EP X h_ σ Q) E s:=by
 refine IJ (ss:=is) (aG (ae hi) j) hc λh' d y l out c e ex hl g q i2 i3=>?_;obtain rfl:=he c i2 (Q8 i3);exact⟨.ref l,_,D3 I ex hl g (wO q) (by rw[ai];exact Cq j),rfl,k l (I.hok.fresh hl)⟩
end
def AJ:LO u7:=⟨nv.ir,nv.tr,λx y h h'=>by
 by_cases e:x=y
 ·exact e
 ·have:=nv.co _ _ e h;rw[h']at this;cases this⟩
theorem AL:∀{ds:List Dat}{q:List Key},vd ds=a_ q->q.all sK=c_->(q.map iK).map Dat.int=ds
 |[],_,h,_=>by cases h;rfl
 |d::ds,_,h,a=>by
   simp only[vd]at h;obtain⟨k,c,h⟩:=cY h;obtain⟨q,g,h⟩:=eD h;cases h;simp only[dv,aj]at a;rw[ax,ax,AL g a.2]
   cases d with
   |int i=>cases c;rfl
   |str x=>cases c;cases a.1
   |_=>cases c
def OQ(h:XQ d=a_ x)(h3:s2 x<3):OP (s2 x) (c2 x)=d:=by
 cases d with
 |int i=>cases h;rfl
 |str y=>
   cases h;show Dat.str ⟨((y.cps.toList.map e8).map um).toArray⟩=_;rw[cB,show(um ∘ e8)=id from rfl,List.map_id]
 |tup es=>
   obtain⟨q,g,h⟩:=eD h;cases h;simp only[s2]at h3 ⊢;by_cases c:q.all sK=c_
   ·rw[if_pos c];show Dat.tup ((q.map iK).map .int)=_;rw[AL g c]
   ·rw[if_neg c]at h3;omega
 |_=>cases h
theorem Bn:∀{ds:List Dat}{k:List N2},LZ ds=a_ k->(∀n∈k.map s2,n<3)->sH OP (k.map s2) (k.map c2)=ds
 |[],_,h,_=>by cases h;rfl
 |d::ds,_,h,h3=>by
   simp only[LZ]at h;obtain⟨x,c,h⟩:=cY h;obtain⟨q,g,h⟩:=eD h;cases h;rw[ax]at h3;rw[ax,ax,BP,OQ c (h3 _ g7),Bn g λy j=>h3 y (iE _ j)]
theorem EJ:∀{ds:List Dat}{q:List N2},LZ ds=a_ q->q.all sI=c_->(q.map U9).map Dat.int=ds
 |[],_,h,_=>by cases h;rfl
 |d::ds,_,h,a=>by
   obtain⟨k,c,h⟩:=cY h;obtain⟨q,g,h⟩:=eD h;cases h;simp only[dv,aj]at a;rw[ax,ax,EJ g a.2]
   cases d with
   |int i=>cases c;rfl
   |str x=>cases c;cases a.1
   |tup es=>
     obtain⟨l,j,c⟩:=eD c;cases c;cases a.1
   |_=>cases c
def OO(h:Wy d=a_ x)(h3:t5 (sN x)=c_):Uo (sN x) (cN x)=d:=by
 cases d with
 |int i=>cases h;rfl
 |str y=>
   cases h;show Dat.str ⟨((y.cps.toList.map e8).map um).toArray⟩=_;rw[cB,show(um ∘ e8)=id from rfl,List.map_id]
 |tup es=>
   simp only[Wy]at h;obtain⟨q,g,h⟩:=eD h;cases h;simp only[sN,cN]at h3 ⊢;by_cases c:q.all sI=c_
   ·rw[if_pos c,if_pos c];show Dat.tup ((q.map U9).map .int)=_;rw[EJ g c]
   ·rw[if_neg c]at h3;rw[if_neg c,if_neg c];show Dat.tup _=_;rw[Bn g (JL h3)]
 |_=>cases h
theorem Ft:∀{ds:List Dat}{k:List NK},SQ ds=a_ k->(∀x∈k,t5 (sN x)=c_)->sH Uo (k.map sN) (k.map cN)=ds
 |[],_,h,_=>by cases h;rfl
 |d::ds,_,h,h3=>by
   obtain⟨x,c,h⟩:=cY h;obtain⟨q,g,h⟩:=eD h;cases h;rw[ax,ax,BP,OO c (h3 x g7),Ft g λy j=>h3 y (iE _ j)]
def Fu(h:NZ d=a_ k)(h3:∀x∈k,t5 (sN x)=c_):Bm (k.map sN) (codeN k)=d:=by
 cases d with
 |tup ds=>show Dat.tup _=_;rw[Ft h h3]
 |_=>cases h
theorem uV:∀{ds:List Dat}{kk:List (List NK)},v9 ds=a_ kk->kk.length=ds.length/\∀i,i<ds.length->NZ (ds.getD i .non)=a_ (kk.getD i [])
 |[],_,h=>by cases h;exact⟨rfl,λi hi=>by cases hi⟩
 |d::ds,_,h=>by
   obtain⟨x,c,h⟩:=cY h;obtain⟨q,g,h⟩:=eD h;cases h;obtain⟨l,a⟩:=uV g;refine⟨by simp[l],λi hi=>?_⟩
   cases i with
   |zero=>exact c
   |succ i=>simpa using a i (by simpa using hi)
theorem EX:∀{ds:List Dat}{q:List Key},vd ds=a_ q->jL ds=c_
 |[],_,_=>rfl
 |d::ds,_,h=>by
   simp only[vd]at h;obtain⟨k,c,h⟩:=cY h;obtain⟨q,g,_⟩:=eD h;have:=EX g
   cases d<;>first|(cases c;done)|simp[jL,im,this]
theorem JV:∀{ds:List Dat}{q:List N2},LZ ds=a_ q->jL ds=c_
 |[],_,_=>rfl
 |d::ds,_,h=>by
   obtain⟨k,g,h⟩:=cY h;obtain⟨q,j,_⟩:=eD h;have:=JV j
   cases d with
   |tup es=>
     obtain⟨l,c,_⟩:=eD g;simp[jL,im,this,EX c]
   |int _=>simp[jL,im,this]
   |str _=>simp[jL,im,this]
   |_=>cases g
theorem JU:∀{ds:List Dat}{q:List NK},SQ ds=a_ q->jL ds=c_
 |[],_,_=>rfl
 |d::ds,_,h=>by
   simp only[SQ]at h;obtain⟨k,c,h⟩:=cY h;obtain⟨q,j,_⟩:=eD h;have:=JU j
   cases d with
   |tup es=>
     simp only[Wy]at c;obtain⟨l,g,_⟩:=eD c;simp[jL,im,this,JV g]
   |int _=>simp[jL,im,this]
   |str _=>simp[jL,im,this]
   |_=>cases c
def SR(h:NZ d=a_ q):im d=c_:=by
 cases d with
 |tup es=>simp[im,JU h]
 |_=>cases h
theorem Ag{K:Fg}(r:cT K F ds vs):∀{js:List Nat},(∀j∈js,j<ds.length)->cT K F (js.map λj=>ds.getD j .non) (js.map λj=>vs.getD j .non)
 |[],_=>rfl
 |j::js,h=>by
   have c:=h j g7;obtain⟨v,e,q⟩:=r.get (af c);refine⟨vs.getD j .non,_,rfl,?_,Ag r λi hi=>h i (iE _ hi)⟩;show Rep K F (ds.getD j Dat.non) (vs.getD j V.non);rw[show vs.getD j V.non=v by simp[e],show ds.getD j Dat.non=ds[j] by simp[c]];exact q
def Aa{kk:List (List NK)}(hsh:∀j,j<kk.length->(kk.getD j []).map sN=Ct kk)(h3:∀x∈Ct kk,t5 x=c_)(sl:Sel (λi=>kk.getD i []) kk.length js) :
  (js.map λj=>codeN (kk.getD j [])).Perm (gC u7 (kk.map codeN)):=by
 have d:∀j,j<kk.length->∀k∈kk.getD j [],t5 (sN k)=c_:=λj c k g=>h3 _ (by rw[<-hsh j c];exact de g)
 have q:(js.map λj=>codeN (kk.getD j [])).Nodup:=by
  have:=fu.mp sl.nd;refine fu.mpr (iQ (λ{a b}l mb h e=>h ?_) this);exact code_inj ((hsh _ (sl.lt a l)).trans (hsh _ (sl.lt b mb)).symm) (d _ (sl.lt a l)) e
 rw[fS q (mQ AJ (jD AJ _))];intro z;rw[jo AJ,cg,cg];constructor
 ·rintro⟨j,c,rfl⟩;have:=sl.lt j c;exact⟨kk.getD j [],by rw[show kk.getD j []=kk[j] by simp[this]];exact bh this,rfl⟩
 ·rintro⟨k,g,rfl⟩;obtain⟨i,hi,rfl⟩:=cH.mp g;have:=sl.all i hi;obtain⟨j,c,e⟩:=cg.mp this;refine⟨j,c,?_⟩;rw[e,show kk.getD i []=kk[i] by simp[hi]]
noncomputable def adr:V->aI
 |.ref a=>a
 |_=>0
theorem zO{av:Nat->aI}:∀(js:List Nat),cM (js.map λj=>V.ref (av j)) (js.map λj=>cG (av j))
 |[]=>.nil
 |j::js=>.cons rfl (zO js)
section
def YV{h:cx}(hl:h.IsList l items):FT prog w h (.ref l) items.size (λi v=>items[i]?=a_ v):=by
 intro g j s1 Q1 sz ex k;have c :=hl.at λo e=>ex l o e;have lt:l<h.objs.size:=by obtain⟨o,e,_⟩:=hl;exact hl9 e
 have ne :=br (cR lt sz);refine vQ c (k _ [s1.heap.objs.size,l] _ (λq d=>Walks.list d _ l ne items) (λb hb=>?_) ⟨⟨_,aJ _ rfl,rfl,rfl⟩,c.push _⟩)
 rcases aw.mp hb with z|z
 ·exact .inl z
 ·exact .inr (by rw[aA.mp z];exact lt)
end
section
variable{X:Cx}{vs:List V}{kk:List (List NK)}
abbrev UK(vs:List V)(j:Nat):aI:=adr (vs.getD j .non)
noncomputable abbrev P5(kk:List (List NK))(j:Nat):List NK:=kk.getD j []
def lj(r:cT X.K F ds vs)(k:v9 ds=a_ kk){j:Nat}(l:j<kk.length):vs.getD j .non=.ref (UK vs j)/\X1 X.K F (P5 kk j) (UK vs j):=by
 obtain⟨y,d⟩:=uV k;have c:j<ds.length:=aa l (ae y);obtain⟨v,e,q⟩:=r.get (af c);have g:=d j c;rw[show ds.getD j Dat.non=ds[j] by simp[c]]at g;obtain⟨a,rfl,z⟩:=NY g q;unfold UK;rw[show vs.getD j V.non=.ref a by simp[e]];exact⟨rfl,z⟩
theorem E4(d:v9 ds=a_ kk):∀js:List Nat,(∀j∈js,j<kk.length)->jL (js.map λj=>ds.getD j Dat.non)=c_
 |[],_=>rfl
 |j::js,h=>by
   obtain⟨g,c⟩:=uV d;simp only[ax,jL,aj];exact⟨SR (c j (aa (h j g7) (ae g))),E4 d js λi hi=>h i (iE _ hi)⟩
def zX(o:JK kk)(c:j<kk.length):(P5 kk j).map sN=Ct kk:=by
 have:=bo.mp o.2.2.1 (kk.getD j []) (by rw[show kk.getD j []=kk[j] by simp[c]];exact bh c);simpa using this
def MQ(room:X.A.units+8<dk)(I:Inv X h_ σ H s)(g:Good F H)(r:cT X.K F ds vs)(y:v9 ds=a_ kk)(o:JK kk)(hl:kk.length<=300)
  (hc:DJ X.prog X.w X.A s v (λus=>∃js,us=js.map (λj=>cG (UK vs j))/\Sel (P5 kk) kk.length js))
  (k:∀w F' H',Step F H F' H'->Rep X.K F' (.lst ((gC u7 (kk.map codeN)).map (Bm (Ct kk)))) w->(c_=c_->gD X.K H H' (.lst ((gC u7 (kk.map codeN)).map (Bm (Ct kk)))) w)->Q w H') :
  aC (aD X.prog X.w) X.A (call (.builtin "sorted") [v]) (EP X h_ σ Q) X.xe s:=by
 obtain⟨U,J⟩:=uV y;obtain⟨b,hb⟩:=mF.mp o.1;have h3:∀x∈Ct kk,t5 x=c_:=λx Z=>bo.mp o.2.1 x Z;have L:∀j,j<kk.length->∀k∈P5 kk j,t5 (sN k)=c_:=λj c k y=>h3 _ (by rw[<-zX o c];exact de y)
 have n2:∀js,Sel (P5 kk) kk.length js->js.length=(gC u7 (kk.map codeN)).length:=λjs sl=>by
  have:=(Aa (λj c=>zX o c) h3 sl).length_eq
  rwa [ai]at this
 refine sorted_N (kf:=P5 kk) (av:=UK vs) (n:=kk.length) (sh:=Ct kk) (b:=b) (by show X.A.units+1+1+2<=dk;omega) (λj c=>JS I g (lj r y c).2) (λj c=>zX o c) h3 hb
  (λA' E' Q' e k'=>hc A' E' Q' e λM h1 d1 O x1 x2 z=>k' M h1 d1 O x1 x2 (by obtain⟨js,z1,W⟩:=z;exact⟨js,z1,W,by rw[n2 js W];exact o.2.2.2⟩)) λhp3 d3 tk3 D js e3 R B g3 sl pw=>?_
 have d:H D=b_:=I.hok.fresh B;refine⟨.ref D,_,D3 I R B g3 (zO (av:=UK vs) js) (by rw[ai];have:=sl.len;rw[eM];exact aa this (aa hl (by decide))),rfl,?_⟩
 have eu:gC u7 (kk.map codeN)=js.map λj=>codeN (P5 kk j):=
  (lI (le:=λa b=>u7 b a=d_) (λa b _ _ h h'=>AJ.tot _ _ h' h) (pw.imp λq=>AJ.Pa q) ((jD AJ _).imp λq=>AJ.Pa q) (Aa (λj c=>zX o c) h3 sl)).symm
 have ed:(gC u7 (kk.map codeN)).map (Bm (Ct kk))=js.map λj=>ds.getD j .non:=by
  rw[eu,cB];refine cP λj c=>?_;have l:=sl.lt j c;show Bm (Ct kk) (codeN (P5 kk j))=_;rw[<-zX o l];exact Fu (J j (aa l (ae U))) (L j l)
 have er:(js.map λj=>V.ref (UK vs j))=js.map λj=>vs.getD j .non:=cP λj c=>(lj r y (sl.lt j c)).1.symm;have Y:=Ag r λj c=>(show j<ds.length from aa (sl.lt j c) (ae U))
 rw[er];rw[ed]at k;exact k (.ref D) _ _ (Step.alloc g d) ⟨D,_,rfl,.inl (.inl cC),Y.mono (bY.upd (g.sub.free d))⟩ λ_=>.lst (bY.refl _) d (.jY g (E4 y js sl.lt) Y)
set_option tactic.hygienic true in
def IE(hh:X.A.handled=b_)(room:X.A.units+8<dk)(I:Inv X h_ σ H s)(g:Good F H)(t:mV X.K F l vs)(r:cT X.K F ds vs)
  (B:v9 ds=a_ kk)(h2:wU kk=a_ (d,fr))(k:∀w F' H',Step F H F' H'->Rep X.K F' d w->(fr=c_->gD X.K H H' d w)->Q w H')
  (fin:∀S s2,aC (aD X.prog X.w) X.A (call (.builtin "sorted") [.ref S]) (EP X h_ σ Q) X.xe s2->Q1 (.ref S) s2):aC (aD X.prog X.w) X.A (call (.type "set") [.ref l]) Q1 E s:=by
 unfold wU at h2;split at h2
 ·rename_i hb;cases h2;obtain⟨its,M,pl,hz⟩:=I.lstR g t;obtain⟨U,W⟩:=uV B;have Y:=r.length;have Z:its.length=kk.length:=by have:=M.length;omega
  have D:∀s2:ak,(∀b o,s.heap.get? b=a_ o->s2.heap.get? b=a_ o)->s2.TypeIs (.ref l) "list":=λs2 ex=>by
   obtain⟨o,e1,e2,_⟩:=pl.isList;exact⟨o,ex _ _ e1,e2⟩
  have hsz:its.toArray.size=kk.length:=by rw[aO,Z]
  have c:=YV (prog:=X.prog) (w:=X.w) pl.isList;rw[hsz]at c;refine GB hh D PySem.F.sub_list_set PySem.F.sub_list_frozenset (by decide) c (λi v O=>?_) (λj hj=>JS I g (lj r B hj).2) hb.1 (by exact bb (bb (bb room))) λh' tk y ex=>fin _ _ ?_
  ·have hi:i<kk.length:=by
    have:i<its.toArray.size:=by rcases bR.mp O with⟨q,_⟩;exact q
    exact aa this (ae hsz)
   obtain⟨u,hu,R⟩:=M.get (af ((aa hi (aa (ae U) (ae Y.symm)))));have e1:its[i]?=a_ v:=by simpa using O
   rw[hu]at e1;cases e1;have:=(lj r B hi).1;rw[show vs.getD i V.non=vs[i]'(by omega) by simp[show i<vs.length by omega]]at this;rw[this]at R;exact R
  ·exact MQ room (I.kept ex) g r B hb.2 hb.1 (λA' E' Q' e k'=>Hr hh y hb.1 A' E' Q' e λJ h1 d1 L x1 x2 z=>k' J h1 d1 L x1 x2 z) k
 ·cases h2
end
section
variable{X:Cx}
set_option tactic.hygienic true in
def zg(D:X.A.units+21<dk)(c:X.calm=c_):lF X (.builtin "sorted") (gL X.K (gW .sorted)):=λh_ s σ H xs us Q I r h=>by
 obtain⟨da,d,fr,F,v,h1,rfl,g,z,k⟩:=sg oQ h;obtain⟨u,rfl,B⟩:=vals1 r
 cases da with
 |str x=>
   cases z;obtain⟨tx,rfl⟩:=B;simp only[gW,b1,Vk,D4]at h1;split at h1
   ·rename_i j;cases h1;have y:(mL t7 (dY x)).length=(dY x).length:=(k9 _).length_eq;have hsz:(dY x).length=x.cps.size:=by simp[dY]
    refine VP (is:=dY x) (js:=mL t7 (dY x)) I (aG (ae y) j) (Lh (I.ok.hd c) (by rw[eM];exact bb (aa (aG (ae hsz.symm) j) (by decide)))) (λr hp hs=>Ig P4 hp hs) y.symm λl q=>Ba (fr:=c_) (d:=.non) g q k
   ·cases h1
 |_=>simp only[gW,b1,Vk]at h1;cases h1
end
noncomputable def kI:Key->Int
 |.inl i=>i
 |.inr _=>0
noncomputable def kS:Key->bu
 |.inl _=>""
 |.inr x=>x
theorem DW:∀{vs:List ah}{ks:List Key},ip (λv k=>sU k v=c_) vs ks->(∀k∈ks,∃i,k=cj i)->pQ vs (ks.map kS)
 |_,_,.nil,_=>.nil
 |_,_,.cons p q,h=>by
   obtain⟨i,rfl⟩:=h _ (.head _)
   rcases cO p with⟨j,t,e,_⟩|⟨x,t,e,rfl⟩
   ·cases e
   ·cases e;exact .cons _ _ (DW q λk c=>h k (.tail _ c))
theorem uO{α β γ:Type}{R:β->γ->Prop}{f:α->β}:∀{l:List α}{ks:List γ},ip (λa c=>R (f a) c) l ks->ip R (l.map f) ks
 |_,_,.nil=>.nil
 |_,_,.cons p q=>.cons p (uO q)
def JP{ks:List Key}(h:ks.Nodup)(ha:∀k∈ks,∃i,k=cj i):(ks.map kS).Nodup:=by
 unfold List.Nodup at *;rw[fu];refine iQ ?_ h;intro a b d mb c e;obtain⟨i,rfl⟩:=ha a d;obtain⟨j,rfl⟩:=ha b mb;exact c (by simp only[kS]at e;rw[e])
section
variable{A:bT}{s:ak}
def Hq{is:List bu}(hh:A.handled=b_)(y:nJ (cD prog w) (n8 w) s.heap S n (λq=>∃j,j<is.length/\cj (is.getD j "")=q))(Y:n<=4000) :
  DJ prog w A s (.ref S) (λvs=>∃c,pQ vs c/\c.Perm (gC t7 is)):=by
 obtain⟨es,ep,t,ks,L,Z,D,M,ye,l⟩:=y;have len:=lg D;rw[ba]at len;intro A' E' Q' e k;refine tm (e.trans hh) L (by rw[eM];omega) λh1 d O vs ex sz pm=>k vs h1 d O ex sz ?_;obtain⟨U,W,J⟩:=lX pm (uO (R:=λv k=>sU k v=c_) (f:=λe:Int×ah=>e.2) D)
 have ha:∀k∈ks,∃i,k=cj i:=λk B=>by
  obtain⟨j,_,e⟩:=(l k).mp B;exact⟨_,e.symm⟩
 refine⟨_,DW W λk B=>ha k (J.mem_iff.mp B),(J.map kS).trans ?_⟩;rw[fS (JP M ha) (mQ P4 (jD P4 is))];intro z;rw[jo P4,cg];constructor
 ·rintro⟨q,hq,rfl⟩;obtain⟨j,g,e⟩:=(l q).mp hq;subst e;simp only[kS,lT,af g,sG];exact bh g
 ·intro hz;obtain⟨j,g,rfl⟩:=cH.mp hz;refine⟨cj is[j],(l _).mpr ⟨j,g,?_⟩,rfl⟩;simp only[lT,af g,sG]
def YU:FT prog w h (.str x tx) x.cps.size (SignAt x):=by
 intro c d s1 Q1 sz ex k;refine wpAny_pyIter_str λo St W st=>k o [s1.heap.objs.size] St W (λb hb=>.inl (aA.mp hb)) st
def Ck:isSubtype (.type "str") (.type "set")=pure d_:=by rw[isSubtype_type];kernel_rfl
def Cm:isSubtype (.type "str") (.type "frozenset")=pure d_:=by kernel_rfl
end
section
variable{X:Cx}
set_option tactic.hygienic true in
def M2(hu:X.A.units+21<dk)(D:X.calm=c_)(hg:Gl X "sorted")(hm:X.mg "sorted"=b_)(U:Gl X "set")(W:X.mg "set"=b_)(ha:SE X C a xa)
  (hs:aS [a] X.env=[(d_,eval a X.env)]) :
  SE X C (.Call (.Name "sorted" p) [.Call (.Name "set" p2) [a] [] pos2] [] pos) (.blt .sset [xa]):=by
 intro h_ s σ H Q I h;obtain⟨ρ,d,fr,h,F,g,R,k⟩:=h;obtain⟨ds,h1,h2⟩:=cY h;obtain⟨⟨da,fa⟩,h3,h1⟩:=cY h1;cases h1;refine fo (lu I hg hm (by decide +kernel:bootBuiltins "sorted"=a_ (.builtin "sorted")) (px ?_ rfl rfl));show aC _ _ (spliced ((d_,eval (.Call (.Name "set" p2) [a] [] pos2) X.env)::backTo pos [])) _ _ s;refine Ga ?_;refine fo (lu I U W (by decide +kernel:bootBuiltins "set"=a_ (.type "set")) (c7 ?_ (by rw[hs];rfl) rfl));have Y :=jC ha oI (by rw[hs];rfl);have Z:kR C [xa] ρ=a_ [da]:=by simp only[kR,h3,bw,bV]
 refine iM (Y pos2 h_ s σ H (λvs H1=>∃F1,Step F H F1 H1/\cT X.K F1 [da] vs) I ⟨ρ,[da],Z,F,g,R,λvs F1 H1 B r1=>⟨F1,B,r1⟩⟩) λus s1 ⟨vs,H1,I1,rv,F1,B,r1⟩=>?_;have hh:=I.ok.hd D;obtain⟨v,w,rfl,J,e⟩:=r1;cases e;obtain⟨u,rfl,ru⟩:=vals1 rv
 have L:∀{is:List bu} {n:Nat} {h':cx} {O:Nat} {S:aI},(d,fr)=(Dat.lst ((gC t7 is).map .str),c_)->(gC t7 is).length<64->(∀b o,s1.heap.get? b=a_ o->h'.get? b=a_ o)->n<=4000->
   nJ (cD X.prog X.w) (n8 X.w) h' S n (λq=>∃j,j<is.length/\cj (is.getD j "")=q)->
   aC (aD X.prog X.w) X.A (call (.builtin "sorted") [.ref S]) (EP X h_ σ Q) X.xe { s1 with heap:=h',toks:=O }:=by
  intro is n h' O S e h64 ex hn y;cases e;have I2:Inv X h_ σ H1 { s1 with heap:=h',toks:=O }:=I1.kept ex
  exact VP I2 h64 (Hq hh y hn) (λr hp hs=>lI (λa b _ _ h h'=>P4.tot _ _ h' h) hs ((jD P4 is).imp λq=>P4.Pa q) hp) rfl
   λl hfr=>Ba (fr:=c_) (d:=.non) B.good hfr λw F' H' st r f=>k w F' H' (B.trans st) r λz=>gD.back (F:=F1) B.hh (f z)
 cases da with
 |lst ds=>
   obtain⟨l,vs,rfl,t,r'⟩:=J;cases ru;obtain⟨kk,M,q2⟩:=cY h2;exact IE hh (by omega) I1 B.good t r' M q2 (λw F' H' st r f=>k w F' H' (B.trans st) r λz=>gD.back (F:=F1) B.hh (f z)) λS s2 q=>rB q
 |str x=>
   cases J;obtain⟨tx,rfl⟩:=ru;simp only[gW,b1,Vk,D2]at h2;have hl:(dY x).length=x.cps.size:=by simp[dY]
   split at h2
   ·rename_i hb;refine IP (knd:=cD X.prog X.w) hh (λs2 _=>rfl) Ck Cm (by decide) YU (λi=>cj ((dY x).getD i "")) (λi v hv=>?_) (by unfold x5;omega) λh' O y ex=>?_
    ·obtain⟨c,u,M,rfl⟩:=hv
     have e:(dY x).getD i ""=⟨#[c]⟩:=by
      have hi:i<x.cps.size:=by rcases bR.mp M with⟨q,_⟩;exact q
      rw[aF hi]at M;cases M;simp[dY,hi]
     rw[e];exact⟨xr _ u,rfl⟩
    ·refine rB ?_;rw[<-hl]at y;exact L (aW h2).symm hb.2 ex (bb hb.1) y
   ·cases h2
 |_=>simp only[gW,b1,Vk]at h2;cases h2
end
noncomputable def posK(k:Key):List Key->Option Nat
 |[]=>b_
 |j::ks=>if j=k then a_ 0 else(posK k ks).map (·+ 1)
def S4(op:HQ)(c:Dat)(ds:List Dat):Dat->Option Dat
 |.dct ks ws=>(yL c).bind λk=>(posK k ks).bind λj=>(ws[j]?).bind λe=>(kJ op e ds).map λd=>.dct ks (ws.set j d)
 |_=>b_
def S6(op:HQ)(i:Nat)(ρ:dI)(c:Dat)(ds:List Dat):g_->Option Out
 |some (d,c_)=>(S4 op c ds d).map λd'=>.nx (ρ.set i (a_ (d',c_)))
 |_=>b_
def Sx.U7(op:HQ)(i:Nat)(c:Ex)(es:List Ex):Sx:={ ex:=λC ρ=>(bE C c (full ρ)).bind λy=>(nE C es (full ρ)).bind λx=>if x.2=c_ then S6 op i ρ y.1 x.1 (ρ[i]?).join else b_ }
theorem Et:∀{k_:List (Key×V)}{j:Nat}{v:V},posK k (k_.map (·.1))=a_ j->(k_.map (·.2))[j]?=a_ v->oD k_ k=a_ v
 |[],_,_,h,_=>by cases h
 |p::r,j,v,h,e=>by
   simp only[ax,posK]at h;by_cases q:p.1=k
   ·rw[if_pos q]at h;cases h;simp only[ax,nR]at e;cases e;simp[oD,q]
   ·rw[if_neg q]at h;obtain⟨j',h1,rfl⟩:=eD h;simp only[ax,bO]at e;have:=Et h1 e;unfold oD at this ⊢;rw[List.find?_cons_of_neg (by simpa using q)];exact this
section
variable{X:Cx}{K:Fg}
def Wb:R2:=λx y H Q=>∃a k_ k w,x=.ref a/\y=kV k/\H a=a_ (.dK k_)/\oD k_ k=a_ w/\Q w H
def TL(d:X.A.units+1<dk):UT X Wb:=by
 intro value slice h_ s σ H x y v u Q I g j h hs;obtain⟨a,k_,k,w,rfl,rfl,l,z,q⟩:=h;cases g;have c:BK H a (kV k) (a_ w):=by rw[<-z];exact BK.k l
 exact Mh (td I c) vL.lookup (xN d I c j λD s' I' B=>⟨w,H,I',B,q⟩) hs
def cZ.at (o:cZ K H ds vs S)(q:ds[k]?=a_ e) :
  ∃v g j l,vs[k]?=a_ v/\lL K H e v j/\S=g++(j++l)/\cZ K H (ds.take k) (vs.take k) g/\cZ K H (ds.drop (k+1)) (vs.drop (k+1)) l/\vs=vs.take k++v::vs.drop (k+1):=by
 obtain⟨g,L,B,y,rfl⟩:=o.take k;have c :=(aP.mp q).1
 have hd:ds.drop k=e::ds.drop (k+1):=by
  rw[eR c]
  congr 1
  exact(aP.mp q).2
 rw[hd]at y;obtain⟨v,r,j,l,e1,D,J,rfl⟩:=y;have d:k<vs.length:=by rw[o.length];exact c
 have z :=eR d;rw[z]at e1;obtain⟨rfl,rfl⟩:=c6 e1;exact⟨_,g,j,l,af d,D,rfl,B,J,by rw[<-z,aY]⟩
structure Chg(K:Fg)(H:Hp)(op:HQ)(p l:aI)(d':Dat)(ws:List V)(S T:List aI)(ob':HO)(S':List aI):Prop where
 own:lL K (upd H l ob') d' (.ref p) S'
 nd:S'.Nodup
 sub:∀a∈S',a∈S\/a∈T
def N8{T:List aI}(h1:op≠.ext)(h2:op≠.dput)(h0:op≠.seti)(L:bY H H')(hj:ws[j]?=a_ e)(M:kJ op e ds=a_ e')(o:lL K H (.dct ks ws) v S)(nd:S.Nodup)
  (a:cZ K H' ds us T)(nt:T.Nodup)(O:∀a∈S,a∉T):∃p k_ l xs R ob' S',v=.ref p/\H p=a_ (.dK k_)/\k_.map (·.1)=ks/\(k_.map (·.2))[j]?=a_ (.ref l)/\H l=a_ (.lst xs)/\l∈S/\H' l=a_ R/\Au op R us=a_ ob'/\Hy ob'/\Chg K H' op p l (.dct ks (ws.set j e')) us S T ob' S':=by
 obtain⟨p,k_,S0,rfl,hp,rfl,os,rfl⟩:=o;obtain⟨vk,U,S2,W,f1,f2,f3,f4,f5,f6⟩:=os.at hj;subst f3
 have Z:∃l xs,vk=.ref l/\H l=a_ (.lst xs):=by
  cases e with
  |lst ls=>obtain⟨l,xs,S',rfl,hl,_⟩:=id f2;exact⟨l,xs,rfl,hl⟩
  |dct ks ws=>cases op<;>first|exact absurd rfl h1|exact absurd rfl h2|exact absurd rfl h0|cases M
  |dcn _=>cases op<;>first|exact absurd rfl h1|exact absurd rfl h2|cases M
  |_=>cases op<;>cases M
 obtain⟨l,xs,rfl,hl⟩:=Z;have k:=aZ.mp nd;have y:=j7 k.2;have Y:=j7 y.2.1
 have c:∀a,a∈U\/a∈S2\/a∈W->a∈p::(U++(S2++W)):=λa m=>iE _ (by
  rcases m with m|m|m
  ·exact aq _ m
  ·exact ag _ (aq _ m)
  ·exact ag _ (ag _ m))
 obtain⟨l2,R,ob',S',ev,d,B,D,mu,o2,nd2,g⟩:=yD h1 h2 M (f2.mono L) Y.1 a nt λa m=>O a (c a (.inr (.inl m)));cases ev
 have J:∀us,H' l≠a_ (.tup us):=λus z=>by rw[B]at z;cases z;cases op<;>first|exact absurd rfl h1|exact absurd rfl h2|cases D
 have hl1 :=λm=>y.2.2 l m (aq _ d);have hl3 :=λm=>Y.2.2 l d m;have hpl:p≠l:=λz=>k.1 (z▸ag _ (aq _ d));refine⟨p,k_,l,xs,R,ob',p::(U++(S'++W)),rfl,hp,rfl,f1,hl,c l (.inr (.inl d)),B,D,mu,⟨p,k_,U++(S'++W),rfl,(cL hpl).trans (L _ _ hp),rfl,?_,rfl⟩,?_,λa m=>?_⟩
 ·have q:=((f4.mono L).upd J _ hl1).append ((cZ.one o2).append ((f5.mono L).upd J _ hl3))
  have ed:ws.set j e'=ws.take j++([e']++ws.drop (j+1)):=by
   rw[rH,if_pos (aP.mp hj).1];rfl
  rw[ed];exact f6.symm▸q
 ·refine aZ.mpr ⟨λm=>?_,iT y.1 (iT nd2 Y.2.1 λa m m3=>?_) λa m m2=>?_⟩
  ·rcases ao.mp m with m|m
   ·exact k.1 (aq _ m)
   ·rcases ao.mp m with m|m
    ·rcases g p m with z|z
     ·exact k.1 (ag _ (aq _ z))
     ·exact O p g7 z
    ·exact k.1 (ag _ (ag _ m))
  ·rcases g a m with z|z
   ·exact Y.2.2 a z m3
   ·exact O a (c a (.inr (.inr m3))) z
  ·rcases ao.mp m2 with m2|m2
   ·rcases g a m2 with z|z
    ·exact y.2.2 a m (aq _ z)
    ·exact O a (c a (.inl m)) z
   ·exact y.2.2 a m (ag _ m2)
 ·rcases aw.mp m with rfl|m
  ·exact .inl g7
  ·rcases ao.mp m with m|m
   ·exact .inl (c a (.inl m))
   ·rcases ao.mp m with m|m
    ·rcases g a m with z|z
     ·exact .inl (c a (.inr (.inl z)))
     ·exact .inr z
    ·exact .inl (c a (.inr (.inr m)))
def JY(h:ot C (.U7 op i ke es) ρ=a_ out) :
  ∃l y k ds ks ws j e v,bE C ke (full ρ)=a_ (l,y)/\yL l=a_ k/\nE C es (full ρ)=a_ (ds,c_)/\ρ[i]?=a_ (a_ (.dct ks ws,c_))/\posK k ks=a_ j/\ws[j]?=a_ e/\kJ op e ds=a_ v/\out=.nx (ρ.set i (a_ (.dct ks (ws.set j v),c_))):=by
 obtain⟨⟨l,y⟩,D,h⟩:=cY h;obtain⟨⟨ds,B⟩,h3,h⟩:=cY h;have h:(if B=c_ then S6 op i ρ l ds (ρ[i]?).join else b_)=a_ out:=h;by_cases g:B=c_
 ·rw[if_pos g]at h;subst g
  cases q:ρ[i]? with
  |none=>rw[q]at h;cases h
  |some z=>
    rw[q]at h
    match z,h with
    |some (d,c_),h=>
      obtain⟨d',c,h5⟩:=eD h
      cases d with
      |dct ks ws=>
        obtain⟨k,J,c⟩:=cY c;obtain⟨j,L,c⟩:=cY c;obtain⟨e,M,c⟩:=cY c;obtain⟨v,O,rfl⟩:=eD c;exact⟨l,y,k,ds,ks,ws,j,e,v,D,J,h3,rfl,L,M,O,h5.symm⟩
      |_=>cases c
 ·rw[if_neg g]at h;cases h
def JX(h1:op≠.ext)(h2:op≠.dput)(h0:op≠.seti){D:Ends}(h:gS K C (.U7 op i ke es) D σ H) :
  ∃p,σ[i]?=a_ (a_ (.ref p))/\gE K C ke σ H λW H1=>∃k_ k l xs,W=kV k/\H1 p=a_ (.dK k_)/\oD k_ k=a_ (.ref l)/\H1 l=a_ (.lst xs)/\gF K C es σ H1 λws H2=>∃d ob',H2 l=a_ d/\Au op d ws=a_ ob'/\D.nx σ (upd H2 l ob'):=by
 obtain⟨Fz,H₀,F,ρ,out,h,R,kq⟩:=h;obtain⟨kd,fk,k,ds,ks,ws,j,e,e',g1,B,g3,hi,g4,Y,g,rfl⟩:=JY h;obtain⟨Ss,O⟩:=R.ow;obtain⟨v,e1,e2,e3,e4⟩:=O.own i _ hi;obtain⟨p,k_,S0,rfl,hp,J,os,eS⟩:=id e2;obtain⟨Fp,sp,Z⟩:=R.i5;refine⟨p,e1,_,kd,fk,g1,Fp,Z.step.good,Z.full,λW F1 H1 L r1 _=>?_⟩;obtain rfl:=ve B r1;have c:=Step.shrink R.step.good sp L;have M:=R.moved c;have O1:=O.moved c;obtain⟨vk,S1,S2,S3,f1,f2,f3,f4,f5,f6⟩:=os.at Y
 have U:∃l xs,vk=.ref l/\H l=a_ (.lst xs):=by
  cases e with
  |lst ls=>obtain⟨l,xs,S',rfl,hl,_⟩:=id f2;exact⟨l,xs,rfl,hl⟩
  |dct ks ws=>cases op<;>first|exact absurd rfl h1|exact absurd rfl h2|exact absurd rfl h0|cases g
  |dcn _=>cases op<;>first|exact absurd rfl h1|exact absurd rfl h2|cases g
  |_=>cases op<;>cases g
 obtain⟨l,xs,rfl,hl⟩:=U;refine⟨k_,k,l,xs,rfl,c.hh _ _ hp,Et (by rw[J];exact g4) f1,c.hh _ _ hl,yY M g3 λus F' H' T st ow nT y=>?_⟩;have O':=O1.moved st;have R':=M.moved st
 have dj:∀a∈Ss i,a∉T:=λa m m2=>by
  obtain⟨u,z,_⟩:=e2.vA _ a m;have:=c.hh _ _ z;rw[(y a m2).1]at this;cases this
 obtain⟨p',kvs',l',xs',d,ob',S',q1,q2,q3,q4,q5,q6,q7,q8,q9,ch⟩:=N8 h1 h2 h0 (c.hh.trans st.hh) Y g e2 e3 ow nT dj;cases q1;rw[hp]at q2;cases q2;rw[f1]at q4;cases q4;refine⟨d,ob',q7,q8,kq F' _ σ (c.ff.trans st.ff) (R'.mut O' hi e1 q6 q9 ch.own ch.nd λa m=>?_)⟩
 rcases ch.sub a m with m|m
 ·exact .inl m
 ·refine .inr ⟨(y a m).2,?_,λj d2 q m2=>?_⟩
  ·exact M.step.hh.free (y a m).1
  ·obtain⟨w,_,B,_⟩:=O1.own j d2 q;obtain⟨u,z,_⟩:=B.vA _ a m2;rw[(y a m).1]at z;cases z
def Q4{st:kX}(h1:op≠.ext)(h2:op≠.dput)(h3:op≠.seti)(v:∀l c ob' vs H Q,H l=a_ c->Au op c vs=a_ ob'->(∀u,Q u (upd H l ob'))->r (.ref l) vs H Q)
  (y:PS X st (DV (VG X.K "list" r (QM Wb (Gs i) (gE X.K C ke)) (gF X.K C es)))):SS X C st (.U7 op i ke es):=PS.imp y λD σ H h=>by
 obtain⟨p,e1,g⟩:=JX h1 h2 h3 h;refine⟨.ref p,e1,oZ g λM H1 s1 z=>?_⟩;obtain⟨k_,k,l,xs,rfl,d,j,q,B⟩:=z;refine⟨p,k_,k,.ref l,rfl,rfl,d,j,.inl ⟨rfl,xs,mV.of q⟩,?_⟩;obtain⟨ρ,ds,J,h,F,L,R,k⟩:=B;exact⟨ρ,ds,J,h,F,L,R,λvs F' H' st r f=>let ⟨c,ob',d,j,q⟩:=k vs F' H' st r f;v l c ob' vs H' _ d j λ_=>q⟩
end
end M
namespace L2
open PySem PySem.Spec PyProof.Rows
noncomputable abbrev Vd:List (bu×ah):=[((("default":String):bu),dU)]
noncomputable def L0(f:Nat->Int):Nat->Nat->Option Nat->Option Nat
 |0,_,m=>m
 |k+1,j,b_=>L0 f k (j+1) (a_ j)
 |k+1,j,a_ i=>L0 f k (j+1) (a_ (if f j<f i then j else i))
def bestOf(P:Nat->ah->Prop):Option Nat->ah->Prop
 |none,v=>v=.none
 |some i,v=>P i v
def heldBy(P:Nat->ah->Prop)(vs:Array ah):Option Nat->Prop
 |none=>vs=#[]
 |some i=>∃b,P i b/\vs=#[b,b]
section
variable{A:bT}{St:Nat->cx->Prop}
def Od(W:Walks prog w A.in1 I fp wr n P St)(hc:CmpOf prog w A.in1 .Lt P λi j=>decide (f i<f j))(hf:S∉fp):∀(k j:Nat) (s:ak) (m:Option Nat) (vs:Array ah) (c:Nat),n - j=k->j<=n->St j s.heap->heldBy P vs m->
  s.heap.get? S=a_ { cls:=.type "list",dict:=b_,data:=.seq vs c,slots:=#[] }->
  (∀v h' J,bestOf P (L0 f k j m) v->(∀b o,b∉wr->b≠S->s.heap.get? b=a_ o->h'.get? b=a_ o)->R (.ok (.ret v)) { s with heap:=h',toks:=J })->
  codeAny (aD prog w) A (.builtin "min.loop" ⟨[.ref I,.none,.ref S],Vd⟩) R s:=by
 have Y :=λh=>hf (W.sub _ h);intro k
 induction k with
 |zero=>
   intro j s m vs c Z hj st L ho fin;have e:j=n:=by omega
   refine eE yi (by
    refine wb9 (cW ho rfl ?_);refine wb9 (BV (W.done s _ _ (e▸st) λh' J fr=>?_))
    cases m with
    |none=>
      cases L;exact wb9 (gf (wu9 (fin _ h' J rfl λb o x _ e=>fr b o x e)))
    |some i=>
      obtain⟨b,hb,rfl⟩:=L;have d:=fr S _ Y ho
      exact wb9 (iW d rfl (wb9 (lG (wu9 (fin b _ J hb λb o x y e=>(dA _ _ (eK y)).trans (fr b o x e)))))))
 |succ k U=>
   intro j s m vs c Z hj st L ho fin;have lt:j<n:=by omega
   refine eE yi (by
    refine wb9 (cW ho rfl ?_);refine wb9 (BV (W.item j s _ _ lt st λv h' J hp D fr=>?_));have d:=fr S _ Y ho;have keep:∀g:kM->kM,∀b∈fp,∀o,h'.get? b=a_ o->(h'.update S g).get? b=a_ o:=λg b hb o e=>(dA _ _ (λz:S=b=>hf (by rw[z];exact hb))).trans e
    cases m with
    |none=>
      cases L;refine wb9 (m:=updateSeq S λ_=>#[v,v]) (iW d rfl ?_)
      exact wu9 ⟨fY jv _,U (j+1) _ (a_ j) #[v,v] _ (by omega) lt (W.frame _ _ _ D (keep _)) ⟨v,hp,rfl⟩ (eU _ d rfl) λM h2 l hb B=>
       fin M h2 l hb λb o x y e=>B b o x y ((dA _ _ (eK y)).trans (fr b o x e))⟩
    |some i=>
      obtain⟨b0,O,rfl⟩:=L;refine wb9 (m:=tryCatch (holding [v,v] (richCompare .Lt v b0 >>= _)) _) (BV (bZ (wb9 (hc j i v b0 _ _ _ hp O ?_))));refine wb9 (bZ (gY (wb9 (lG (wu9 ?_)))));have em:L0 f (k+1) j (a_ i)=L0 f k (j+1) (a_ (if f j<f i then j else i)):=rfl;rw[em]at fin;by_cases q:f j<f i
      ·rw[if_pos q]at fin;simp only[decide_eq_true q,if_true];refine wb9 (iW d rfl (wb9 (lG ?_)))
       exact wu9 ⟨fY jv _,U (j+1) _ (a_ j) #[v,v] _ (by omega) lt (W.frame _ _ _ D (keep _)) ⟨v,hp,rfl⟩ (eU _ d rfl) λM h2 l hb B=>
        fin M h2 l hb λb o x y e=>B b o x y ((dA _ _ (eK y)).trans (fr b o x e))⟩
      ·rw[if_neg q]at fin;simp only[decide_eq_false q,bH,if_false];refine wb9 (lG ?_)
       exact wu9 ⟨fY jv _,U (j+1) _ (a_ i) #[b0,b0] c (by omega) lt D ⟨b0,O,rfl⟩ d λM h2 l hb B=>fin M h2 l hb λb o x y e=>B b o x y (fr b o x e)⟩)
end
def LB(a:ah):argsOk "min" ⟨[a],Vd⟩:=by unfold argsOk;kernel_rfl
section
variable{A:bT}{s:ak}
def Ll(hh:A.handled=b_)(hl:s.heap.IsList l (intItems xs))
  (k:∀v h' c,bestOf (λi v=>(intItems xs)[i]?=a_ v) (L0 (numAt xs) xs.size 0 b_) v->(∀b o,s.heap.get? b=a_ o->h'.get? b=a_ o)->Q v { s with heap:=h',toks:=c }) :
  aC (aD prog w) A (call (.builtin "min") [.ref l] Vd) Q E s:=by
 refine wpAny_call (lH PySem.F.plain_min PySem.F.entry_min ?_)
 have main:aC (aD prog w) A.in1 (fU.«min» ⟨[.ref l],Vd⟩) (λfin s'=>match fin with
   |.done f=>(match(Except.ok f)with | .ok (.ret v)=>Q v s' | .ok _=>False | .error e=>E e s')
   |.again y=>y.quiet=c_/\codeAny (aD prog w) A y (λr s'=>match r with | .ok (.ret v)=>Q v s' | .ok _=>False | .error e=>E e s') s') E s:=by
  refine wb9 (kh (rfl) (wb9 (wu9 (wb9 (iter_intList hl λs2 e st d ne=>?_)))));subst e;refine wb9 (cy ?_);have sz:(intItems xs).size=xs.size:=by simp[intItems]
  have W:=Walks.list (prog:=prog) (w:=w) (A:=A.in1) hh s.heap.objs.size l ne (intItems xs);refine wu9 ⟨fY jv _,Od W (CmpOf.ints_lt (numAt xs) λ_ _=>intItems_at) (λz=>bq _ (d _ z)) _ 0 _ b_ #[] _ rfl (aR _) (W.frame _ _ _ st λb _ o e=>hp9 _ e) rfl (aJ _ rfl) λv h' c hb fr=>?_⟩;rw[sz]at hb
  exact k v h' c hb λb o e=>by
   have e1:=hp9 ({ cls:=.type "list_iterator",data:=.fields #[.ref l,.int 0 0] }) e
   exact fr b o (λm=>by
    rcases aw.mp m with rfl|m
    ·exact absurd (hl9 e) (bq _)
    ·cases m) (br (hl9 e1)) (hp9 _ e1)
 have ha:=LB (.ref l)
 cases q:Manifest.signature? "min" with
 |none=>exact wu9 main
 |some g=>
   have j:Bind.checkArgs "min" g ⟨[.ref l],Vd⟩=pure ():=by simpa only[argsOk,q]using ha
   simp only[j];exact wu9 main
end
end L2
namespace M
open PySem PySem.Spec PyProof.Rows L2
noncomputable def S9:Int->List Int->Int
 |i,[]=>i
 |i,j::r=>S9 (if j<i then j else i) r
def Oa:Dat->g_
 | .lst ds=>(sV ds).map λis=>match is with
   |[]=>(.non,d_)
   |i::r=>(.int (S9 i r),d_)
 |_=>b_
def Ex.YH(a:Ex):Ex:=⟨a.fv,λC ρ=>(bE C a ρ).bind λx=>Oa x.1⟩
theorem EM(f:Nat->Int):∀(k j i:Nat),(L0 f k j (a_ i)).map f=a_ (S9 (f i) ((List.range' j k).map f))
 |0,_,_=>rfl
 |k+1,j,i=>by
   show(L0 f k (j+1) (a_ (if f j<f i then j else i))).map f=_;rw[EM f k (j+1) _,LS,ax];simp only[S9];split<;>rfl
section
variable{X:Cx}
def V9(K:Fg):List V->Hp->VK->Prop:=gL K (b1 Oa)
def S8(l:X.calm=c_)(I:Inv X h_ σ H s)(r:cM vs us)(h:V9 X.K vs H Q) :
  aC (aD X.prog X.w) X.A (call (.builtin "min") us Vd) (EP X h_ σ Q) X.xe s:=by
 obtain⟨da,d,fr,F,v,h1,rfl,g,M,k⟩:=sg (λ_ _ _ h=>LA h) h
 cases da with
 |lst ds=>
   obtain⟨is,hb,h1⟩:=eD h1;obtain⟨q,O,rfl,t,R⟩:=M;obtain⟨its,U,pl,_⟩:=I.lstR g t;obtain⟨u,rfl,W⟩:=vals1 r;cases W;have D:=xx hb R U;obtain⟨xs,e⟩:=D.allInts.items;have hl:=pl.isList;rw[e]at hl
   have z:xs.toList.map (·.1)=is:=by
    have h1:=nums_intItems xs;rw[<-e]at h1;exact h1.symm.trans D.numsOf
   refine Ll (I.ok.hd l) hl λv h' tk y J=>?_
   cases is with
   |nil=>
     cases h1;have h0:xs.size=0:=by simpa using congrArg jB z
     rw[h0]at y;rw[y];exact⟨.non,H,I.kept J,rfl,k _ F H (Step.refl g) rfl bx⟩
   |cons i is=>
     cases h1;have h0:xs.size=is.length+1:=by simpa using congrArg jB z
     have Y:=EM (numAt xs) is.length 1 0;have Z:L0 (numAt xs) xs.size 0 b_=L0 (numAt xs) is.length 1 (a_ 0):=by rw[h0];rfl
     rw[Z]at y;obtain⟨r,hr,B⟩:=eD Y;rw[hr]at y;obtain⟨t,rfl⟩:=intItems_at (y)
     have c:(List.range' 0 xs.size).map (numAt xs)=i::is:=by
      rw[<-z];refine jT λj=>?_;by_cases L:j<xs.size
      ·simp[L,numAt]
      ·simp[L]
     rw[h0,LS]at c;obtain⟨e0,e1⟩:=c6 c;rw[B,e0,e1];exact⟨.int _,H,I.kept J,⟨_,rfl⟩,k _ F H (Step.refl g) rfl bx⟩
 |_=>cases h1
def Ry(g:X.calm=c_)(j:Gl X "min")(k:X.mg "min"=b_)(ha:SA X C [e] [xa])(he:aS [e] X.env=(d_,eval e X.env)::aS [] X.env) :
  SE X C (.Call (.Name "min" p) [e] [⟨a_ "default",.Constant .none c cp,kp⟩] pos) (.YH xa):=
 PE.imp (t:=XM (V9 X.K) (gA X.K C [xa])) (λh_ s σ H Q I h=>by
  refine fo (lu I j k PyProof.Rows.boot_min ?_ (by decide) (by decide))
  exact callWith_kw (iM (ha pos h_ s σ H _ I h) λus s1 ⟨vs,H1,l,q,v⟩=>kws_cons (Constant_none (kws_nil (S8 g l q v)))) (by rw[he];rfl) (by rw[he];rfl) rfl rfl)
  (qS λρ d fr h=>by
   obtain⟨x,h1,h2⟩:=cY h
   exact⟨[x.1],by show(bE C xa ρ).bind _=_;rw[h1];rfl,h2⟩)
end
def SY(op:HQ)(ds:List Dat):Dat->Dat->Option Dat
 |.lst ws,.int k=>(C5 ws.length k).bind λj=>(ws[j]?).bind λe=>(kJ op e ds).map λc=>.lst (ws.set j c)
 |_,_=>b_
def S5(op:HQ)(i:Nat)(ρ:dI)(c:Dat)(ds:List Dat):g_->Option Out
 |some (d,c_)=>(SY op ds d c).map λd'=>.nx (ρ.set i (a_ (d',c_)))
 |_=>b_
def Sx.P1(i:Nat)(c d xe:Ex):Sx:={ ex:=λC ρ=>(bE C xe (full ρ)).bind λx=>if im x.1=c_ then(bE C c (full ρ)).bind λy=>(bE C d (full ρ)).bind λz=>S5 .seti i ρ y.1 [x.1,z.1] (ρ[i]?).join else b_ }
section
variable{K:Fg}
def N7(h:S5 op i ρ kd ds (ρ[i]?).join=a_ out) :
  ∃ws k j e g,kd=.int k/\ρ[i]?=a_ (a_ (.lst ws,c_))/\C5 ws.length k=a_ j/\ws[j]?=a_ e/\kJ op e ds=a_ g/\out=.nx (ρ.set i (a_ (.lst (ws.set j g),c_))):=by
 cases q:ρ[i]? with
 |none=>rw[q]at h;cases h
 |some z=>
   rw[q]at h
   match z,h with
   |some (d,c_),h=>
     obtain⟨d',c,h5⟩:=eD h
     cases d with
     |lst ws=>
       cases kd with
       |int k=>
         obtain⟨j,l,c⟩:=cY c;obtain⟨e,v,c⟩:=cY c;obtain⟨g,y,rfl⟩:=eD c;exact⟨ws,k,j,e,g,rfl,rfl,l,v,y,h5.symm⟩
       |_=>cases c
     |_=>cases c
def N6(h1:op≠.ext)(h2:op≠.dput)(D:bY H H')(hj:ws[j]?=a_ e)(hm:kJ op e ds=a_ e')(o:lL K H (.lst ws) v S)(nd:S.Nodup)(a:cZ K H' ds us []) :
  ∃p vs l J ob' S',v=.ref p/\H p=a_ (.lst vs)/\vs.length=ws.length/\vs[j]?=a_ (.ref l)/\l∈S/\H' l=a_ J/\Au op J us=a_ ob'/\Hy ob'/\lL K (upd H' l ob') (.lst (ws.set j e')) (.ref p) S'/\S'.Nodup/\∀a∈S',a∈S:=by
 obtain⟨p,vs,S0,rfl,hp,os,rfl⟩:=o;have hlen:=os.length;obtain⟨vk,L,S2,M,f1,f2,f3,f4,f5,f6⟩:=os.at hj;subst f3;have R:=aZ.mp nd;have g:=j7 R.2;have O:=j7 g.2.1;obtain⟨l,J,ob',S',rfl,c,k,y,mu,o2,U,W⟩:=yD h1 h2 hm (f2.mono D) O.1 a fh λa _ m=>by cases m
 have d :=λa m=>(W a m).elim id λz=>by cases z
 have B:∀us,H' l≠a_ (.tup us):=λus z=>by rw[k]at z;cases z;cases op<;>first|exact absurd rfl h1|exact absurd rfl h2|cases y
 have Y :=λm=>g.2.2 l m (aq _ c);have Z :=λm=>O.2.2 l c m;have hpl:p≠l:=λz=>R.1 (z▸ag _ (aq _ c))
 have sub:∀a∈L++(S'++M),a∈L++(S2++M):=λa m=>by
  rcases ao.mp m with m|m
  ·exact aq _ m
  ·rcases ao.mp m with m|m
   ·exact ag _ (aq _ (d a m))
   ·exact ag _ (ag _ m)
 refine⟨p,vs,l,J,ob',p::(L++(S'++M)),rfl,hp,hlen,f1,iE _ (ag _ (aq _ c)),k,y,mu,⟨p,vs,L++(S'++M),rfl,(cL hpl).trans (D _ _ hp),?_,rfl⟩,?_,λa m=>?_⟩
 ·have q:=((f4.mono D).upd B _ Y).append ((cZ.one o2).append ((f5.mono D).upd B _ Z))
  have ed:ws.set j e'=ws.take j++([e']++ws.drop (j+1)):=by
   rw[rH,if_pos (aP.mp hj).1];rfl
  rw[ed];exact f6.symm▸q
 ·exact aZ.mpr ⟨λm=>R.1 (sub p m),iT g.1 (iT U O.2.1 λa m m3=>O.2.2 a (d a m) m3) λa m m2=>by
   rcases ao.mp m2 with m2|m2
   ·exact g.2.2 a m (aq _ (d a m2))
   ·exact g.2.2 a m (ag _ m2)⟩
 ·rcases aw.mp m with rfl|m
  ·exact g7
  ·exact iE _ (sub a m)
def Rl.ask(R:Rl K Fz H₀ F H σ ρ)(h:bE C x (M.full ρ)=a_ (d,fr))
  (k:∀v F1 H1,Step F H F1 H1->(im d=c_->∀H2,bY H1 H2->lL K H2 d v [])->(∀k,yL d=a_ k->v=kV k)->(∀i,d=.int i->v=.int i)->Q v H1):gE K C x σ H Q:=by
 obtain⟨l,sp,j⟩:=R.i5;refine⟨_,d,fr,h,l,j.step.good,j.full,λv F1 H1 c g _=>k v _ H1 (Step.shrink R.step.good sp c) (λm H2 s2=>lL.jY (λa o e=>s2 a o (c.good.sub a o e)) d m g) (λk q=>ve q g) λi q=>?_⟩;rw[q]at g;exact g
set_option tactic.hygienic true
def J1{D:Ends}(h:gS K C (.P1 i ke xi xe) D σ H) :
  gE K C xe σ H λv H1=>∃p,σ[i]?=a_ (a_ (.ref p))/\gE K C ke σ H1 λkv H2=>∃xs k l,kv=.int k/\H2 p=a_ (.lst xs)/\rd xs k=a_ (.ref l)/\gE K C xi σ H2 λJ z=>∃L ob',z l=a_ L/\Au .seti L [v,J]=a_ ob'/\D.nx σ (upd z l ob'):=by
 obtain⟨Fz,H₀,F,ρ,out,h,R,kq⟩:=h;obtain⟨⟨d,fd⟩,h1,h⟩:=cY h;split at h
 ·rename_i hd;obtain⟨⟨kd,fk⟩,h2,h⟩:=cY h;obtain⟨⟨M,fz⟩,h3,h⟩:=cY h;obtain⟨ws,k,j,e,e',rfl,hi,g1,g2,B,rfl⟩:=N7 h;refine R.ask h1 λv F1 H1 g ow _ _=>?_;have R1:=R.moved g;obtain⟨Ss,O⟩:=R.ow;obtain⟨v0,e1,e2,e3,e4⟩:=O.own i _ hi;obtain⟨p,xs,S0,rfl,hp,os,eS⟩:=id e2;refine⟨p,e1,R1.ask h2 λkv F2 H2 c _ _ hk=>?_⟩;have R2:=R1.moved c;obtain⟨vk,S1,S2,S3,f1,f2,f3,f4,f5,f6⟩:=os.at g2
  have U:im M=c_:=by
   cases e with
   |lst ls=>
     cases M with
     |int n=>rfl
     |_=>cases B
   |dct ks ws=>
     obtain⟨kz,q,_⟩:=cY (B)
     cases M with
     |int n=>rfl
     |str n=>rfl
     |_=>cases q
   |_=>cases B
  have W:∃l,vk=.ref l:=by
   cases e with
   |lst ls=>obtain⟨l,xs,S',rfl,hl,_⟩:=id f2;exact⟨l,rfl⟩
   |dct ks ws=>obtain⟨l,xs,S',rfl,hl,_⟩:=id f2;exact⟨l,rfl⟩
   |_=>cases B
  obtain⟨l,rfl⟩:=W;refine⟨xs,k,l,hk k rfl,c.hh _ _ (g.hh _ _ hp),by unfold rd;rw[os.length,g1];exact f1,R2.ask h3 λJ F3 z y Y hz hn=>?_⟩;have sm:=(g.hh.trans c.hh).trans y.hh;obtain⟨p',vs',l',L,ob',S',q1,q2,q3,q4,q6,q7,q8,q9,Z,q11,q12⟩:=N6 (by simp) (by simp) sm g2 B e2 e3 ⟨v,[J],[],[],rfl,ow hd z (c.hh.trans y.hh),⟨J,[],[],[],rfl,Y U z (λ_ _ e=>e),⟨rfl,rfl⟩,rfl⟩,rfl⟩;cases q1;rw[hp]at q2;cases q2;rw[f1]at q4;cases q4;exact⟨L,ob',q7,q8,kq F3 _ σ ((g.ff.trans c.ff).trans y.ff) ((R2.moved y).mut (((O.moved g).moved c).moved y) hi e1 q6 q9 Z q11 λa m=>.inl (q12 a m))⟩
 ·cases h
def Q5{st:kX}(B:PS X st (Gu (gE X.K C xe) (TZ (QM (Wa X.K) (Gs i) (gE X.K C ke)) (gE X.K C xi) (λo i v H Q=>Em o i v H Q\/Ji o i v H Q)))):SS X C st (.P1 i ke xi xe):=PS.imp B λD σ H h=>by
 refine oZ (J1 h) λv H1 s1 ⟨p,e1,g⟩=>⟨.ref p,e1,oZ g λU H2 s2 ⟨xs,k,l,e2,hp,ha,J⟩=>⟨p,xs,k,.ref l,rfl,e2,mV.of hp,ha,oZ J λy W s3 ⟨L,ob',d,c,q⟩=>?_⟩⟩
 cases L with
 |lst ys=>
   cases y with
   |int n=>
     simp only[Au,G1]at c;split at c
     ·obtain⟨Y,z,M⟩:=eD c;cases M;unfold IQ at z;obtain⟨j,O,rfl⟩:=eD z;exact .inl ⟨l,ys,n,j,rfl,rfl,d,O,q⟩
     ·cases c
   |_=>cases c
 |dK k_=>
   simp only[Au,G1]at c;obtain⟨n,R,c⟩:=cY c;split at c
   ·rename_i hz;cases c;exact .inr ⟨l,k_,n,rfl,Kf R,d,hz,q⟩
   ·cases c
 |_=>cases c
set_option tactic.hygienic false
end
noncomputable def OT:Dat×Bool->Dat×Bool->g_
 |(.lst xs,c_),(.lst ys,c_)=>if xs.length+ys.length<=aB then a_ (.lst (xs++ys),c_)else b_
 |_,_=>b_
def Ex.cat(a b:Ex):Ex:=⟨a.fv++b.fv,λC ρ=>(bE C a ρ).bind λx=>(bE C b ρ).bind λy=>OT x y⟩
set_option tactic.hygienic true in
def OS(h:OT x y=a_ r):∃xs ys,x=(.lst xs,c_)/\y=(.lst ys,c_)/\xs.length+ys.length<=aB/\r=(.lst (xs++ys),c_):=by
 unfold OT at h;split at h
 ·split at h
  ·rename_i hz;cases h;exact⟨_,_,rfl,rfl,hz,rfl⟩
  ·cases h
 ·cases h
def We(K:Fg):R2:=λx y H Q=>∃xs ys F c d,Good F H/\Rep K F (.lst xs) x/\Rep K F (.lst ys) y/\lL K H (.lst xs) x c/\lL K H (.lst ys) y d/\xs.length+ys.length<=aB/\
 ∀p F' H',H p=b_->Step F H F' H'->Rep K F' (.lst (xs++ys)) (.ref p)->lL K H' (.lst (xs++ys)) (.ref p) (p::(c.tail++d.tail))->Q (.ref p) H'
section
def NR:jJ X (binaryOp .Add) (We X.K):=by
 intro h_ s σ H x y v u Q I L M h;obtain⟨xs,ys,F,O,R,g,⟨l,vs,rfl,t,r⟩,⟨q,us,rfl,t',D⟩,⟨l',c,j,e1,hl,os,rfl⟩,⟨U,d,z,e2,J,B,rfl⟩,hz,k⟩:=h;cases e1;cases e2;obtain rfl:=I.mR (mV.of hl) (g.sub.seq t);obtain rfl:=I.mR (mV.of J) (g.sub.seq t');refine Sv h_ s σ H _ _ v u Q I L M ⟨l,q,c,d,rfl,rfl,hl,J,by rw[r.length,D.length];exact hz,λp hp=>?_⟩;exact k p _ _ hp (Step.alloc g hp) ⟨p,c++d,rfl,.inl (.inl cC),(r.append D).mono (bY.upd (g.sub.free hp))⟩ ⟨p,c++d,j++z,rfl,cC,(os.append B).mono (bY.upd hp),rfl⟩
def RE(ha:SE X C a xa)(hb:SE X C b xb):SE X C (.BinOp a .Add b pos) (.cat xa xb):=
 PE.imp (PK NR ha hb) λσ H Q z3=>by
  obtain⟨ρ,d,fr,h,F,g,R,k⟩:=z3;obtain⟨p1,h1,h⟩:=cY h;obtain⟨p2,h2,h⟩:=cY h;obtain⟨xs,ys,rfl,rfl,hz,e⟩:=OS h;obtain⟨rfl,rfl⟩:=Prod.mk.inj e;refine⟨ρ,_,_,h1,F,g,R,λv F1 H1 j L M=>⟨ρ,_,_,h2,F1,j.good,R.mono j.ff,λw O H2 c U W=>?_⟩⟩;obtain⟨q,Y,e1,y⟩:=M rfl;obtain⟨B,Z,e2,J⟩:=W rfl
  have d1:∀a∈q,H2 a≠b_:=λa m z=>by
   obtain⟨u,l,_⟩:=y.vA _ a m;have:=c.hh _ _ l;rw[z]at this;cases this
  have Y9:∀a∈q,a∉B:=λa m m2=>by
   obtain⟨u,l,_⟩:=y.vA _ a m;rw[e2 a m2]at l;cases l
  have d2:∀a∈B,H2 a≠b_:=λa m z=>by
   obtain⟨u,l,_⟩:=J.vA _ a m;rw[z]at l;cases l
  refine⟨xs,ys,O,q,B,c.good,L.mono c.ff,U,y.mono c.hh,J,hz,λp F3 H3 hp D r3 o3=>k _ F3 H3 ((j.trans c).trans D) r3 λ_=>⟨_,?_,?_,o3⟩⟩
  ·refine aZ.mpr ⟨λm=>?_,iT ((Ib _).nodup Y) ((Ib _).nodup Z) λa m m2=>Y9 a (gp m) (gp m2)⟩
   rcases ao.mp m with m|m
   ·exact d1 p (gp m) hp
   ·exact d2 p (gp m) hp
  ·intro a m
   rcases aw.mp m with rfl|m
   ·exact(j.hh.trans c.hh).free hp
   ·rcases ao.mp m with m|m
    ·exact e1 a (gp m)
    ·exact j.hh.free (e2 a (gp m))
end
end M
namespace L2
open PySem PySem.Spec PyProof.Rows
def Zx(lo:Int)(n:Nat):It:=⟨λi _=>i<n,λi H x H'=>H'=H/\x=.int (lo - i),λi _=>n<=i⟩
def Gm{K:aL}(it:aI)(lo:Int)(n:Nat):Turn P w K tg (Zx lo n) [it] it (λi h=>Mf h it (lo+(i:Nat) * (-1)) ((n:Int) - (i:Nat)) (-1)) where
 mem:=by simp
 obj:=λi h st b hb=>by
  have e:b=it:=by simpa using hb
  subst e
  exact⟨_,st,λv z=>by
   have M:Data.fields _=Data.cell v:=z
   cases M⟩
 keep:=λi h h' st k=>k it (by simp) _ st
 item:=by
  intro X d g j hc i h_ s σ H E I hf st l;subst d g j;obtain⟨q,y,O,B,D,J⟩:=hf it (by simp);have W:=Walks.range (prog:=X.prog) (w:=X.w) (I.ok.hd hc) it lo (-1) n;refine W.item i s _ _ l st λv h' L R c kk=>?_;obtain⟨t,rfl⟩:=R;have U:Inv X h_ σ H { s with heap:=h',toks:=L }:=I.turned (λb o hb e=>kk b o (by simpa using hb) e) q y B D J;refine⟨_,rfl,vm (s:={ s with heap:=h',toks:=L }) (n:="range_iterator") c rfl rfl (by decide) ⟨.int (lo - i),H,U,⟨t,?_⟩,⟨rfl,rfl⟩,c,λb hb=>(hf b hb).1⟩⟩
  congr 1
  omega
 done:=by
  intro X d g j hc i h_ s σ H E I hf st l;subst d g j;obtain⟨q,y,O,B,D,J⟩:=hf it (by simp);exact HS (I.ok.hd hc) st (by have:n<=i:=l;omega) λh' Y=>⟨rfl,I.turned (t':=s.toks) (λb o hb e=>Y b o hb e) q y B D J⟩
 self:=λ_ _ _ _ _ st h=>HU st h
def pC(a b:Int):i7 a b (-1)=if a > b then a - b else 0:=by
 unfold i7;rw[if_neg (by decide)];split<;>simp
def Gy(ha:-1000000<=a)(c:a<=1000000)(hb:-1000000<=b)(d:b<=1000000):vN a b (-1)=c_:=by
 unfold vN;rw[pC];simp only[Builtin.Range.rangeFitsLong,aj,kW,decide_eq_true_eq,beq_iff_eq,show¬((-1:Int) > 0) by decide,if_false];split<;>omega
section
def WW(ta:TA):TI:=λσ H R=>ta σ H λvs H1=>∃i j:Int,vs=[.int i,.int j,.int (-1)]/\(-1000000<=i/\i<=1000000/\-1000000<=j/\j<=1000000)/\R (Zx i (i - j).toNat) H1
def GW(y:Gl X "range")(z:X.mg "range"=b_)(ha:PA X [a,b,c] ta)(hs:aS [a,b,c] X.env=[(d_,eval a X.env),(d_,eval b X.env),(d_,eval c X.env)])(g:aS [b,c] X.env=[(d_,eval b X.env),(d_,eval c X.env)]) :
  PI X tg (.Call (.Name "range" p) [a,b,c] [] pos) (WW ta):=by
 intro h_ s σ H R I h;refine Call_ (lu I y z boot_range (c7 (iM (ha pos h_ s σ H _ I h) λus s1 ⟨vs,H1,B,D,k⟩=>?_) (by rw[hs,g]) (by rw[g];rfl)));obtain⟨lo,hi,e,⟨k,J,L,M⟩,q⟩:=k;subst e
 cases D with
 |cons r j=>
   cases j with
   |cons O j=>
     cases j with
     |cons l j=>
       cases j;obtain⟨t,rfl⟩:=r;obtain⟨t',rfl⟩:=O;obtain⟨d,rfl⟩:=l;refine call_range_3 (by decide) ?_ (.inl (PyProof.noPylong_small (by decide)));refine wpAny_pyIter_range (Pn ..) (Gy k J L M) ?_;have v:Inv X h_ σ H1 { s1 with heap:=s1.heap.push { cls:=.type "range",data:=.fields #[.int lo t,.int hi t',.int (-1) d] },toks:=s1.toks }:=B.kept λb o e=>hp9 _ e
       refine⟨(s1.heap.push { cls:=.type "range",data:=.fields #[.int lo t,.int hi t',.int (-1) d] }).objs.size,[(s1.heap.push { cls:=.type "range",data:=.fields #[.int lo t,.int hi t',.int (-1) d] }).objs.size],_,_,H1,rfl,
        v.kept (t':=s1.toks) λb o e=>hp9 _ e,Gm _ lo (lo - hi).toNat,?_,λb hb=>?_,q⟩
       ·have e1:lo+((0:Nat):Int) * (-1)=lo:=by simp
        have e2:(((lo - hi).toNat:Nat):Int) - ((0:Nat):Int)=i7 lo hi (-1):=by
         rw[pC];split<;>omega
        show Mf _ _ (lo+((0:Nat):Int) * (-1)) ((((lo - hi).toNat:Nat):Int) - ((0:Nat):Int)) (-1);rw[e1,e2];exact aJ _ rfl
       ·have e:b=(s1.heap.push { cls:=.type "range",data:=.fields #[.int lo t,.int hi t',.int (-1) d] }).objs.size:=by simpa using hb
        subst e;exact v.wd (au _) (v.hok.fresh (au _))
end
end L2
namespace M
open PySem PySem.Spec PyProof.Rows L2
def Ha{K:Fg}{lo:Int}:kg K F1 (Zx lo n) ((aT n).map λk:Nat=>Dat.int (lo - k)):=λF H g s=>by
 refine⟨λi d hd=>?_,λi hi=>(by simpa using hi:n<=i)⟩;rw[aN]at hd
 have hi:i<n:=by
  by_cases hi:i<n
  ·exact hi
  ·rw[dh (by simpa using hi)]at hd;cases hd
 rw[af (by simpa using hi)]at hd;simp only[qZ,bV,hV]at hd;subst hd;refine⟨hi,λx H' y=>?_⟩;obtain⟨rfl,rfl⟩:=y;exact⟨F,Step.refl g,rfl⟩
set_option tactic.hygienic true in
def MY(z:Gl X "range")(B:X.mg "range"=b_)(ha:SA X C [a,b,c] [xa,xb,xc])(hs:aS [a,b,c] X.env=[(d_,eval a X.env),(d_,eval b X.env),(d_,eval c X.env)])(d:aS [b,c] X.env=[(d_,eval b X.env),(d_,eval c X.env)]) :
  SI X C tg (.Call (.Name "range" p) [a,b,c] [] pos) (.rng [xa,xb,xc]):=
 PI.imp (GW z B ha hs d) λσ H R z3=>by
  obtain⟨ρ,items,F,hi,g,D,k⟩:=z3;obtain⟨ds,h1,h2⟩:=cY hi;refine⟨ρ,ds,h1,F,g,D,λvs F1 H1 st r=>?_⟩;unfold CC at h2;split at h2
  ·have:=mT h1;cases this
  ·have:=mT h1;cases this
  ·rename_i i j c;split at h2
   ·rename_i hz;obtain⟨rfl,hz⟩:=hz;cases h2;obtain⟨v,w,rfl,J,L,M,rfl,l,O,U,rfl,q,y⟩:=r;cases J;cases l;cases q;cases y;exact⟨i,j,rfl,hz,k _ F1 H1 st Ha⟩
   ·cases h2
  ·cases h2
end M
namespace L2
open PySem PySem.Spec PyProof.Rows
noncomputable def Zu(K:aL)(a:aI)(n:Nat):It:=
 ⟨λi H=>i<n/\∃xs,sx K H a xs/\xs.length=n,λi H x H'=>H'=H/\∀xs,sx K H a xs->xs[n - 1 - i]?=a_ x,λi H=>n<=i⟩
def Iq{K:aL}(a it:aI)(n:Nat):Turn P w K tg (Zu K a n) [it] it (λi h=>i<=n/\h.get? it=a_ (Nh a ((n:Int) - 1 - (i:Nat)))) where
 mem:=by simp
 obj:=λi h st b hb=>by
  have e:b=it:=by simpa using hb
  subst e;exact⟨_,st.2,λv z=>nomatch z⟩
 keep:=λi h h' st k=>⟨st.1,k it (by simp) _ st.2⟩
 item:=by
  intro X c d j hc i h_ s σ H E I hf st l;subst c d j;obtain⟨hi,xs,O,hn⟩:=l;obtain⟨its,R,p,hz⟩:=I.tuple O;have hl:=R.length;obtain⟨x,U⟩:∃x,xs[n - 1 - i]?=a_ x:=⟨_,af (by omega)⟩
  obtain⟨u,Y,Z⟩:=R.get U;obtain⟨q,B,f2,D,J,L⟩:=hf it (by simp);have e:(n:Int) - 1 - (i:Nat)=((n - 1 - i:Nat):Int):=by omega
  have y:=st.2;rw[e]at y;have hj:n - 1 - i<its.toArray.size:=by simp;omega
  have M:its.toArray[n - 1 - i]=u:=by have:=aP.mp Y;simpa using this.2
  refine Nf (its:=its.toArray) (by simp;exact aa (ae hl.symm) hz) hj p y λh' W g sb=>?_;rw[M];have e2:((n - 1 - i:Nat):Int) - 1=(n:Int) - 1 - ((i+1:Nat):Int):=by omega
  rw[e2]at g;have I1:Inv X h_ σ H { s with heap:=h',toks:=W }:=I.turned (λb o hb e=>sb.extBut _ _ hb e) q B D J L;exact⟨u,rfl,vm (s:={ s with heap:=h',toks:=W }) (n:="reversed") g rfl rfl (by decide) ⟨x,H,I1,Z,⟨rfl,λys hy=>by rw[I.mN hy O];exact U⟩,⟨hi,g⟩,λb hb=>(hf b hb).1⟩⟩
 done:=by
  intro X c d j hc i h_ s σ H E I hf st l;subst c d j;obtain⟨q,B,f2,D,J,L⟩:=hf it (by simp);have y:=st.2;rw[show(n:Int) - 1 - (i:Nat)=-1 by have:n<=i:=l;have:=st.1;omega]at y;exact RM (I.ok.hd hc) y λh' eb=>⟨rfl,I.turned (t':=s.toks) (λb o hb e=>eb b o hb e) q B D J L⟩
 self:=λA i s Q E st k=>by
  refine vP (uJ st.2) sL (bK sL (uJ st.2) Bk ?_ (BF _));exact wu9 ⟨_,rfl,"reversed",_,uJ st.2,kr.lookup,k⟩
section
variable{p:zp}{ta:TA}
def Y3(K:aL)(ta:TA):TI:=λσ H R=>ta σ H λvs H1=>∃p xs,vs=[.ref p]/\sx K H1 p xs/\R (Zu K p xs.length) H1
def RX(d:Gl X "reversed")(g:X.mg "reversed"=b_)(ha:PA X [a] ta)(hs:aS [a] X.env=[(d_,eval a X.env)]):PI X tg (.Call (.Name "reversed" p) [a] [] pos) (Y3 X.K ta):=by
 intro h_ s σ H R I h;refine fo (lu I d g (by decide +kernel:bootBuiltins "reversed"=a_ (.type "reversed")) (c7 (iM (ha pos h_ s σ H _ I h) λus s1 ⟨vs,H1,c,j,q,xs,e,l,k⟩=>?_) (by rw[hs];rfl) rfl));subst e;obtain⟨u,rfl,v⟩:=vals1 j;cases v;obtain⟨its,y,ht,hl⟩:=c.tuple l;rw[eM]at hl;have el:=y.length;refine Ng ht (by simp;omega) λz=>?_;have T:=Iq (P:=X.prog) (w:=X.w) (K:=X.K) (tg:=tg) q s1.heap.objs.size xs.length;have st:(0<=xs.length/\(s1.heap.push (Nh q (((its.toArray.size):Int) - 1))).get? s1.heap.objs.size=a_ (Nh q ((xs.length) - 1 - ((0:Nat))))):=⟨aR _,by rw[show(xs.length) - 1 - ((0:Nat))=((its.toArray.size):Int) - 1 by simp;exact Int.natCast_inj.mpr el];exact aJ _ rfl⟩
 refine T.self _ 0 _ _ _ st ⟨s1.heap.objs.size,_,_,_,H1,rfl,c.kept λb o e=>hp9 _ e,T,st,λb hb=>?_,k⟩;have e:b=s1.heap.objs.size:=by simpa using hb
 subst e;exact c.wd (au _) (c.hok.fresh (au _))
end
end L2
namespace M
open PySem PySem.Spec PyProof.Rows L2
def Ki{K:Fg}(h:Tq K F1 a vs)(r:cT K F1 ds vs):kg K F1 (Zu K a vs.length) ds.reverse:=λF H g s=>by
 have c:=((h.mono s).mono g.sub).sq;refine⟨λi d hd=>?_,λi hi=>?_⟩
 ·have hi:i<ds.length:=by
   by_cases z:i<ds.length
   ·exact z
   ·rw[dh (by simpa using z)]at hd;cases hd
  rw[B8 hi]at hd;obtain⟨v,e1,e2⟩:=r.get hd;have hl:=r.length;refine⟨⟨aa hi (ae hl.symm),vs,c,rfl⟩,λx H' y=>?_⟩;obtain⟨rfl,y⟩:=y;have:=y vs c;rw[hl,e1]at this;cases this;exact⟨F,Step.refl g,e2.mono s⟩
 ·show vs.length<=i;rw[r.length];simpa using hi
def Rn(j:Gl X "reversed")(k:X.mg "reversed"=b_)(ha:SA X C [a] [xa])(hs:aS [a] X.env=[(d_,eval a X.env)]) :
  SI X C tg (.Call (.Name "reversed" p) [a] [] pos) (.rev xa):=λh_ s σ H R I l=>by
 obtain⟨ρ,items,F,hi,g,y,kk⟩:=l;obtain⟨⟨d,fr⟩,h1,h2⟩:=cY hi
 cases d with
 |tup ds=>
   cases h2;refine RX j k ha hs h_ s σ H R I ⟨ρ,[.tup ds],by simp only[kR,h1,bw,bV],F,g,y,λvs F1 H1 st r=>?_⟩;obtain⟨v,w,rfl,⟨q,c,rfl,t,z⟩,e3⟩:=r;cases e3;exact⟨q,c,rfl,(t.mono st.good.sub).sq,kk _ F1 H1 st (Ki t z)⟩
 |_=>cases h2
section
variable{X:Cx}
def IS(j n:Nat)(G:nK X.prog X.w X.K X.mg X.base Hz k f fd ps (Rf X.K n (C j)))(l:mW k X.A)(q:Gl X x)(v:X.mg x=a_ (.ref f))(y:gJ X.K (.ref f)=c_)(hb:Binds X.K fd ps [])
  (z:n=0)(c:(x == ("__debug__":bu))=d_):SE X C (.Call (.Name x p) [] [] pos) (.call j []):=
 PE.imp (JD G l q v y hb .nil PL c) λσ H Q h=>by
  have h':=qS (xs:=[]) (x:=.call j []) (λρ d fr h=>cY h) σ H Q h;obtain⟨ρ,ds,h1,F,g,R,k⟩:=h';cases h1;exact⟨by rw[z];rfl,k [] F H (Step.refl g) rfl⟩
end
structure Sg where
 fns:List (bu×Nat)
 con:List (bu×Dat)
structure Sc where
 N:List bu
 nm:List (bu×kE)
 top:Bool
noncomputable def lA:List bu:=["len","range","zip","all","any","isinstance","list","tuple","reversed","int","bool","str","sorted","set","min","max","enumerate","sum","dict","abs"]
noncomputable def tH(x:bu):List bu->Option Nat
 |[]=>b_
 |y::r=>if y=x then a_ 0 else(tH x r).map (·+ 1)
set_option tactic.hygienic true
theorem iU:∀{N:List bu}{i:Nat},tH x N=a_ i->N[i]?=a_ x
 |[],_,h=>by cases h
 |y::r,i,h=>by
   have h:(if y=x then a_ 0 else(tH x r).map (·+ 1))=a_ i:=h;split at h
   ·cases h;rename_i e;subst e;rfl
   ·obtain⟨j,h1,rfl⟩:=eD h;exact(bO ..).trans (iU h1)
noncomputable def KQ(x:bu):Nat->List (bu×Nat)->Option (Nat×Nat)
 |_,[]=>b_
 |k,y::r=>if y.1=x then a_ (k,y.2)else KQ x (k+1) r
theorem A9:∀{L:List (bu×Nat)}{k j n:Nat},KQ x k L=a_ (j,n)->∃i,j=k+i/\L[i]?=a_ (x,n)
 |[],_,_,_,h=>by cases h
 |y::r,k,j,n,h=>by
   have h:(if y.1=x then a_ (k,y.2)else KQ x (k+1) r)=a_ (j,n):=h;split at h
   ·cases h;rename_i e;subst e;exact⟨0,rfl,rfl⟩
   ·obtain⟨i,e1,e2⟩:=A9 h;exact⟨i+1,by omega,(bO ..).trans e2⟩
set_option tactic.hygienic false
noncomputable def mj(x:bu):Bool:=!(x == ("__debug__":bu)) && !(x == ("__classdict__":bu)) && !(x == ("__name__":bu))
noncomputable def X7:Option kE->Bool
 |some .local=>c_
 |some .cell=>c_
 |some .free=>c_
 |_=>d_
noncomputable def YQ:Option kE->Bool
 |some .local=>c_
 |some .cell=>c_
 |_=>d_
def zM(S:Sc)(x:bu):Bool:=X7 (S.nm.lookup x)
def yJ(S:Sc)(x:bu):Bool:=YQ (S.nm.lookup x)
noncomputable def L4(S:Sc)(x:bu):Bool:=S.nm.lookup x == a_ .globalImplicit
noncomputable def dG:be->Bool
 |.Starred _ _=>d_
 |_=>c_
noncomputable def rV:be->Bool
 |.Set _ _ _=>d_
 |_=>c_
noncomputable def qz:be->Bool
 |.IfExp _ _ _ _=>d_
 |_=>c_
noncomputable def UD:B2->Option Vp
 |.Add=>a_ .add
 |.Sub=>a_ .sub
 |.Mult=>a_ .mul
 |.Mod=>a_ .mod
 |.RShift=>a_ .shr
 |.BitAnd=>a_ .band
 |_=>b_
noncomputable def Xl:CmpOp->Option XF
 |.Eq=>a_ .eq
 |.NotEq=>a_ .ne
 |.Lt=>a_ .lt
 |.Gt=>a_ .gt
 |.GtE=>a_ .ge
 |.Is=>a_ .isn
 |.IsNot=>a_ .nisn
 |.In=>a_ .isin
 |.NotIn=>a_ .nin
 |_=>b_
noncomputable def Zb(x:bu):Option Ty:=
 if x="int" then a_ .int else if x="bool" then a_ .bool else if x="str" then a_ .str else if x="tuple" then a_ .tuple else if x="list" then a_ .list else b_
noncomputable def UC(x:bu):Option XG:=
 if x="len" then a_ .len else if x="list" then a_ .list else if x="tuple" then a_ .tuple else if x="str" then a_ .str else if x="sorted" then a_ .sorted else b_
noncomputable def Aj(S:Sc)(sc:mE):List (bu×kE):=sc.names.map λp=>if(p.2 == eG && S.nm.lookup p.1 == a_ .cell)then(p.1,lQ)else p
noncomputable def lp:be->Option bu
 |.Name x _=>a_ x
 |_=>b_
def gR(h:lp e=a_ x):∃p,e=.Name x p:=by
 cases e with
 |Name y p=>cases h;exact⟨p,rfl⟩
 |_=>cases h
def namesOf:List be->Option (List bu)
 |[]=>a_ []
 |e::r=>(lp e).bind λt=>(namesOf r).map λc=>t::c
def oU:be->Option (Bool×List bu)
 |.Name t _=>a_ (c_,[t])
 |.Tuple es _ _=>(namesOf es).map λc=>(d_,c)
 |_=>b_
noncomputable def freeOf(sc:mE):List bu:=sc.names.filterMap λp=>if p.2=.free then a_ p.1 else b_
def tu(N:List bu):List bu->Option (List Nat)
 |[]=>a_ []
 |x::r=>(tH x N).bind λi=>(tu N r).map λis=>i::is
noncomputable def Lg(S:Sc)(sc:mE)(tn cn:List bu):Bool:=
 decide (sc.kind=.function) && sc.names.all (λy=>!decide (y.2=.cell)) && sc.names.all (λy=>!decide (y.2=.local) || decide (sc.names.lookup y.1=a_ .local))
  && sc.names.all (λy=>!decide (y.2=.free) || decide (S.nm.lookup y.1=a_ .cell) || decide (S.nm.lookup y.1=a_ .free))
  && cn.all (λx=>(decide (S.nm.lookup x=a_ .cell) || decide (S.nm.lookup x=a_ .free)) && decide (sc.names.lookup x=a_ .free))
  && decide (tn++cn).Nodup && tn.all λx=>decide (sc.names.lookup x=a_ .local)
def inner(S:Sc)(sc:mE)(tn cn:List bu):Sc:=⟨tn++cn,Aj S sc,d_⟩
noncomputable def A8(f:Ex->Ex->Ex):List Ex->Option Ex
 |[]=>b_
 | x::r=>match r with
   |[]=>a_ x
   |_::_=>(A8 f r).map (f x)
def wb(f:be->Option Ex):List be->Option (List Ex)
 |[]=>a_ []
 |e::r=>if dG e=c_ then(f e).bind λx=>(wb f r).map λxs=>x::xs else b_
noncomputable def ku{α:Type}:List α->Option α
 |[]=>b_
 |a::r=>if r.isEmpty=c_ then a_ a else b_
def gQ (h:ku l=a_ a):l=[a]:=by
 match l,h with
 |[b],h=>cases h;rfl
def EE{α:Type}:List α->Option (α×α)
 |[]=>b_
 |a::r=>(ku r).map λb=>(a,b)
def uR (h:EE l=a_ p):l=[p.1,p.2]:=by
 cases l with
 |nil=>cases h
 |cons a r=>
   obtain⟨b,h1,rfl⟩:=eD h;rw[gQ h1]
structure Ca where
 fn:be
 args:List be
 kws:List Keyword
 pos:zp
noncomputable def OV:be->Option Ca
 |.Call fn args kws p=>a_ ⟨fn,args,kws,p⟩
 |_=>b_
def zi(h:OV e=a_ c):e=.Call c.fn c.args c.kws c.pos:=by
 cases e with
 |Call fn args kws p=>cases h;rfl
 |_=>cases h
def Dx(e:be):Option (bu×List be):=(OV e).bind λc=>if c.kws.isEmpty=c_ then(lp c.fn).map λx=>(x,c.args)else b_
set_option tactic.hygienic true in
def xQ(h:Dx e=a_ (x,args)):∃p q,e=.Call (.Name x p) args [] q:=by
 obtain⟨⟨fn,as,kws,q⟩,h0,h1⟩:=cY h;obtain rfl:=zi h0;split at h1
 ·rename_i c;obtain⟨y,h2,h3⟩:=eD h1;cases h3;obtain⟨p,d⟩:=gR h2;obtain rfl:fn=.Name x p:=d;exact⟨p,q,congrArg (λk=>Expr.Call _ _ k _) (g8.mp c)⟩
 ·cases h1
noncomputable def isTup:be->Bool
 |.Tuple _ _ _=>c_
 |_=>d_
def AO(h:isTup e=c_):∃es k p,e=.Tuple es k p:=by
 cases e with
 |Tuple es k p=>exact⟨es,k,p,rfl⟩
 |_=>cases h
def PR{α:Type}:List α->Option (α×α×α)
 |[]=>b_
 |a::r=>(EE r).map λb=>(a,b)
def JJ (h:PR l=a_ p):l=[p.1,p.2.1,p.2.2]:=by
 cases l with
 |nil=>cases h
 |cons a r=>
   obtain⟨b,h1,rfl⟩:=eD h;rw[uR h1]
def Qn(S:Sc)(f:be->Option Ex)(tg:be)(x:bu)(args:List be):Option Iw:=
 if L4 S x=c_ then(wb f args).bind λxs=>
  if x="range" then(match ku xs with
   |some a=>a_ (.rng [a])
   |none=>(PR xs).map λt=>.rng [t.1,t.2.1,t.2.2])
  else if(decide (x="zip") && isTup tg)=c_ then(EE xs).map λp=>.zip [p.1,p.2]
  else if(decide (x="enumerate") && isTup tg)=c_ then(ku xs).map .enu else if x="reversed" then(ku xs).map .rev else b_
 else b_
noncomputable def TN(x:bu):Bool:=decide (x="range") || decide (x="zip") || decide (x="enumerate") || decide (x="reversed")
def Kj(e:be):Option (bu×List be):=(Dx e).bind λc=>if TN c.1=c_ then a_ c else b_
def cI(S:Sc)(f:be->Option Ex)(tg iter:be):Option Iw:=match Kj iter with
 |some c=>Qn S f tg c.1 c.2
 |none=>(f iter).map .itv
def Zf(f:be->Option Ex):List be->Option (List Ex)
 |[]=>a_ []
 |c::r=>if(r.isEmpty && qz c)=c_ then(f c).map λx=>[x]else b_
noncomputable def Ln(f:be->Option Ex):Option be->Option (Option Ex)
 |none=>a_ b_
 |some e=>(f e).map a_
noncomputable def UA:Const->Option Dat
 |.int i=>a_ (.int i)
 |.bool b=>a_ (.bl b)
 |.none=>a_ .non
 |.str x=>a_ (.str x)
 |_=>b_
def Ql(G:Sg)(S:Sc)(x:bu):Option Ex:=if mj x=c_ then(if zM S x=c_ then(tH x S.N).map .v else if L4 S x=c_ then(G.con.lookup x).map .con else b_)else b_
def cUn(f:be->Option Ex)(a:be):UnaryOp->Option Ex
 |.USub=>(f a).map .neg
 |.Not=>if qz a=c_ then(f a).map .not else b_
 |_=>b_
def UB(f:be->Option Ex)(es:List be):BoolOp->Option Ex
 |.And=>(wb f es).bind (A8 .and)
 |.Or=>(wb f es).bind (A8 .or)
def Qq(f:be->Option Ex)(a:be)(c:List CmpOp)(bs:List be):Option Ex:=(f a).bind λd=>match ku c with
 |some op=>(ku bs).bind λb=>if rV b=c_ then(Xl op).bind λo=>(f b).map λg=>.cmp o d g else b_
 |none=>b_
def Lr(f:be->Option Ex)(ks:List (Option be))(vs:List be):Option Ex:=
 if(ks.isEmpty && vs.isEmpty)=c_ then a_ .qN
 else b_
noncomputable def kP:be->Option (Option be×Option be×Option be)
 |.Slice lo hi st _=>a_ (lo,hi,st)
 |_=>b_
def Xh(f:be->Option Ex)(a b:be):Option Ex:=(f a).bind λc=>match kP b with
 |some t=>if t.2.2.isNone=c_ then(Ln f t.1).bind λd=>(Ln f t.2.1).map λg=>.sl c d g else b_
 |none=>(f b).map λj=>.ix c j
def Qm(G:Sg)(S:Sc)(f:be->Option Ex)(o:be)(m:bu)(ap:zp)(args:List be)(cp:zp):Option Ex:=
 if(ap.endLine == cp.line)=c_ then(wb f args).bind λxs=>if baseOk o=c_ then(f o).bind λc=>(Uw m args.length).map λd=>.jr d c xs else b_
 else b_
def Zd(S:Sc)(f:be->Option Ex)(args:List be):Option Ex:=(EE args).bind λp=>(lp p.2).bind λt=>
 if(L4 S "isinstance" && L4 S t && dG p.1)=c_ then(Zb t).bind λty=>(f p.1).map λc=>.blt (.isi ty) [c]else b_
def Uv(S:Sc)(f:be->Option Ex)(x y:bu)(b:XG)(args:List be):Option Ex:=(ku args).bind λe=>(Dx e).bind λc=>if c.1=y then(ku c.2).bind λa=>
 if(L4 S x && L4 S y && dG a)=c_ then(f a).map λd=>.blt b [d]else b_ else b_
def Xk(G:Sg)(S:Sc)(x:bu)(xs:List Ex):Option Ex:=
 if(mj x && L4 S x)=c_ then match KQ x 0 G.fns with
  |some c=>if xs.length=c.2 then a_ (.call c.1 xs)else b_
  | none=>match ku xs with
    |some d=>(UC x).map λb=>.blt b [d]
    |none=>b_
 else b_
def Dy(G:Sg)(S:Sc)(f:be->Option Ex)(x:bu)(args:List be):Option Ex:=
 if x="isinstance" then Zd S f args else match(if x="sorted" then Uv S f "sorted" "set" .sset args else b_)with
  |some z=>a_ z
  |none=>(wb f args).bind (Xk G S x)
noncomputable def vG:be->Option (be×bu×zp)
 |.Attribute o m ap=>a_ (o,m,ap)
 |_=>b_
def su(h:vG e=a_ t):e=.Attribute t.1 t.2.1 t.2.2:=by
 cases e with
 |Attribute o m ap=>cases h;rfl
 |_=>cases h
def FH(G:Sg)(S:Sc)(f:be->Option Ex)(fn:be)(args:List be)(cp:zp):Option Ex:=match vG fn with
 |some t=>Qm G S f t.1 t.2.1 t.2.2 args cp
 |none=>(lp fn).bind λx=>Dy G S f x args
structure Gn where
 tg:be
 it:be
 ifs:List be
def Qe(c:List Comprehension):Option Gn:=(ku c).bind λg=>if g.is_async=0 then a_ ⟨g.target,g.iter,g.ifs⟩else b_
def Qp(S:Sc)(f:Sc->be->Option Ex)(elt:be)(g:Gn)(sc:mE):Option Ex:=(oU g.tg).bind λt=>(tu S.N (freeOf sc)).bind λcaps=>
 if(Lg S sc t.2 (freeOf sc) && rV g.it)=c_ then
  (cI S (f S) g.tg g.it).bind λit=>(Zf (f (inner S sc t.2 (freeOf sc))) g.ifs).bind λxs=>(f (inner S sc t.2 (freeOf sc)) elt).map λxe=>.comp t.2.length t.1 caps it xs xe
 else b_
noncomputable def Ko:be->Bool
 |.List _ _=>c_
 |.ListComp _ _ _ _=>c_
 |_=>d_
noncomputable def Kp:B2->Bool
 |.Add=>c_
 |_=>d_
def Hd(h:Kp op=c_):op=.Add:=by cases op<;>first|rfl|cases h
def OU(op:B2)(a b:be):Bool:=Kp op && Ko a && Ko b
noncomputable def Kn:be->Bool
 | .Constant c _ _=>match c with
   |.none=>c_
   |_=>d_
 |_=>d_
def Hc(h:Kn e=c_):∃c p,e=.Constant .none c p:=by
 cases e with
 |Constant k c p=>
   cases k with
   |none=>exact⟨c,p,rfl⟩
   |_=>cases h
 |_=>cases h
def Ux(S:Sc)(f:be->Option Ex)(fn:be)(args:List be)(kws:List Keyword):Option Ex:=(lp fn).bind λx=>(ku args).bind λa=>(ku kws).bind λk=>
 if(decide (x="min") && L4 S x && dG a && Kn k.value && decide (k.arg=a_ "default"))=c_ then(f a).map .YH else b_
def cE(G:Sg):Nat->Sc->be->Option Ex
 |0,_,_=>b_
 | n+1,S,e=>match e with
   |.Constant c _ _=>(UA c).map .con
   |.Name x _=>Ql G S x
   |.BinOp a op b _=>if OU op a b=c_ then(cE G n S a).bind λd=>(cE G n S b).map λj=>.cat d j else(UD op).bind λo=>(cE G n S a).bind λd=>(cE G n S b).map λj=>.bin o d j
   |.UnaryOp op a _=>cUn (cE G n S) a op
   |.BoolOp op es _=>if es.all qz=c_ then UB (cE G n S) es op else b_
   |.Compare a k bs _=>Qq (cE G n S) a k bs
   |.IfExp c a b _=>if qz c=c_ then(cE G n S c).bind λl=>(cE G n S a).bind λd=>(cE G n S b).map λj=>.ite l d j else b_
   |.Tuple es _ _=>(wb (cE G n S) es).map .tup
   |.List es _=>(wb (cE G n S) es).map .lst
   |.Dict ks vs _=>Lr (cE G n S) ks vs
   |.Subscript a b _=>Xh (cE G n S) a b
   |.Call fn args kws cp=>if kws.isEmpty=c_ then FH G S (cE G n S) fn args cp else Ux S (cE G n S) fn args kws
   |.ListComp elt q sc _=>(Qe q).bind λg=>Qp S (cE G n) elt g sc
   |_=>b_
def CV(K:Fg)(d:Dat)(v:V):Prop:=(∀F,Rep K F d v)/\∀a,v=.ref a->∃o,K.lookup a=a_ o/\o.cls=.type "tuple"/\o.dict=b_
structure p9(G:Sg)(C:Fs)(S:Sc)(X:Cx):Prop where
 N:X.N=S.N
 nm:X.env.scope.names=S.nm
 kind:X.env.scope.kind=.function
 calm:X.calm=c_
 un:X.A.units+21<dk
 xe:X.xe=λ_ _=>False
 fn:S.top=c_->∀x,X.fn x=c_
 fns:∀(j:Nat)x n,G.fns[j]?=a_ (x,n)->∃k f fd ps,nK X.prog X.w X.K X.mg X.base Hz k f fd ps (Rf X.K n (C j))/\mW k X.A/\X.mg x=a_ (.ref f)/\gJ X.K (.ref f)=c_/\Binds X.K fd ps []
 blt:∀x∈lA,X.mg x=b_
 con:∀x d,G.con.lookup x=a_ d->∃v u,X.mg x=a_ u/\RelV v u/\CV X.K d v
inductive Args (P:be->Ex->Prop):List be->List Ex->Prop
 |nil:Args P [] []
 |cons {e:be} {es:List be} {x:Ex} {xs:List Ex}:dG e=c_->P e x->Args P es xs->Args P (e::es) (x::xs)
def cc (h:(if b=c_ then x else b_)=a_ y):b=c_/\x=a_ y:=by
 split at h
 ·exact⟨by assumption,h⟩
 ·cases h
section
variable{G:Sg}{C:Fs}{S:Sc}{X:Cx}{e:be}{x:bu}
def oT(T:p9 G C S X)(h:zM S x=c_):Qu X.env.scope x:=by
 unfold zM at h;unfold Qu;rw[T.nm]
 cases q:S.nm.lookup x with
 |none=>rw[q]at h;cases h
 |some k=>rw[q]at h;cases k<;>first|(simp;done)|cases h
def t9(T:p9 G C S X)(h:yJ S x=c_):L2.Loc X.env.scope x:=by
 unfold yJ at h;unfold L2.Loc;rw[T.nm]
 cases q:S.nm.lookup x with
 |none=>rw[q]at h;cases h
 |some k=>rw[q]at h;cases k<;>first|(simp;done)|cases h
def mr(T:p9 G C S X)(h:L4 S x=c_):Gl X x:=by
 unfold Gl rA;rw[T.nm];exact beq_iff_eq.mp h
def jm(h:mj x=c_):(x == ("__debug__":bu))=d_/\(x == ("__classdict__":bu))=d_/\x≠"__name__":=by
 unfold mj at h;simp only[aj,jX]at h;exact⟨h.1.1,h.1.2,λz=>by have:=h.2;rw[z]at this;revert this;decide⟩
def cJ(h:dG e=c_):aS (e::es) env=(d_,eval e env)::aS es env:=by
 cases e<;>first|rfl|cases h
theorem uB:∀{es:List be},es.all dG=c_->(backTo pos (aS es env)).any (·.1)=d_
 |[],_=>rfl
 |e::es,h=>by
   rw[dv,aj]at h;rw[cJ h.1];have q:=uB (pos:=pos) (env:=env) h.2;unfold backTo at q ⊢;rw[ax,jj,q];rfl
theorem kQ(hf:∀e x,f e=a_ x->P e x):∀{es:List be}{xs:List Ex},wb f es=a_ xs->Args P es xs
 |[],_,h=>by cases h;exact .nil
 |e::r,_,h=>by
   obtain⟨hs,h⟩:=cc h;obtain⟨x,h1,h⟩:=cY h;obtain⟨xs,h2,rfl⟩:=eD h;exact .cons hs (hf _ _ h1) (kQ hf h2)
theorem Args.sa:∀{es:List be}{xs:List Ex},Args (SE X C) es xs->SA X C es xs
 |_,_,.nil=>oI
 |_,_,.cons hs h r=>jC h r.sa (cJ hs)
theorem Args.sf:∀{es:List be}{xs:List Ex},Args (SE X C) es xs->SF X C es xs
 |_,_,.nil=>IM
 |_,_,.cons hs h r=>D9 h r.sf (cJ hs)
theorem Args.star:∀{es:List be}{xs:List Ex},Args P es xs->es.all dG=c_
 |_,_,.nil=>rfl
 |_,_,.cons hs _ r=>by rw[dv,hs,r.star];rfl
theorem Args.len:∀{es:List be}{xs:List Ex},Args P es xs->xs.length=es.length
 |_,_,.nil=>rfl
 |_,_,.cons _ _ r=>congrArg (·+ 1) r.len
def Args.one(h:Args P es [z]):∃a,es=[a]/\dG a=c_/\P a z:=by
 cases h with
 |cons s p r=>cases r;exact⟨_,rfl,s,p⟩
def Args.two(h:Args P es [z,w]):∃a b,es=[a,b]/\dG a=c_/\dG b=c_/\P a z/\P b w:=by
 cases h with
 |cons s p r=>
   obtain⟨b,rfl,s',c⟩:=r.one;exact⟨_,b,rfl,s,s',p,c⟩
def Args.three(h:Args P es [z,w,u]):∃a b c,es=[a,b,c]/\dG a=c_/\dG b=c_/\dG c=c_/\P a z/\P b w/\P c u:=by
 cases h with
 |cons s p r=>
   obtain⟨b,c,rfl,s',s2,d,g⟩:=r.two;exact⟨_,b,c,rfl,s,s',s2,p,d,g⟩
def IT(s:dG a=c_)(s':dG b=c_)(ha:SE X C a z)(hb:SE X C b w):SA X C [a,b] [z,w]:=jC ha (jC hb oI (cJ s')) (cJ s)
def uA(s:dG a=c_)(s':dG b=c_):aS [a,b] env=[(d_,eval a env),(d_,eval b env)]:=(cJ s).trans (congrArg _ (cJ s'))
def O5(h:UD op=a_ o):jJ X (binaryOp op) (gB X.K (hJ o)):=by
 cases op<;>first|(cases h;first|exact NT|exact NI|exact NN|exact NO|exact NJ|exact NS)|cases h
def FG(c:X.A.units+21<dk)(h:Xl op=a_ o):jJ X (compareOp op) (gB X.K (p5 o)):=by
 cases op<;>first|(cases h;first|exact Su (bb c)|exact Sj (by omega)|exact Sm|exact Sq|exact Sr|exact NP|exact JG|exact So c|exact NM c)|cases h
def JQ(h:rV b=c_):behindInMarks op b=d_:=by
 cases b<;>first|rfl|cases h
def M3(ha:SE X C a xa):SE X C (.UnaryOp .Not a pos) (.not xa):=by
 intro h_ s σ H Q I ⟨ρ,d,fr,h,F,g,R,k⟩;obtain⟨⟨da,j⟩,h1,h⟩:=cY h;obtain⟨b,hb,h⟩:=eD h;cases h;refine UnaryOp_ (iM (ha h_ s σ H (λv H1=>∃F1,Step F H F1 H1/\Rep X.K F1 da v) I ⟨ρ,da,j,h1,F,g,R,λv F1 H1 st r _=>⟨F1,st,r⟩⟩) λv s1 ⟨x,H1,l,q,F1,st,r⟩=>?_);refine not_of (iM (Iu h_ s1 σ H1 x v (λc H2=>c=b/\H2=H1) l q ⟨b,DU st.good r hb,rfl,rfl⟩) ?_);rintro c s2 ⟨H2,y,rfl,rfl⟩;exact⟨.bl (!c),H2,y,rfl,k _ F1 H2 st rfl bx⟩
def U2(X:Cx)(C:Fs)(e:be)(x:Ex):Prop:=SE X C e x/\(qz e=c_->ST X C e x)
theorem xF:∀{es:List be}{xs:List Ex}{x:Ex},Args (U2 X C) es xs->es.all qz=c_->A8 .and xs=a_ x->SE X C (.BoolOp .And es pos) x/\SW X C (.BoolOp .And es pos) x
 |_,_,_,.nil,_,h=>by cases h
 |_,_,_,.cons _ p .nil,n,h=>by
   rw[dv,aj]at n;cases h;exact⟨Ee p.1,MD (p.2 n.1)⟩
 |_,_,_,.cons _ p (.cons s q r),n,h=>by
   rw[dv,aj]at n;obtain⟨z,h1,rfl⟩:=eD h;obtain⟨c,i2⟩:=xF (.cons s q r) n.2 h1;exact⟨RG p.1 c,QP (p.2 n.1) i2⟩
theorem A7:∀{es:List be}{xs:List Ex}{x:Ex},Args (U2 X C) es xs->es.all qz=c_->A8 .or xs=a_ x->SE X C (.BoolOp .Or es pos) x/\SW X C (.BoolOp .Or es pos) x
 |_,_,_,.nil,_,h=>by cases h
 |_,_,_,.cons _ p .nil,n,h=>by
   rw[dv,aj]at n;cases h;exact⟨Ee p.1,QO (p.2 n.1)⟩
 |_,_,_,.cons _ p (.cons s q r),n,h=>by
   rw[dv,aj]at n;obtain⟨z,h1,rfl⟩:=eD h;obtain⟨c,i2⟩:=A7 (.cons s q r) n.2 h1;exact⟨VW p.1 c,VI (p.2 n.1) i2⟩
set_option tactic.hygienic true
def M8(T:p9 G C S X)(hb:UC x=a_ bt)(hp:mj x=c_)(d:L4 S x=c_)(hs:dG e=c_)(he:SE X C e xa):SE X C (.Call (.Name x p) [e] [] pos) (.blt bt [xa]):=by
 have h1:aS [e] X.env=(d_,eval e X.env)::aS [] X.env:=cJ hs;have ha :=jC he oI h1;obtain⟨d1,d2,d3⟩:=jm hp;have c:=mr T d;unfold UC at hb;split at hb
 ·rename_i q;subst q;cases hb;exact Ec Hv c (T.blt _ (by decide +kernel)) PySem.boot_len ha d3 d1 h1 rfl
 split at hb
 ·rename_i q;subst q;cases hb;exact yw Dv c (T.blt _ (by decide +kernel)) (by decide +kernel) ha d3 d1 h1 rfl
 split at hb
 ·rename_i q;subst q;cases hb;exact yw Bv c (T.blt _ (by decide +kernel)) (by decide +kernel) ha d3 d1 h1 rfl
 split at hb
 ·rename_i q;subst q;cases hb;exact yw Hu c (T.blt _ (by decide +kernel)) (by decide +kernel) ha d3 d1 h1 rfl
 split at hb
 ·rename_i q;subst q;cases hb;exact Ec (zg T.un T.calm) c (T.blt _ (by decide +kernel)) (by decide +kernel) ha d3 d1 h1 rfl
 ·cases hb
def O3(T:p9 G C S X)(ha:Args (SE X C) es xs)(h:Xk G S x xs=a_ z):SE X C (.Call (.Name x p) es [] pos) z:=by
 obtain⟨hp,h⟩:=cc h;rw[aj]at hp;obtain⟨d1,d2,d3⟩:=jm hp.1
 cases c:KQ x 0 G.fns with
 |some v=>
   obtain⟨j,n⟩:=v;rw[c]at h;have h:(if xs.length=n then a_ (Ex.call j xs)else b_)=a_ z:=h;split at h
   ·rename_i d;cases h;obtain⟨i,e1,e2⟩:=A9 c;obtain⟨k,f,fd,ps,F,g,l,q,hb⟩:=T.fns i x n e2;rw[gG]at e1;subst e1
    cases ha with
    |nil=>exact IS j n F g (mr T hp.2) l q hb d.symm d1
    |cons hs he r=>exact M7 j n F g (mr T hp.2) l q hb (jC he r.sa (cJ hs)) d d1 (cJ hs) (uB r.star)
   ·cases h
 |none=>
   rw[c]at h
   cases ho:ku xs with
   |some y=>
     obtain rfl:=gQ ho;obtain⟨b,h1,rfl⟩:=eD h;obtain⟨e,rfl,hs,he⟩:=ha.one;exact M8 T h1 hp.1 hp.2 hs he
   |none=>
     rw[ho]at h;cases h
def Uu(h:Zb t=a_ ty):bootBuiltins t=a_ (.type (tyName ty))/\t∈lA/\(t == ("__debug__":bu))=d_/\t≠"__name__":=by
 unfold Zb at h
 repeat' (split at h;(rename_i q;subst q;cases h;exact⟨by decide +kernel,by decide +kernel,by decide +kernel,by decide +kernel⟩))
 cases h
def Qo{iter:be}(T:p9 G C S X)(hf:∀e x,f e=a_ x->SE X C e x)(h:cI S f tg iter=a_ it):SI X C tg iter it/\∀a,it=.itv a->SE X C iter a:=by
 unfold cI at h
 cases hi:Kj iter with
 |none=>
   rw[hi]at h;obtain⟨x,h1,rfl⟩:=eD h;exact⟨Rk (hf _ _ h1),λa z=>by cases z;exact hf _ _ h1⟩
 |some c=>
   rw[hi]at h;obtain⟨x,args⟩:=c;have h:Qn S f tg x args=a_ it:=h;obtain⟨D,h1,h2⟩:=cY hi;obtain⟨_,h2⟩:=cc h2;obtain rfl:D=(x,args):=aW h2;obtain⟨p,q,rfl⟩:=xQ h1;obtain⟨J,h3⟩:=cc h;clear h h1 h2 hi;obtain⟨xs,y,g⟩:=cY h3;have ha:=kQ hf y;clear h3 y;have v:=mr T J;split at g
   ·rename_i e;subst e
    cases ho:ku xs with
    |some B=>
      rw[ho]at g;cases g;obtain rfl:=gQ ho;obtain⟨a,rfl,hs,he⟩:=ha.one;exact⟨MZ v (T.blt _ (by decide +kernel)) (jC he oI (cJ hs)) (cJ hs),λa z=>nomatch z⟩
    |none=>
      rw[ho]at g;obtain⟨p,j,rfl⟩:=eD g;obtain rfl:=JJ j;obtain⟨a,b,c,rfl,hs,d,l,he,hb,hc⟩:=ha.three;exact⟨MY v (T.blt _ (by decide +kernel)) (jC he (IT d l hb hc) (cJ hs)) ((cJ hs).trans (congrArg _ (uA d l))) (uA d l),λa z=>nomatch z⟩
   split at g
   ·rename_i e;simp only[aj,decide_eq_true_eq]at e;obtain⟨rfl,ht⟩:=e;obtain⟨p,j,rfl⟩:=eD g;obtain rfl:=uR j;obtain⟨L,k,tp,rfl⟩:=AO ht;obtain⟨a,b,rfl,hs,d,he,hb⟩:=ha.two;exact⟨Rj v (T.blt _ (by decide +kernel)) (IT hs d he hb) (uA hs d) (cJ d),λa z=>nomatch z⟩
   split at g
   case isFalse=>
    split at g
    ·rename_i e;subst e;obtain⟨B,j,rfl⟩:=eD g;obtain rfl:=gQ j;obtain⟨a,rfl,hs,he⟩:=ha.one;exact⟨Rn v (T.blt _ (by decide +kernel)) (jC he oI (cJ hs)) (cJ hs),λa z=>nomatch z⟩
    ·cases g
   ·rename_i e;simp only[aj,decide_eq_true_eq]at e;obtain⟨rfl,ht⟩:=e;obtain⟨L,k,tp,rfl⟩:=AO ht;obtain⟨B,j,rfl⟩:=eD g;obtain rfl:=gQ j;obtain⟨a,rfl,hs,he⟩:=ha.one;exact⟨Ro v (T.blt _ (by decide +kernel)) (jC he oI (cJ hs)) (cJ hs),λa z=>nomatch z⟩
def j6(h:rV e=c_):∀v,foldedSetIterable e X.env v=pure v:=λv=>by
 cases e<;>first|rfl|cases h
theorem Bu:∀{cn:List bu}{is:List Nat},tu N cn=a_ is->is.map (λj=>N[j]?)=cn.map a_
 |[],_,h=>by cases h;rfl
 |x::r,_,h=>by
   obtain⟨i,h1,h⟩:=cY h;obtain⟨is,h2,rfl⟩:=eD h;rw[ax,ax,iU h1,Bu h2]
theorem lookup_mem:∀{L:List (bu×kE)},L.lookup x=a_ k->(x,k)∈L
 |[],h=>by cases h
 |(y,j)::r,h=>by
   rw[eW]at h;split at h
   ·rename_i q;cases h;rw[eq_of_beq q];exact g7
   ·exact iE _ (lookup_mem h)
set_option tactic.hygienic false
structure FU(S:Sc)(sc:mE)(tn cn:List bu):Prop where
 kind:sc.kind=.function
 nocell:∀y∈sc.names,y.2≠.cell
 locs:∀y∈sc.names,y.2=.local->sc.names.lookup y.1=a_ .local
 frees:∀y∈sc.names,y.2=.free->S.nm.lookup y.1=a_ .cell\/S.nm.lookup y.1=a_ .free
 capk:∀x∈cn,(S.nm.lookup x=a_ .cell\/S.nm.lookup x=a_ .free)/\sc.names.lookup x=a_ .free
 nd:(tn++cn).Nodup
 tl:∀x∈tn,sc.names.lookup x=a_ .local
def Lf(h:Lg S sc tn cn=c_):FU S sc tn cn:=by
 unfold Lg at h;simp only[aj,bo,decide_eq_true_eq,kW,jX,decide_eq_false_iff_not]at h;obtain⟨⟨⟨⟨⟨⟨h1,h2⟩,h3⟩,d⟩,h5⟩,g⟩,j⟩:=h;refine⟨h1,h2,λy c e=>?_,λy c e=>?_,h5,g,j⟩
 ·rcases h3 y c with z|z
  ·exact absurd e z
  ·exact z
 ·rcases d y c with(z|z)|z
  ·exact absurd e z
  ·exact .inl z
  ·exact .inr z
def y8(T:p9 G C S X)(h:FU S sc tn cn)(hc:tu S.N cn=a_ caps):jq X sc tn cn caps where
 kind:=h.kind
 nocell:=h.nocell
 locs:=h.locs
 frees:=λy d e=>by unfold rA;rw[T.nm];exact h.frees y d e
 nofree:=λx e=>lookup_mem e
 caps:=by rw[T.N];exact Bu hc
 capk:=λx c=>by unfold rA;rw[T.nm];exact(h.capk x c).1
 capn:=λx c=>(h.capk x c).2
def rK(T:p9 G C S X)(h:FU S sc tn cn)(cl:List (bu×aI))(c:ak)(d:Hp)(Ca:aI)(ex:List aI):p9 G C (inner S sc tn cn) (e9 X sc cl (tn++cn) c d Ca ex) where
 N:=rfl
 nm:=by
  show(relabel sc X.env).names=Aj S sc;unfold relabel Aj rA;rw[T.nm,T.kind];refine cP λp _=>?_;obtain⟨n,k⟩:=p;dsimp only;rw[show(zF == zF)=c_ from rfl,iF]
 kind:=h.kind
 calm:=T.calm
 un:=T.un
 xe:=rfl
 fn:=λz=>nomatch z
 fns:=T.fns
 blt:=T.blt
 con:=T.con
end
section
variable{G:Sg}{C:Fs}{S:Sc}{X:Cx}{e:be}{x:bu}{f:be->Option Ex}
def Jy(T:p9 G C S Y)(c:S.N.Nodup)(hi:S.N[i]?=a_ t)(hl:S.nm.lookup t=a_ .local):PG Y (.Name t p) (kL i):=by
 refine EA (by rw[T.N];exact c) (by rw[T.N];exact hi) ?_ (.inr (by rw[T.nm];exact hl));unfold L2.Loc;rw[T.nm];exact .inl hl
def qD{sc:mE}(h:sc.names.lookup x=a_ .local):(Aj S sc).lookup x=a_ .local:=by
 unfold Aj;generalize sc.names=L at h
 induction L with
 |nil=>cases h
 |cons p r c=>
   obtain⟨y,k⟩:=p;rw[eW]at h;rw[ax];by_cases hc:(k == eG && S.nm.lookup y == a_ .cell)=c_
   ·dsimp only;rw[if_pos hc,eW];split at h
    ·cases h;simp at hc
    ·exact c h
   ·rw[if_neg hc,eW];split at h
    ·exact h
    ·exact c h
theorem nr:∀{es:List be}{tn:List bu},namesOf es=a_ tn->(assignEach es env).length=es.length/\(assignEach es env).findIdx? (·.1)=b_/\tn.length=es.length
 |[],tn,h=>by cases h;exact⟨rfl,rfl,rfl⟩
 |e::es,tn,h=>by
   obtain⟨t,h0,h⟩:=cY h;obtain⟨c,h1,rfl⟩:=eD h;obtain⟨p,rfl⟩:=gR h0;obtain⟨d,g,j⟩:=nr (env:=env) h1;have e1:assignEach (.Name t p::es) env=(d_,assign (.Name t p) env)::assignEach es env:=rfl;rw[e1];refine⟨by simp[d],?_,by simp[j]⟩;rw[List.findIdx?_cons];simp[g]
def gK:Nat->Nat->Qy
 |_,0=>Hi
 |k,n+1=>xD (kL k) (gK (k+1) n)
theorem Fe:∀n k x σ H Q Q',(∀σ2 H2,Q σ2 H2->Q' σ2 H2)->gK k n x σ H Q->gK k n x σ H Q'
 |0,_=>Hh
 |n+1,k=>Di vo (Fe n (k+1))
theorem A2:∀n k,k+n<=nt->vH nt (gK k n)
 |0,_,_=>Gr
 |n+1,k,h=>Ci vo (Fe n (k+1)) (ur (aG (aX _ _) h)) (A2 n (k+1) (by omega))
theorem KN{K:Fg}:∀(ds:List Dat)(vs:List V)(k:Nat)(σ:St)(ρ:iG)(Q:St->Hp->Prop),cT K F ds vs->mX K F σ ρ->σ.length=ρ.length->(∀c,mX K F c (yv k ds ρ)->Q c H)->gK k ds.length vs σ H Q
 |[],vs,k,σ,ρ,Q,r,R,hl,q=>⟨r,q σ R⟩
 |d::ds,vs,k,σ,ρ,Q,r,R,hl,q=>by
   obtain⟨v,w,rfl,g,j⟩:=r;exact⟨v,w,rfl,KN ds w (k+1) _ _ Q j (Ak hl R g) (by simpa using hl) q⟩
set_option tactic.hygienic true
def Iz{K:Fg}:UO K n d_ (KJ K n (gK 0 n)):=λF H σ ρ d x ρ1 Q g R c hl r hb k=>by
 cases d with
 |tup ds=>
   have hb:(if ds.length=n then a_ (yv 0 ds ρ)else b_)=a_ ρ1:=hb;split at hb
   ·rename_i hz;cases hb;obtain⟨a,vs,rfl,t,r⟩:=r;subst hz;exact⟨a,vs,rfl,(t.mono g.sub).sq,r.length,KN ds vs 0 σ ρ Q r R hl k⟩
   ·cases hb
 |_=>cases hb
theorem An(T:p9 G C S Y)(nd:S.N.Nodup):∀{es:List be}{tn:List bu}(k:Nat),namesOf es=a_ tn->(∀i t,tn[i]?=a_ t->S.N[k+i]?=a_ t)->(∀t∈tn,S.nm.lookup t=a_ .local)->Vl Y es (gK k es.length)
 |[],_,_,_,_,_=>Ez
 |e::es,tn,k,h,hi,hl=>by
   obtain⟨t,h0,h⟩:=cY h;obtain⟨c,h1,rfl⟩:=eD h;obtain⟨p,rfl⟩:=gR h0;refine Ao (Jy T nd (hi 0 t rfl) (hl t g7)) (An T nd (k+1) h1 (λi t' e=>?_) λt' m=>hl t' (iE _ m));rw[show k+1+i=k+(i+1) by omega];exact hi (i+1) t' ((bO ..).trans e)
def Vy(T:p9 G C S X)(ht:oU tg=a_ (one,tn))(h:FU S sc tn (freeOf sc)) :
  ∃g,pJ tn.length g/\UO X.K tn.length one g/\∀(cl:List (bu×aI))(c:ak)(d:Hp)(Ca:aI)(ex:List aI),PG (e9 X sc cl (tn++freeOf sc) c d Ca ex) tg g:=by
 cases tg with
 |Name t p=>
   cases ht;refine⟨kL 0,ur (by simp),MB,λcl c d Ca ex=>?_⟩;exact Jy (rK T h cl c d Ca ex) h.nd rfl (qD (h.tl t (by simp)))
 |Tuple es k pos=>
   obtain⟨l,h1,h2⟩:=eD ht;cases h2;refine⟨KJ X.K tn.length (gK 0 tn.length),Gq (A2 _ 0 (gH (au _) (aR _))),Iz,λcl c d Ca ex=>?_⟩;have j:=rK T h cl c d Ca ex;have n:=nr (env:=(e9 X sc cl (tn++freeOf sc) c d Ca ex).env) h1;have q:=An j h.nd 0 h1 (λi t e=>by rw[gG];exact(aQ (aP.mp e).1).trans e) λt m=>qD (h.tl t m);rw[<-n.2.2]at q;exact Jv j.calm q (n.1.trans n.2.2.symm) n.2.1
 |_=>cases ht
def Ih(G:Sg)(C:Fs)(f:Sc->be->Option Ex):Prop:=∀S e x,f S e=a_ x->∀X,p9 G C S X->U2 X C e x
def Bx(T:p9 G C S X)(h:Ql G S x=a_ z):SE X C (.Name x p) z:=by
 obtain⟨hp,h⟩:=cc h;obtain⟨d1,d2,d3⟩:=jm hp;split at h
 ·rename_i c;obtain⟨i,h1,rfl⟩:=eD h;exact Rt i (by rw[T.N];exact iU h1) (oT T c) d1 d2
 ·obtain⟨g,h⟩:=cc h;obtain⟨d,h1,rfl⟩:=eD h;obtain⟨v,u,j,r,hd⟩:=T.con x d h1;exact M4 (mr T g) j r hd.1 d1
def Ls(T:p9 G C S X)(hf:∀e x,f e=a_ x->SE X C e x)(h:Qq f a ops bs=a_ z):SE X C (.Compare a ops bs pos) z/\ST X C (.Compare a ops bs pos) z:=by
 obtain⟨l,h1,c⟩:=cY h;clear h
 cases ho:ku ops with
 |some op=>
   rw[ho]at c;obtain rfl:=gQ ho;obtain⟨b,h2,g⟩:=cY c;obtain rfl:=gQ h2;obtain⟨hs,j⟩:=cc g;obtain⟨o,d,k⟩:=cY j;obtain⟨q,h3,rfl⟩:=eD k;exact⟨RD (FG T.un d) (hf _ _ h1) (hf _ _ h3) (JQ hs),QX (FG T.un d) (hf _ _ h1) (hf _ _ h3) (JQ hs)⟩
 |none=>
   rw[ho]at c;cases c
def By(hf:∀e x,f e=a_ x->SE X C e x)(h:Lr f ks vs=a_ z):SE X C (.Dict ks vs pos) z:=by
 unfold Lr at h;split at h
 ·rename_i q;simp only[aj,g8]at q;obtain⟨rfl,rfl⟩:=q;cases h;exact M5
 ·cases h
def Bw(hf:∀e x,f e=a_ x->SE X C e x)(h:Ln f o=a_ z):SO X C o z:=by
 cases o with
 |none=>cases h;exact MT
 |some e=>
   obtain⟨y,h1,rfl⟩:=eD h;exact MS (hf _ _ h1)
def Cr{lo st:Option be}(h:kP b=a_ (lo,hi,st)):∃p,b=.Slice lo hi st p:=by
 cases b with
 |Slice c d g p=>cases h;exact⟨p,rfl⟩
 |_=>cases h
def pV(h:kP b=b_):zm b:=by
 cases b<;>first|(intro o i;rfl)|cases h
def FF(T:p9 G C S X)(hf:∀e x,f e=a_ x->SE X C e x)(h:Xh f a b=a_ z):SE X C (.Subscript a b pos) z:=by
 obtain⟨j,h1,h⟩:=cY h
 cases hs:kP b with
 |some t=>
   rw[hs]at h;obtain⟨lo,hi,st⟩:=t;obtain⟨c,d⟩:=cc h;obtain⟨k,h2,g⟩:=cY d;obtain⟨l,h3,rfl⟩:=eD g;obtain⟨p,rfl⟩:=Cr hs
   cases st with
   |none=>exact VV (hf _ _ h1) (Bw hf h2) (Bw hf h3)
   |some _=>cases c
 |none=>
   rw[hs]at h;obtain⟨q,h2,rfl⟩:=eD h;exact V0 (YT (aG (Nat.lt_sub_of_add_lt T.un) (by decide))) (hf _ _ h1) (hf _ _ h2) (pV hs)
def Lp(T:p9 G C S X)(hf:∀e x,f e=a_ x->SE X C e x)(h:Qm G S f o m ap es cp=a_ z):SE X C (.Call (.Attribute o m ap) es [] cp) z:=by
 obtain⟨c,h⟩:=cc h;obtain⟨xs,h1,h⟩:=cY h;have ha:=kQ hf h1;obtain⟨hb,h⟩:=cc h;obtain⟨d,h0,h⟩:=cY h;obtain⟨g,h2,rfl⟩:=eD h;have hs:=ha.star;exact OZ (by have:=T.un;omega) h2 (hf _ _ h0) ha.sa ha.len (λe z=>by subst z;exact cJ (by simpa using hs)) (λe e2 z=>by subst z;have q:=bo.mp hs;exact⟨cJ (q e (by simp)),cJ (q e2 (by simp))⟩) hb c
def OW(T:p9 G C S X)(hf:∀e x,f e=a_ x->SE X C e x)(h:Uv S f x y bt es=a_ z)
  (hl:∀a c(p q g pos:zp),dG a=c_->Gl X x->Gl X y->SE X C a c->SE X C (.Call (.Name x p) [.Call (.Name y q) [a] [] g] [] pos) (.blt bt [c])):SE X C (.Call (.Name x p) es [] pos) z:=by
 obtain⟨e,h1,j⟩:=cY h;obtain⟨⟨k,as⟩,h2,d⟩:=cY j;obtain⟨q,g,rfl⟩:=xQ h2;obtain rfl:=gQ h1;split at d
 ·rename_i l;obtain rfl:k=y:=l;obtain⟨a,h3,v⟩:=cY d;obtain rfl:as=[a]:=gQ h3;obtain⟨hc,B⟩:=cc v;simp only[aj]at hc;obtain⟨c,D,rfl⟩:=eD B;exact hl a c _ _ _ _ hc.2 (mr T hc.1.1) (mr T hc.1.2) (hf _ _ D)
 ·cases d
def Hx(T:p9 G C S X)(hf:∀e x,f e=a_ x->SE X C e x)(h:Dy G S f x es=a_ z):SE X C (.Call (.Name x p) es [] pos) z:=by
 unfold Dy at h;split at h
 ·rename_i c;subst c;obtain⟨⟨a,t'⟩,h1,d⟩:=cY h;obtain rfl:es=[a,t']:=uR h1;obtain⟨t,h2,g⟩:=cY d;obtain⟨k,h5⟩:=gR h2;obtain rfl:t'=.Name t k:=h5;obtain⟨hc,l⟩:=cc g;simp only[aj]at hc;obtain⟨ty,h3,q⟩:=cY l;obtain⟨v,y,rfl⟩:=eD q;obtain⟨b1,b2,b3,b4⟩:=Uu h3;exact RB ty (mr T hc.1.1) (T.blt _ (by decide +kernel)) (mr T hc.1.2) (T.blt _ b2) b1 (hf _ _ y) b4 b3 (cJ hc.2) (uB (by rfl))
 ·generalize j:(if x="sorted" then Uv S f "sorted" "set" .sset es else b_)=w at h
  cases w with
  |some w=>
    cases h;split at j
    ·rename_i c;subst c;exact OW T hf j λa v _ _ _ _ hs d g ha=>M2 T.un T.calm d (T.blt _ (by decide +kernel)) g (T.blt _ (by decide +kernel)) ha (by rw[cJ hs];rfl)
    ·cases j
  |none=>
    obtain⟨xs,h1,h⟩:=cY h;exact O3 T (kQ hf h1) h
def BA(T:p9 G C S X)(hf:∀e x,f e=a_ x->SE X C e x)(h:FH G S f fn es pos=a_ z):SE X C (.Call fn es [] pos) z:=by
 unfold FH at h
 cases c:vG fn with
 |some t=>
   obtain rfl:=su c;exact Lp T hf h
 |none=>
   rw[c]at h;obtain⟨x,h1,h⟩:=cY h;obtain⟨p,rfl⟩:=gR h1;exact Hx T hf h
def A0(h:Qe gs=a_ g):gs=[⟨g.tg,g.it,g.ifs,0⟩]:=by
 obtain⟨c,h1,d⟩:=cY h;obtain rfl:=gQ h1;split at d
 ·rename_i hz;cases d;cases c;cases hz;rfl
 ·cases d
set_option tactic.hygienic false
def Bz(B:Ih G C F)(T:p9 G C S X)(h:Qp S F elt g sc=a_ z) :
  ∃tn caps one it xs xe l,z=.comp tn caps one it xs xe/\∃tl:List bu,tl.length=tn/\jq X sc tl (freeOf sc) one/\SI X C g.tg g.it it/\pJ tl.length l/\UO X.K tl.length caps l/\
   (∀(cl:List (bu×aI))(d:ak)(j:Hp)(Ca:aI)(ex:List aI),PG (e9 X sc cl (tl++freeOf sc) d j Ca ex) g.tg l/\L6 (e9 X sc cl (tl++freeOf sc) d j Ca ex) g.ifs (Va X.K C xs)/\SE (e9 X sc cl (tl++freeOf sc) d j Ca ex) C elt xe)/\rV g.it=c_:=by
 obtain⟨⟨one,tn⟩,h0,h⟩:=cY h;obtain⟨caps,h1,h⟩:=cY h;obtain⟨hc,h⟩:=cc h;simp only[aj]at hc;obtain⟨it,h2,h⟩:=cY h;obtain⟨xs,h3,h⟩:=cY h;obtain⟨xe,M,rfl⟩:=eD h;have D:=Lf hc.1;obtain⟨l,k,J,O⟩:=Vy T h0 D;refine⟨_,_,_,it,xs,xe,l,rfl,tn,rfl,y8 T D h1,(Qo T (λe x q=>(B _ _ _ q X T).1) h2).1,k,J,λcl d j Ca ex=>?_,hc.2⟩;have L:=rK T D cl d j Ca ex;refine⟨O cl d j Ca ex,?_,(B _ _ _ M _ L).1⟩;generalize g.ifs=ifs at h3
 cases ifs with
 |nil=>cases h3;exact MG
 |cons c r=>
   obtain⟨v,h5⟩:=cc h3;simp only[aj,g8]at v;obtain⟨rfl,v⟩:=v;obtain⟨y,R,rfl⟩:=eD h5;exact MF ((B _ _ _ R _ L).2 v)
def O2(T:p9 G C S X)(hf:∀e x,f e=a_ x->SE X C e x)(h:Ux S f fn args kws=a_ z):SE X C (.Call fn args kws pos) z:=by
 obtain⟨x,h1,h⟩:=cY h;obtain⟨a,h2,h⟩:=cY h;obtain⟨k,h3,h⟩:=cY h;obtain⟨hc,h⟩:=cc h;obtain⟨v,g,rfl⟩:=eD h;simp only[aj,decide_eq_true_eq]at hc;obtain⟨⟨⟨⟨rfl,j⟩,hs⟩,l⟩,q⟩:=hc;obtain⟨p,rfl⟩:=gR h1;obtain rfl:=gQ h2;obtain rfl:=gQ h3;obtain⟨y,B,kp⟩:=k;obtain⟨c,cp,rfl⟩:=Hc l;cases q;have d:=cJ (es:=[]) (env:=X.env) hs;exact Ry T.calm (mr T j) (T.blt _ (by decide +kernel)) (jC (hf _ _ g) oI d) d
theorem xR:∀n,Ih G C (cE G n)
 |0=>λ_ _ _ h=>by cases h
 |n+1=>λS e z h X T=>by
   have D:=λe x h=>xR n S e x h X T;have hf:=λe x h=>(D e x h).1
   cases e with
   |Constant c k p=>
     obtain⟨d,h1,rfl⟩:=eD h
     have q:SE X C (.Constant c k p) (.con d):=by
      cases c<;>first|(cases h1;first|exact RC|exact V1|exact Rw|exact Rv)|cases h1
     exact⟨q,λ_=>kH q⟩
   |Name x p=>exact⟨Bx T h,λ_=>kH (Bx T h)⟩
   |BinOp a op b p=>
     have h:(if OU op a b=c_ then(cE G n S a).bind λv=>(cE G n S b).map λy=>Ex.cat v y else(UD op).bind λo=>(cE G n S a).bind λv=>(cE G n S b).map λy=>.bin o v y)=a_ z:=h;by_cases hc:OU op a b=c_
     ·rw[if_pos hc]at h;obtain⟨v,h1,h⟩:=cY h;obtain⟨y,h2,rfl⟩:=eD h;simp only[OU,aj]at hc;obtain rfl:=Hd hc.1.1;have q:=RE (pos:=p) (hf _ _ h1) (hf _ _ h2);exact⟨q,λ_=>kH q⟩
     rw[if_neg hc]at h;obtain⟨o,h0,h⟩:=cY h;obtain⟨v,h1,h⟩:=cY h;obtain⟨y,h2,rfl⟩:=eD h;have q:=RF (pos:=p) (O5 h0) (hf _ _ h1) (hf _ _ h2);exact⟨q,λ_=>kH q⟩
   |UnaryOp op a p=>
     cases op with
     |USub=>
       obtain⟨v,h1,rfl⟩:=eD h;have q:=Rx (pos:=p) (hf _ _ h1);exact⟨q,λ_=>kH q⟩
     |Not=>
       obtain⟨B,h⟩:=cc h;obtain⟨v,h1,rfl⟩:=eD h;exact⟨M3 (hf _ _ h1),λ_=>QW ((D _ _ h1).2 B)⟩
     |_=>cases h
   |BoolOp op es p=>
     obtain⟨B,h⟩:=cc h
     cases op with
     |And=>
       obtain⟨xs,h1,h⟩:=cY h;have q:=xF (pos:=p) (kQ D h1) B h;exact⟨q.1,λ_=>q.2.pt⟩
     |Or=>
       obtain⟨xs,h1,h⟩:=cY h;have q:=A7 (pos:=p) (kQ D h1) B h;exact⟨q.1,λ_=>q.2.pt⟩
   |Compare a M bs p=>
     have q:=Ls (pos:=p) T hf h;exact⟨q.1,λ_=>q.2⟩
   |IfExp c a b p=>
     obtain⟨B,h⟩:=cc h;obtain⟨Z,h1,h⟩:=cY h;obtain⟨v,h2,h⟩:=cY h;obtain⟨y,h3,rfl⟩:=eD h;exact⟨RA ((D _ _ h1).2 B) (hf _ _ h2) (hf _ _ h3),λz=>by cases z⟩
   |Tuple es k p=>
     obtain⟨xs,h1,rfl⟩:=eD h;have q:=Ru (x1:=k) (pos:=p) (kQ hf h1).sf;exact⟨q,λ_=>kH q⟩
   |List es p=>
     obtain⟨xs,h1,rfl⟩:=eD h;have q:=Rz (pos:=p) (kQ hf h1).sf;exact⟨q,λ_=>kH q⟩
   |Dict ks vs p=>exact⟨By hf h,λ_=>kH (By hf h)⟩
   |Subscript a b p=>exact⟨FF T hf h,λ_=>kH (FF T hf h)⟩
   |Call fn args kws cp=>
     by_cases L:kws.isEmpty=c_
     ·cases kws with
      |nil=>exact⟨BA T hf h,λ_=>kH (BA T hf h)⟩
      |cons _ _=>cases L
     ·have h:(if kws.isEmpty=c_ then FH G S (cE G n S) fn args cp else Ux S (cE G n S) fn args kws)=a_ z:=h;rw[if_neg L]at h;have q:=O2 (pos:=cp) T hf h;exact⟨q,λ_=>kH q⟩
   |ListComp elt gs sc p=>
     obtain⟨g,h1,h⟩:=cY h;obtain rfl:=A0 h1;obtain⟨_,_,_,it,xs,xe,gg,rfl,tl,rfl,O,R,U,W,J,Y⟩:=Bz (xR n) T h;have q:=M6 (pos:=p) T.calm O R U W (λcl j l Ca ex=>(J cl j l Ca ex).1) (λcl j l Ca ex=>(J cl j l Ca ex).2.1) (λcl j l Ca ex=>(J cl j l Ca ex).2.2) (j6 Y);exact⟨q,λ_=>kH q⟩
   |_=>cases h
end
noncomputable def nj:be->Bool
 |.ListComp _ _ _ _=>d_
 |.SetComp _ _ _ _=>d_
 |.DictComp _ _ _ _ _=>d_
 |_=>c_
noncomputable def IC(S:Sc)(sc:mE)(cp:zp)(t:bu)(p:zp):Bool:=S.nm.lookup t == a_ .local && p.line == cp.line && !(sc.names.any λ(n,k)=>n == t && (k == .local || k == .cell))
noncomputable def Xj(m:bu)(k:Nat):Option HQ:=
 if m="append"/\k=1 then a_ .app else if m="extend"/\k=1 then a_ .ext else b_
def Je(S:Sc)(e:be):Option Nat:=(lp e).bind λx=>if(mj x && zM S x)=c_ then tH x S.N else b_
def Xi(G:Sg)(S:Sc)(f:be->Option Ex):Option be->Option Sx
 |none=>b_
 | some e=>match Je S e with
   |some i=>a_ (.qv i)
   |none=>(f e).map .ret
def zQ:be->Option (bu×be)
 |.Subscript a ix _=>(lp a).map λx=>(x,ix)
 |_=>b_
def QQ:be->Option (bu×be×be)
 |.Subscript a k _=>(zQ a).map λz=>(z.1,z.2,k)
 |_=>b_
def UE(S:Sc)(f:be->Option Ex)(t e:be):Option Sx:=match lp t with
 |some x=>if yJ S x=c_ then(tH x S.N).bind λi=>(f e).map λxe=>.set i xe else b_
 | none=>match zQ t with
   |some (x,ix)=>if(zM S x && mj x && (kP ix).isNone && nj e)=c_ then(tH x S.N).bind λi=>(f e).bind λxe=>(f ix).map λc=>.mut .seti i [xe,c]else b_
   | none=>match QQ t with
    |some (x,ix,k)=>if(zM S x && mj x && (kP ix).isNone && (kP k).isNone && nj e)=c_ then(tH x S.N).bind λi=>(f e).bind λxe=>(f ix).bind λc=>(f k).map λd=>.P1 i c d xe else b_
    |none=>(oU t).bind λtn=>if(tn.2.all (yJ S) && !isTup e && !tn.1)=c_ then(tu S.N tn.2).bind λg=>(f e).map λxe=>.Vs g xe else b_
structure Mc where
 x:bu
 m:bu
 ap:zp
 args:List be
 cp:zp
def Te(e:be):Option Mc:=(OV e).bind λc=>(vG c.fn).bind λt=>(lp t.1).bind λx=>if c.kws.isEmpty=c_ then a_ ⟨x,t.2.1,t.2.2,c.args,c.pos⟩else b_
noncomputable def Wq:List be->Option be
 |[a]=>a_ a
 |_=>b_
structure Mk where
 x:bu
 ix:be
 ap:zp
 a:be
 cp:zp
def Ta(e:be):Option Mk:=(OV e).bind λc=>(vG c.fn).bind λt=>(zQ t.1).bind λz=>(Wq c.args).bind λa=>if(c.kws.isEmpty && t.2.1 == "append")=c_ then a_ ⟨z.1,z.2,t.2.2,a,c.pos⟩else b_
def cExp(S:Sc)(f:be->Option Ex)(e:be):Option Sx:=match Te e with
 |some c=>if(zM S c.x && mj c.x && (c.ap.endLine == c.cp.line))=c_ then(tH c.x S.N).bind λi=>(wb f c.args).bind λxs=>(Xj c.m xs.length).map λop=>.mut op i xs else b_
 | none=>match Ta e with
   |some c=>if(zM S c.x && mj c.x && (kP c.ix).isNone && (c.ap.endLine == c.cp.line) && dG c.a)=c_ then(tH c.x S.N).bind λi=>(f c.ix).bind λd=>(f c.a).map λg=>.U7 .app i d [g]else b_
   |none=>if nj e=c_ then(f e).map .exp else b_
def uQ(f:kX->Option Sx)(ss:List kX):List Sx:=ss.map λs=>(f s).getD .LX
def cS(G:Sg)(S:Sc):Nat->kX->Option Sx
 |0,_=>b_
 | n+1,st=>match st with
   |.Return v _=>Xi G S (cE G n S) v
   |.Assign g e _=>(ku g).bind λt=>UE S (cE G n S) t e
   |.Expr e _=>cExp S (cE G n S) e
   |.If c a b _=>if qz c=c_ then(cE G n S c).map λj=>.ifs j (uQ (cS G S n) a) (uQ (cS G S n) b)else b_
   |.For tg iter body d _=>if d.isEmpty=c_ then(oU tg).bind λt=>if(t.2.all (yJ S) && rV iter)=c_ then(tu S.N t.2).bind λg=>(cI S (cE G n S) tg iter).map λit=>.loop t.1 g it (uQ (cS G S n) body)else b_ else b_
   |.While c body d _=>if(d.isEmpty && qz c)=c_ then(cE G n S c).map λj=>.Vq j (uQ (cS G S n) body)else b_
   |_=>b_
section
variable{G:Sg}{X:Cx}
theorem jb{f:kX->Option Sx}(hf:∀s y,f s=a_ y->SS X C s y):∀(ss:List kX),L5 X C ss (uQ f ss)
 |[]=>MJ
 | s::r=>ID (by
    show SS X C s ((f s).getD .LX)
    cases q:f s with
    |none=>exact Q2
    |some y=>exact hf _ _ q) (jb hf r)
def uS(h:nj e=c_):swapsWith e t line X.env=pure d_:=by
 cases e<;>first|rfl|cases h
def Jw(T:p9 G C S X)(ht:S.top=c_)(c:S.N.Nodup)(hi:S.N[i]?=a_ t)(hl:yJ S t=c_):PG X (.Name t p) (kL i):=
 EA (by rw[T.N];exact c) (by rw[T.N];exact hi) (t9 T hl) (.inl (T.fn ht t))
theorem Ay(T:p9 G C S X)(c:S.top=c_)(g:S.N.Nodup):∀{es:List be}{tn:List bu}{d:List Nat},namesOf es=a_ tn->tn.all (yJ S)=c_->tu S.N tn=a_ d->Vl X es (XT d)/\d.length=es.length
 |[],tn,d,h,_,hc=>by
   cases h;cases hc;exact⟨Ez,rfl⟩
 |e::es,tn,d,h,hl,hc=>by
   obtain⟨t,h0,h⟩:=cY h;obtain⟨j,h1,rfl⟩:=eD h;obtain⟨p,rfl⟩:=gR h0;obtain⟨i,h2,hc⟩:=cY hc;obtain⟨is,h3,rfl⟩:=eD hc;rw[dv,aj]at hl;obtain⟨k,l⟩:=Ay T c g h1 hl.2 h3;exact⟨Ao (Jw T c g (iU h2) hl.1) k,congrArg (·+ 1) l⟩
def IA(T:p9 G C S X)(c:S.top=c_)(d:S.N.Nodup)(ht:oU tg=a_ (one,tn))(hl:tn.all (yJ S)=c_)(hc:tu S.N tn=a_ ts) :
  ∃g,UN X.K one ts g/\PG X tg g:=by
 cases tg with
 |Name t p=>
   cases ht;obtain⟨i,h1,hc⟩:=cY hc;cases hc;exact⟨kL i,MA,Jw T c d (iU h1) (by simpa using hl)⟩
 |Tuple es k p=>
   obtain⟨j,h1,h⟩:=eD ht;cases h;obtain⟨l,q⟩:=Ay T c d h1 hl hc;exact⟨_,Iy,Jv T.calm l ((nr h1).1.trans q.symm) (nr h1).2.1⟩
 |_=>cases ht
def OY(T:p9 G C S X)(hf:∀e x,f e=a_ x->SE X C e x)(h:Xi G S f v=a_ y):SS X C (.Return v pos) y:=by
 cases v with
 |none=>cases h
 |some e=>
   have h:(match Je S e with|some i=>a_ (Sx.qv i)|none=>(f e).map .ret)=a_ y:=h
   cases c:Je S e with
   |some i=>
     rw[c]at h;cases h;obtain⟨x,h1,h2⟩:=cY c;obtain⟨p,rfl⟩:=gR h1;obtain⟨hc,h2⟩:=cc h2;rw[aj]at hc;obtain⟨d1,d2,d3⟩:=jm hc.1;exact MN (by rw[T.N];exact iU h2) (oT T hc.2) d1 d2
   |none=>
     rw[c]at h;obtain⟨xe,h1,rfl⟩:=eD h;exact Q3 (hf _ _ h1)
def wN{ix:be}(h:nj e=c_):swapsWithSole [.Subscript a ix sp] e line env=pure d_/\swappedStores [.Subscript a ix sp] e env=pure b_:=by
 cases e<;>first|exact⟨rfl,rfl⟩|cases h
def Gp(h:isTup e=d_):swapsWithSole [.Tuple es k tp] e line env=pure d_/\swappedStores [.Tuple es k tp] e env=pure b_:=by
 cases e<;>first|exact⟨rfl,rfl⟩|cases h
def uu{ix:be}(h:zQ t=a_ (x,ix)):∃p sp,t=.Subscript (.Name x p) ix sp:=by
 cases t with
 |Subscript a c sp=>
   obtain⟨d,h1,h2⟩:=eD h;cases h2;obtain⟨p,rfl⟩:=gR h1;exact⟨p,sp,rfl⟩
 |_=>cases h
def ME{ix:be}(h:QQ t=a_ (x,ix,k)):∃p sp c,t=.Subscript (.Subscript (.Name x p) ix sp) k c:=by
 cases t with
 |Subscript a b q=>
   obtain⟨⟨y,z⟩,h1,h2⟩:=eD h;cases h2;obtain⟨p,sp,rfl⟩:=uu h1;exact⟨p,sp,q,rfl⟩
 |_=>cases h
def Vz(h:oU t=a_ (d_,tn)):∃es k tp,t=.Tuple es k tp:=by
 cases t with
 |Tuple es k tp=>exact⟨es,k,tp,rfl⟩
 |_=>cases h
def WQ{ix:be}(h:kP ix=b_):∀v,assign (.Subscript o ix p) env v=(do
   let ov <-holding [v] (eval o env);let iv <-holding [v,ov] (eval ix env)
   standAt p
   holding [v,ov,iv] (setItem ov iv v)
   release [v,ov,iv] []):=λv=>by
 cases ix<;>first|rfl|cases h
def Us(hc:¬nj e=c_)(h:cE G n S e=a_ z):∃elt c sc cp,e=.ListComp elt c sc cp:=by
 cases n with
 |zero=>cases h
 |succ n=>
   cases e with
   |ListComp elt c sc cp=>exact⟨_,_,_,_,rfl⟩
   |SetComp _ _ _ _=>cases h
   |DictComp _ _ _ _ _=>cases h
   |_=>exact absurd rfl hc
def OX(T:p9 G C S X)(top:S.top=c_)(nd:S.N.Nodup)(hl:yJ S x=c_)(h1:tH x S.N=a_ i)(h2:cE G n S e=a_ xe):SS X C (.Assign [.Name x p] e pos) (.set i xe):=by
 have k:X.N.Nodup:=by rw[T.N];exact nd
 have hi:X.N[i]?=a_ x:=by rw[T.N];exact iU h1
 have q:=(xR n S e xe h2 X T).1;by_cases hc:nj e=c_
 ·exact IG k hi (t9 T hl) q (uS hc) (.inl (T.fn top x))
 ·obtain⟨elt,v,sc,cp,rfl⟩:=Us hc h2
  have j:swapsWith (.ListComp elt v sc cp) (a_ (.Name x p)) pos.line X.env=pure (IC S sc cp x p):=by
   unfold swapsWith IC;have hb:X.env.blockKind=.function:=by unfold Env.blockKind;rw[T.kind];rfl
   simp only[hb,rA,T.nm];rfl
  cases hb:IC S sc cp x p with
  |false=>
    rw[hb]at j;exact IG k hi (t9 T hl) q j (.inl (T.fn top x))
  |true=>
    rw[hb]at j
    cases n with
    |zero=>cases h2
    |succ n=>
      obtain⟨g,h3,y⟩:=cY h2;obtain rfl:=A0 h3;obtain⟨_,_,_,it,xs,xe,M,rfl,tl,rfl,z,B,D,J,l,L⟩:=Bz (xR n) T y;exact Co k hi (t9 T hl) T.calm z B D J (λcl c d Ca ex=>(l cl c d Ca ex).1) (λcl c d Ca ex=>(l cl c d Ca ex).2.1) (λcl c d Ca ex=>(l cl c d Ca ex).2.2) j (j6 L) (.inl (T.fn top x))
def O6(T:p9 G C S X)(top:S.top=c_)(nd:S.N.Nodup)(h:UE S (cE G n S) t e=a_ y):SS X C (.Assign [t] e pos) y:=by
 have hf:=λe x(h:cE G n S e=a_ x)=>(xR n S e x h X T).1;unfold UE at h
 cases ht:lp t with
 |some x=>
   rw[ht]at h;obtain⟨p,rfl⟩:=gR ht;obtain⟨hl,d⟩:=cc h;obtain⟨i,h1,j⟩:=cY d;obtain⟨xe,h2,rfl⟩:=eD j;exact OX T top nd hl h1 h2
 |none=>
   rw[ht]at h
   cases hs:zQ t with
   |some z=>
     obtain⟨x,ix⟩:=z;rw[hs]at h;obtain⟨p,sp,rfl⟩:=uu hs;obtain⟨hc,d⟩:=cc h;simp only[aj,eQ]at hc;obtain⟨⟨⟨J,hp⟩,l⟩,q⟩:=hc;obtain⟨i,h1,j⟩:=cY d;obtain⟨xe,h2,B⟩:=cY j;obtain⟨O,h3,rfl⟩:=eD B;obtain⟨d1,d2,d3⟩:=jm hp;have hi:X.N[i]?=a_ x:=by rw[T.N];exact iU h1
     have c:=wN (line:=pos.line) (env:=X.env) (a:=.Name x p) (ix:=ix) (sp:=sp) q;have D:=rR (pos:=p) hi (oT T J) d1 d2;exact MM (CG (hf _ _ h2) (Jx D (hf _ _ h3) (Eb (by have:=T.un;omega)) (WQ l)) c.1 c.2 rfl)
   |none=>
    rw[hs]at h
    cases v:QQ t with
    |some z=>
     obtain⟨x,ix,k⟩:=z;rw[v]at h;obtain⟨p,sp,L,rfl⟩:=ME v;obtain⟨hc,d⟩:=cc h;simp only[aj,eQ]at hc;obtain⟨⟨⟨⟨J,hp⟩,l⟩,M⟩,q⟩:=hc;obtain⟨i,h1,j⟩:=cY d;obtain⟨xe,h2,B⟩:=cY j;obtain⟨O,h3,R⟩:=cY B;obtain⟨Z,U,rfl⟩:=eD R;obtain⟨d1,d2,d3⟩:=jm hp;have hi:X.N[i]?=a_ x:=by rw[T.N];exact iU h1
     have c:=wN (line:=pos.line) (env:=X.env) (a:=.Subscript (.Name x p) ix sp) (ix:=k) (sp:=L) q;exact Q5 (CG (hf _ _ h2) (Jx (JA EY (rR (pos:=p) hi (oT T J) d1 d2) (hf _ _ h3) (pV l)) (hf _ _ U) (Eb (by have:=T.un;omega)) (WQ M)) c.1 c.2 rfl)
    |none=>
     rw[v]at h;obtain⟨⟨one,tn⟩,h0,d⟩:=cY h;obtain⟨hl,j⟩:=cc d;simp only[aj,jX]at hl;obtain⟨ts,h1,B⟩:=cY j;obtain⟨xe,h3,rfl⟩:=eD B;obtain⟨g,W,Y⟩:=IA T top nd h0 hl.1.1 h1;obtain rfl:one=d_:=hl.2;obtain⟨es,k,tp,rfl⟩:=Vz h0;have c:=Gp (line:=pos.line) (env:=X.env) (es:=es) (k:=k) (tp:=tp) hl.1.2;exact Q0 (hf _ _ h3) W Y c.1 c.2 rfl
def Oe(h:Te e=a_ c):∃p,e=.Call (.Attribute (.Name c.x p) c.m c.ap) c.args [] c.cp:=by
 obtain⟨⟨fn,as,kws,cp⟩,h0,g0⟩:=cY h;obtain⟨⟨o,m,ap⟩,h1,d⟩:=cY g0;obtain⟨x,h2,g⟩:=cY d;obtain⟨j,k⟩:=cc g;cases k;obtain⟨p,l⟩:=gR h2;obtain rfl:o=.Name x p:=l;obtain rfl:kws=[]:=g8.mp j;obtain rfl:fn=.Attribute (.Name x p) m ap:=su h1;exact⟨p,zi h0⟩
def Oc(h:Ta e=a_ c):∃p sp,e=.Call (.Attribute (.Subscript (.Name c.x p) c.ix sp) "append" c.ap) [c.a] [] c.cp:=by
 obtain⟨⟨fn,args,kws,cp⟩,h0,g⟩:=cY h;obtain⟨⟨o,m,ap⟩,h1,g⟩:=cY g;obtain⟨⟨x,ix⟩,h2,g⟩:=cY g;obtain⟨a,h3,g⟩:=cY g;obtain⟨d,g⟩:=cc g;cases g;simp only[aj,beq_iff_eq]at d;obtain⟨d,j⟩:=d;obtain⟨p,sp,k⟩:=uu h2;obtain rfl:o=.Subscript (.Name x p) ix sp:=k;obtain rfl:kws=[]:=g8.mp d;obtain rfl:m="append":=j;obtain rfl:fn=.Attribute (.Subscript (.Name x p) ix sp) "append" ap:=su h1;have h3:Wq args=a_ a:=h3
 match args,h3 with
 |[l],h3=>cases h3;exact⟨p,sp,zi h0⟩
set_option tactic.hygienic true in
def O4(T:p9 G C S X)(hf:∀e x,f e=a_ x->SE X C e x)(h:cExp S f e=a_ y):SS X C (.Expr e pos) y:=by
 unfold cExp at h
 cases k:Te e with
 |none=>
   rw[k]at h
   cases l:Ta e with
   |none=>
     rw[l]at h;obtain⟨M,q⟩:=cc h;obtain⟨xe,h1,rfl⟩:=eD q;exact Q7 (hf _ _ h1) (uS M)
   |some c=>
     rw[l]at h;obtain⟨p,sp,rfl⟩:=Oc l;obtain⟨x,ix,ap,a,cp⟩:=c;obtain⟨hc,q⟩:=cc h;simp only[aj,eQ]at hc;obtain⟨⟨⟨⟨B,hp⟩,D⟩,j⟩,J⟩:=hc;obtain⟨i,h1,v⟩:=cY q;obtain⟨O,h2,z⟩:=cY v;obtain⟨L,h3,rfl⟩:=eD z;obtain⟨d1,d2,d3⟩:=jm hp;have g:=rR (pos:=p) (by rw[T.N];exact iU h1) (oT T B) d1 d2;have d:aS [a] X.env=(d_,eval a X.env)::aS [] X.env:=cJ J;exact Q4 (by simp) (by simp) (by simp) Kz (tY (Aq mI l9 vU xg (JA (TL (by have:=T.un;omega)) g (hf _ _ h2) (pV D)) (D9 (hf _ _ h3) IM d) rfl (by rw[d];rfl) j d rfl) rfl)
 |some c=>
   rw[k]at h;obtain⟨p,rfl⟩:=Oe k;obtain⟨x,m,ap,args,cp⟩:=c;obtain⟨hc,q⟩:=cc h;simp only[aj]at hc;obtain⟨⟨B,hp⟩,j⟩:=hc;obtain⟨i,h1,v⟩:=cY q;obtain⟨xs,h2,z⟩:=cY v;obtain⟨op,h3,rfl⟩:=eD z;obtain⟨d1,d2,d3⟩:=jm hp;have ha:=kQ hf h2;have g:=rR (pos:=p) (by rw[T.N];exact iU h1) (oT T B) d1 d2;clear h q v z k h2;unfold Xj at h3;split at h3
   ·rename_i k;obtain⟨rfl,l⟩:=k;cases h3;obtain⟨L,rfl⟩:=BR.mp l;obtain⟨e,rfl,hs,he⟩:=ha.one;have d:aS [e] X.env=(d_,eval e X.env)::aS [] X.env:=cJ hs;exact MO (by simp) (by simp) (by simp) Kz (tY (Aq mI l9 vU xg g ha.sf rfl (by rw[d];rfl) j d rfl) rfl)
   split at h3
   ·rename_i k;obtain⟨rfl,l⟩:=k;cases h3;obtain⟨L,rfl⟩:=BR.mp l;obtain⟨e,rfl,hs,he⟩:=ha.one;have d:aS [e] X.env=(d_,eval e X.env)::aS [] X.env:=cJ hs;exact Q6 (tY (Aq mI ja PySem.F.type_list_extend S7 g ha.sf rfl (by rw[d];rfl) j d rfl) rfl)
   ·cases h3
theorem Qk(T:p9 G C S X)(top:S.top=c_)(nd:S.N.Nodup):∀(n:Nat)(st:kX)(y:Sx),cS G S n st=a_ y->SS X C st y
 |0,_,_,h=>by cases h
 |n+1,st,y,h=>by
   have q:=λe x(h:cE G n S e=a_ x)=>xR n S e x h X T;have hf:=λe x h=>(q e x h).1;have hs:=Qk T top nd n
   cases st with
   |Return v p=>exact OY T hf h
   |Assign D e p=>
     obtain⟨t,h1,j⟩:=cY h;obtain rfl:=gQ h1;exact O6 T top nd j
   |Expr e p=>exact O4 T hf h
   |If c a b p=>
     obtain⟨J,j⟩:=cc h;obtain⟨L,h1,rfl⟩:=eD j;exact VO ((q _ _ h1).2 J) (jb hs _) (jb hs _)
   |For tg iter body B p=>
     obtain⟨he,j⟩:=cc h;obtain rfl:=g8.mp he;obtain⟨⟨one,tn⟩,h0,M⟩:=cY j;obtain⟨hc,O⟩:=cc M;rw[aj]at hc;obtain⟨D,h1,R⟩:=cY O;obtain⟨it,h2,rfl⟩:=eD R;obtain⟨g,d,k⟩:=IA T top nd h0 hc.1 h1;obtain⟨l,U⟩:=Qo T hf h2;have hp:sD (aD X.prog X.w) X.A X.env X.xe:=by rw[T.xe];exact DO
     cases it with
     |itv a=>exact MP hp T.calm (U a rfl) k d (jb hs _) (j6 hc.2)
     |rng es=>exact yq hp T.calm l (λa z=>nomatch z) k d (jb hs _) (j6 hc.2)
     |zip es=>exact yq hp T.calm l (λa z=>nomatch z) k d (jb hs _) (j6 hc.2)
     |enu a=>exact yq hp T.calm l (λa z=>nomatch z) k d (jb hs _) (j6 hc.2)
     |rev a=>exact yq hp T.calm l (λa z=>nomatch z) k d (jb hs _) (j6 hc.2)
   |While c body B p=>
     obtain⟨hc,j⟩:=cc h;rw[aj]at hc;obtain rfl:=g8.mp hc.1;obtain⟨L,h1,rfl⟩:=eD j;exact IF (by rw[T.xe];exact DO) ((q _ _ h1).2 hc.2) (jb hs _)
   |_=>cases h
end
structure Df where
 st:kX
 p:Nat
 n:Nat
 body:List Sx
noncomputable def Df.name(d:Df):bu:=match d.st with
 |.FunctionDef x _ _ _ _ _ _ _ _ _=>x
 |_=>""
def Df.ps(d:Df):List bu:=(yZ d.st).args.map λa=>a.arg
def Df.N(d:Df):List bu:=d.ps++((dW d.st).names.filterMap λp=>if(p.2 == .local || p.2 == .cell) && !(d.ps.contains p.1)then a_ p.1 else b_)
def Cn(D:List Df):Nat->Fs
 |0=>λ_ _=>b_
 | n+1=>λj ds=>match D[j]? with
   |some d=>OL (Cn D n) d.p d.n d.body ds
   |none=>b_
def M0(D:List Df)(con:List (bu×Dat)):Sg:=⟨D.map λd=>(d.name,d.p),con⟩
structure U0(G:Sg)(d:Df):Prop where
 sc:qV d.N d.ps (dW d.st)
 pn:d.ps.length=d.p
 nn:d.N.length=d.n
 cmp:uQ (cS G ⟨d.N,(dW d.st).names,c_⟩ 40) (o7 d.st)=d.body
section
variable{K:Fg}{mg:bu->Option ah}{base:cx}
structure At(K:Fg)(mg:bu->Option ah)(d:Df)(f:aI)(fd:jK):Prop where
 fn:X5 K d.name d.name d.st f fd
 mgf:mg d.name=a_ (.ref f)
 bd:∀us:List ah,us.length=d.ps.length->bindArgs fd ⟨us,[]⟩=pure (d.ps.zip us)
def V4(K:Fg)(d:Df):Option (aI×ah×Option aI×jK×Array (Option ah)):=match m7 K mainGlobals d.name with
 | some (a_ (.ref f))=>match K.lookup f with
   |some ⟨oc,od,.func fd,l⟩=>a_ (f,oc,od,fd,l)
   |_=>b_
 |_=>b_
def ZN(d:Df)(kV doc pm:ah)(an:Option aI)(cdv ct:ah):jK:=qg d.name d.name (yZ d.st) (o7 d.st) (dW d.st) .none kV doc pm an cdv ct
def ZE(K:Fg)(d:Df):Bool:=match V4 K d with
 |some x=>ue K x.2.2.2.1.code d.name && gJ K (.ref x.1)
 |none=>d_
def ZD(K:Fg)(d:Df):Option jK:=(V4 K d).map λx=>x.2.2.2.1
def ZC(K:Fg)(d:Df):Option jK:=(V4 K d).map λx=>ZN d x.2.2.2.1.kwdefaults x.2.2.2.1.doc x.2.2.2.1.pyModule x.2.2.2.1.annotations x.2.2.2.1.code x.2.2.2.1.closureTuple
set_option tactic.hygienic true in
def UL{D:List Df}(X:K.In h)(G:h.Ns mainGlobals mg)(h1:D.map (ZD K)=D.map (ZC K))(h2:D.all (ZE K)=c_)(h3:∀(kV doc pm:ah) (an:Option aI) (cdv ct:ah) (u:Nat->ah),D.map (λd=>bindArgs (ZN d kV doc pm an cdv ct) ⟨(aT d.ps.length).map u,[]⟩)=D.map λd=>pure (d.ps.zip ((aT d.ps.length).map u))) :
  ∀d∈D,∃f fd,At K mg d f fd:=λd hd=>by
 have e1:=sJ.mp h1 d hd;have e2:=bo.mp h2 d hd;unfold ZE at e2;unfold ZD ZC at e1
 cases e:V4 K d with
 |none=>rw[e]at e2;cases e2
 |some x=>
   obtain⟨f,oc,od,fd,l⟩:=x;rw[e]at e1 e2;have e1:fd=_:=aW e1;obtain⟨c,k⟩:=i8.mp e2;unfold V4 at e;split at e
   ·rename_i v a;split at e
    ·rename_i g;cases e;refine⟨f,fd,⟨⟨_,_,_,_,_,_,_,_,_,e1,g,c⟩,k⟩,LL X G a,λus j=>?_⟩;have:=sJ.mp (h3 fd.kwdefaults fd.doc fd.pyModule fd.annotations fd.code fd.closureTuple λi=>us.getD i .none) d hd
     have q:(aT d.ps.length).map (λi=>us.getD i .none)=us:=by
      refine kB (by rw[ai,a9,j]) λi h1 h2=>?_;rw[tQ,qZ,lT,af h2];rfl
     rw[q]at this;exact(congrArg (λz=>bindArgs z ⟨us,[]⟩) e1).trans this
    ·cases e
   ·cases e
structure Here(K:Fg)(mg:bu->Option ah)(D:List Df)(con:List (bu×Dat)):Prop where
 ok:∀d∈D,U0 (M0 D con) d
 fn:∀d∈D,∃f fd,At K mg d f fd
 blt:∀x∈lA,mg x=b_
 con:∀x d,con.lookup x=a_ d->∃v u,mg x=a_ u/\RelV v u/\CV K d v
theorem LC{D:List Df}{con:List (bu×Dat)}(T:Here K mg D con):∀(n j:Nat)(d:Df)(f:aI)(fd:jK),D[j]?=a_ d->At K mg d f fd->nK P w K mg base Hz n f fd d.ps (Rf K d.ps.length (Cn D n j))
 |0,j,d,f,fd,k,_=>by
   have v:∀vs H Q E,¬Rf K d.ps.length (Cn D 0 j) vs H Q E:=λvs H Q E h=>by
    obtain⟨_,ds,z,fr,h,_⟩:=h;cases h
   exact⟨λvs H Q E h=>absurd h (v vs H Q E),λA outer s H args us vs Q E _ _ _ _ h=>absurd h (v vs H Q E)⟩
 |n+1,j,d,f,fd,k,at_=>by
   have ok:=T.ok d (aU k)
   have e:Cn D (n+1) j=OL (Cn D n) d.ps.length d.N.length d.body:=by
    funext ds;simp only[Cn,k,ok.pn,ok.nn]
   rw[e];have l:d.ps.length<=d.N.length:=by have:=congrArg jB ok.sc.pre;rw[eA]at this;exact aa (ae this.symm) (kF _ _)
   refine T7 at_.fn ok.sc l λcdv A outer s H E y=>?_
   have S:p9 (M0 D con) (Cn D n) ⟨d.N,(dW d.st).names,c_⟩ (Bo Hz P w K mg base d.N d.name (dW d.st) f cdv A outer s H E).U6:=by
    refine⟨rfl,rfl,ok.sc.kind,rfl,?_,rfl,λ_ _=>rfl,λi x m hi=>?_,T.blt,T.con⟩
    ·have:=y.units;show(A.deeper _).units+21<dk;omega
    ·have q:∃d',D[i]?=a_ d'/\x=d'.name/\m=d'.ps.length:=by
      unfold M0 at hi;rw[aN]at hi;obtain⟨d',e1,e2⟩:=eD hi;cases e2;exact⟨d',e1,rfl,(T.ok d' (aU e1)).pn.symm⟩
     obtain⟨d',e1,rfl,rfl⟩:=q;obtain⟨B,g,c⟩:=T.fn d' (aU e1);exact⟨n,B,g,d'.ps,LC T n i d' B g e1 c,y,c.mgf,c.fn.kp,.all c.bd⟩
   exact ok.cmp▸jb (Qk S rfl ok.sc.nd 40) _
def II(K:Fg):Sp:=λvs H Q _=>∃(a:aI) (ns:List Int),vs=[.ref a]/\mV K H a (ns.map V.int)/\ns.length<=63/\∀H',Q (.bl c_) H'
def GQ(ns:List Int):cT K F (ns.map Dat.int) (ns.map V.int):=by
 induction ns with
 |nil=>exact rfl
 |cons n r c=>exact⟨_,_,rfl,rfl,c⟩
def Tt{D:List Df}{con:List (bu×Dat)}(T:Here K mg D con)(c:D[j]?=a_ d)(at_:At K mg d f fd)(hp:d.ps.length=1)
  (g:∀ns:List Int,ns.length<=63->∃fr,Cn D n j [.lst (ns.map Dat.int)]=a_ (.bl c_,fr)):nK P w K mg base Hz n f fd d.ps (II K):=
 nK.imp (LC T n j d f fd c at_) λvs H Q E k=>by
  obtain⟨a,ns,e,l,hl,q⟩:=k;subst e;obtain⟨fr,h⟩:=g ns hl;refine⟨by rw[hp];rfl,_,_,fr,h,H,⟨bY.refl _,λ_ _ z=>z⟩,⟨_,_,rfl,⟨a,_,rfl,l,GQ ns⟩,rfl⟩,λv F' H' _ r _=>?_⟩;rw[r];exact q H'
def Ts{D:List Df}{con:List (bu×Dat)}{l:je}(T:Here K mg D con)(k:D[j]?=a_ d)(c:d.ps=[x])(g:mg d.name=a_ (.ref fa))
  (q:∀ns:List Int,ns.length<=63->∃fr,Cn D n j [.lst (ns.map Dat.int)]=a_ (.bl c_,fr)) :
  ∃fd:jK,(∀(s:ak)(u:ah),BN s fd ⟨[u],[]⟩ [(x,u)])/\∀base:cx,K.In base->base.Ns mainGlobals mg->nK l.prog w K mg base Hz n fa fd [x] (II K):=by
 obtain⟨f,fd,at_⟩:=T.fn d (aU k);have e:=g.symm.trans at_.mgf
 cases e;refine⟨fd,λs u=>?_,λbase _ _=>?_⟩
 ·have:=at_.bd [u] (by rw[c];rfl)
  rw[c]at this;exact .of_eq this
 ·have:=Tt (P:=l.prog) (w:=w) (base:=base) T k at_ (by rw[c];rfl) q
  rw[c]at this;exact this
def walk{l:je}{d:DefRec}{K:Params->Fg}(j:l.most=a_ 63)(k:mW n callerA)(c:d.params.defaults=[])
  (v:∀(w:c5)(h:cx),YP w h->(K w.params).In h)
  (F:∀(w:c5)(mg:bu->Option ah)(g:aI)(h:cx),(K w.params).In h->h.Ns mainGlobals mg->mg d.name=a_ (.ref g)->
   ∃fd:jK,(∀(s:ak)(u:ah),BN s fd ⟨[u],[]⟩ [(x,u)])/\∀base:cx,(K w.params).In base->base.Ns mainGlobals mg->nK l.prog w (K w.params) mg base Hz n g fd [x] (II (K w.params))) :
  vT q loose XP YP l.row.toRowW d [] (λf vs=>FZ f vs):=
 L2.Mv j (by decide) c k v F (λ_ _ a ns hl _ y=>⟨a,ns,rfl,y,hl,λ_=>rfl⟩) λ_ _ _ _ _ z=>z
end
def O7{K:Fg}(X:K.In h)(G:h.Ns mainGlobals mg)(z:lA.map (λx=>m7 K mainGlobals x)=dt 20 (a_ b_)):∀x∈lA,mg x=b_:=λx c=>by
 have q:m7 K mainGlobals x∈lA.map (λx=>m7 K mainGlobals x):=cg.mpr ⟨x,c,rfl⟩;rw[z]at q;exact PySem.W.mg_none_of X G (List.eq_of_mem_replicate q)
def ZQ(G:Sg)(d:Df):ScopeKind×Bool×Bool×Bool×Nat×Nat×List Sx:=((dW d.st).kind,(dW d.st).isCoroutine,(dW d.st).isGenerator,decide (d.N.Nodup/\(∀x∈d.ps,(dW d.st).names.lookup x=a_ .local\/(dW d.st).names.lookup x=a_ .cell)/\∀y∈(dW d.st).names,y.2≠.free),d.ps.length,d.N.length,uQ (cS G ⟨d.N,(dW d.st).names,c_⟩ 40) (o7 d.st))
def SG{G:Sg}{D:List Df}(h:D.map (ZQ G)=D.map λd=>(.function,d_,d_,c_,d.p,d.n,d.body)):∀d∈D,U0 G d:=λd hd=>by
 have e:=sJ.mp h d hd;unfold ZQ at e;simp only[vW]at e;obtain⟨e1,e2,e3,g,e5,j,k⟩:=e;obtain⟨a,b,c⟩:=of_decide_eq_true g;exact⟨⟨e1,e2,e3,a,List.take_left' rfl,b,c⟩,e5,j,k⟩
end M
namespace K43
open PySem L2 M
noncomputable def top(i:Nat):kX:=PySem.Challenge.pw_dots_k43_hinges.main.body.getD i (.Pass ⟨0,0,0,0⟩)
def b0:List Sx:=[.set 1 (.lst []),.set 2 (.e_ 0),.loop c_ [3] (.itv (.v 0)) [.set 2 (.bin .add (.v 2) (.blt .len [.ix (.v 3) (.e_ 2)])),.ifs (.cmp .isin (.ix (.v 3) (.e_ 3)) (.con (.tup [.str (ab "in"),.str (ab "all")]))) [.mut .app 1 [.v 2]] []],.qv 1]
def b1:List Sx:=[.ret (.jr .join (.f_ "") [.blt .sset [.jr .join (.f_ "") [.comp 1 c_ [] (.itv (.v 0)) [] (.ix (.v 0) (.e_ 0))]]])]
def b2:List Sx:=[.set 1 (.call 1 [.ix (.v 0) (.e_ 0)]),.set 2 (.ite (.cmp .eq (.ix (.ix (.v 0) (.e_ 1)) (.e_ 0)) (.tup [])) (.f_ "") (.jr .upper (.v 1) [])),.set 3 (.sl (.f_ "0123456789") b_ (a_ (.blt .len [.ix (.v 0) (.e_ 2)]))),.ret (.jr .join (.f_ "") [.blt .sorted [.bin .add (.bin .add (.bin .add (.f_ " ") (.v 3)) (.v 2)) (.v 1)]])]
def b3:List Sx:=[.ret (.cmp .isin (.v 0) (.con (.tup [.str (ab "out"),.str (ab "done"),.str (ab "num")])))]
def b4:List Sx:=[.ret (.comp 1 c_ [] (.itv (.tup [.f_ "out",.f_ "done",.f_ "num"])) [] (.tup [.v 0,.f_ " ",.tup [.e_ 0],.f_ "out"]))]
def b5:List Sx:=[.ifs (.cmp .eq (.v 1) (.tup [])) [.ret (.lst [])] [],.set 2 (.lst [.tup [.f_ "num",.f_ "",.ix (.v 0) (.e_ 3),.f_ "let"]]),.loop d_ [3,4] (.zip [.f_ "0123456789",.v 1]) [.mut .app 2 [.tup [.f_ "out",.v 3,.bin .add (.ix (.v 0) (.e_ 2)) (.tup [.v 4]),.f_ "num"]],.mut .app 2 [.tup [.f_ "done",.v 3,.bin .add (.ix (.v 0) (.e_ 2)) (.tup [.v 4]),.f_ "num"]],.mut .app 2 [.tup [.f_ "num",.v 3,.tup [.v 4],.f_ "num"]]],.qv 2]
def b6:List Sx:=[.set 1 (.lst []),.loop d_ [2,3,4] (.itv (.v 0)) [.loop d_ [5,6,7] (.itv (.con (.tup [.tup [.str (ab "w"),.str (ab "out"),.str (ab "done")],.tup [.str (ab "w"),.str (ab "let"),.str (ab "done")],.tup [.str (ab "b"),.str (ab "out"),.str (ab "in")],.tup [.str (ab "b"),.str (ab "let"),.str (ab "in")],.tup [.str (ab "m"),.str (ab "in"),.str (ab "in")],.tup [.str (ab "e"),.str (ab "in"),.str (ab "done")]]))) [.ifs (.cmp .isin (.v 5) (.v 4)) [.mut .app 1 [.tup [.v 6,.v 2,.v 3,.v 7]]] []]],.qv 1]
def b7:List Sx:=[.ret (.comp 4 d_ [1] (.itv (.v 0)) [] (.tup [.v 0,.bin .add (.jr .upper (.ix (.v 1) (.e_ 0)) []) (.sl (.v 1) (a_ (.e_ 1)) b_),.bin .add (.v 4) (.v 2),.v 3]))]
def b8:List Sx:=[.set 2 (.lst []),.loop d_ [3,4,5] (.itv (.v 0)) [.loop d_ [6,7,8] (.itv (.con (.tup [.tup [.str (ab "w"),.str (ab "out"),.str (ab "done")],.tup [.str (ab "w"),.str (ab "let"),.str (ab "done")],.tup [.str (ab "b"),.str (ab "out"),.str (ab "all")],.tup [.str (ab "b"),.str (ab "let"),.str (ab "all")],.tup [.str (ab "m"),.str (ab "all"),.str (ab "all")],.tup [.str (ab "e"),.str (ab "all"),.str (ab "done")]]))) [.ifs (.and (.cmp .isin (.v 6) (.v 5)) (.or (.cmp .ne (.v 6) (.f_ "w")) (.cmp .gt (.blt .len [.v 3]) (.e_ 1)))) [.set 9 (.ite (.cmp .eq (.v 7) (.f_ "all")) (.tup []) (.v 1)),.mut .app 2 [.tup [.v 7,.jr .upper (.v 3) [],.bin .add (.v 9) (.v 4),.v 8]]] []]],.qv 2]
def b9:List Sx:=[.set 1 (.ix (.v 0) (.e_ 0)),.set 2 (.ix (.v 0) (.e_ 1)),.set 3 (.call 6 [.v 1]),.ifs (.cmp .ne (.ix (.v 2) (.e_ 0)) (.tup [])) [.set 3 (.bin .add (.v 3) (.call 7 [.v 3,.ix (.v 2) (.e_ 0)]))] [],.ifs (.cmp .ne (.ix (.v 2) (.e_ 1)) (.tup [])) [.set 3 (.bin .add (.v 3) (.call 8 [.v 1,.ix (.v 2) (.e_ 1)]))] [],.ifs (.cmp .eq (.ix (.v 0) (.e_ 2)) (.tup [])) [.set 3 (.comp 1 c_ [] (.itv (.v 3)) [.cmp .ne (.ix (.v 0) (.e_ 0)) (.f_ "let")] (.v 0))] [],.ret (.blt .sset [.bin .add (.bin .add (.v 3) (.call 4 [])) (.call 5 [.v 2,.ix (.v 0) (.e_ 2)])])]
def b10:List Sx:=[.set 1 .qN,.loop c_ [2] (.itv (.con (.tup [.str (ab "out"),.str (ab "in"),.str (ab "done"),.str (ab "num"),.str (ab "let"),.str (ab "all")]))) [.mut .seti 1 [.lst [],.v 2]],.loop c_ [3] (.itv (.call 9 [.v 0])) [.U7 .app 1 (.ix (.v 3) (.e_ 0)) [.v 3]],.qv 1]
def b11:List Sx:=[.set 2 (.call 2 [.v 0]),.loop d_ [3,4] (.enu (.v 1)) [.ifs (.cmp .nin (.v 4) (.v 2)) [.LX] []]]
def b12:List Sx:=[.ret (.comp 1 c_ [2,1] (.itv (.v 0)) [.jr .startswith (.v 2) [.ix (.v 0) (.e_ 1),.v 1]] (.v 0))]
def b13:List Sx:=[.set 3 (.ix (.ix (.v 2) (.bin .add (.v 1) (.blt .len [.ix (.v 0) (.e_ 1)]))) (.ix (.v 0) (.e_ 3))),.ret (.ite (.cmp .isn (.v 3) (.con .non)) (.con .non) (.bin .add (.blt .len [.ix (.v 0) (.e_ 2)]) (.v 3)))]
def b14:List Sx:=[.set 4 (.comp 1 c_ [3,2] (.itv (.call 12 [.v 0,.v 1,.v 2])) [] (.call 13 [.v 0,.v 2,.v 1])),.ret (.YH (.comp 1 c_ [] (.itv (.v 4)) [.cmp .nisn (.v 0) (.con .non)] (.v 0)))]
def b15:List Sx:=[.set 2 (.cat (.comp 1 c_ [] (.itv (.v 1)) [] .qN) (.lst [.qN])),.loop c_ [3] (.rng [.blt .len [.v 1],.neg (.e_ 1),.neg (.e_ 1)]) [.loop c_ [4] (.rev (.con (.tup [.str (ab "out"),.str (ab "in"),.str (ab "done"),.str (ab "num"),.str (ab "let"),.str (ab "all")]))) [.ifs (.and (.cmp .eq (.v 3) (.blt .len [.v 1])) (.call 3 [.v 4])) [.P1 2 (.v 3) (.v 4) (.e_ 0)] [.P1 2 (.v 3) (.v 4) (.call 14 [.ix (.v 0) (.v 4),.v 1,.v 3,.v 2])]]],.qv 2]
def b16:List Sx:=[.ret (.ix (.comp 1 c_ [2,1,3] (.itv (.v 0)) [.cmp .eq (.call 13 [.v 0,.v 2,.v 1]) (.v 3)] (.v 0)) (.e_ 0))]
def Z5:List Sx:=[.set 1 (.lst []),.loop c_ [2] (.itv (.v 0)) [.mut .ext 1 [.ix (.v 2) (.e_ 2)]],.ret (.blt .tuple [.v 1])]
def Z4:List Sx:=[.exp (.call 11 [.v 0,.v 1]),.set 2 (.call 10 [.v 0]),.set 3 (.call 15 [.v 2,.v 1]),.set 4 (.lst []),.set 5 (.e_ 0),.set 6 (.f_ "out"),.Vq (.cmp .lt (.v 5) (.blt .len [.v 1])) [.set 7 (.call 16 [.call 12 [.ix (.v 2) (.v 6),.v 1,.v 5],.v 5,.v 3,.ix (.ix (.v 3) (.v 5)) (.v 6)]),.mut .app 4 [.v 7],.set 5 (.bin .add (.v 5) (.blt .len [.ix (.v 7) (.e_ 1)])),.set 6 (.ix (.v 7) (.e_ 3))],.ret (.tup [.call 17 [.v 4],.v 4])]
def b19:List Sx:=[.ifs (.cmp .lt (.v 1) (.blt .len [.v 0])) [.ret (.ix (.v 0) (.v 1))] [],.ret (.e_ 0)]
def Z3:List Sx:=[.set 4 (.bin .mod (.bin .add (.bin .add (.bin .mul (.call 19 [.v 0,.v 1]) (.e_ 48271)) (.bin .mul (.bin .mul (.e_ 7919) (.v 1)) (.v 1))) (.e_ 11)) (.v 2)),.ret (.bin .mod (.bin .mod (.bin .mul (.v 4) (.e_ 7919)) (.e_ 999983)) (.v 3))]
def b21:List Sx:=[.ret (.and (.blt (.isi .int) [.v 0]) (.not (.blt (.isi .bool) [.v 0])))]
def Z2:List Sx:=[.set 3 (.bin .add (.e_ 1) (.call 20 [.v 0,.v 1,.e_ 10007,.e_ 2])),.ifs (.cmp .eq (.call 20 [.v 0,.v 1,.e_ 10009,.e_ 8]) (.e_ 0)) [.set 3 (.bin .add (.e_ 1) (.call 20 [.v 0,.v 1,.e_ 10037,.e_ 4]))] [],.ret (.blt .tuple [.comp 1 c_ [2,1,0] (.rng [.v 3]) [] (.bin .add (.e_ 1) (.call 20 [.v 3,.v 2,.bin .add (.e_ 10039) (.bin .mul (.e_ 22) (.v 0)),.v 1]))])]
def Z1:List Sx:=[.set 1 (.bin .add (.e_ 1) (.call 20 [.v 0,.e_ 0,.e_ 15013,.e_ 3])),.ifs (.cmp .eq (.call 20 [.v 0,.e_ 0,.e_ 15017,.e_ 6]) (.e_ 0)) [.set 1 (.bin .add (.e_ 1) (.call 20 [.v 0,.e_ 0,.e_ 15031,.e_ 6]))] [],.set 2 (.call 20 [.v 0,.e_ 1,.e_ 15053,.e_ 26]),.set 3 (.ix (.lst [.e_ 1,.e_ 3,.e_ 5,.e_ 7,.e_ 9,.e_ 11,.e_ 15]) (.call 20 [.v 0,.e_ 1,.e_ 15061,.e_ 7])),.ret (.comp 1 c_ [2,3] (.rng [.v 1]) [] (.ix (.f_ "abcdefghijklmnopqrstuvwxyz") (.bin .mod (.bin .add (.v 1) (.bin .mul (.v 0) (.v 2))) (.e_ 26))))]
def Z0:List Sx:=[.set 4 (.bin .add (.e_ 1) (.call 20 [.v 0,.bin .add (.e_ 10) (.v 1),.e_ 20021,.e_ 3])),.ifs (.cmp .eq (.call 20 [.v 0,.bin .add (.e_ 10) (.v 1),.e_ 20023,.e_ 8]) (.e_ 0)) [.set 4 (.bin .add (.e_ 1) (.call 20 [.v 0,.bin .add (.e_ 10) (.v 1),.e_ 20029,.e_ 6]))] [],.set 5 (.jr .join (.f_ "") [.comp 1 c_ [1,2,0] (.rng [.v 4]) [] (.ix (.v 2) (.call 20 [.v 3,.bin .add (.e_ 10) (.v 1),.bin .add (.e_ 20047) (.bin .mul (.e_ 22) (.v 0)),.blt .len [.v 2]]))]),.set 6 (.bin .add (.e_ 1) (.call 20 [.v 0,.bin .add (.e_ 10) (.v 1),.e_ 25013,.e_ 15])),.set 7 (.jr .join (.f_ "") [.comp 1 c_ [6] (.rng [.e_ 4]) [.cmp .eq (.bin .band (.bin .shr (.v 1) (.v 0)) (.e_ 1)) (.e_ 1)] (.ix (.f_ "wbme") (.v 0))]),.ret (.tup [.v 5,.call 22 [.v 0,.bin .add (.e_ 20) (.v 1),.v 3],.v 7])]
def ZZ:List Sx:=[.set 2 (.call 23 [.v 0]),.set 4 (.comp 1 c_ [1,2,0] (.rng [.blt .len [.v 2]]) [] (.tup [.ix (.v 2) (.v 0),.call 22 [.v 3,.bin .add (.e_ 4) (.v 0),.v 1],.f_ "wbme"])),.loop c_ [3] (.rng [.call 20 [.v 0,.e_ 2,.e_ 20011,.e_ 6]]) [.set 5 (.call 24 [.v 0,.v 3,.v 2,.v 1]),.ifs (.cmp .nin (.sl (.v 5) b_ (a_ (.e_ 2))) (.comp 1 c_ [] (.itv (.v 4)) [] (.sl (.v 0) b_ (a_ (.e_ 2))))) [.set 6 (.call 20 [.v 0,.bin .add (.e_ 10) (.v 3),.e_ 25031,.bin .add (.blt .len [.v 4]) (.e_ 1)]),.set 4 (.bin .add (.bin .add (.sl (.v 4) b_ (a_ (.v 6))) (.lst [.v 5])) (.sl (.v 4) (a_ (.v 6)) b_))] []],.ret (.blt .tuple [.v 4])]
def b26:List Sx:=[.ret (.sl (.call 22 [.v 0,.v 1,.v 2]) b_ (a_ (.e_ 2)))]
def ZY:List Sx:=[.set 1 (.ix (.lst [.e_ 3,.e_ 6,.e_ 63]) (.call 20 [.v 0,.e_ 2,.e_ 30011,.e_ 3])),.set 2 (.lst [.tup [],.tup [],.tup [],.tup []]),.ifs (.cmp .eq (.call 20 [.v 0,.e_ 3,.e_ 30013,.e_ 3]) (.e_ 0)) [.mut .seti 2 [.call 26 [.v 0,.e_ 25,.v 1],.e_ 0],.ifs (.cmp .eq (.call 20 [.v 0,.e_ 3,.e_ 30029,.e_ 2]) (.e_ 0)) [.mut .seti 2 [.call 26 [.v 0,.e_ 26,.v 1],.e_ 1]] []] [],.set 3 (.lst []),.ifs (.cmp .eq (.call 20 [.v 0,.e_ 3,.e_ 30047,.e_ 3]) (.e_ 0)) [.set 4 (.bin .add (.e_ 1) (.call 20 [.v 0,.e_ 3,.e_ 30059,.e_ 3])),.ifs (.cmp .eq (.call 20 [.v 0,.e_ 3,.e_ 30071,.e_ 6]) (.e_ 0)) [.set 4 (.bin .add (.e_ 1) (.call 20 [.v 0,.e_ 3,.e_ 30089,.e_ 10]))] [],.set 3 (.comp 1 c_ [1,0] (.rng [.v 4]) [] (.bin .add (.e_ 1) (.call 20 [.v 2,.e_ 27,.bin .add (.e_ 30091) (.bin .mul (.e_ 22) (.v 0)),.v 1]))),.mut .seti 2 [.call 26 [.v 0,.e_ 28,.v 1],.e_ 2],.mut .seti 2 [.call 26 [.v 0,.e_ 29,.v 1],.e_ 3]] [],.ret (.tup [.call 25 [.v 0,.v 1],.blt .tuple [.v 2],.blt .tuple [.v 3]])]
def ZX:List Sx:=[.set 1 (.cat (.lst [.f_ " "]) (.comp 1 c_ [] (.rng [.blt .len [.ix (.v 0) (.e_ 2)]]) [] (.blt .str [.v 0]))),.loop c_ [2] (.itv (.ix (.v 0) (.e_ 0))) [.ifs (.and (.cmp .eq (.blt .len [.ix (.v 2) (.e_ 0)]) (.e_ 1)) (.cmp .nin (.ix (.v 2) (.e_ 0)) (.v 1))) [.mut .app 1 [.ix (.v 2) (.e_ 0)],.ifs (.cmp .gt (.blt .len [.ix (.ix (.v 0) (.e_ 1)) (.e_ 0)]) (.e_ 0)) [.mut .app 1 [.jr .upper (.ix (.v 2) (.e_ 0)) []]] []] []],.qv 1]
def ZW:List Sx:=[.set 3 (.call 28 [.v 1]),.set 3 (.bin .add (.v 3) (.sl (.v 3) (a_ (.e_ 1)) b_)),.ret (.jr .join (.f_ "") [.comp 1 c_ [0,3] (.rng [.v 2]) [] (.ix (.v 2) (.call 20 [.v 1,.bin .add (.e_ 31) (.v 0),.e_ 35023,.blt .len [.v 2]]))])]
def b30:List Sx:=[.set 1 (.lst []),.set 2 (.e_ 0),.loop c_ [3] (.itv (.v 0)) [.set 2 (.bin .add (.v 2) (.blt .len [.ix (.v 3) (.e_ 2)])),.ifs (.cmp .isin (.ix (.v 3) (.e_ 3)) (.lst [.f_ "in",.f_ "all"])) [.mut .app 1 [.v 2]] []],.qv 1]
def ZV:List Sx:=[.ifs (.or (.not (.blt (.isi .list) [.v 0])) (.cmp .ne (.v 0) (.v 1))) [.ret (.con (.bl d_))] [],.loop c_ [3] (.rng [.blt .len [.v 0]]) [.set 4 (.ix (.v 0) (.v 3)),.ifs (.or (.not (.call 21 [.v 4])) (.or (.cmp .lt (.v 4) (.e_ 1)) (.or (.cmp .ge (.v 4) (.blt .len [.v 2])) (.or (.cmp .eq (.ix (.v 2) (.v 4)) (.e_ 0)) (.cmp .eq (.ix (.v 2) (.bin .sub (.v 4) (.e_ 1))) (.e_ 0)))))) [.ret (.con (.bl d_))] [],.ifs (.and (.cmp .gt (.v 3) (.e_ 0)) (.cmp .ge (.ix (.v 0) (.bin .sub (.v 3) (.e_ 1))) (.v 4))) [.ret (.con (.bl d_))] []],.ret (.con (.bl c_))]
def ZU:List Sx:=[.set 1 (.call 27 [.v 0]),.set 2 (.call 20 [.v 0,.e_ 2,.e_ 35027,.e_ 21]),.ifs (.cmp .eq (.call 20 [.v 0,.e_ 2,.e_ 35051,.e_ 4]) (.e_ 0)) [.set 2 (.bin .add (.e_ 13) (.call 20 [.v 0,.e_ 30,.e_ 35053,.e_ 20]))] [],.Vs [3,4] (.call 18 [.v 1,.call 29 [.v 0,.v 1,.v 2]]),.set 5 (.call 30 [.v 4]),.set 6 (.blt .list [.v 4]),.set 7 (.call 0 [.v 6]),.ifs (.or (.not (.call 31 [.v 7,.v 5,.v 3])) (.cmp .ne (.v 6) (.v 4))) [.ret (.con (.bl d_))] [],.mut .app 7 [.e_ 0],.ret (.and (.call 31 [.call 0 [.v 6],.v 5,.v 3]) (.cmp .eq (.call 0 [.lst []]) (.lst [])))]
def d0:Df:=⟨top 5,1,4,b0⟩
def d1:Df:=⟨top 8,1,1,b1⟩
def d2:Df:=⟨top 9,1,4,b2⟩
def d3:Df:=⟨top 15,1,1,b3⟩
def d4:Df:=⟨top 16,0,0,b4⟩
def d5:Df:=⟨top 17,2,5,b5⟩
def d6:Df:=⟨top 18,1,8,b6⟩
def d7:Df:=⟨top 19,2,2,b7⟩
def d8:Df:=⟨top 20,2,10,b8⟩
def d9:Df:=⟨top 21,1,4,b9⟩
def d10:Df:=⟨top 22,1,4,b10⟩
def d11:Df:=⟨top 24,2,5,b11⟩
def Y9:Df:=⟨top 25,3,3,b12⟩
def d13:Df:=⟨top 26,3,4,b13⟩
def d14:Df:=⟨top 27,4,5,b14⟩
def d15:Df:=⟨top 28,2,5,b15⟩
def d16:Df:=⟨top 29,4,4,b16⟩
def d17:Df:=⟨top 30,1,3,Z5⟩
def d18:Df:=⟨top 31,2,8,Z4⟩
def d19:Df:=⟨top 33,2,2,b19⟩
def d20:Df:=⟨top 34,4,5,Z3⟩
def d21:Df:=⟨top 35,1,1,b21⟩
def d22:Df:=⟨top 36,3,4,Z2⟩
def d23:Df:=⟨top 37,1,4,Z1⟩
def d24:Df:=⟨top 38,4,8,Z0⟩
def d25:Df:=⟨top 39,2,7,ZZ⟩
def d26:Df:=⟨top 40,3,3,b26⟩
def d27:Df:=⟨top 41,1,5,ZY⟩
def d28:Df:=⟨top 42,1,3,ZX⟩
def d29:Df:=⟨top 43,3,4,ZW⟩
def d30:Df:=⟨top 44,1,4,b30⟩
def d31:Df:=⟨top 45,3,5,ZV⟩
def d32:Df:=⟨top 46,1,8,ZU⟩
def D:List Df:=[d0,d1,d2,d3,d4,d5,d6,d7,d8,d9,d10,d11,Y9,d13,d14,d15,d16,d17,d18,d19,d20,d21,d22,d23,d24,d25,d26,d27,d28,d29,d30,d31,d32]
noncomputable def con:List (bu×Dat):=[(ab "WITHIN_WORDS",(.tup [(.str (ab "in")),(.str (ab "all"))])),(ab "FIGURES",(.str (ab "0123456789"))),(ab "STATES",(.tup [(.str (ab "out")),(.str (ab "in")),(.str (ab "done")),(.str (ab "num")),(.str (ab "let")),(.str (ab "all"))])),(ab "END_STATES",(.tup [(.str (ab "out")),(.str (ab "done")),(.str (ab "num"))])),(ab "WAYS",(.tup [(.tup [(.str (ab "w")),(.str (ab "out")),(.str (ab "done"))]),(.tup [(.str (ab "w")),(.str (ab "let")),(.str (ab "done"))]),(.tup [(.str (ab "b")),(.str (ab "out")),(.str (ab "in"))]),(.tup [(.str (ab "b")),(.str (ab "let")),(.str (ab "in"))]),(.tup [(.str (ab "m")),(.str (ab "in")),(.str (ab "in"))]),(.tup [(.str (ab "e")),(.str (ab "in")),(.str (ab "done"))])])),(ab "ALL_GREAT_WAYS",(.tup [(.tup [(.str (ab "w")),(.str (ab "out")),(.str (ab "done"))]),(.tup [(.str (ab "w")),(.str (ab "let")),(.str (ab "done"))]),(.tup [(.str (ab "b")),(.str (ab "out")),(.str (ab "all"))]),(.tup [(.str (ab "b")),(.str (ab "let")),(.str (ab "all"))]),(.tup [(.str (ab "m")),(.str (ab "all")),(.str (ab "all"))]),(.tup [(.str (ab "e")),(.str (ab "all")),(.str (ab "done"))])]))]
def G:Sg:=M0 D con
def Ws:∀d∈D,U0 G d:=SG (by kernel_rfl)
end K43
namespace M
open PySem L2
@[simp] def W2:full []=[]:=rfl
@[simp] def Vb:full (a_ (d,b)::ρ)=a_ d::full ρ:=rfl
@[simp] def Vc:full (b_::ρ)=b_::full ρ:=rfl
section
@[simp] def nH:hJ .add (.int i) (.int j)=a_ (.int (i+j),d_):=rfl
@[simp] def UI:hJ .sub (.int i) (.int j)=a_ (.int (i - j),d_):=rfl
def nG(h:0<j):hJ .mod (.int i) (.int j)=a_ (.int (i % j),d_):=if_pos h
@[simp] def Qt:hJ .band (.int i) (.int j)=a_ (.int (uh i j),d_):=rfl
@[simp] def UJ:hJ .bor (.int i) (.int j)=a_ (.int (LN i j),d_):=rfl
@[simp] def XU:fQ .lt (.int i) (.int j)=a_ (decide (i<j)):=rfl
@[simp] def XW:fQ .le (.int i) (.int j)=a_ (decide (i<=j)):=rfl
@[simp] def XX:fQ .gt (.int i) (.int j)=a_ (decide (j<i)):=rfl
@[simp] def XY:fQ .ge (.int i) (.int j)=a_ (decide (j<=i)):=rfl
@[simp] def Vg:fQ .eq (.int i) (.int j)=a_ (i == j):=rfl
@[simp] def Ve:fQ .ne (.int i) (.int j)=a_ (!(i == j)):=rfl
@[simp] def Vh:fQ .eq (.bl x) (.bl y)=a_ (x == y):=rfl
@[simp] def Vf:fQ .ne (.bl x) (.bl y)=a_ (!(x == y)):=rfl
@[simp] def Vx:fL (.bl x)=a_ x:=rfl
@[simp] def j9:gW .len [.lst xs]=a_ (.int xs.length,d_):=rfl
@[simp] def vE:gW .len [.tup xs]=a_ (.int xs.length,d_):=rfl
@[simp] def Qs:gW .list [.lst xs]=a_ (.lst xs,jL xs):=rfl
@[simp] def Qr:gW .list [.tup xs]=a_ (.lst xs,jL xs):=rfl
@[simp] def O9:gW .tuple [.lst xs]=a_ (.tup xs,d_):=rfl
@[simp] def O8:gW .tuple [.tup xs]=a_ (.tup xs,d_):=rfl
@[simp] def Xo:gW .listrev [.lst xs]=a_ (.lst xs.reverse,jL xs.reverse):=rfl
@[simp] def Xp:gW (.isi t) [d]=a_ (.bl (Km t d),d_):=rfl
@[simp] def WR:vf (.lst xs) (.int i)=rd xs i:=rfl
@[simp] def P6:vf (.tup xs) (.int i)=rd xs i:=rfl
@[simp] def ZA{lo:Option Int}:D7 (.lst xs) lo hi=a_ (.lst (cutD xs lo hi),jL (cutD xs lo hi)):=rfl
@[simp] def Y0:im (.int i)=c_:=rfl
@[simp] def ZL:im (.bl x)=c_:=rfl
@[simp] def YX:im (.str x)=c_:=rfl
@[simp] def YY:im .non=c_:=rfl
@[simp] def YZ:im (.lst xs)=d_:=rfl
@[simp] def qG(ns:List Int):jL (ns.map Dat.int)=c_:=by
 induction ns with
 |nil=>rfl
 |cons n r c=>show(c_ && jL (r.map Dat.int))=c_;rw[c];rfl
@[simp] def W1{ρ:dI}{i:Nat}{d:Dat}{b:Bool}:full (ρ.set i (a_ (d,b)))=(full ρ).set i (a_ d):=by
 unfold full;rw[List.map_set];rfl
end
section
def fA{ds:List Dat}(h:ds.length=np)(c:dP C body (ds.map (λd=>a_ (d,d_))++dt (nl - np) b_)=a_ (.rt d fr)):OL C np nl body ds=a_ (d,fr):=by
 unfold OL;rw[if_pos h,c];rfl
def kj(h:ot C s ρ=a_ (.nx ρ1)):dP C (s::ss) ρ=dP C ss ρ1:=by show(ot C s ρ).bind _=_;rw[h];rfl
def MI(h:ot C s ρ=a_ (.rt d fr)):dP C (s::ss) ρ=a_ (.rt d fr):=by show(ot C s ρ).bind _=_;rw[h];rfl
def pY(h:ot C s ρ=a_ (.nx ρ1)):dP C [s] ρ=a_ (.nx ρ1):=by show(ot C s ρ).bind _=_;rw[h];rfl
def Kv(h:bE C e (full ρ)=a_ (d,fr))(ht:fL d=a_ c_):ot C (.ifs e a b) ρ=dP C a ρ:=by show(bE C e (full ρ)).bind _=_;rw[h];show(fL d).bind _=_;rw[ht];rfl
def E5(h:bE C e (full ρ)=a_ (d,fr))(ht:fL d=a_ d_):ot C (.ifs e a b) ρ=dP C b ρ:=by show(bE C e (full ρ)).bind _=_;rw[h];show(fL d).bind _=_;rw[ht];rfl
end
section
def vF(h1:-18446744073709551616<i)(h2:i<18446744073709551616):hJ .mul (.int i) (.int j)=a_ (.int (i * j),d_):=if_pos (.inl ⟨h1,h2⟩)
def p7(h1:-18446744073709551616<j)(h2:j<18446744073709551616):hJ .mul (.int i) (.int j)=a_ (.int (i * j),d_):=if_pos (.inr ⟨h1,h2⟩)
def ub{C:Fs}{i:Nat}{e:Ex}{ρ:dI}:ot C (.set i e) ρ=(bE C e (full ρ)).bind λx=>if(im x.1 || x.2)=c_ then a_ (.nx (ρ.set i (a_ (x.1,x.2 && !im x.1))))else(bE C e (zN (mG e.fv ρ))).map λy=>.nx ((mG e.fv ρ).set i (a_ (y.1,y.2 && !im y.1))):=by
 show(Hk C e ρ).map _=_;unfold Hk
 cases bE C e (full ρ)with
 |none=>rfl
 |some x=>
   show hX _ (if(im x.1 || x.2)=c_ then _ else _)=if(im x.1 || x.2)=c_ then _ else _
   cases im x.1 || x.2 with
   |true=>rfl
   |false=>exact LP ..
def OK:ot C (.exp e) ρ=(bE C e (full ρ)).map λ_=>.nx ρ:=rfl
def OJ:ot C (.ifs e a b) ρ=(bE C e (full ρ)).bind λx=>(fL x.1).bind λz=>if z=c_ then dP C a ρ else dP C b ρ:=rfl
def T8:dP C (s::ss) ρ=(ot C s ρ).bind (VU (dP C ss)):=rfl
section
end
def xf{ds:List Dat}(h:ds.length<1000000):kJ .app (.lst ds) [d]=a_ (.lst (ds++[d])):=if_pos (by exact aa h (by decide))
def Bg:ot C (.loop one ts (.rng es) body) ρ=(yX C (.rng es) (full ρ)).bind λds=>jd (iV one ts) (dP C body) ds ρ:=by
 show((yX C (.rng es) (full ρ)).map _).bind _=_;cases yX C (.rng es) (full ρ)<;>rfl
def xG:ot C (.loop one ts (.itv e) body) ρ=(bE C e (full ρ)).bind λx=>if(im x.1 || x.2)=c_ then(jg x.1).bind λds=>jd (iV one ts) (dP C body) ds ρ
  else(bE C e (zN (mG e.fv ρ))).bind λy=>(jg y.1).bind λds=>jd (iV one ts) (dP C body) ds (mG e.fv ρ):=by
 show((Hk C e ρ).bind λx=>(jg x.1).map λds=>(ds,x.2.2)).bind _=_;unfold Hk
 cases bE C e (full ρ)with
 |none=>rfl
 |some x=>
   show bD (bD (if(im x.1 || x.2)=c_ then _ else _) _) _=if(im x.1 || x.2)=c_ then _ else _
   cases im x.1 || x.2 with
   |true=>show((jg x.1).map _).bind _=(jg x.1).bind _;cases jg x.1<;>rfl
   |false=>
     cases bE C e (zN (mG e.fv ρ))with
     |none=>rfl
     |some y=>show((jg y.1).map _).bind _=(jg y.1).bind _;cases jg y.1<;>rfl
section
def Y6:fQ .eq (.str x) (.str y)=a_ (x == y):=rfl
def YF:fQ .ne (.str x) (.str y)=a_ (!(x == y)):=rfl
def Y5(h1:eC 19 ds=c_)(h2:eC 19 ys=c_):fQ .eq (.tup ds) (.tup ys)=a_ (mz ds ys):=by simp only[fQ,iR,h1,h2,kG,if_true,nW]
def YE(h1:eC 19 ds=c_)(h2:eC 19 ys=c_):fQ .ne (.tup ds) (.tup ys)=a_ (!mz ds ys):=by simp only[fQ,iR,h1,h2,kG,if_true,nW]
def WC(h1:eC 19 ds=c_)(h2:eC 19 ys=c_):fQ .ne (.lst ds) (.lst ys)=a_ (!mz ds ys):=by simp only[fQ,iR,h1,h2,kG,if_true,nW]
end
mutual
theorem K4:∀d:Dat,sP d=c_->nW d d=c_
 |.non,_=>rfl
 |.bl _,_=>by simp[nW]
 |.int _,_=>by simp[nW]
 |.str _,_=>by simp[nW]
 |.tup ds,h=>by simp only[nW];exact o6 ds h
 |.lst ds,h=>by simp only[nW];exact o6 ds h
 |.dct _ _,h=>nomatch h
theorem o6:∀ds:List Dat,g9 ds=c_->mz ds ds=c_
 |[],_=>rfl
 |d::ds,h=>by
   have h':sP d=c_/\g9 ds=c_:=by simpa [g9]using h
   simp only[mz,K4 d h'.1,o6 ds h'.2,kG]
end
def nF(h:bE C a ρ=a_ (.bl x,f)):bE C (.and a b) ρ=if x=c_ then bE C b ρ else a_ (.bl d_,d_):=by
 show(bE C a ρ).bind _=_;rw[h];rfl
def Dm(h:bE C a ρ=a_ (.bl x,f)):bE C (.or a b) ρ=if x=c_ then a_ (.bl c_,d_)else bE C b ρ:=by
 show(bE C a ρ).bind _=_;rw[h];rfl
def Fk(h:bE C c ρ=a_ (d,f))(ht:fL d=a_ x):bE C (.ite c a b) ρ=if x=c_ then bE C a ρ else bE C b ρ:=by
 show(bE C c ρ).bind _=_;rw[h];show(fL d).bind _=_;rw[ht];rfl
end
section
def yU:bE C (.con d) ρ=a_ (d,d_):=rfl
def jh:bE C (.v i) ρ=((ρ[i]?).join).map λd=>(d,d_):=rfl
def my:bE C (.bin o a b) ρ=(bE C a ρ).bind λx=>(bE C b ρ).bind λy=>hJ o x.1 y.1:=rfl
def yV:bE C (.cmp o a b) ρ=(bE C a ρ).bind λx=>(bE C b ρ).bind λy=>(fQ o x.1 y.1).map λr=>(.bl r,d_):=rfl
def Ua:bE C (.not a) ρ=(bE C a ρ).bind λx=>(fL x.1).map λb=>(.bl (!b),d_):=rfl
def vv:bE C (.tup es) ρ=(nE C es ρ).bind λx=>if x.1.length<=1000000 then a_ (.tup x.1,x.2)else b_:=rfl
def Ub:bE C (.lst es) ρ=(nE C es ρ).bind λx=>if x.1.length<=1000000 then a_ (.lst x.1,x.2)else b_:=rfl
def xI:bE C (.ix a b) ρ=(bE C a ρ).bind λx=>(bE C b ρ).bind λy=>(vf x.1 y.1).map λd=>(d,d_):=rfl
def KZ:bE C (.sl a b c) ρ=(bE C a ρ).bind λx=>(Xr C ρ b).bind λl=>(Xr C ρ c).bind λh=>D7 x.1 l h:=rfl
def lZ:bE C (.call f es) ρ=(kR C es ρ).bind λds=>C f ds:=rfl
def p0:bE C (.blt f es) ρ=(kR C es ρ).bind λds=>gW f ds:=rfl
def Fh:kR C [] ρ=a_ []:=rfl
def cu:kR C (e::es) ρ=(bE C e ρ).bind λx=>(kR C es ρ).map λr=>x.1::r:=rfl
def fN:nE C (e::es) ρ=(bE C e ρ).bind λx=>(nE C es ρ).map λr=>(x.1::r.1,(x.2 || im x.1) && r.2):=rfl
def yT:bE C (.jr m o es) ρ=(bE C o ρ).bind λx=>(kR C es ρ).bind λds=>jc m x.1 ds:=rfl
def yS:yX C (.itv a) ρ=(bE C a ρ).bind λx=>jg x.1:=rfl
def Fi:yX C (.rng es) ρ=(kR C es ρ).bind CC:=rfl
def qO{ifs:List Ex}(hi:yX C it ρ=a_ items)(hl:items.length<=1000000)(c:qA (pG C nt one (jG nt caps ρ) ifs elt) items=a_ (ys,fr)) :
  bE C (.comp nt one caps it ifs elt) ρ=a_ (.lst ys,fr):=by
 show(yX C it ρ).bind _=_;rw[hi];show(if items.length<=1000000 then _ else b_)=_;rw[if_pos hl];exact congrArg (hX λys:List Dat×Bool=>(Dat.lst ys.1,ys.2)) c
def xP:pG C 1 c_ ρ0 [] elt d=(bE C elt (ρ0.set 0 (a_ d))).map a_:=rfl
def Le{ρ0:iG}(h:bE C i (ρ0.set 0 (a_ d))=a_ (x,f))(ht:fL x=a_ t):pG C 1 c_ ρ0 [i] elt d=if t=c_ then(bE C elt (ρ0.set 0 (a_ d))).map a_ else a_ b_:=by
 unfold pG;simp only[FK,bw,xJ,h,ht];cases t<;>rfl
end
mutual
noncomputable def same:Dat->Dat->Bool
 | .non,c=>match c with
   |.non=>c_
   |_=>d_
 | .bl a,c=>match c with
   |.bl b=>a == b
   |_=>d_
 | .int i,c=>match c with
   |.int j=>i == j
   |_=>d_
 | .str x,c=>match c with
   |.str y=>x == y
   |_=>d_
 | .tup xs,c=>match c with
   |.tup ys=>uG xs ys
   |_=>d_
 | .lst xs,c=>match c with
   |.lst ys=>uG xs ys
   |_=>d_
 |_,_=>d_
noncomputable def uG:List Dat->List Dat->Bool
 |[],[]=>c_
 |x::xs,y::ys=>same x y && uG xs ys
 |_,_=>d_
end
mutual
theorem Ef:∀(x y:Dat),same x y=c_->x=y
 |.non,y,h=>by cases y<;>first|rfl|(simp[same]at h)
 |.bl a,y,h=>by cases y<;>first|(simp[same]at h;rw[h])|(simp[same]at h)
 |.int a,y,h=>by cases y<;>first|(simp[same]at h;rw[h])|(simp[same]at h)
 |.str a,y,h=>by cases y<;>first|(simp[same]at h;rw[h])|(simp[same]at h)
 |.tup a,y,h=>by cases y<;>first|(simp[same]at h;rw[uF _ _ h])|(simp[same]at h)
 |.lst a,y,h=>by cases y<;>first|(simp[same]at h;rw[uF _ _ h])|(simp[same]at h)
theorem uF:∀(x y:List Dat),uG x y=c_->x=y
 |[],y,h=>by cases y<;>first|rfl|(simp[uG]at h)
 |x::xs,y,h=>by
   cases y with
   |nil=>simp[uG]at h
   |cons y ys=>
     simp[uG]at h;rw[Ef _ _ h.1,uF _ _ h.2]
end
def qu:g_->g_->Bool
 |some (d,b),a_ (e,c)=>same d e && b == c
 |none,b_=>c_
 |_,_=>d_
def oH(h:qu x y=c_):x=y:=by
 cases x with
 |none=>cases y<;>first|rfl|(simp[qu]at h)
 |some x=>
   cases y with
   |none=>simp[qu]at h
   |some y=>
     obtain⟨d,b⟩:=x;obtain⟨e,c⟩:=y;simp[qu]at h;rw[Ef _ _ h.1,h.2]
def Ad{n dflt:Nat}{i:Int}(h0:0<=i)(h1:i<=n):HT.iS n dflt (a_ i)=i.toNat:=by
 obtain⟨k,rfl⟩:=jI h0;exact dz (dB.mp h1)
def Fx{α:Type}{xs:List α}{i:Int}(h0:0<=i)(h1:i<=xs.length):cutD xs (a_ i) b_=xs.drop i.toNat:=by
 unfold cutD;rw[Ad h0 h1,HT.Ae];rw[fI (by simp)]
def Fy{α:Type}{xs:List α}{i:Int}(h0:0<=i)(h1:i<=xs.length):cutD xs b_ (a_ i)=xs.take i.toNat:=by
 unfold cutD;rw[Ad h0 h1,HT.Ae];rfl
def p8{xs ys:List Dat}(h:xs.length+ys.length<=1000000):hJ .add (.lst xs) (.lst ys)=a_ (.lst (xs++ys),jL (xs++ys)):=if_pos (oY h)
noncomputable abbrev T(l:List Nat):bu:=⟨l.toArray⟩
def Z6(x:bu):T x.cps.toList=x:=rfl
def FR(a b:List Nat):T a++T b=T (a++b):=by
 show Str.mk _=_;simp[T]
def Qx(h:T a=T b):a=b:=by
 have:=congrArg (λx:bu=>x.cps.toList) h;simpa using this
def Xy(a b:List Nat):(T a == T b)=decide (a=b):=by
 by_cases h:a=b
 ·subst h;simp
 ·rw[decide_eq_false h];exact beq_false_of_ne λe=>h (Qx e)
def nX(a:List Nat):(T a).length=a.length:=by show(a.toArray).size=_;simp
def Kl:fQ .isin (.str (T [c])) (.str (T l))=a_ (decide (c∈l)):=by
 show a_ _=_;rw[show(!(gh (T l) (T [c]) 0 (T l).length 1).isEmpty)=_ from DM (T l) c]
def Wz:fQ .nin (.str (T [c])) (.str (T l))=a_ (!decide (c∈l)):=by
 show a_ _=_;rw[DM (T l) c]
def yu:dY (T l)=l.map λc=>T [c]:=by
 unfold dY;simp[T]
def len_T{l:List Nat}(h:l.length<=1000000):gW .len [.str (T l)]=a_ (.int l.length,d_):=by
 show(if(T l).length<=aB then a_ (Dat.int (T l).length,d_)else b_)=_;rw[nX,if_pos (by exact aa h (by decide))]
def LH{a b:List Nat}(h:a.length+b.length<=1000000):hJ .add (.str (T a)) (.str (T b))=a_ (.str (T (a++b)),d_):=by
 show(if(T a).length+(T b).length<=aB then a_ (Dat.str (T a++T b),d_)else b_)=_;rw[nX,nX,if_pos (by rw[eM];exact aa h (by decide)),FR]
def WO{l:List Nat}(hl:l.length<=1000000)(h:i<l.length):vf (.str (T l)) (.int (i:Nat))=a_ (.str (T [l[i]])):=by
 show(if(T l).length<=aB then(rd (T l).cps.toList (i)).map λc=>Dat.str ⟨#[c]⟩else b_)=_;rw[if_pos (by exact aa hl (by decide))];rw[show rd (T l).cps.toList (i)=a_ l[i]from km (by simp[h])];rfl
theorem DX:∀ws:List (List Nat),uv (ws.map λl=>Dat.str (T l))=a_ (ws.map T)
 |[]=>rfl
 |x::r=>by simp only[ax,uv,DX r,bV]
def TH:∀ws:List (List Nat),tD (T []) (ws.map T)=T ws.flatten:=by
 intro ws;rw[show tD (T []) (ws.map T)=Str.join (T []) (ws.map T)from StrLaws.glued_eq_join _ _]
 induction ws with
 |nil=>rfl
 |cons x r c=>
   cases r with
   |nil=>show T x=_;simp
   |cons y r=>
     show(T x++T []++Str.join (T []) ((y::r).map T))=_;rw[c,FR,FR];simp
def yE{ws:List (List Nat)}(h:(ws.map (·.length)).sum<=1000000):jc .join (.str (T [])) [.lst (ws.map λl=>Dat.str (T l))]=a_ (.str (T ws.flatten),d_):=by
 simp only[jc,ZJ,DX,bw];rw[if_pos,TH];rw[nX,cB];have e:(Pq ((λx:bu=>x.length) ∘ T) ws)=ws.map (·.length):=cP λl _=>nX l;rw[e];simpa using h
def ne_T(a b:List Nat):fQ .ne (.str (T a)) (.str (T b))=a_ (!decide (a=b)):=by
 show a_ (!(T a == T b))=_;rw[Xy]
theorem xK:∀(a b:List Int),mz (a.map Dat.int) (b.map Dat.int)=decide (a=b)
 |[],[]=>rfl
 |[],b::bs=>by simp[mz]
 |a::as,[]=>by simp[mz]
 |a::as,b::bs=>by
   simp only[ax,mz,nW,xK as bs];by_cases h:a=b
   ·subst h;by_cases h2:as=bs<;>simp[h2]
   ·simp[h]
theorem oG(k:Nat):∀a:List Int,eC k (a.map Dat.int)=c_
 |[]=>by simp[eC]
 |a::as=>by simp[eC,iR,oG k as]
def DA{xs ys:List Dat}(h:xs.length+ys.length<=1000000):hJ .add (.tup xs) (.tup ys)=a_ (.tup (xs++ys),d_):=if_pos (oY h)
def G3{ds es:List Dat}(h:ds.length+es.length<=1000000):kJ .ext (.lst ds) [.tup es]=a_ (.lst (ds++es)):=if_pos (oY h)
end M
namespace M
open PySem L2
noncomputable def qB:List Nat:=[97,98,99,100,101,102,103,104,105,106,107,108,109,110,111,112,113,114,115,116,117,118,119,120,121,122]
def SMT:ab "abcdefghijklmnopqrstuvwxyz"=T qB:=by decide +kernel
noncomputable def L7:List Nat:=[119,98,109,101]
def WBT:ab "wbme"=T L7:=by decide +kernel
def Z9:ab ""=T []:=by decide +kernel
abbrev Fm:=List Nat×List Int×List Nat
abbrev jf(t:Fm):Dat:=.tup [.str (T t.1),.tup (t.2.1.map Dat.int),.str (T t.2.2)]
def Nj(h:m<=1000000):CC [.int (m:Nat)]=a_ ((aT m).map λk:Nat=>Dat.int k):=by
 show(if _ then _ else b_)=_;rw[if_pos (by omega)];simp
def Qi(xs:List Nat):(xs.map λc=>[c]).flatten=xs:=by
 induction xs with
 |nil=>rfl
 |cons a r d=>rw[ax,mK,d];rfl
def VL(xs:List Nat):((xs.map λc=>[c]).map (·.length)).sum=xs.length:=by
 induction xs with
 |nil=>rfl
 |cons a r d=>rw[ax,ax,List.sum_cons,d];simp;exact B7 _ _
def U4(k:Nat):List Nat:=(aT 4).filterMap λi=>if k / 2 ^ i % 2=1 then L7[i]? else b_
noncomputable abbrev ent(f:Fm):List Nat×List Int:=(f.1,f.2.1)
def Kt(f:Fm):im (jf f)=c_:=by
 show(c_ && (jL (f.2.1.map Dat.int) && (c_ && c_)))=c_;rw[qG];rfl
theorem nA:∀fs:List Fm,jL (fs.map jf)=c_
 |[]=>rfl
 |f::fs=>by rw[ax];show(im (jf f) && jL (fs.map jf))=c_;rw[Kt,nA fs];rfl
def yt(a b c:Dat):D7 (.tup [a,b,c]) b_ (a_ 2)=a_ (.tup [a,b],d_):=rfl
def zW(f:Fm):iR 20 (.tup [.str (T f.1),.tup (f.2.1.map Dat.int)])=c_:=by
 show(c_ && (eC 18 (f.2.1.map Dat.int) && c_))=c_;rw[oG];rfl
noncomputable abbrev tI(l:List Int):Dat:=.tup (l.map Dat.int)
end M
namespace K43
open PySem L2 M
structure HK(f:Fm):Prop where
 ne:f.1≠[]
 low:∀c∈f.1,c∈qB
 ll:f.1.length<=6
 c1:0<f.2.1.length
 cl:f.2.1.length<=4
 pp:∃k,1<=k/\k<16/\f.2.2=U4 k
noncomputable abbrev WY(i:Int):N2:=.inl (.inl i)
theorem uW:∀cs:List Int,LZ (cs.map Dat.int)=a_ (cs.map WY)
 |[]=>rfl
 |c::r=>by simp only[ax,LZ,XQ,uW r,bw,bV]
def Ox{a b:List Int}(e:a.map WY=b.map WY):a=b:=(HE (λx y z=>sy (sy z))).mp e
end K43
namespace K43E
open PySem L2 M K43
abbrev sT(l:List Nat):Dat:=.str (T l)
def v8(h:bE C a (full ρ)=a_ (d,fl)):dP C [.ret a] ρ=a_ (.rt d fl):=by
 rw[T8];show bD (hX _ (bE C a (full ρ))) _=_;rw[h];rfl
def jl(h:bE C a (full ρ)=a_ (d,fl))(hi:im d=c_):ot C (.set i a) ρ=a_ (.nx (ρ.set i (a_ (d,d_)))):=by
 rw[ub,h];show(if(im d || fl)=c_ then a_ (Out.nx (ρ.set i (a_ (d,fl && !im d))))else _)=_;rw[hi,Bool.not_true,lV];rfl
def Pz(h:bE C a (full ρ)=a_ (.lst ds,c_)):ot C (.set i a) ρ=a_ (.nx (ρ.set i (a_ (.lst ds,c_)))):=by
 rw[ub,h];rfl
def Ev(C:Fs)(e:Ex)(ρ:iG)(P:Dat->Prop):Prop:=∃d f,bE C e ρ=a_ (d,f)/\im d=c_/\P d
def Ei(C:Fs)(e:Ex)(ρ:iG)(P:Nat->Prop):Prop:=∃q f,bE C e ρ=a_ (.int (q:Nat),f)/\P q
def Go(C:Fs)(ss:List Sx)(ρ:dI)(Q:Out->Prop):Prop:=∃o,dP C ss ρ=a_ o/\Q o
def Dw(C:Fs)(N:Dat):Prop:=∀k p m:Int,0<=k/\k<=1000->0<p->0<m->∃q:Nat,C 20 [N,.int k,.int p,.int m]=a_ (.int (q:Nat),d_)/\(q:Int)<m
section
def gV(hd:Dw C N)(h0:bE C a ρ=a_ (N,f))(h1:bE C k ρ=a_ (.int i,g))(h2:bE C p ρ=a_ (.int j,h))(h3:bE C m ρ=a_ (.int l,w))(c:0<=i/\i<=1000)(hp:0<j)(d:0<l)(H:∀q:Nat,(q:Int)<l->P q):Ei C (.call 20 [a,k,p,m]) ρ P:=by
 obtain⟨q,r,b⟩:=hd i j l c hp d;exact⟨q,d_,by rw[lZ,cu,h0,cu,h1,cu,h2,cu,h3];exact r,H q b⟩
def K5(c:Nat)(h:Ei C e ρ P)(hp:∀q,P q->P' (c+q)):Ei C (.bin .add (.con (.int (c:Nat))) e) ρ P':=by
 obtain⟨q,f,r,b⟩:=h;refine⟨c+q,d_,?_,hp q b⟩;rw[my,r];show a_ (Dat.int ((c:Int)+(q:Int)),d_)=_;rw[show(c:Int)+(q:Int)=((c+q:Nat):Int) by rfl]
def Dr(h:Ei C e ρ P)(hp:∀q,P q->P' (1+q)):Ei C (.bin .add (.e_ 1) e) ρ P':=K5 1 h hp
def sZ{b:Nat}(hd:Dw C N)(h0:bE C a ρ=a_ (N,f))(h1:bE C k ρ=a_ (.int i,g))(h2:bE C p ρ=a_ (.int j,h))(h3:bE C m ρ=a_ (.int l,w))(c:0<=i/\i<=1000)(hp:0<j)(d:0<l)(hb:l<=b):Ei C (.bin .add (.e_ 1) (.call 20 [a,k,p,m])) ρ λv=>1<=v/\v<=b:=
 Dr (P:=λq=>(q:Int)<l) (gV hd h0 h1 h2 h3 c hp d λ_ h=>h) λq h=>by omega
def Fl{is:List Nat}(j:bE C x ρ=a_ (.lst (is.map λi:Nat=>Dat.int i),f))(h:Ei C e ρ (·< is.length))(hp:∀q∈is,P q):Ei C (.ix x e) ρ P:=by
 obtain⟨q,g,r,c⟩:=h;refine⟨is[q],d_,?_,hp _ (bh c)⟩;rw[xI,j,r];show((rd _ (q)).map λd=>(d,d_))=_;rw[km (by rw[aN,af c];rfl)];rfl
def sY(h:Ei C e ρ P)(j:Int):∃t f,bE C (.cmp .eq e (.con (.int j))) ρ=a_ (.bl t,f):=by
 obtain⟨q,f,r,_⟩:=h;exact⟨_,d_,by rw[yV,r];rfl⟩
def jt(h1:bE C a ρ=a_ (x',f))(h2:bE C e ρ=a_ (y,g))(h:fQ o x' y=a_ r):bE C (.cmp o a e) ρ=a_ (.bl r,d_):=by rw[yV,h1,h2];show(fQ o x' y).map _=_;rw[h];rfl
def lD(h1:bE C a ρ=a_ (x',f))(h2:bE C e ρ=a_ (y,g))(h:hJ o x' y=r):bE C (.bin o a e) ρ=r:=by rw[my,h1,h2];exact h
def pq(h1:bE C a ρ=a_ (x',f))(h:gW o [x']=r):bE C (.blt o [a]) ρ=r:=by rw[p0,cu,h1];exact h
def WG(h1:bE C a ρ=a_ (x',f))(h:jc o x' []=r):bE C (.jr o a []) ρ=r:=by rw[yT,h1];exact h
def Tc(h1:bE C a ρ=a_ (x',f))(h2:bE C e ρ=a_ (y,g))(h:jc o x' [y]=r):bE C (.jr o a [e]) ρ=r:=by rw[yT,h1,cu,h2];exact h
def Kg(h1:bE C a ρ=a_ (x',f))(h2:bE C e ρ=a_ (y,g))(h:vf x' y=a_ d):bE C (.ix a e) ρ=a_ (d,d_):=by rw[xI,h1,h2];show(vf x' y).map _=_;rw[h];rfl
def Yn(h1:bE C a ρ=a_ (x',f))(h2:bE C e ρ=a_ (.int i,g))(h:D7 x' b_ (a_ i)=r):bE C (.sl a b_ (a_ e)) ρ=r:=by rw[KZ,h1];show bD (JE (bE C e ρ)) _=_;rw[h2];exact h
def VR(h1:bE C a ρ=a_ (x',f))(h2:bE C e ρ=a_ (.int i,g))(h:D7 x' (a_ i) b_=r):bE C (.sl a (a_ e) b_) ρ=r:=by rw[KZ,h1];show bD (JE (bE C e ρ)) _=_;rw[h2];exact h
def Xf(h1:bE C a ρ=a_ (x',f)):bE C (.call q [a]) ρ=C q [x']:=by rw[lZ,cu,h1];rfl
def Xe(h1:bE C a ρ=a_ (x',f))(h2:bE C e ρ=a_ (y,g)):bE C (.call q [a,e]) ρ=C q [x',y]:=by rw[lZ,cu,h1,cu,h2];rfl
def Lm(h1:bE C a ρ=a_ (x',f))(h2:bE C e ρ=a_ (y,g))(h3:bE C x ρ=a_ (z,h)):bE C (.call q [a,e,x]) ρ=C q [x',y,z]:=by rw[lZ,cu,h1,cu,h2,cu,h3];rfl
def pZ(h:Ei C e ρ P):Ev C e ρ (λd=>∃q:Nat,d=.int (q:Nat)/\P q):=by
 obtain⟨q,f,r,b⟩:=h;exact⟨_,f,r,rfl,q,rfl,b⟩
def Dl(h:bE C a ρ=a_ (.int i,f))(h':bE C e ρ=a_ (.int j,g))(hi:0<=i/\i<=1000):bE C (.bin .mul a e) ρ=a_ (.int (i * j),d_):=by
 rw[my,h,h'];exact vF (by omega) (fW hi.2 (by decide))
def lz(h:bE C a ρ=a_ (.int i,f))(h':bE C e ρ=a_ (.int j,g)):bE C (.bin .add a e) ρ=a_ (.int (i+j),d_):=by
 rw[my,h,h'];rfl
def xH{m:Nat}(h:bE C e ρ=a_ (.int (m:Nat),f))(c:m<=1000):yX C (.rng [e]) ρ=a_ ((aT m).map λk:Nat=>Dat.int k):=by
 rw[Fi,cu,h];exact Nj (aa c (by decide))
def K0{ls:List Nat}{P:Nat->Prop}(k:bE C x ρ=a_ (.lst (ls.map λc=>sT [c]),f))(h:Ei C e ρ (·< ls.length))(hl:∀c∈ls,P c):∃c b,bE C (.ix x e) ρ=a_ (sT [c],b)/\P c:=by
 obtain⟨q,g,r,j⟩:=h;refine⟨ls[q],d_,?_,hl _ (bh j)⟩;rw[xI,k,r];show((rd _ (q:Int)).map λd=>(d,d_))=_;rw[km (by rw[aN,af j];rfl)];rfl
def o8{α β:Type}{caps:List Nat}{it:Iw}{elt:Ex}{xs:List α}{e:α->Dat}(g:β->Dat)(P:α->β->Prop)(hi:yX C it ρ=a_ (xs.map e))(hl:xs.length<=1000)(d:∀y,im (g y)=c_)(h:∀x∈xs,∃y b,bE C elt ((jG 1 caps ρ).set 0 (a_ (e x)))=a_ (g y,b)/\P x y):∃ys:List β,bE C (.comp 1 c_ caps it [] elt) ρ=a_ (.lst (ys.map g),c_)/\ys.length=xs.length/\(∀y∈ys,∃x∈xs,P x y)/\∀x∈xs,∃y∈ys,P x y:=by
 suffices ∃ys:List β,qA (pG C 1 c_ (jG 1 caps ρ) [] elt) (xs.map e)=a_ (ys.map g,c_)/\ys.length=xs.length/\(∀y∈ys,∃x∈xs,P x y)/\∀x∈xs,∃y∈ys,P x y by
  obtain⟨ys,a,b⟩:=this;exact⟨ys,qO hi (by rw[ai];exact aa hl (by decide)) a,b⟩
 clear hi hl
 induction xs with
 |nil=>exact⟨[],rfl,rfl,(λ_ h=>nomatch h),(λ_ h=>nomatch h)⟩
 |cons x xs j=>
   obtain⟨y,b,hb,hp⟩:=h x g7;obtain⟨ys,h1,h2,h3,k⟩:=j λz hz=>h z (iE _ hz);refine⟨y::ys,?_,by rw[a8,h2];rfl,λz hz=>?_,λz hz=>?_⟩
   ·rw[ax,qA,xP,hb,h1];simp[d y]
   ·rcases aw.mp hz with rfl|hz
    ·exact⟨x,g7,hp⟩
    ·obtain⟨u,c,q⟩:=h3 z hz;exact⟨u,iE _ c,q⟩
   ·rcases aw.mp hz with rfl|hz
    ·exact⟨y,g7,hp⟩
    ·obtain⟨u,c,q⟩:=k z hz;exact⟨u,iE _ c,q⟩
end
section
variable{C:Fs}{ρ:dI}{e:Ex}{ss:List Sx}{Q:Out->Prop}{P:Dat->Prop}{i:Nat}
def fM(h:ot C s ρ=a_ (.nx ρ1))(k:Go C ss ρ1 Q):Go C (s::ss) ρ Q:=by
 obtain⟨o,a,b⟩:=k;exact⟨o,by rw[kj h];exact a,b⟩
def oN(h:Ev C e (full ρ) P)(k:∀d,P d->Go C ss (ρ.set i (a_ (d,d_))) Q):Go C (.set i e::ss) ρ Q:=by
 obtain⟨d,f,h1,h2,h3⟩:=h;exact fM (jl h1 h2) (k d h3)
def fX(h:bE C e (full ρ)=a_ (.lst ds,c_))(k:Go C ss (ρ.set i (a_ (.lst ds,c_))) Q):Go C (.set i e::ss) ρ Q:=fM (Pz h) k
def jE(h:bE C e (full ρ)=a_ (d,f))(q:Q (.rt d f)):Go C [.ret e] ρ Q:=⟨_,v8 h,q⟩
def dH(q:Q (.nx ρ)):Go C [] ρ Q:=⟨_,rfl,q⟩
def CN(hi:(ρ[i]?).join=a_ (d,c_))(he:nE C es (full ρ)=a_ (ds,c_))(c:kJ op d ds=a_ d'):ot C (.mut op i es) ρ=a_ (.nx (ρ.set i (a_ (d',c_)))):=by
 show((nE C es (full ρ)).bind λx=>if x.2=c_ then SX op i ρ x.1 (ρ[i]?).join else b_)=_;rw[he,hi];show(kJ op d ds).map _=_;rw[c];rfl
def r8(h:Ev C e (full ρ) P)(hi:(ρ[i]?).join=a_ (.lst ds,c_))(hl:ds.length<1000000)(k:∀d,P d->Go C ss (ρ.set i (a_ (.lst (ds++[d]),c_))) Q):Go C (.mut .app i [e]::ss) ρ Q:=by
 obtain⟨d,f,h1,h2,h3⟩:=h;exact fM (CN hi (by rw[fN,h1];show a_ ([d],(f || im d) && c_)=_;rw[h2,gu];rfl) (xf hl)) (k d h3)
def EW(hb:bnd d ρ=a_ ρ1)(h:body ρ1=a_ (.nx ρ2)):jd bnd body (d::ds) ρ=jd bnd body ds ρ2:=by
 simp only[jd,hb,bw,h];rfl
theorem AI{α:Type}{bnd:Dat->dI->Option dI}{body:List Sx}{V:α->Dat}{I:List α->dI->Prop}:∀(xs ys:List α)(ρ:dI),(∀(us:List α)x(vs:List α)ρ,ys++xs=us++x::vs->I us ρ->∃ρ1,bnd (V x) ρ=a_ ρ1/\Go C body ρ1 λo=>∃c,o=.nx c/\I (us++[x]) c)->I ys ρ->∃ρ',jd bnd (dP C body) (xs.map V) ρ=a_ (.nx ρ')/\I (ys++xs) ρ'
 |[],ys,ρ,_,h=>⟨ρ,rfl,by rw[aM];exact h⟩
 |x::xs,ys,ρ,hs,h=>by
   obtain⟨ρ1,h1,_,h2,c,rfl,h3⟩:=hs ys x xs ρ rfl h;obtain⟨ρ',d,h5⟩:=AI xs (ys++[x]) c (λus z vs ρ q=>hs us z vs ρ (by rw[<-q,aE];rfl)) h3;rw[ax,EW h1 h2];rw[aE]at h5;exact⟨ρ',d,h5⟩
def qH{α:Type}{one:Bool}{c:List Nat}{it:Iw}{body:List Sx}{V:α->Dat}{xs:List α}{ρ0:dI}{I:List α->dI->Prop}(g:ot C (.loop one c it body) ρ=jd (iV one c) (dP C body) (xs.map V) ρ0)(j:I [] ρ0)(hs:∀(us:List α)x(vs:List α)ρ,xs=us++x::vs->I us ρ->∃ρ1,iV one c (V x) ρ=a_ ρ1/\Go C body ρ1 λo=>∃d,o=.nx d/\I (us++[x]) d)(K:∀ρ',I xs ρ'->Go C ss ρ' Q):Go C (.loop one c it body::ss) ρ Q:=by
 obtain⟨ρ',h1,h2⟩:=AI (bnd:=iV one c) xs [] ρ0 hs j;exact fM (by rw[g];exact h1) (K ρ' h2)
def u9(he:bE C e (full ρ)=a_ (d,f))(hd:jg d=a_ ds)(hf:(im d || f)=c_):ot C (.loop one ts (.itv e) body) ρ=jd (iV one ts) (dP C body) ds ρ:=by
 rw[xG,he,bw,if_pos hf,hd];rfl
def KI{g:List Nat}{body:List Sx}{I:List Nat->dI->Prop}{P:Nat->Prop}(he:Ei C e (full ρ) P)(j:∀m,P m->m<=1000)(k:I [] ρ)(hs:∀m,P m->∀(us:List Nat)x(vs:List Nat)ρ,aT m=us++x::vs->I us ρ->∃ρ1,iV c_ g (.int (x:Nat)) ρ=a_ ρ1/\Go C body ρ1 λo=>∃c,o=.nx c/\I (us++[x]) c)(K:∀m,P m->∀ρ',I (aT m) ρ'->Go C ss ρ' Q):Go C (.loop c_ g (.rng [e]) body::ss) ρ Q:=by
 obtain⟨m,f,he,d⟩:=he;exact qH (by rw[Bg,xH he (j m d)];rfl) k (hs m d) (K m d)
def AX{J:dI->Prop}{A:List Sx}(h:∃t f,bE C e (full ρ)=a_ (.bl t,f))(c:Go C A ρ λo=>∃ρ',o=.nx ρ'/\J ρ')(hB:J ρ)(k:∀ρ',J ρ'->Go C ss ρ' Q):Go C (.ifs e A []::ss) ρ Q:=by
 obtain⟨t,f,h⟩:=h;cases t
 ·exact fM (by rw[E5 h rfl];rfl) (k ρ hB)
 ·obtain⟨_,h1,ρ',rfl,h2⟩:=c;exact fM (by rw[Kv h rfl];exact h1) (k ρ' h2)
def vn{e1 e2 e3:Ex}{P:Nat->Prop}(h1:Ei C e1 (full ρ) P)(h2:∀v:Nat,∃t f,bE C e2 (full (ρ.set i (a_ (.int (v:Nat),d_))))=a_ (.bl t,f))(h3:∀v:Nat,Ei C e3 (full (ρ.set i (a_ (.int (v:Nat),d_)))) P)(K:∀v:Nat,P v->Go C ss (ρ.set i (a_ (.int (v:Nat),d_))) Q):Go C (.set i e1::.ifs e2 [.set i e3] []::ss) ρ Q:=by
 refine oN (pZ h1) λd hd=>?_;obtain⟨v,rfl,g⟩:=hd;refine AX (J:=λρ'=>∃v:Nat,P v/\ρ'=ρ.set i (a_ (.int (v:Nat),d_))) (h2 v) (oN (pZ (h3 v)) λd hd=>?_) ⟨v,g,rfl⟩ λρ' h=>?_
 ·obtain⟨w,rfl,c⟩:=hd;exact dH ⟨_,rfl,w,c,List.set_set _⟩
 ·obtain⟨w,c,rfl⟩:=h;exact K w c
def oO{A B:List Sx}{b:Bool}{f:Bool}{J:dI->Prop}(h:bE C e (full ρ)=a_ (.bl b,f))(c:b=c_->Go C A ρ λo=>∃ρ',o=.nx ρ'/\J ρ')(hB:b=d_->Go C B ρ λo=>∃ρ',o=.nx ρ'/\J ρ')(k:∀ρ',J ρ'->Go C ss ρ' Q):Go C (.ifs e A B::ss) ρ Q:=by
 cases b
 ·obtain⟨_,h1,ρ',rfl,h2⟩:=hB rfl;exact fM (by rw[E5 h rfl];exact h1) (k ρ' h2)
 ·obtain⟨_,h1,ρ',rfl,h2⟩:=c rfl;exact fM (by rw[Kv h rfl];exact h1) (k ρ' h2)
end
def Qb(h:bE C e (full ρ)=a_ (.bl c_,f))(c:dP C A ρ=a_ (.rt d g))(q:Q (.rt d g)):Go C (.ifs e A B::ss) ρ Q:=⟨_,by rw[MI (by rw[Kv h rfl];exact c)],q⟩
def xC(h:bE C e (full ρ)=a_ (.bl d_,f))(k:Go C ss ρ Q):Go C (.ifs e A []::ss) ρ Q:=fM (by rw[E5 h rfl];rfl) k
def sW{ds:List Dat}(c:ds.length=np)(h:Go (Cn D n) body (ds.map (λd=>a_ (d,d_))++dt (nl - np) b_) λo=>o=.rt d b):OL (Cn D n) np nl body ds=a_ (d,b):=by
 obtain⟨_,h1,rfl⟩:=h;exact fA c h1
def Jb{ns:List Int}:∃c:Int,Cn D (n+1) 19 [.lst (ns.map Dat.int),.int (k:Nat)]=a_ (.int c,d_):=by
 have hl:gW .len [.lst (ns.map Dat.int)]=a_ (.int (ns.length:Nat),d_):=by rw[j9,ai]
 by_cases h:k<ns.length
 ·refine⟨ns[k],sW rfl (Qb (jt rfl (pq rfl hl) (congrArg a_ (decide_eq_true (show(k:Int)<(ns.length:Int) by omega)))) (v8 (Kg rfl rfl (km (by rw[aN,af h];rfl)))) rfl)⟩
 ·exact⟨0,sW rfl (xC (jt rfl (pq rfl hl) (congrArg a_ (decide_eq_false (show¬(k:Int)<(ns.length:Int)from(λz=>(uo z (dB.mpr (bF h)))))))) (jE rfl rfl))⟩
def Hn(hc:C 19 [N,.int k]=a_ (.int c,d_))(j:0<=k)(d:k<=1000)(hp:0<p)(g:0<m):Go C Z3 [a_ (N,d_),a_ (.int k,d_),a_ (.int p,d_),a_ (.int m,d_),b_] λo=>o=.rt (.int ((c * 48271+7919 * k * k+11) % p * 7919 % 999983 % m)) d_:=by
 refine fM (jl (lD (lD (lD (lD hc rfl (p7 (by decide) (by decide))) (lD (lD rfl rfl (vF (by decide) (by decide))) rfl (p7 (by omega) (fW d (by decide)))) rfl) rfl rfl) rfl (nG hp)) rfl) ?_;exact jE (lD (lD (lD rfl rfl (p7 (by decide) (by decide))) rfl (nG (by decide))) rfl (nG g)) rfl
def dw{ns:List Int}:Dw (Cn D (n+2)) (.lst (ns.map Dat.int)):=λk p m d hp g=>by
 obtain⟨j,l⟩:=jI d.1;obtain⟨c,hc⟩:=Jb (ns:=ns);rw[<-l]at hc;have h:=Hn hc d.1 d.2 hp g;generalize z:(c * 48271+7919 * k * k+11) % p * 7919 % 999983=y at h;have e1:0<=y % m:=Pt _ (Int.ne_of_gt g);have e2:y % m<m:=Ic _ g;obtain⟨q,v⟩:=jI e1;rw[v]at e2 h;exact⟨q,sW rfl h,e2⟩
def ud{C:Fs}{ρ:iG}{α:Type}{caps:List Nat}{it:Iw}{c:Ex}{xs:List α}{e:α->Dat}(p:α->Bool)(hi:yX C it ρ=a_ (xs.map e))(hl:xs.length<=1000)(g:∀x,im (e x)=c_)(h:∀x∈xs,∃f,bE C c ((jG 1 caps ρ).set 0 (a_ (e x)))=a_ (.bl (p x),f))(j:∀d:Dat,bE C (.v 0) ((jG 1 caps ρ).set 0 (a_ d))=a_ (d,d_):=by intro;rfl):bE C (.comp 1 c_ caps it [c] (.v 0)) ρ=a_ (.lst ((xs.filter p).map e),c_):=by
 refine qO hi (by rw[ai];exact aa hl (by decide)) ?_;clear hi hl
 induction xs with
 |nil=>rfl
 |cons x xs k=>
   obtain⟨f,hf⟩:=h x g7;rw[ax,qA,Le hf rfl,k λy l=>h y (iE _ l),j];cases q:p x<;>simp[q,g]
def FC{C:Fs}{ρ:iG}{α:Type}{caps:List Nat}{it:Iw}{elt:Ex}{xs:List α}{e g:α->Dat}(hi:yX C it ρ=a_ (xs.map e))(hl:xs.length<=1000)(d:∀x∈xs,im (g x)=c_)(h:∀x∈xs,∃f,bE C elt ((jG 1 caps ρ).set 0 (a_ (e x)))=a_ (g x,f)):bE C (.comp 1 c_ caps it [] elt) ρ=a_ (.lst (xs.map g),c_):=by
 refine qO hi (by rw[ai];omega) ?_;clear hi hl
 induction xs with
 |nil=>rfl
 |cons x xs j=>
   obtain⟨f,hf⟩:=h x g7;rw[ax,qA,xP,hf,j (λy c=>d y (iE _ c)) λy c=>h y (iE _ c)];simp[d x g7]
abbrev Ed:=bu×List Nat×List Int×bu
abbrev dQ(e:Ed):Dat:=.tup [.str e.1,.str (T e.2.1),.tup (e.2.2.1.map Dat.int),.str e.2.2.2]
abbrev Hl(e:Ed):List NK:=[.inl (.inr e.1),.inl (.inr (T e.2.1)),.inr (e.2.2.1.map WY),.inl (.inr e.2.2.2)]
def PY(e:Ed):NZ (dQ e)=a_ (Hl e):=by
 simp only[NZ,SQ,Wy,uW,bV,bw]
theorem JT:∀es:List Ed,v9 (es.map dQ)=a_ (es.map Hl)
 |[]=>rfl
 |e::es=>by
   rw[ax,v9,PY,JT es];rfl
theorem allI:∀l:List Int,(l.map WY).all sI=c_
 |[]=>rfl
 |a::r=>by rw[ax,dv,allI r];rfl
noncomputable abbrev VT:List (List Nat):=[[1],[1],[2],[1]]
def wV(e:Ed):(Hl e).map sN=VT:=by
 simp only[ax,List.map_nil,sN,allI,if_true]
abbrev HP(e:Ed):List (List (List Int)):=codeN (Hl e)
def Gw(es:List Ed):List Dat:=(gC u7 (es.map HP)).map (Bm VT)
def PV(e:Ed):∀x∈Hl e,t5 (sN x)=c_:=λx c=>by
 have:sN x∈(Hl e).map sN:=de c;rw[wV]at this;exact bo.mp (show VT.all t5=c_ by decide) _ this
def Um(e:Ed):Bm VT (HP e)=dQ e:=by
 have:=Fu (PY e) (PV e);rw[wV]at this;exact this
def Lk(h:HP a=HP b):a=b:=by
 have h1:Hl a=Hl b:=code_inj ((wV a).trans (wV b).symm) (PV a) h;simp only[Hl,fT,Sum.inl.injEq,Sum.inr.injEq,and_true]at h1;obtain⟨h1,h2,h3,c⟩:=h1;exact DQ h1 (DQ (Qx h2) (DQ (Ox h3) c))
def CM{α:Type}[BEq α][LawfulBEq α]{l l':List α}(d:l.Nodup)(h:∀x∈l,x∈l'):l.length<=l'.length:=by
 induction l generalizing l' with
 |nil=>exact aR _
 |cons a r g=>
   obtain⟨h1,h2⟩:=aZ.mp d;have ha:=h a g7;have:=g h2 λx c=>(List.mem_erase_of_ne (λe:x=a=>h1 (e▸c))).mpr (h x (iE _ c));rw[List.length_erase_of_mem ha]at this;have :=List.length_pos_of_mem ha;simp;omega
def Q9(es:List Ed):∃E:List Ed,Gw es=E.map dQ/\E.Nodup/\(∀e,e∈E↔e∈es)/\E.length<=es.length:=by
 have d:∀l:List (List (List (List Int))),(∀c∈l,∃e:Ed,c=HP e)->l.Nodup->∃E:List Ed,l=E.map HP/\E.Nodup:=λl=>by
  induction l with
  |nil=>intro _ _;exact⟨[],rfl,fh⟩
  |cons c r j=>
    intro h g;obtain⟨e,rfl⟩:=h c g7;obtain⟨E,h1,h2⟩:=j (λc hc=>h c (iE _ hc)) (aZ.mp g).2;refine⟨e::E,by rw[h1];rfl,aZ.mpr ⟨λm=>(aZ.mp g).1 ?_,h2⟩⟩;rw[h1];exact de m
 obtain⟨E,h1,h2⟩:=d (gC u7 (es.map HP)) (λc hc=>by
  obtain⟨e,_,rfl⟩:=cg.mp ((jo AJ).mp hc)
  exact⟨e,rfl⟩) (mQ AJ (jD AJ _))
 refine⟨E,?_,h2,λe=>?_,?_⟩
 ·unfold Gw;rw[h1,cB];exact cP λe _=>Um e
 ·have:=jo AJ (z:=HP e) (l:=es.map HP);rw[h1]at this;constructor
  ·intro h;obtain⟨k,he,q⟩:=cg.mp (this.mp (de h));rw[<-Lk q];exact he
  ·intro h;obtain⟨k,he,q⟩:=cg.mp (this.mpr (de h));rw[<-Lk q];exact he
 ·have:=CM (mQ AJ (jD AJ (es.map HP))) λx v=>(jo AJ).mp v;rw[h1,ai,ai]at this;exact this
def QG(es:List Ed):(gC u7 (es.map HP)).length<=es.length:=by
 have:=CM (mQ AJ (jD AJ (es.map HP))) λx c=>(jo AJ).mp c
 rwa [ai]at this
def MK{es:List Ed}(hl:es.length<=300)(c:es≠[]):gW .sset [.lst (es.map dQ)]=a_ (.lst (Gw es),c_):=by
 cases es with
 |nil=>exact absurd rfl c
 |cons e r=>
   have hs:Ct ((e::r).map Hl)=VT:=wV e
   have h3:(((e::r).map Hl).all λk=>decide (k.map sN=Ct ((e::r).map Hl)))=c_:=by
    rw[bo];intro k d;obtain⟨q,_,rfl⟩:=cg.mp d;rw[hs];exact decide_eq_true (wV q)
   have g:=QG (e::r);show(v9 ((e::r).map dQ)).bind wU=_;rw[JT];show wU ((e::r).map Hl)=_;unfold wU JK;rw[if_pos ⟨by rw[ai];omega,by rw[hs];rfl,by rw[hs];rfl,h3,by rw[cB];exact aa g hl⟩,hs,cB];rfl
structure Tb where
 fs:List Fm
 m0:List Int
 m1:List Int
 m2:List Int
 m3:List Int
 fg:List Int
structure PX(t:Tb):Prop where
 ho:∀f∈t.fs,HK f
 hl:t.fs.length<=12
 h0:t.m0.length<=2
 h1:t.m1.length<=2
 h2:t.m2.length<=2
 h3:t.m3.length<=2
 hf:t.fg.length<=10
abbrev L1(t:Tb):Dat:=.tup [tI t.m0,tI t.m1,tI t.m2,tI t.m3]
abbrev tb(t:Tb):Dat:=.tup [.tup (t.fs.map jf),L1 t,tI t.fg]
def JR(m:List Int):fQ .ne (tI m) (.tup [])=a_ (!m.isEmpty):=by
 cases m with
 |nil=>rfl
 |cons a r=>
   have h:eC 19 ((a::r).map Dat.int)=c_:=oG 19 (a::r);rw[YE h rfl];rfl
def Dq(m:List Int):fQ .eq (tI m) (.tup [])=a_ m.isEmpty:=by
 cases m with
 |nil=>rfl
 |cons a r=>
   have h :=oG 19 (a::r);rw[Y5 h rfl];rfl
def vc(m:List Int):gW .len [tI m]=a_ (.int (m.length:Nat),d_):=by rw[vE,ai]
def mo(m:List Int):im (tI m)=c_:=qG m
def DE(a b:List Int)(h:a.length+b.length<=1000):hJ .add (tI a) (tI b)=a_ (tI (a++b),d_):=by
 rw[DA (by rw[ai,ai];exact aa h (by decide)),<-dS]
abbrev DH:bu:=ab "out"
noncomputable abbrev vJ:bu:=ab "let"
def Ku(a b c:bu)(m:List Int):im (.tup [.str a,.str b,tI m,.str c])=c_:=by
 have h :=qG m;simp[im,jL,h]
def upB:(qB.all λc=>decide (tz c=[c - 32]))=c_:=by kernel_rfl
def up1(h:c∈qB):tz c=[c - 32]:=of_decide_eq_true (bo.mp upB c h)
def Jr(u:List Nat)(f:Nat->List Nat):(zB (T u) λ_ c=>f c)=(u.flatMap f).toArray:=by
 apply Array.ext';simp only[zB];rw[Array.toList_flatten,Array.toList_mapIdx];simp only[]
 have e:∀(u:List Nat),(u.mapIdx λ_ c=>(f c).toArray)=u.map λc=>(f c).toArray:=λu=>by
  apply kB<;>simp
 rw[e,cB,List.flatMap_def]
 congr 1
def tU(h:∀c∈u,c∈qB)(hl:u.length<=1000):jc .upper (.str (T u)) []=a_ (.str (T (u.map (·- 32))),d_):=by
 show(if(T u).length<=1000000 then a_ (Dat.str (rm (T u)),d_)else b_)=_;rw[nX,if_pos (aa hl (by decide))]
 have:rm (T u)=T (u.map (·- 32)):=by
  show(⟨zB (T u) λ_ c=>tz c⟩:bu)=_;rw[Jr];show T _=T _
  congr 1
  clear hl
  induction u with
  |nil=>rfl
  |cons a r d=>
    rw[jS,up1 (h a g7),d λc m=>h c (iE _ m)];rfl
 rw[this]
def Qa(l:List Nat):List Nat:=(T [l.headD 0 - 32]++fe (T l) (a_ 1) b_).cps.toList
def KG(ho:HK f):∃(d:Nat) (j:bu),vf (.str (T f.1)) (.int 0)=a_ (.str (T [d]))/\jc .upper (.str (T [d])) []=a_ (.str (T [d - 32]),d_)/\D7 (.str (T f.1)) (a_ 1) b_=a_ (.str j,d_)/\hJ .add (.str (T [d - 32])) (.str j)=a_ (.str (T (Qa f.1)),d_):=by
 obtain⟨d,l,hc⟩:∃c r,f.1=c::r:=by
  cases q:f.1 with
  |nil=>exact absurd q ho.ne
  |cons c r=>exact⟨c,r,rfl⟩
 have hlen:=ho.ll;have g :=ho.low d (by rw[hc];exact g7);refine⟨d,fe (T f.1) (a_ 1) b_,?_,tU (λc hc=>by rw[aA.mp hc];exact g) (by simp),if_pos (by exact aa hlen (by decide)),?_⟩
 ·rw[hc];exact WO (by rw[<-hc];exact aa hlen (by decide)) (by simp)
 ·have k:=zC (T f.1) (a_ 1) b_;have e3:(T f.1).length=f.1.length:=nX _;have e1:(T [d - 32]).length=1:=nX _;have hh:f.1.headD 0=d:=by rw[hc];rfl
  show(if(T [d - 32]).length+(fe (T f.1) (a_ 1) b_).length<=aB then a_ (Dat.str (T [d - 32]++fe (T f.1) (a_ 1) b_),d_)else b_)=_;rw[if_pos (by rw[e1,eM];omega)];unfold Qa;rw[hh]
noncomputable abbrev uT(l:List Nat):List Nat:=l.map (·- 32)
noncomputable abbrev vO:bu:=ab "all"
abbrev DI:bu:=ab "done"
theorem Dd:∀es:List Ed,jL (es.map dQ)=c_
 |[]=>rfl
 |e::es=>by rw[ax,jL,Ku,Dd es];rfl
def QH(ho:HK f):jc .upper (.str (T f.1)) []=a_ (.str (T (uT f.1)),d_):=tU ho.low (aa ho.ll (by decide))
noncomputable abbrev rf:bu:=ab "num"
abbrev Z8:bu:=ab "0123456789"
noncomputable def qM:List Nat:=[48,49,50,51,52,53,54,55,56,57]
def aa8:Z8=T qM:=by decide +kernel
noncomputable def Vj:List Ed:=[("out",[32],[0],"out"),("done",[32],[0],"out"),("num",[32],[0],"out")]
def NIL:ab ""=T []:=by decide +kernel
abbrev xY:bu:=ab "in"
def PW:ab "w"=T [119]:=by decide +kernel
def PB:ab "b"=T [98]:=by decide +kernel
def PM:ab "m"=T [109]:=by decide +kernel
def PE:ab "e"=T [101]:=by decide +kernel
def BL:ab " "=T [32]:=by decide +kernel
def vi(e:Ed):im (dQ e)=c_:=Ku _ _ _ _
def Uh(es:List Ed)(e:Ed):es.map dQ++[dQ e]=(es++[e]).map dQ:=by rw[dS];rfl
theorem mS{α β:Type}{g:α->List β}{m:Nat}:∀{l:List α},(∀x∈l,(g x).length<=m)->(l.flatMap g).length<=m * l.length
 |[],_=>by simp
 |a::r,h=>by
   rw[jS,az,a8,Nat.mul_add];have:=h a g7;have:=mS λx c=>h x (iE _ c);omega
def ite_le{α:Type}{x y:List α}(h1:x.length<=n)(h2:y.length<=n):(if b=c_ then x else y).length<=n:=by
 split
 ·exact h1
 ·exact h2
def uN{α:Type}{l us vs:List α}{x:α}(h:l=us++x::vs):us.length<l.length:=by
 rw[h,az,a8];exact bC (aX _ _)
section
variable{es:List Ed}
def vx(h1:bE C a ρ=a_ (.str e.1,f1))(h2:bE C b ρ=a_ (sT e.2.1,f2))(h3:bE C c ρ=a_ (tI e.2.2.1,f3))(g:bE C d ρ=a_ (.str e.2.2.2,f4)):Ev C (.tup [a,b,c,d]) ρ (·= dQ e):=
 ⟨dQ e,_,by rw[vv,fN,h1,fN,h2,fN,h3,fN,g];rfl,vi e,rfl⟩
def YO(h:Ev C x ρ (·= d)):bE C (.lst [x]) ρ=a_ (.lst [d],c_):=by
 obtain⟨_,b,ev,hi,rfl⟩:=h;rw[Ub,fN,ev];show a_ (_,(b || im _) && c_)=_;rw[hi,gu];rfl
def AY(h:Ev C x (full ρ) (·= dQ e))(hi:(ρ[i]?).join=a_ (.lst (es.map dQ),c_))(hl:es.length<1000)(k:Go C ss (ρ.set i (a_ (.lst ((es++[e]).map dQ),c_))) Q):Go C (.mut .app i [x]::ss) ρ Q:=
 r8 h hi (by rw[ai];exact aa hl (by decide)) λd hd=>by rw[hd,Uh];exact k
def OC(h:bE C c (full ρ)=a_ (.bl b,f'))(d:Ev C x (full ρ) (·= dQ e))(hi:(ρ[i]?).join=a_ (.lst (es.map dQ),c_))(g:ρ.set i (a_ (.lst (es.map dQ),c_))=ρ)(hl:es.length<1000)(k:Go C ss (ρ.set i (a_ (.lst ((es++if b=c_ then [e]else []).map dQ),c_))) Q):Go C (.ifs c [.mut .app i [x]] []::ss) ρ Q:=by
 refine oO (J:=λρ'=>ρ'=ρ.set i (a_ (.lst ((es++if b=c_ then [e]else []).map dQ),c_))) h (λq=>?_) (λq=>dH ⟨_,rfl,?_⟩) λρ' e=>by rw[e];exact k
 ·rw[if_pos q];exact AY d hi hl (dH ⟨_,rfl,rfl⟩)
 ·rw[if_neg (by rw[q];decide),aM,g]
def Zl(h:bE C a ρ=a_ (.bl x,f))(h':bE C b ρ=a_ (.bl y,g)):∃g,bE C (.and a b) ρ=a_ (.bl (x && y),g):=by
 cases x
 ·exact⟨d_,nF h⟩
 ·exact⟨g,by rw[nF h];exact h'⟩
def or2(h:bE C a ρ=a_ (.bl x,f))(h':bE C b ρ=a_ (.bl y,g)):∃g,bE C (.or a b) ρ=a_ (.bl (x || y),g):=by
 cases x
 ·exact⟨g,by rw[Dm h];exact h'⟩
 ·exact⟨d_,Dm h⟩
end
noncomputable def W6:List (Nat×bu×bu):=[(119,"out","done"),(119,"let","done"),(98,"out","in"),(98,"let","in"),(109,"in","in"),(101,"in","done")]
noncomputable def A6:List (Nat×bu×bu):=[(119,"out","done"),(119,"let","done"),(98,"out","all"),(98,"let","all"),(109,"all","all"),(101,"all","done")]
abbrev Zz(w:Nat×bu×bu):Dat:=.tup [sT [w.1],.str w.2.1,.str w.2.2]
noncomputable abbrev Qg(f:Fm)(w:Nat×bu×bu):List Ed:=if decide (w.1∈f.2.2)=c_ then [(w.2.1,f.1,f.2.1,w.2.2)]else []
abbrev E6(f:Fm):List Ed:=W6.flatMap (Qg f)
def De{α:Type}{b:Bool}{e:α}:(if b=c_ then [e]else []).length<=1:=ite_le (au 1) (aR 1)
def K7(f:Fm):(E6 f).length<=6:=mS λ_ _=>De
def Ks{fs:List Fm}:(im (.tup (fs.map jf)) || d_)=c_:=by
 show(jL (fs.map jf) || d_)=c_;rw[nA];rfl
def GG{fs:List Fm}(hl:fs.length<=12):Cn D (n+1) 6 [.tup (fs.map jf)]=a_ (.lst ((fs.flatMap E6).map dQ),c_):=by
 refine sW (body:=b6) rfl ?_;generalize Cn D n=C;unfold K43.b6;rw[PW,PB,PM,PE];refine fX rfl (qH (I:=λus ρ=>∃k z3 q c d j,ρ=[a_ (.tup (fs.map jf),d_),a_ (.lst ((us.flatMap E6).map dQ),c_),k,z3,q,c,d,j]) (u9 rfl rfl Ks) ⟨_,_,_,_,_,_,rfl⟩ ?_ λρ ⟨_,_,_,_,_,_,h⟩=>by rw[h];exact⟨_,rfl,rfl⟩);rintro us f vs _ v ⟨_,_,_,c,d,j,rfl⟩;have h1:=mS (l:=us) λf _=>K7 f;have h0:=uN v;refine⟨_,rfl,qH (V:=Zz) (xs:=W6) (I:=λws ρ=>∃c d j,ρ=[a_ (.tup (fs.map jf),d_),a_ (.lst ((us.flatMap E6++ws.flatMap (Qg f)).map dQ),c_),a_ (sT f.1,d_),a_ (tI f.2.1,d_),a_ (sT f.2.2,d_),c,d,j]) (u9 rfl rfl rfl) ⟨c,d,j,by rw[nU,aM];rfl⟩ ?_ λρ ⟨_,_,_,h⟩=>by rw[h];exact dH ⟨_,rfl,_,_,_,_,_,_,by rw[eO,jR]⟩⟩;rintro ws w vs _ y ⟨_,_,_,rfl⟩;have h2:=mS (g:=Qg f) (l:=ws) λ_ _=>De;have h3:ws.length<6:=uN y;exact⟨_,rfl,OC (jt rfl rfl Kl) (vx rfl rfl rfl rfl) rfl rfl (by rw[az];omega) (dH ⟨_,rfl,_,_,_,by rw[eO,jR,<-aE];rfl⟩)⟩
def GO:Cn D (n+1) 4 []=a_ (.lst (Vj.map dQ),c_):=by
 have:qu (Cn D (n+1) 4 []) (a_ (.lst (Vj.map dQ),c_))=c_:=by kernel_rfl
 exact oH this
abbrev OB(m:List Int)(e:Ed):Ed:=(e.1,Qa e.2.1,m++e.2.2.1,e.2.2.2)
abbrev GX:Ex:=.tup [.v 0,.bin .add (.jr .upper (.ix (.v 1) (.e_ 0)) []) (.sl (.v 1) (a_ (.e_ 1)) b_),.bin .add (.v 4) (.v 2),.v 3]
theorem xA{m:List Int}(j:m.length<=2)(g:Dat):∀es:List Ed,(∀e∈es,∃f,HK f/\e.2.1=f.1/\e.2.2.1=f.2.1)->qA (pG C 4 d_ (jG 4 [1] [a_ g,a_ (tI m)]) [] GX) (es.map dQ)=a_ ((es.map (OB m)).map dQ,c_)
 |[],_=>rfl
 |e::es,h=>by
   obtain⟨f,hf,e1,e2⟩:=h e g7;obtain⟨z,B,l,q,y,k⟩:=KG hf;have hl:=hf.cl;obtain⟨d,b,ev,hi,rfl⟩:=vx (ρ:=[a_ (.str e.1),a_ (sT e.2.1),a_ (tI e.2.2.1),a_ (.str e.2.2.2),a_ (tI m)]) (e:=OB m e) (a:=.v 0) (b:=.bin .add (.jr .upper (.ix (.v 1) (.e_ 0)) []) (.sl (.v 1) (a_ (.e_ 1)) b_)) (c:=.bin .add (.v 4) (.v 2)) (d:=.v 3) rfl (lD (WG (Kg rfl rfl (by rw[e1];exact l)) q) (VR rfl rfl (by rw[e1];exact y)) (by rw[<-e1]at k;exact k)) (DE m e.2.2.1 (by rw[e2];exact aa (j4 j hl) (by decide))) rfl
   have hc:pG C 4 d_ (jG 4 [1] [a_ g,a_ (tI m)]) [] GX (dQ e)=a_ (a_ (dQ (OB m e),b)):=by
    show(bE C GX [a_ (.str e.1),a_ (sT e.2.1),a_ (tI e.2.2.1),a_ (.str e.2.2.2),a_ (tI m)]).map a_=_;rw[ev];rfl
   rw[ax];unfold qA;rw[hc,xA j g es λe he=>h e (iE _ he)];show a_ (_,(b || im (dQ (OB m e))) && c_)=_;rw[hi,gu];rfl
def GK{n:Nat}{m:List Int}(c:m.length<=2){es:List Ed}(h:∀e∈es,∃f,HK f/\e.2.1=f.1/\e.2.2.1=f.2.1)(hl:es.length<=1000):Cn D (n+1) 7 [.lst (es.map dQ),tI m]=a_ (.lst ((es.map (OB m)).map dQ),c_):=
 fA rfl (v8 (qO rfl (by rw[ai];exact aa hl (by decide)) (xA c _ es h)))
noncomputable abbrev bg(f:Fm)(w:Nat×bu×bu):Bool:=decide (w.1∈f.2.2) && (!decide ([w.1]=[119]) || decide (1<(f.1.length:Int)))
def KP(m:List Int)(f:Fm)(w:Nat×bu×bu):List Ed:=if bg f w=c_ then [(w.2.1,uT f.1,(if(w.2.1 == vO)=c_ then []else m)++f.2.1,w.2.2)]else []
abbrev H6(m:List Int)(f:Fm):List Ed:=A6.flatMap (KP m f)
def KO:(KP m f w).length<=1:=De
def Dh(m:List Int)(f:Fm):(H6 m f).length<=6:=mS λ_ _=>KO
def yy{n:Nat}{m:List Int}(M:m.length<=2){fs:List Fm}(ho:∀f∈fs,HK f)(hl:fs.length<=12):Cn D (n+1) 8 [.tup (fs.map jf),tI m]=a_ (.lst ((fs.flatMap (H6 m)).map dQ),c_):=by
 refine sW rfl ?_;generalize Cn D n=C;refine fX rfl (qH (I:=λus ρ=>∃z3 O R d j k c,ρ=[a_ (.tup (fs.map jf),d_),a_ (tI m,d_),a_ (.lst ((us.flatMap (H6 m)).map dQ),c_),z3,O,R,d,j,k,c]) (u9 rfl rfl Ks) ⟨_,_,_,_,_,_,_,rfl⟩ ?_ λρ ⟨_,_,_,_,_,_,_,h⟩=>by rw[h];exact⟨_,rfl,rfl⟩);rintro us f vs _ B ⟨_,_,_,d,j,k,c,rfl⟩;have h1:=mS (l:=us) λf _=>Dh m f;have h0:=uN B;have hf:=ho f (by rw[B];simp);have y:=hf.ll;have z:=hf.cl;refine⟨_,rfl,qH (V:=Zz) (xs:=A6) (I:=λws ρ=>∃d j k c,ρ=[a_ (.tup (fs.map jf),d_),a_ (tI m,d_),a_ (.lst ((us.flatMap (H6 m)++ws.flatMap (KP m f)).map dQ),c_),a_ (sT f.1,d_),a_ (tI f.2.1,d_),a_ (sT f.2.2,d_),d,j,k,c]) (u9 rfl rfl rfl) ⟨d,j,k,c,by rw[nU,aM];rfl⟩ ?_ λρ ⟨_,_,_,_,h⟩=>by rw[h];exact dH ⟨_,rfl,_,_,_,_,_,_,_,by rw[eO,jR]⟩⟩;rintro ws w vs _ U ⟨_,_,_,c,rfl⟩;have h2:=mS (g:=KP m f) (l:=ws) λ_ _=>KO;have h3:ws.length<6:=uN U;refine⟨_,rfl,?_⟩;rw[eO,jR,<-aE];have L:(us.flatMap (H6 m)++ws.flatMap (KP m f)).length<1000:=by rw[az];omega
 generalize us.flatMap (H6 m)++ws.flatMap (KP m f)=es at L ⊢;obtain⟨g2,W⟩:=or2 (ρ:=full [a_ (.tup (fs.map jf),d_),a_ (tI m,d_),a_ (.lst (es.map dQ),c_),a_ (sT f.1,d_),a_ (tI f.2.1,d_),a_ (sT f.2.2,d_),a_ (sT [w.1],d_),a_ (.str w.2.1,d_),a_ (.str w.2.2,d_),c]) (a:=.cmp .ne (.v 6) (.con (sT [119]))) (b:=.cmp .gt (.blt .len [.v 3]) (.e_ 1)) (jt rfl rfl (ne_T _ _)) (jt (pq rfl (len_T (aa y (by decide)))) rfl rfl);obtain⟨g3,Y⟩:=Zl (jt (a:=.v 6) (e:=.v 5) rfl rfl Kl) W;refine oO (J:=λρ=>∃c,ρ=[a_ (.tup (fs.map jf),d_),a_ (tI m,d_),a_ (.lst ((es++KP m f w).map dQ),c_),a_ (sT f.1,d_),a_ (tI f.2.1,d_),a_ (sT f.2.2,d_),a_ (sT [w.1],d_),a_ (.str w.2.1,d_),a_ (.str w.2.2,d_),c]) Y (λq=>?_) (λq=>dH ⟨_,rfl,c,by unfold KP;rw[if_neg (by rw[show bg f w=d_ from q];decide),aM];rfl⟩) λρ ⟨c,h⟩=>dH ⟨_,rfl,_,_,_,c,h⟩
 have Z:bE C (.ite (.cmp .eq (.v 7) (.con (.str vO))) (.tup []) (.v 1)) (full [a_ (.tup (fs.map jf),d_),a_ (tI m,d_),a_ (.lst (es.map dQ),c_),a_ (sT f.1,d_),a_ (tI f.2.1,d_),a_ (sT f.2.2,d_),a_ (sT [w.1],d_),a_ (.str w.2.1,d_),a_ (.str w.2.2,d_),c])=a_ (tI (if(w.2.1 == vO)=c_ then []else m),w.2.1 == vO):=by
  rw[Fk (jt rfl rfl Y6) rfl];cases w.2.1 == vO<;>rfl
 have h5:(if(w.2.1 == vO)=c_ then []else m).length<=2:=ite_le (aR _) M;refine fM (jl Z (mo _)) (AY (e:=(w.2.1,uT f.1,(if(w.2.1 == vO)=c_ then []else m)++f.2.1,w.2.2)) (vx rfl (WG rfl (QH hf)) (DE _ _ (aa (j4 h5 z) (by decide))) rfl) rfl L (dH ⟨_,rfl,_,by unfold KP;rw[if_pos (q)];rfl⟩))
abbrev pF(t:Tb)(p:Nat×Int):List Ed:=[(DH,[p.1],t.m2++[p.2],rf),(DI,[p.1],t.m2++[p.2],rf),(rf,[p.1],[p.2],rf)]
abbrev Bd(t:Tb):List (Nat×Int):=qM.zip t.fg
abbrev ZO(p:Nat×Int):Dat:=.tup [sT [p.1],.int p.2]
theorem DS:∀(l:List Nat)(g:List Int),n5 ((l.map λc=>T [c]).map Dat.str) (g.map Dat.int)=(l.zip g).map ZO
 |[],_=>by simp[n5]
 |_::_,[]=>by simp[n5]
 |c::l,x::g=>by
   have:=DS l g;simp only[ax,n5,HD,this]
abbrev rF(t:Tb):List Ed:=if t.fg.isEmpty=c_ then []else(rf,[],t.m3,vJ)::(Bd t).flatMap (pF t)
def Bc(t:Tb):(Bd t).length<=10:=by
 rw[Mo];exact gm _ _
def Zj : es++[a]++[b]++[c]=es++[a,b,c]:=by simp
def Nc{t:Tb}(h2:t.m2.length<=2):Cn D (n+1) 5 [L1 t,tI t.fg]=a_ (.lst ((rF t).map dQ),c_):=by
 refine sW (body:=b5) rfl ?_;generalize Cn D n=C;have hc:bE C (.cmp .eq (.v 1) (.tup [])) (full [a_ (L1 t,d_),a_ (tI t.fg,d_),b_,b_,b_])=a_ (.bl t.fg.isEmpty,d_):=jt rfl rfl (Dq t.fg);unfold K43.b5 rF;revert hc;cases t.fg.isEmpty
 ·intro hc;refine xC hc (fX (ds:=[(rf,[],t.m3,vJ)].map dQ) (by exact YO (vx rfl rfl rfl rfl)) (qH (V:=ZO) (xs:=Bd t) (ρ0:=[a_ (L1 t,d_),a_ (tI t.fg,d_),a_ (.lst ([(rf,[],t.m3,vJ)].map dQ),c_),b_,b_]) (I:=λus ρ=>∃z3 j,ρ=[a_ (L1 t,d_),a_ (tI t.fg,d_),a_ (.lst (((rf,[],t.m3,vJ)::us.flatMap (pF t)).map dQ),c_),z3,j]) ?_ ⟨_,_,rfl⟩ ?_ λρ ⟨_,_,h⟩=>by rw[h];exact⟨_,rfl,rfl⟩))
  ·show bD (hX (λds=>(ds,[a_ (L1 t,d_),a_ (tI t.fg,d_),a_ (.lst ([(rf,[],t.m3,vJ)].map dQ),c_),b_,b_])) (a_ (n5 ((dY Z8).map Dat.str) (t.fg.map Dat.int)))) (λx:List Dat×dI=>jd (iV d_ [3,4]) (dP C _) x.1 x.2)=_;rw[yu,DS];rfl
  ·rintro us p vs _ k ⟨_,_,rfl⟩;have h0:=uN k;have h1:=Bc t;have h3:=mS (g:=pF t) (l:=us) λ_ _=>au 3;refine⟨_,rfl,?_⟩;rw[eO,<-nV];have c:((rf,[],t.m3,vJ)::us.flatMap (pF t)).length<900:=by rw[a8];omega
   generalize (rf,[],t.m3,vJ)::us.flatMap (pF t)=es at c ⊢;have d:=DE t.m2 [p.2] (by exact aG h2 (by decide));exact AY (e:=(DH,[p.1],t.m2++[p.2],rf)) (vx rfl rfl d rfl) rfl (aa c (by decide)) (AY (e:=(DI,[p.1],t.m2++[p.2],rf)) (vx rfl rfl d rfl) rfl (by simp;exact aG c (by decide)) (AY (vx rfl rfl rfl rfl) rfl (by simp;exact bC (aG c (by decide))) (dH ⟨_,rfl,_,_,by rw[Zj];rfl⟩)))
 ·intro hc;exact Qb hc rfl rfl
abbrev sQ(e:Ed):Bool:=!(e.1 == vJ)
def zl(A B:List Ed)(h:A.length+B.length<=1000):hJ .add (.lst (A.map dQ)) (.lst (B.map dQ))=a_ (.lst ((A++B).map dQ),c_):=by
 rw[p8 (by rw[ai,ai];exact aa h (by decide)),<-dS,Dd]
abbrev s0(t:Tb):List Ed:=t.fs.flatMap E6
abbrev s1(t:Tb):List Ed:=if t.m0.isEmpty=c_ then s0 t else s0 t++(s0 t).map (OB t.m0)
abbrev Ac(t:Tb):List Ed:=if t.m1.isEmpty=c_ then s1 t else s1 t++t.fs.flatMap (H6 t.m1)
abbrev s3(t:Tb):List Ed:=if t.fg.isEmpty=c_ then(Ac t).filter sQ else Ac t
abbrev got(t:Tb):List Ed:=s3 t++Vj++rF t
def CA{t:Tb}(hl:t.fs.length<=12):(s0 t).length<=72:=by
 have:(s0 t).length<=_:=mS λf _=>K7 f;omega
def IV{t:Tb}(hl:t.fs.length<=12):(s1 t).length<=144:=by
 have h:=CA hl;exact ite_le (aa h (by decide)) (by rw[az,ai];exact aa (j4 h h) (by decide))
def Cz{t:Tb}(hl:t.fs.length<=12):(Ac t).length<=216:=by
 have h:=IV hl;have h':=mS (l:=t.fs) λf _=>Dh t.m1 f;exact ite_le (aa h (by decide)) (by rw[az];omega)
def IU{t:Tb}(hl:t.fs.length<=12):(s3 t).length<=216:=ite_le (aa (df _ _) (Cz hl)) (Cz hl)
def Jj(t:Tb):(rF t).length<=31:=by
 have h:=Bc t;have h':=mS (g:=pF t) (l:=Bd t) λ_ _=>au 3;exact ite_le (aR _) (by rw[a8];omega)
abbrev e5(t:Tb)(es:List Ed):dI:=[a_ (tb t,d_),a_ (.tup (t.fs.map jf),d_),a_ (L1 t,d_),a_ (.lst (es.map dQ),c_)]
def TR(t:Tb):im (L1 t)=c_:=by
 simp only[im,jL,iF,aj];exact⟨mo _,mo _,mo _,mo _⟩
def Qc{B:List Ed}(h:bE C c (full (e5 t A))=a_ (.bl (!b),f))(d:bE C y (full (e5 t A))=a_ (.lst (B.map dQ),c_))(k:Go C ss (e5 t (if b=c_ then A else B)) Q):Go C (.ifs c [.set 3 y] []::ss) (e5 t A) Q:=by
 refine oO (J:=λρ=>ρ=e5 t (if b=c_ then A else B)) h (λq=>fX d (dH ⟨_,rfl,?_⟩)) (λq=>dH ⟨_,rfl,?_⟩) λρ h=>by rw[h];exact k
 ·rw[if_neg (by simpa using q)];rfl
 ·rw[if_pos (by simpa using q)]
def GL(ht:PX t)(c:(got t).length<=300):Cn D (n+2) 9 [tb t]=a_ (.lst (Gw (got t)),c_):=by
 have g:=GG (n:=n) ht.hl
 have j:=GK (n:=n) ht.h0 (λe he=>by
  obtain⟨f,hf,h⟩:=eo.mp he;obtain⟨w,_,h⟩:=eo.mp h;unfold Qg at h;split at h
  ·rw[aA.mp h];exact⟨f,ht.ho f hf,rfl,rfl⟩
  ·cases h) (aa (CA ht.hl) (by decide))
 have k:=yy (n:=n) ht.h1 ht.ho ht.hl;have v:=GO (n:=n);have y:=Nc (n:=n) ht.h2;have d:=CA ht.hl;have M:=IV ht.hl;have z:=Cz ht.hl;have B:=IU ht.hl;have O:=mS (l:=t.fs) λf _=>Dh t.m1 f;have L:=ht.hl;have R:=Jj t;refine sW rfl ?_;refine fM (jl rfl (nA _)) (fM (jl rfl (TR t)) (fX g ?_));refine Qc (jt rfl rfl (JR _)) (lD rfl j (zl _ _ (by rw[ai];exact aa (j4 d d) (by decide)))) ?_;refine Qc (A:=s1 t) (jt rfl rfl (JR _)) (lD rfl k (zl _ _ (by omega))) ?_;refine oO (J:=λρ=>ρ=e5 t (s3 t)) (jt rfl rfl (Dq _)) (λq=>fX (ud sQ rfl (aa z (by decide)) vi λe _=>⟨d_,jt rfl rfl YF⟩) (dH ⟨_,rfl,?_⟩)) (λq=>dH ⟨_,rfl,?_⟩) ?_
 ·show _=e5 t (if t.fg.isEmpty=c_ then(Ac t).filter sQ else Ac t);rw[if_pos q];rfl
 ·show _=e5 t (if t.fg.isEmpty=c_ then(Ac t).filter sQ else Ac t);rw[if_neg (show¬t.fg.isEmpty=c_ by rw[q];decide)]
 ·rintro _ rfl;exact jE (pq (lD (lD rfl v (zl _ _ (by exact Nat.add_le_add_right (aa B (by decide)) _))) y (zl _ _ (by rw[az];show _+3+_<=_;omega))) (MK c (by intro e;simp[Vj]at e))) rfl
theorem Bf:∀{a b:List Sx}{ρ ρ':dI},dP C a ρ=a_ (.nx ρ')->dP C (a++b) ρ=dP C b ρ'
 |[],_,ρ,ρ',h=>by cases h;rfl
 |s::a,b,ρ,ρ',h=>by
   obtain⟨o,h1,h2⟩:=cY h
   match o,h1,h2 with
   |.nx ρ1,h1,h2=>
     rw[nV,kj h1];exact Bf h2
noncomputable abbrev l8:List bu:=["out","in","done","num","let","all"]
theorem Eu{g g':bu->Dat}{s:bu}:∀{l:List bu},l.Nodup->s∈l->(∀s'∈l,s'≠s->g' s'=g s')->∃j,posK (.inr s) (l.map cj)=a_ j/\(l.map g)[j]?=a_ (g s)/\(l.map g).set j (g' s)=l.map g'
 |a::r,c,hs,h=>by
   obtain⟨h1,h2⟩:=aZ.mp c;by_cases q:a=s
   ·subst q;refine⟨0,if_pos rfl,rfl,?_⟩;have :=cP λs' m=>(h s' (iE _ m) λe=>h1 (e▸m)).symm;rw[ax,List.set_cons_zero,ax,this]
   ·obtain⟨j,e1,e2,e3⟩:=Eu h2 ((aw.mp hs).resolve_left λe=>q e.symm) λs' m=>h s' (iE _ m);refine⟨j+1,?_,e2,?_⟩
    ·show(if(cj a)=.inr s then a_ 0 else(posK (.inr s) (r.map cj)).map (·+ 1))=_;rw[if_neg λe=>q (lM e),e1];rfl
    ·rw[ax,List.set_cons_succ,e3,ax,h a g7 q]
noncomputable abbrev FJ(E:List Ed)(s:bu):List Ed:=E.filter λe=>e.1 == s
abbrev Qf(E:List Ed)(s:bu):Dat:=.lst ((FJ E s).map dQ)
abbrev n9(E:List Ed):Dat:=.dct (l8.map cj) (l8.map (Qf E))
def VN:l8.Nodup:=by decide +kernel
def RT{E:List Ed}(hl:E.length<1000)(hs:e.1∈l8):S4 .app (.str e.1) [dQ e] (n9 E)=a_ (n9 (E++[e])):=by
 obtain⟨j,e1,e2,e3⟩:=Eu (g':=Qf (E++[e])) VN hs λs' _ q=>by
  unfold Qf FJ;rw[HG,List.filter_cons_of_neg (by simpa using λh=>q h.symm),Mr,aM]
 have hb:(FJ E e.1).length<=E.length:=df _ _
 have c:kJ .app (Qf E e.1) [dQ e]=a_ (Qf (E++[e]) e.1):=by
  unfold Qf FJ;rw[xf (by rw[ai];exact aG hb (aa hl (by decide))),HG,List.filter_cons_of_pos (by simp),Mr,dS];rfl
 show((posK (.inr e.1) (l8.map cj)).bind λj=>((l8.map (Qf E))[j]?).bind λd=>(kJ .app d [dQ e]).map λd'=>Dat.dct (l8.map cj) ((l8.map (Qf E)).set j d'))=_;rw[e1,bw,e2,bw,c,bV,e3]
abbrev Bl(d:Dat)(E:List Ed)(z:g_):dI:=[a_ (d,d_),a_ (n9 E,c_),a_ (.str "all",d_),z]
def Kd:List Sx:=[.U7 .app 1 (.ix (.v 3) (.e_ 0)) [.v 3]]
def UG{E:List Ed}(hl:E.length<1000)(hs:e.1∈l8):dP C Kd (Bl d E (a_ (dQ e,d_)))=a_ (.nx (Bl d (E++[e]) (a_ (dQ e,d_)))):=by
 have hp:=RT hl hs;have hi:=vi e;refine pY ?_;show((bE C (.ix (.v 3) (.e_ 0)) (full (Bl d E (a_ (dQ e,d_))))).bind λy=>(nE C [.v 3] (full (Bl d E (a_ (dQ e,d_))))).bind λx=>if x.2=c_ then S6 .app 1 (Bl d E (a_ (dQ e,d_))) y.1 x.1 (a_ (n9 E,c_))else b_)=_;have c:bE C (.ix (.v 3) (.e_ 0)) (full (Bl d E (a_ (dQ e,d_))))=a_ (.str e.1,d_):=rfl
 have g:nE C [.v 3] (full (Bl d E (a_ (dQ e,d_))))=a_ ([dQ e],c_):=by
  show a_ ([dQ e],(d_ || im (dQ e)) && c_)=_;rw[hi];rfl
 rw[c,g,bw];show(S4 .app (.str e.1) [dQ e] (n9 E)).map _=_;rw[hp];rfl
theorem Kb:∀(es E:List Ed)(z:g_),E.length+es.length<1000->(∀e∈es,e.1∈l8)->∃c,jd (iV c_ [3]) (dP C Kd) (es.map dQ) (Bl d E z)=a_ (.nx (Bl d (E++es) c))
 |[],E,z,_,_=>⟨z,by rw[aM];rfl⟩
 |e::es,E,z,hl,hs=>by
   rw[a8]at hl;obtain⟨c,g⟩:=Kb es (E++[e]) (a_ (dQ e,d_)) (by rw[az,List.length_singleton];omega) λx j=>hs x (iE _ j);refine⟨c,?_⟩;rw[aE]at g;show((dP C Kd (Bl d E (a_ (dQ e,d_)))).bind (wL _))=_;rw[UG (aG (aX _ _) hl) (hs e g7)];exact g
def Ym:dP C [.set 1 .qN,.loop c_ [2] (.itv (.con (.tup [(.str (ab "out")),(.str (ab "in")),(.str (ab "done")),(.str (ab "num")),(.str (ab "let")),(.str (ab "all"))]))) [(.mut .seti 1 [(.lst []),(.v 2)])]] [a_ (d,d_),b_,b_,b_]=a_ (.nx (Bl d [] b_)):=by kernel_rfl
def RK{E:List Ed}(c:Cn D (n+2) 9 [tb t]=a_ (.lst (E.map dQ),c_))(hl:E.length<=300)(hs:∀e∈E,e.1∈l8):Cn D (n+3) 10 [tb t]=a_ (n9 E,c_):=by
 refine fA rfl ?_;show dP (Cn D (n+2)) ([.set 1 .qN,.loop c_ [2] (.itv (.con (.tup [(.str (ab "out")),(.str (ab "in")),(.str (ab "done")),(.str (ab "num")),(.str (ab "let")),(.str (ab "all"))]))) [(.mut .seti 1 [(.lst []),(.v 2)])]]++[.loop c_ [3] (.itv (.call 9 [.v 0])) Kd,.qv 1]) [a_ (tb t,d_),b_,b_,b_]=_;rw[Bf Ym];obtain⟨d,hz⟩:=Kb E [] b_ (by show 0+_<_;exact aG (fF hl _) (by decide)) hs
 have h1:ot (Cn D (n+2)) (.loop c_ [3] (.itv (.call 9 [.v 0])) Kd) (Bl (tb t) [] b_)=a_ (.nx (Bl (tb t) E d)):=by
  rw[xG];have:bE (Cn D (n+2)) (.call 9 [.v 0]) (full (Bl (tb t) [] b_))=a_ (.lst (E.map dQ),c_):=c;rw[this];exact hz
 rw[kj h1];rfl
noncomputable abbrev pre(x:List Nat)(p:Nat)(e:Ed):Bool:=decide (e.2.1 <+: x.drop p)
def VJ{x:List Nat}(hp:p<=x.length):hZ (T x) (T y) (p:Int)=decide (y <+: x.drop p):=by
 have e1:PySem.fromIndex (T x).length (p)=p:=by
  rfl
 unfold hZ;rw[e1];have d:(T x).length=x.length:=aO;have c:(T y).length=y.length:=aO;unfold Builtin.Str.subAt;rw[c]
 have e2:((T x).cps.extract p (p+y.length) == (T y).cps)=decide ((x.drop p).take y.length=y):=by
  rw[show(T x).cps.extract p (p+y.length)=((x.drop p).take y.length).toArray by simp[List.extract_toArray,List.extract_eq_take_drop]];by_cases h:(x.drop p).take y.length=y
  ·rw[h,decide_eq_true rfl];exact beq_self_eq_true _
  ·rw[decide_eq_false h];exact beq_false_of_ne λz=>h (by simpa using z)
 rw[e2];by_cases h:y <+: x.drop p
 ·have h1:=h.length_le;rw[eX]at h1;rw[decide_eq_true h,decide_eq_true (nO.mp h).symm,decide_eq_true (by omega)];rfl
 ·rw[decide_eq_false h];by_cases q:(x.drop p).take y.length=y
  ·exact absurd (nO.mpr q.symm) h
  ·rw[decide_eq_false q,lV]
def Jc{es:List Ed}{x:List Nat}(hp:p<=x.length)(hl:es.length<=1000):Cn D (n+1) 12 [.lst (es.map dQ),.str (T x),.int (p:Nat)]=a_ (.lst ((es.filter (pre x p)).map dQ),c_):=
 fA rfl (v8 (ud (pre x p) rfl hl vi λe _=>⟨d_,by
  show a_ (Dat.bl (hZ (T x) (T e.2.1) (p:Int)),d_)=_
  rw[VJ hp]⟩))
abbrev Row:=bu->Option Nat
noncomputable def vD:Option Nat->Dat
 |none=>.non
 |some k=>.int (k:Nat)
abbrev dD(l:List bu)(g:Row):Dat:=.dct (l.map cj) (l.map λs=>vD (g s))
theorem CZ{g:Row}{s:bu}:∀{l:List bu},s∈l->pD (.inr s) (l.map cj) (l.map λs=>vD (g s))=a_ (vD (g s))
 |a::r,h=>by
   show(if(cj a)=.inr s then a_ (vD (g a))else pD (.inr s) (r.map cj) (r.map λs=>vD (g s)))=_;by_cases q:a=s
   ·rw[if_pos (by rw[q]),q]
   ·rw[if_neg λe=>q (lM e)];exact CZ ((aw.mp h).resolve_left λe=>q e.symm)
noncomputable def Ob:Nat->List Nat->Nat
 |a,[]=>a
 |a,b::r=>Ob (if b<a then b else a) r
def uX:List Nat->Option Nat
 |[]=>b_
 |a::r=>a_ (Ob a r)
theorem P0:∀(r:List Nat)(a:Nat),S9 (a:Int) (r.map λk:Nat=>(k:Int))=(Ob a r:Nat)
 |[],_=>rfl
 |b::r,a=>by
   show S9 (if(b:Int)<(a:Int)then(b:Int)else(a:Int)) _=_;rw[show(if(b:Int)<(a:Int)then(b:Int)else(a:Int))=((if b<a then b else a:Nat):Int) by split<;>split<;>omega];exact P0 r _
theorem J0:∀(r:List Nat)(a:Nat),Ob a r∈a::r/\∀k∈a::r,Ob a r<=k
 |[],a=>⟨by simp[Ob],λk h=>by simp[Ob]at *;exact ae h.symm⟩
 |b::r,a=>by
   obtain⟨h1,h2⟩:=J0 r (if b<a then b else a);show Ob (if b<a then b else a) r∈_/\∀k∈_,Ob (if b<a then b else a) r<=k;refine⟨?_,λk c=>?_⟩
   ·rcases aw.mp h1 with h|h
    ·rw[h];split<;>simp
    ·exact iE _ (iE _ h)
   ·have h3:=h2 _ g7;have q:(if b<a then b else a)<=a/\(if b<a then b else a)<=b:=by split<;>omega
    rcases aw.mp c with rfl|c
    ·exact aa h3 q.1
    ·rcases aw.mp c with rfl|c
     ·exact aa h3 q.2
     ·exact h2 k (iE _ c)
def xj:uX l=a_ m↔m∈l/\∀k∈l,m<=k:=by
 cases l with
 |nil=>exact⟨λh=>(nomatch h),λh=>(nomatch h.1)⟩
 |cons a r=>
   obtain⟨h1,h2⟩:=J0 r a;constructor
   ·intro h;cases h;exact⟨h1,h2⟩
   ·intro h;exact congrArg a_ (bA (h2 m h.1) (h.2 _ h1))
def G4:uX l=b_↔l=[]:=by
 cases l<;>simp[uX]
def IX(h1:e.2.1.length<=1000000)(d:kd[p+e.2.1.length]?=a_ (dD l g))(hs:e.2.2.2∈l) :
  Cn D (n+1) 13 [dQ e,.int (p:Nat),.lst kd]=a_ (vD ((g e.2.2.2).map λr=>e.2.2.1.length+r),d_):=by
 refine fA rfl ?_
 have j:bE (Cn D n) (.ix (.ix (.v 2) (.bin .add (.v 1) (.blt .len [.ix (.v 0) (.e_ 1)]))) (.ix (.v 0) (.e_ 3))) [a_ (dQ e),a_ (.int (p:Nat)),a_ (.lst kd),b_]=a_ (vD (g e.2.2.2),d_):=by
  have c:rd [Dat.str e.1,.str (T e.2.1),.tup (e.2.2.1.map Dat.int),.str e.2.2.2] 1=a_ (.str (T e.2.1)):=rfl;have i3:rd [Dat.str e.1,.str (T e.2.1),.tup (e.2.2.1.map Dat.int),.str e.2.2.2] 3=a_ (.str e.2.2.2):=rfl
  have i2:rd kd ((p:Int)+(e.2.1.length:Nat))=a_ (dD l g):=by
   rw[show(p:Int)+((e.2.1.length:Nat):Int)=((p+e.2.1.length:Nat):Int) by rfl];exact km d
  have k:vf (dD l g) (.str e.2.2.2)=a_ (vD (g e.2.2.2)):=CZ hs;simp only[xI,my,p0,yU,jh,cu,Fh,nR,bO,HB,bV,bw,P6,WR,c,i3,len_T h1,nH,i2,k]
 have s1:ot (Cn D n) (.set 3 (.ix (.ix (.v 2) (.bin .add (.v 1) (.blt .len [.ix (.v 0) (.e_ 1)]))) (.ix (.v 0) (.e_ 3)))) [a_ (dQ e,d_),a_ (.int (p:Nat),d_),a_ (.lst kd,d_),b_]=a_ (.nx [a_ (dQ e,d_),a_ (.int (p:Nat),d_),a_ (.lst kd,d_),a_ (vD (g e.2.2.2),d_)]):=by
  rw[ub];show bD (bE (Cn D n) _ [a_ (dQ e),a_ (.int (p:Nat)),a_ (.lst kd),b_]) _=_;rw[j];cases g e.2.2.2<;>rfl
 show dP (Cn D n) (_::_) [a_ (dQ e,d_),a_ (.int (p:Nat),d_),a_ (.lst kd,d_),b_]=_;rw[kj s1]
 cases q:g e.2.2.2 with
 |none=>rfl
 |some r=>
   have y:bE (Cn D n) (.ite (.cmp .isn (.v 3) (.con .non)) (.con .non) (.bin .add (.blt .len [.ix (.v 0) (.e_ 2)]) (.v 3))) [a_ (dQ e),a_ (.int (p:Nat)),a_ (.lst kd),a_ (.int (r:Nat))]=a_ (.int ((e.2.2.1.length+r:Nat):Int),d_):=by
    have c:rd [Dat.str e.1,.str (T e.2.1),.tup (e.2.2.1.map Dat.int),.str e.2.2.2] 2=a_ (.tup (e.2.2.1.map Dat.int)):=rfl
    have b3:bE (Cn D n) (.bin .add (.blt .len [.ix (.v 0) (.e_ 2)]) (.v 3)) [a_ (dQ e),a_ (.int (p:Nat)),a_ (.lst kd),a_ (.int (r:Nat))]=a_ (.int ((e.2.2.1.length+r:Nat):Int),d_):=by
     simp only[xI,my,p0,yU,jh,cu,Fh,nR,bO,HB,bV,bw,P6,c,vE,ai,nH];rw[show((e.2.2.1.length:Nat):Int)+((r:Nat):Int)=((e.2.2.1.length+r:Nat):Int) by rfl]
    exact b3
   exact v8 y
def TQ(o:Option Nat):im (vD o)=c_:=by cases o<;>rfl
theorem Cp:∀ws:List (Option Nat),(ws.filter wz).map vD=(ws.filterMap id).map λk:Nat=>Dat.int (k:Nat)
 |[]=>rfl
 |none::r=>Cp r
 |some k::r=>by
   show Dat.int (k)::(r.filter wz).map vD=Dat.int (k)::_;rw[Cp r]
theorem Kq:∀ks:List Nat,sV (ks.map λk:Nat=>Dat.int (k:Nat))=a_ (ks.map λk:Nat=>(k:Int))
 |[]=>rfl
 |k::r=>by show(sV _).map _=_;rw[Kq r];rfl
def WE(ks:List Nat):Oa (.lst (ks.map λk:Nat=>Dat.int (k:Nat)))=a_ (vD (uX ks),d_):=by
 show(sV _).map _=_;rw[Kq]
 cases ks with
 |nil=>rfl
 |cons a r=>
   show a_ (Dat.int (S9 (a) (r.map λk:Nat=>(k))),d_)=_;rw[P0];rfl
def RI{n:Nat}{es:List Ed}{x:List Nat}{p:Nat}{q:List Dat}{r:Ed->Option Nat}(hp:p<=x.length)(hl:es.length<=1000)
  (h:∀e∈es,pre x p e=c_->e.2.1.length<=1000000/\∃l g,q[p+e.2.1.length]?=a_ (dD l g)/\e.2.2.2∈l/\g e.2.2.2=r e) :
  Cn D (n+2) 14 [.lst (es.map dQ),.str (T x),.int (p:Nat),.lst q]=a_ (vD (uX ((es.filter (pre x p)).filterMap λe=>(r e).map λk=>e.2.2.1.length+k)),d_):=by
 have z:(es.filter (pre x p)).length<=1000:=aa (df _ _) hl;have d:=Jc (n:=n) hp hl
 have j:∀e∈es.filter (pre x p),Cn D (n+1) 13 [dQ e,.int (p:Nat),.lst q]=a_ (vD ((r e).map λk=>e.2.2.1.length+k),d_):=λe he=>by
  obtain⟨h1,h2⟩:=bJ.mp he;obtain⟨h3,l,g,J,h5,L⟩:=h e h1 h2;rw[IX h3 J h5,L]
 refine sW rfl ?_;generalize Cn D (n+1)=C at d j ⊢;generalize es.filter (pre x p)=fs at z d j ⊢;refine fX (ds:=(fs.map λe=>(r e).map λk=>e.2.2.1.length+k).map vD) ?_ (jE ?_ rfl)
 ·rw[cB];exact FC (by rw[yS];show bD (C 12 [.lst (es.map dQ),.str (T x),.int (p:Nat)]) _=_;rw[d];rfl) z (λ_ _=>TQ _) λe he=>⟨d_,j e he⟩
 ·generalize B:(fs.map λe=>(r e).map λk=>e.2.2.1.length+k)=ws;have M:(fs.filterMap λe=>(r e).map λk=>e.2.2.1.length+k)=ws.filterMap id:=by rw[<-B,HH];rfl
  have c2:=ud (C:=C) (ρ:=[a_ (.lst (es.map dQ)),a_ (.str (T x)),a_ (.int (p:Nat)),a_ (.lst q),a_ (.lst (ws.map vD))]) (caps:=[]) (it:=.itv (.v 4)) (c:=.cmp .nisn (.v 0) (.con .non)) wz rfl (by rw[<-B,ai];exact z) TQ λo _=>⟨d_,by cases o<;>rfl⟩
  rw[Cp]at c2;show bD (bE C (.comp 1 c_ [] (.itv (.v 4)) [(.cmp .nisn (.v 0) (.con .non))] (.v 0)) [a_ (.lst (es.map dQ)),a_ (.str (T x)),a_ (.int (p:Nat)),a_ (.lst q),a_ (.lst (ws.map vD))]) (λy=>Oa y.1)=_;rw[c2,M];exact WE _
noncomputable abbrev tK:List bu:=["out","done","num"]
noncomputable abbrev xX:List bu:=["all","let","num","done","in","out"]
abbrev Bq(E:List Ed)(x:List Nat)(p:Nat)(s:bu)(r:Ed->Option Nat):List Nat:=((FJ E s).filter (pre x p)).filterMap λe=>(r e).map λk=>e.2.2.1.length+k
abbrev best(E:List Ed)(x:List Nat)(p:Nat)(s:bu)(r:Ed->Option Nat):Option Nat:=uX (Bq E x p s r)
def RO(E:List Ed)(x:List Nat)(p:Nat)(F:Nat->Row):Option Nat:=best E x p "let" λe=>F (p+e.2.1.length) e.2.2.2
def V2(E:List Ed)(x:List Nat)(p:Nat)(F:Nat->Row):Row:=λs=>if p=x.length/\s∈tK then a_ 0 else best E x p s λe=>if e.2.1=[]then RO E x p F else F (p+e.2.1.length) e.2.2.2
def tab(E:List Ed)(x:List Nat):Nat->Nat->Row
 |0=>λ_ _=>b_
 |k+1=>λq=>if q+k=x.length then V2 E x q (tab E x k)else tab E x k q
def lW(E:List Ed)(x:List Nat):Nat->Row:=tab E x (x.length+1)
structure gE(E:List Ed):Prop where
 b:∀e∈E,e.1∈l8
 o:∀e∈E,e.2.2.2∈l8
 t:∀e∈E,e.2.1.length<=1000
 n:∀e∈E,e.2.1=[]->e.1="num"/\e.2.2.2="let"
 l:E.length<=300
variable{x:List Nat}
theorem yn:∀(k j q:Nat),x.length<q+k->tab E x (k+j) q=tab E x k q
 |k,0,q,_=>rfl
 |k,j+1,q,h=>by
   show(if q+(k+j)=x.length then _ else tab E x (k+j) q)=_;rw[if_neg (by omega),yn k j q h]
def Es(hp:p<=x.length):lW E x p=V2 E x p (tab E x (x.length - p)):=by
 have e:x.length+1=(x.length - p+1)+p:=by omega
 unfold lW;rw[e,yn _ _ _ (by omega)];show(if p+(x.length - p)=x.length then _ else _)=_;rw[if_pos (eN hp)]
def RW(h:p<q)(hp:p<=x.length):tab E x (x.length - p) q=lW E x q:=by
 by_cases c:q<=x.length
 ·unfold lW;rw[show x.length+1=(x.length - p)+(p+1) by omega,yn _ _ _ (by omega)]
 ·unfold lW
  have z:∀k,tab E x k q=tab E x 0 q:=λk=>by
   have:=yn (E:=E) (x:=x) 0 k q (n4 c)
   rwa [gG]at this
  rw[z,z (x.length+1)]
def tj(h:∀e∈E,e.1=s->r e=r' e):Bq E x p s r=Bq E x p s r':=by
 have d:∀{l:List Ed}{f c:Ed->Option Nat},(∀e∈l,f e=c e)->l.filterMap f=l.filterMap c:=λ{l f c}h=>by
  induction l with
  |nil=>rfl
  |cons a r g=>rw[gZ,gZ,h a g7,g λe he=>h e (iE _ he)]
 refine d λe he=>?_;have h1:=(bJ.mp (bJ.mp he).1)
 rw[h e h1.1 (by simpa using h1.2)]
def Nx(g:gE E)(hp:p<=x.length):lW E x p "let"=RO E x p (tab E x (x.length - p)):=by
 rw[Es hp];show(if p=x.length/\("let":bu)∈tK then a_ 0 else _)=_;rw[if_neg (λh=>absurd h.2 (by decide))];unfold RO;show uX _=uX _;rw[tj λe he hs=>?_];by_cases q:e.2.1=[]
 ·have:=(g.n e he q).1;rw[hs]at this;exact absurd this (by decide)
 ·rw[if_neg q]
def rO(g:gE E)(hp:p<=x.length):lW E x p s=if p=x.length/\s∈tK then a_ 0 else best E x p s λe=>lW E x (p+e.2.1.length) e.2.2.2:=by
 have e1:=congrFun (Es (E:=E) hp) s;rw[e1];show(if p=x.length/\s∈tK then a_ 0 else uX _)=if p=x.length/\s∈tK then a_ 0 else uX _
 rw[tj λe he hs=>?_];by_cases q:e.2.1=[]
 ·rw[q,(g.n e he q).2];exact(Nx g hp).symm
 ·rw[if_neg q,RW _ hp];have :=fD.mpr q;exact fF this _
end K43E
namespace K43E
open PySem L2 M K43
variable{E:List Ed}{x:List Nat}
abbrev cellK(f:Nat->Row)(p:Nat)(l:List bu)(q:Nat):Dat:=if q<p then .dct [] []else if q=p then dD l (f p)else dD xX (f q)
abbrev KD(f:Nat->Row)(n p:Nat)(l:List bu):List Dat:=(aT (n+1)).map (cellK f p l)
def vK(h:q<=n):(KD f n p l)[q]?=a_ (cellK f p l q):=by
 rw[aN,qd (bC h)];rfl
def US(h:p<=n):(KD f n p l).set p (dD l' (f p))=KD f n p l':=by
 refine jT λq=>?_;rw[jP];by_cases e:p=q
 ·subst e;rw[if_pos rfl,if_pos (by simp;omega),vK h];simp[cellK]
 ·rw[if_neg e];by_cases c:q<=n
  ·rw[vK c,vK c];unfold cellK;by_cases h1:q<p
   ·rw[if_pos h1,if_pos h1]
   ·rw[if_neg h1,if_neg h1,if_neg (eK e),if_neg (eK e)]
  ·rw[dh (by simp;exact n4 c),dh (by simp;omega)]
def Pe:KD f n (p+1) xX=KD f n p []:=by
 refine cP λq _=>?_;unfold cellK;by_cases h1:q<p
 ·rw[if_pos (by omega),if_pos h1]
 ·by_cases h2:q=p
  ·rw[if_pos (Nat.lt_succ_of_le (ae h2)),if_neg h1,if_pos h2];rfl
  ·rw[if_neg (λz=>(h2 (wA z h1))),if_neg h1,if_neg h2];by_cases h3:q=p+1
   ·rw[if_pos h3,h3]
   ·rw[if_neg h3]
theorem PJ{g:Row}{s:bu}{v:Dat}:∀{l:List bu},s∉l->putD (.inr s) v (l.map cj) (l.map λs=>vD (g s))=((l++[s]).map cj,(l.map λs=>vD (g s))++[v])/\Av (.inr s) (l.map cj)=c_
 |[],_=>⟨rfl,rfl⟩
 |a::r,h=>by
   obtain⟨h1,h2⟩:=PJ λm=>h (iE _ m);have q:¬(cj a:Key)=.inr s:=λe=>h (lM e▸g7);constructor
   ·show(if(cj a)=.inr s then _ else((cj a)::(putD (.inr s) v (r.map cj) (r.map λs=>vD (g s))).1,vD (g a)::(putD (.inr s) v (r.map cj) (r.map λs=>vD (g s))).2))=_;rw[if_neg q,h1];rfl
   ·show(if(cj a)=.inr s then _ else Av (.inr s) (r.map cj))=c_;rw[if_neg q,h2]
def WD(h:s∉l)(hl:l.length<=100):kJ .seti (dD l g) [vD (g s),.str s]=a_ (dD (l++[s]) g):=by
 obtain⟨h1,h2⟩:=PJ (v:=vD (g s)) h;show(if(l.map cj).length<aB/\Av (.inr s) (l.map cj)=c_ then a_ (Dat.dct (putD (.inr s) (vD (g s)) (l.map cj) (l.map λs=>vD (g s))).1 (putD (.inr s) (vD (g s)) (l.map cj) (l.map λs=>vD (g s))).2)else b_)=_;rw[if_pos ⟨by rw[ai,eM];exact aG hl (by decide),h2⟩,h1];simp[dD]
abbrev xM(E:List Ed)(x:List Nat)(K:List Dat)(a b:g_):dI:=[a_ (n9 E,d_),a_ (.str (T x),d_),a_ (.lst K,c_),a,b]
def EN(hp:p<=n)(c:n<=1000)(hs:s∉l)(hl:l.length<=100)(he:bE C e (full (xM E x (KD f n p l) (a_ (.int (p:Nat),d_)) (a_ (.str s,d_))))=a_ (vD (f p s),fl)) :
  ot C (.P1 2 (.v 3) (.v 4) e) (xM E x (KD f n p l) (a_ (.int (p:Nat),d_)) (a_ (.str s,d_)))=a_ (.nx (xM E x (KD f n p (l++[s])) (a_ (.int (p:Nat),d_)) (a_ (.str s,d_)))):=by
 show bD (bE C e (full (xM E x (KD f n p l) (a_ (.int (p:Nat),d_)) (a_ (.str s,d_))))) _=_;rw[he];show(if im (vD (f p s))=c_ then S5 .seti 2 (xM E x (KD f n p l) (a_ (.int (p:Nat),d_)) (a_ (.str s,d_))) (.int (p:Nat)) [vD (f p s),.str s] (a_ (.lst (KD f n p l),c_))else b_)=_;rw[if_pos (TQ _)]
 have h1:C5 (KD f n p l).length ((p:Nat):Int)=a_ p:=by
  unfold C5;rw[if_pos (j5 _),if_pos (by simp;exact fW (dB.mpr hp) (Int.le_refl _))];simp
 have h2:SY .seti [vD (f p s),.str s] (.lst (KD f n p l)) (.int (p:Nat))=a_ (.lst (KD f n p (l++[s]))):=by
  show((C5 (KD f n p l).length ((p:Nat):Int)).bind λj=>((KD f n p l)[j]?).bind λd=>(kJ .seti d [vD (f p s),.str s]).map λd'=>Dat.lst ((KD f n p l).set j d'))=_;rw[h1,bw,vK hp,bw];have:cellK f p l p=dD l (f p):=by simp[cellK]
  rw[this,WD hs hl,bV,US hp]
 show(SY .seti [vD (f p s),.str s] (.lst (KD f n p l)) (.int (p:Nat))).map _=_;rw[h2];rfl
end K43E
namespace K43E
open PySem L2 M K43
variable{x:List Nat}
def Td(n:Nat):(l8.all λs=>qu (Cn D (n+1) 3 [.str s]) (a_ (.bl (decide (s∈tK)),d_)))=c_:=by kernel_rfl
def RJ(hs:s∈l8):Cn D (n+1) 3 [.str s]=a_ (.bl (decide (s∈tK)),d_):=oH (bo.mp (Td n) s hs)
theorem CY:∀{l:List bu},s∈l->pD (.inr s) (l.map cj) (l.map g)=a_ (g s)
 |a::r,h=>by
   show(if(cj a)=.inr s then a_ (g a)else pD (.inr s) (r.map cj) (r.map g))=_;by_cases q:a=s
   ·rw[if_pos (by rw[q]),q]
   ·rw[if_neg λe=>q (lM e)];exact CY ((aw.mp h).resolve_left λe=>q e.symm)
def cX:Ex:=.and (.cmp .eq (.v 3) (.blt .len [(.v 1)])) (.call 3 [(.v 4)])
def pX:Ex:=.call 14 [(.ix (.v 0) (.v 4)),(.v 1),(.v 3),(.v 2)]
def X6:Sx:=.ifs cX [(.P1 2 (.v 3) (.v 4) (.e_ 0))] [(.P1 2 (.v 3) (.v 4) pX)]
def yp:s∈l8↔s∈xX:=by simp[l8,xX];constructor<;>(intro h;rcases h with h|h|h|h|h|h<;>simp[h])
def QV(g:gE E)(j:x.length<=1000)(hp:p<=x.length)(hs:s∈l8)(hl:s∉l)(y:s="num"->("let":bu)∈l)(c:l.length<=100) :
  dP (Cn D (n+2)) [X6] (xM E x (KD (lW E x) x.length p l) (a_ (.int (p:Nat),d_)) (a_ (.str s,d_)))=a_ (.nx (xM E x (KD (lW E x) x.length p (l++[s])) (a_ (.int (p:Nat),d_)) (a_ (.str s,d_)))):=by
 have hc:bE (Cn D (n+2)) cX (full (xM E x (KD (lW E x) x.length p l) (a_ (.int (p:Nat),d_)) (a_ (.str s,d_))))=a_ (.bl (decide (p=x.length/\s∈tK)),d_):=by
  have B:bE (Cn D (n+2)) (.cmp .eq (.v 3) (.blt .len [(.v 1)])) [a_ (n9 E),a_ (.str (T x)),a_ (.lst (KD (lW E x) x.length p l)),a_ (.int (p:Nat)),a_ (.str s)]=a_ (.bl (decide (p=x.length)),d_):=by
   rw[yV];show bD (a_ (Dat.int (p:Nat),d_)) (λu=>bD (gW .len [.str (T x)]) λv=>(fQ .eq u.1 v.1).map λr=>(Dat.bl r,d_))=_;rw[len_T (aa j (by decide))];show a_ (Dat.bl (decide ((p:Int)=(x.length:Int))),d_)=_
   congr 3
   exact decide_eq_decide.mpr (by omega)
  show bD (bE (Cn D (n+2)) (.cmp .eq (.v 3) (.blt .len [(.v 1)])) [a_ (n9 E),a_ (.str (T x)),a_ (.lst (KD (lW E x) x.length p l)),a_ (.int (p:Nat)),a_ (.str s)]) _=_;rw[B];by_cases q:p=x.length
  ·rw[decide_eq_true q];show Cn D (n+2) 3 [.str s]=_;rw[RJ hs]
   congr 3
   exact decide_eq_decide.mpr ⟨λh=>⟨q,h⟩,λh=>h.2⟩
  ·rw[decide_eq_false q,decide_eq_false λh=>q h.1];rfl
 refine pY ?_;show ot (Cn D (n+2)) (.ifs cX _ _) _=_;rw[OJ,hc];show(if decide (p=x.length/\s∈tK)=c_ then dP _ [_] _ else dP _ [_] _)=_;by_cases q:p=x.length/\s∈tK
 ·rw[decide_eq_true q,if_pos rfl];refine pY (EN (fl:=d_) hp j hl c ?_);rw[rO g hp,if_pos q];rfl
 ·rw[decide_eq_false q,if_neg (by decide)];refine pY (EN (fl:=d_) hp j hl c ?_);rw[rO g hp,if_neg q];have hd:vf (n9 E) (.str s)=a_ (.lst ((FJ E s).map dQ)):=CY hs;show bD (bD (hX _ (vf (n9 E) (.str s))) _) _=_;rw[hd];show Cn D (n+2) 14 [.lst ((FJ E s).map dQ),.str (T x),.int (p:Nat),.lst (KD (lW E x) x.length p l)]=_;refine RI hp (aa (df _ _) (aa g.l (by decide))) λe he d=>?_;obtain⟨h1,h2⟩:=bJ.mp he;have k:e.1=s:=by simpa using h2
  have hlen:=(of_decide_eq_true d).length_le;rw[eX]at hlen;refine⟨aa (g.t e h1) (by decide),?_⟩;rw[vK (by omega)];by_cases z:e.2.1=[]
  ·obtain⟨J,L⟩:=g.n e h1 z;refine⟨l,lW E x p,?_,?_,?_⟩
   ·rw[z];simp[cellK]
   ·rw[L];exact y (k▸J)
   ·rw[z];rfl
  ·have:0<e.2.1.length:=fD.mpr z;refine⟨xX,lW E x (p+e.2.1.length),?_,yp.mp (g.o e h1),rfl⟩;unfold cellK;rw[if_neg (by omega),if_neg (by omega)]
end K43E
namespace K43E
open PySem L2 M K43
variable{E:List Ed}{x:List Nat}
def Ni:∀{l r:List bu},l++("num":bu)::r=xX->("let":bu)∈l
 |[],r,h=>absurd (c6 h).1 (by decide)
 |[a],r,h=>absurd (c6 (c6 h).2).1 (by decide)
 |a::b::l,r,h=>by
   have :=(c6 (c6 h).2).1;rw[this];simp
def RN:xX.Nodup:=by decide +kernel
theorem WT(g:gE E)(j:x.length<=1000)(hp:p<=x.length):∀(r l:List bu)(z:g_),l++r=xX->∃c,jd (iV c_ [4]) (dP (Cn D (n+2)) [X6]) (r.map Dat.str) (xM E x (KD (lW E x) x.length p l) (a_ (.int (p:Nat),d_)) z)=a_ (.nx (xM E x (KD (lW E x) x.length p xX) (a_ (.int (p:Nat),d_)) c))
 |[],l,z,h=>⟨z,by rw[aM]at h;rw[h];rfl⟩
 |s::r,l,z,h=>by
   have d :=h▸RN;have hs :=h▸ag _ g7;have hl :=λm=>(ck.mp d).2.2 s m s g7 rfl
   have hlen:l.length<=100:=by
    have:=congrArg jB h;rw[az]at this;have e:xX.length=6:=rfl;omega
   obtain⟨c,k⟩:=WT g j hp r (l++[s]) (a_ (.str s,d_)) (by rw[aE];exact h);refine⟨c,?_⟩;show((dP (Cn D (n+2)) [X6] (xM E x (KD (lW E x) x.length p l) (a_ (.int (p),d_)) (a_ (.str s,d_)))).bind (wL _))=_;rw[QV g j hp (yp.mpr hs) hl (λe=>Ni (e▸h)) hlen];exact k
def STX:Ex:=.con (.tup [(.str (ab "out")),(.str (ab "in")),(.str (ab "done")),(.str (ab "num")),(.str (ab "let")),(.str (ab "all"))])
def Vm:Sx:=.loop c_ [4] (.rev STX) [X6]
def PF(g:gE E)(d:x.length<=1000)(hp:p<=x.length):∃c,dP (Cn D (n+2)) [Vm] (xM E x (KD (lW E x) x.length p []) (a_ (.int (p:Nat),d_)) z)=a_ (.nx (xM E x (KD (lW E x) x.length p xX) (a_ (.int (p:Nat),d_)) c)):=by
 obtain⟨c,h⟩:=WT g d hp xX [] z rfl;exact⟨c,pY h⟩
noncomputable abbrev dn(m:Nat):List Dat:=(aT (m+1)).map λk:Nat=>Dat.int ((m:Int) - k)
def ON(m:Nat):dn (m+1)=.int ((m+1:Nat):Int)::dn m:=by
 unfold dn;rw[BQ,ax,cB];have c:Dat.int (((m+1:Nat):Int) - ((0:Nat):Int))=.int ((m+1:Nat):Int):=by simp
 rw[c]
 exact congrArg _ (cP λk _=>by
  show Dat.int (((m+1:Nat):Int) - ((k+1:Nat):Int))=Dat.int ((m:Int) - k)
  rw[show((m+1:Nat):Int) - ((k+1:Nat):Int)=(m:Int) - k by omega])
theorem PN(g:gE E)(d:x.length<=1000):∀(m:Nat)(y z:g_),m<=x.length->∃j c,jd (iV c_ [3]) (dP (Cn D (n+2)) [Vm]) (dn m) (xM E x (KD (lW E x) x.length m []) y z)=a_ (.nx (xM E x (KD (lW E x) x.length 0 xX) j c))
 |0,y,z,h=>by
   obtain⟨c,h1⟩:=PF g d (aR x.length);refine⟨a_ (.int (0),d_),c,?_⟩;show((dP (Cn D (n+2)) [Vm] (xM E x (KD (lW E x) x.length 0 []) (a_ (.int ((0:Nat)),d_)) z)).bind (wL _))=_;rw[h1];rfl
 |m+1,y,z,h=>by
   obtain⟨c,h1⟩:=PF g d h;obtain⟨k,l,q⟩:=PN g d m (a_ (.int ((m+1):Int),d_)) c (bb h);refine⟨k,l,?_⟩;rw[ON];show((dP (Cn D (n+2)) [Vm] (xM E x (KD (lW E x) x.length (m+1) []) (a_ (.int ((m+1:Nat)),d_)) z)).bind (wL _))=_;rw[h1];rw[Pe];exact q
abbrev Jq(E:List Ed)(x:List Nat):Dat:=.lst ((aT (x.length+1)).map λq=>dD xX (lW E x q))
def Zt:KD f n 0 xX=(aT (n+1)).map λq=>dD xX (f q):=cP λq _=>by
 unfold cellK;rw[if_neg (by omega)];by_cases h:q=0
 ·rw[if_pos h,h]
 ·rw[if_neg h]
def Zs:KD f n n []=dt n (.dct [] [])++[.dct [] []]:=by
 rw[<-List.replicate_succ',List.eq_replicate_iff];refine⟨by simp,λd hd=>?_⟩;obtain⟨q,c,rfl⟩:=cg.mp hd;have:=bf.mp c;unfold cellK;by_cases h:q<n
 ·rw[if_pos h]
 ·rw[if_neg h,if_pos (wA this h)];rfl
theorem ET:∀ds:List Dat,qA (pG C 1 c_ ρ0 [] .qN) ds=a_ (dt ds.length (.dct [] []),c_)
 |[]=>rfl
 |d::ds=>by
   show bD (a_ (a_ (Dat.dct [] [],c_))) _=_;rw[ET ds];rfl
def GJ(g:gE E)(d:x.length<=1000):Cn D (n+3) 15 [n9 E,.str (T x)]=a_ (Jq E x,c_):=by
 refine fA rfl ?_
 have c1:bE (Cn D (n+2)) (.cat (.comp 1 c_ [] (.itv (.v 1)) [] .qN) (.lst [.qN])) [a_ (n9 E),a_ (.str (T x)),b_,b_,b_]=a_ (.lst (KD (lW E x) x.length x.length []),c_):=by
  have j:bE (Cn D (n+2)) (.comp 1 c_ [] (.itv (.v 1)) [] .qN) [a_ (n9 E),a_ (.str (T x)),b_,b_,b_]=a_ (.lst (dt x.length (.dct [] [])),c_):=by
   refine qO (items:=(T x).cps.toList.map λc=>Dat.str ⟨#[c]⟩) ?_ (by simp;exact aa d (by decide)) (by rw[ET];simp);rw[yS];show jg (.str (T x))=_;unfold jg
   first|rfl|(rw[if_pos (by rw[nX,eM];omega)])
  show bD (bE (Cn D (n+2)) (.comp 1 c_ [] (.itv (.v 1)) [] .qN) [a_ (n9 E),a_ (.str (T x)),b_,b_,b_]) _=_;rw[j,Zs];show OT (.lst (dt x.length (.dct [] [])),c_) (.lst [.dct [] []],c_)=_;show(if(dt x.length (Dat.dct [] [])).length+1<=aB then _ else b_)=_;rw[if_pos (by rw[iJ,eM];exact aG d (by decide))]
 show dP (Cn D (n+2)) (.set 2 _::_) [a_ (n9 E,d_),a_ (.str (T x),d_),b_,b_,b_]=_;rw[kj (Pz c1)];obtain⟨l,q,h⟩:=PN g d x.length b_ b_ (au _)
 have h1:ot (Cn D (n+2)) (.loop c_ [3] (.rng [(.blt .len [(.v 1)]),(.neg (.e_ 1)),(.neg (.e_ 1))]) [Vm]) (xM E x (KD (lW E x) x.length x.length []) b_ b_)=a_ (.nx (xM E x (KD (lW E x) x.length 0 xX) l q)):=by
  rw[Bg,Fi];show bD (bD (bD (gW .len [.str (T x)]) _) _) _=_;rw[len_T (aa d (by decide))];show bD (CC [.int (x.length:Nat),.int (-1),.int (-1)]) _=_
  have:CC [.int (x.length:Nat),.int (-1),.int (-1)]=a_ (dn x.length):=by
   show(if(-1:Int)=-1/\-1000000<=((x.length:Nat):Int)/\((x.length:Nat):Int)<=1000000/\-1000000<=(-1:Int)/\(-1:Int)<=1000000 then a_ ((aT (((x.length:Nat):Int) - (-1)).toNat).map λk:Nat=>Dat.int (((x.length:Nat):Int) - k))else b_)=_;rw[if_pos ⟨rfl,by simp,fK (dB.mpr d) (by decide),by decide,by simp⟩,show(((x.length:Nat):Int) - (-1)).toNat=x.length+1 by rfl]
  rw[this];exact h
 show dP (Cn D (n+2)) (.loop c_ [3] (.rng [(.blt .len [(.v 1)]),(.neg (.e_ 1)),(.neg (.e_ 1))]) [Vm]::_) (xM E x (KD (lW E x) x.length x.length []) b_ b_)=_;rw[kj h1];show a_ (Out.rt (Dat.lst (KD (lW E x) x.length 0 xX)) c_)=_;rw[Zt]
end K43E
namespace K43E
open PySem L2 M K43
def cq(b:Nat)(cs:List Int):Prop:=0<cs.length/\cs.length<=b/\∀c∈cs,1<=c/\c<=63
def Cw(C:Fs)(N:Dat):Prop:=∀k c:Int,0<=k/\k<=100->0<c/\c<=63->∃cs b,C 22 [N,.int k,.int c]=a_ (tI cs,b)/\cq 4 cs
def Bs(hd:Dw C N)(hi:bE C it ρ=a_ (.int (m:Nat),f))(y:m<=10)(z:0<=k/\k<=1000)(hp:0<p)(hf:0<few/\few<=63)
  (h1:∀d,bE C e1 ((jG 1 caps ρ).set 0 (a_ d))=a_ (N,d_))(h2:∀d,bE C e2 ((jG 1 caps ρ).set 0 (a_ d))=a_ (.int k,d_))(h3:∀d,bE C e3 ((jG 1 caps ρ).set 0 (a_ d))=a_ (.int few,d_)) :
  ∃cs:List Int,bE C (.comp 1 c_ caps (.rng [it]) [] (.bin .add (.e_ 1) (.call 20 [e1,e2,.bin .add (.con (.int p)) (.bin .mul (.e_ 22) (.v 0)),e3]))) ρ=a_ (.lst (cs.map Dat.int),c_)/\cs.length=m/\∀c∈cs,1<=c/\c<=63:=by
 obtain⟨cs,a,l,h,_⟩:=o8 (elt:=.bin .add (.e_ 1) (.call 20 [e1,e2,.bin .add (.con (.int p)) (.bin .mul (.e_ 22) (.v 0)),e3])) (λc:Nat=>.int (c:Nat)) (λ_ c:Nat=>(1:Int)<=c/\(c:Int)<=63) (xH hi (aa y (by decide))) (by rw[a9];omega) (λ_=>rfl) λj B=>
  Dr (gV hd (h1 _) (h2 _) (lz rfl (Dl rfl (j:=(j:Int)) (g:=d_) (by rw[jh,jP];simp[jG]) (by decide))) (h3 _) z (by omega) hf.1 λ_ h=>h) λq h=>by omega
 rw[a9]at l;refine⟨cs.map λc:Nat=>(c:Int),by rw[cB];exact a,by rw[ai,l],λc hc=>?_⟩;obtain⟨d,hd,rfl⟩:=cg.mp hc;obtain⟨_,_,q⟩:=h d hd;exact q
def cw{ns:List Int}:Cw (Cn D (n+3)) (.lst (ns.map Dat.int)):=λk d g hf=>by
 have hd:Dw (Cn D (n+2)) (.lst (ns.map Dat.int)):=dw
 suffices h:Go (Cn D (n+2)) Z2 [a_ (.lst (ns.map Dat.int),d_),a_ (.int k,d_),a_ (.int d,d_),b_] λo=>∃cs b,o=.rt (tI cs) b/\cq 4 cs by
  obtain⟨_,h1,cs,b,rfl,h2⟩:=h;exact⟨cs,b,fA rfl h1,h2⟩
 generalize Dat.lst (ns.map Dat.int)=N at hd ⊢;have c:0<=k/\k<=1000:=⟨g.1,(fK g.2 (by decide))⟩
 refine vn (P:=λv=>1<=v/\v<=4) (sZ hd rfl rfl rfl rfl c (by decide) (by decide) (by decide)) (λv=>sY (gV hd rfl rfl rfl rfl c (by decide) (by decide) λ_ _=>trivial) 0) (λv=>sZ hd rfl rfl rfl rfl c (by decide) (by decide) (by decide)) λm j=>?_;obtain⟨h1,h2⟩:=j
 ·obtain⟨cs,e,l,h3⟩:=Bs (ρ:=full [a_ (N,d_),a_ (.int k,d_),a_ (.int d,d_),a_ (.int (m),d_)]) (p:=10039) (caps:=[2,1,0]) (it:=.v 3) (e1:=.v 3) (e2:=.v 2) (e3:=.v 1) hd rfl (aa h2 (by decide)) c (by decide) hf (λ_=>rfl) (λ_=>rfl) (λ_=>rfl);exact jE (pq e rfl) ⟨cs,_,rfl,aa h1 (ae l.symm),aa (ae l) h2,h3⟩
section
def Uc{z:Int}{f:Bool}(h:bE C e ρ=a_ (.int z,f)):∃c b,bE C (.ix (.f_ "abcdefghijklmnopqrstuvwxyz") (.bin .mod e (.e_ 26))) ρ=a_ (sT [c],b)/\c∈qB:=by
 have h1:0<=z % 26:=Pt _ (by decide);have h2:z % 26<26:=Ic _ (by simp);obtain⟨q,g⟩:=jI h1;have hl:q<qB.length:=by show q<26;omega
 refine⟨qB[q],d_,?_,bh hl⟩;rw[xI,my,h,SMT];show((hJ .mod (.int z) (.int 26)).bind λy=>(vf (.str (T qB)) y.1).map λd=>(d,d_))=_;rw[nG (by decide),g];show((vf (.str (T qB)) (.int (q:Nat))).map _)=_;rw[WO (by decide) hl];rfl
def Qj{elt:Ex}{caps:List Nat}{P:Nat->Prop}{r:Nat->Prop}(h:Ei C e ρ r)(v:∀m,r m->m<=1000)(hs:∀m,r m->∀i,i<m->∃c b,bE C elt ((jG 1 caps ρ).set 0 (a_ (.int ((i:Nat):Int))))=a_ (sT [c],b)/\P c):Ev C (.jr .join (.f_ "") [.comp 1 c_ caps (.rng [e]) [] elt]) ρ λd=>∃W:List Nat,d=sT W/\r W.length/\∀c∈W,P c:=by
 obtain⟨m,f,q,j⟩:=h;have g:=v m j;obtain⟨W,e,l,n,_⟩:=o8 (λc=>sT [c]) (λ_ c=>P c) (xH q g) (by rw[a9];omega) (λ_=>rfl) λi hi=>hs m j i (bf.mp hi);rw[a9]at l;have k:=yE (by rw[VL];exact aa (ae l) (aa g (by decide)));rw[Qi,cB]at k;exact⟨sT W,d_,by rw[yT,cu,e];exact k,rfl,W,rfl,by rw[l];exact j,λc hc=>by obtain⟨_,_,q⟩:=n c hc;exact q⟩
end
def lq(ls:List Nat):Prop:=0<ls.length/\ls.length<=6/\∀c∈ls,c∈qB
abbrev L3(ls:List Nat):Dat:=.lst (ls.map λc=>sT [c])
def Lw(C:Fs)(N:Dat):Prop:=∃ls,C 23 [N]=a_ (L3 ls,c_)/\lq ls
def lw{ns:List Int}:Lw (Cn D (n+3)) (.lst (ns.map Dat.int)):=by
 have hd:Dw (Cn D (n+2)) (.lst (ns.map Dat.int)):=dw
 suffices h:Go (Cn D (n+2)) Z1 [a_ (.lst (ns.map Dat.int),d_),b_,b_,b_] λo=>∃ls,o=.rt (L3 ls) c_/\lq ls by
  obtain⟨_,h1,ls,rfl,h2⟩:=h;exact⟨ls,fA rfl h1,h2⟩
 generalize Dat.lst (ns.map Dat.int)=N at hd ⊢;generalize Cn D (n+2)=C at hd ⊢;show Go C (.set 1 (.bin .add (.e_ 1) (.call 20 [_,_,_,_]))::.ifs (.cmp .eq (.call 20 [_,_,_,_]) (.e_ 0)) [.set 1 (.bin .add (.e_ 1) (.call 20 [_,_,_,_]))] []::.set 2 (.call 20 [_,_,_,_])::.set 3 (.ix _ (.call 20 [_,_,_,_]))::.ret (.comp 1 c_ [2,3] (.rng [.v 1]) [] (.ix _ (.bin .mod (.bin .add (.v 1) (.bin .mul (.v 0) (.v 2))) _)))::[]) _ _;refine vn (P:=λv=>1<=v/\v<=6) (sZ hd rfl rfl rfl rfl (by decide) (by decide) (by decide) (by decide)) (λv=>sY (P:=λ_=>True) (gV hd rfl rfl rfl rfl (by decide) (by decide) (by decide) λ_ _=>trivial) 0) (λv=>sZ hd rfl rfl rfl rfl (by decide) (by decide) (by decide) (by decide)) λm g=>?_;obtain⟨h1,h2⟩:=g;refine oN (pZ (gV hd rfl rfl rfl rfl (by decide) (by decide) (by decide) λq h=>trivial)) ?_;rintro _ ⟨d,rfl,-⟩;refine oN (pZ (Fl (is:=[1,3,5,7,9,11,15]) rfl (gV hd rfl rfl rfl rfl (by decide) (by decide) (by decide) λq h=>by show q<7;omega) λ_ _=>trivial)) ?_;rintro _ ⟨st,rfl,-⟩;obtain⟨ls,e,l,hl,_⟩:=o8 (ρ:=full [a_ (N,d_),a_ (.int (m:Nat),d_),a_ (.int (d:Nat),d_),a_ (.int (st:Nat),d_)]) (caps:=[2,3]) (it:=.rng [.v 1]) (elt:=.ix (.f_ "abcdefghijklmnopqrstuvwxyz") (.bin .mod (.bin .add (.v 1) (.bin .mul (.v 0) (.v 2))) (.e_ 26))) (λc=>sT [c]) (λ_ c=>c∈qB) (xH rfl (aa h2 (by decide))) (by rw[a9];omega) (λ_=>rfl) λi hi=>Uc (z:=(d:Int)+(i:Int) * (st:Int)) (lz rfl (Dl rfl rfl (by have:=bf.mp hi;omega)));rw[a9]at l;exact jE e ⟨ls,rfl,aa h1 (ae l.symm),aa (ae l) h2,λc hc=>by obtain⟨_,_,q⟩:=hl c hc;exact q⟩
def lo(ls:List Nat)(f:Fm):Prop:=HK f/\(∀c∈f.1,c∈ls)/\∀c∈f.2.1,1<=c/\c<=63
def Fw(C:Fs)(N:Dat):Prop:=∀(k c:Int)(ls:List Nat),0<=k/\k<=10->0<c/\c<=63->lq ls->∃f b,C 24 [N,.int k,L3 ls,.int c]=a_ (jf f,b)/\lo ls f
def Yz:Ex:=.jr .join (.f_ "") [.comp 1 c_ [6] (.rng [.e_ 4]) [.cmp .eq (.bin .band (.bin .shr (.v 1) (.v 0)) (.e_ 1)) (.e_ 1)] (.ix (.f_ "wbme") (.v 0))]
def plB(C:Fs):((aT 16).all λk=>qu (bE C Yz [b_,b_,b_,b_,b_,b_,a_ (.int (k:Nat))]) (a_ (.str (T (U4 k)),d_)))=c_:=by kernel_rfl
def W4{C:Fs}{a b c d e f g:Option Dat}{k:Nat}(h:k<16):bE C Yz [a,b,c,d,e,f,a_ (.int (k:Nat)),g]=a_ (sT (U4 k),d_):=oH (bo.mp (plB C) k (bf.mpr h))
def fw{ns:List Int}:Fw (Cn D (n+4)) (.lst (ns.map Dat.int)):=λk d ls U hf hl=>by
 have hd:Dw (Cn D (n+3)) (.lst (ns.map Dat.int)):=dw;have hc:Cw (Cn D (n+3)) (.lst (ns.map Dat.int)):=cw
 suffices h:Go (Cn D (n+3)) Z0 [a_ (.lst (ns.map Dat.int),d_),a_ (.int k,d_),a_ (L3 ls,d_),a_ (.int d,d_),b_,b_,b_,b_] λo=>∃f b,o=.rt (jf f) b/\lo ls f by
  obtain⟨_,h1,f,b,rfl,h2⟩:=h;exact⟨f,b,fA rfl h1,h2⟩
 generalize Dat.lst (ns.map Dat.int)=N at hd hc ⊢;generalize Cn D (n+3)=C at hd hc ⊢;obtain⟨M,Y,low⟩:=hl;show Go C (.set 4 (.bin .add (.e_ 1) (.call 20 [_,_,_,_]))::.ifs (.cmp .eq (.call 20 [_,_,_,_]) (.e_ 0)) [.set 4 (.bin .add (.e_ 1) (.call 20 [_,_,_,_]))] []::.set 5 (.jr .join (.f_ "") [.comp 1 c_ [1,2,0] (.rng [.v 4]) [] (.ix (.v 2) (.call 20 [_,_,_,_]))])::.set 6 (.bin .add (.e_ 1) (.call 20 [_,_,_,_]))::.set 7 Yz::.ret (.tup [.v 5,.call 22 [_,_,_],.v 7])::[]) _ _;refine vn (P:=λv=>1<=v/\v<=6) (sZ hd rfl (lz rfl rfl) rfl rfl (by omega) (by decide) (by decide) (by decide)) (λv=>sY (P:=λ_=>True) (gV hd rfl (lz rfl rfl) rfl rfl (by omega) (by decide) (by decide) λ_ _=>trivial) 0) (λv=>sZ hd rfl (lz rfl rfl) rfl rfl (by omega) (by decide) (by decide) (by decide)) λm L=>?_;have l:gW .len [L3 ls]=a_ (.int (ls.length:Nat),d_):=by rw[j9,ai]
 refine oN (Qj (r:=λm=>1<=m/\m<=6) ⟨m,_,rfl,L⟩ (λm h=>(aa h.2 (by decide))) λm L i hi=>K0 rfl (gV hd rfl (lz rfl rfl) (lz rfl (Dl rfl rfl (by decide))) (by rw[p0,cu];exact l) (by omega) (by omega) (vZ.mpr M) λq h=>by omega) λc hc=>hc) ?_;rintro _ ⟨W,rfl,y,g⟩;refine oN (pZ (P:=λm=>1<=m/\m<16) (Dr (gV hd rfl (lz rfl rfl) rfl rfl (by omega) (by decide) (by decide) λq h=>by omega) λq h=>by omega)) ?_;rintro _ ⟨z,rfl,B,j⟩;refine fM (jl (W4 j) rfl) ?_;obtain⟨cs,b,O,c1,c2,R⟩:=hc (20+k) d (by omega) hf
 have J:∀ρ':iG,ρ'[0]?=a_ (a_ N)->ρ'[1]?=a_ (a_ (.int k))->ρ'[3]?=a_ (a_ (.int d))->bE C (.call 22 [.v 0,.bin .add (.e_ 20) (.v 1),.v 3]) ρ'=a_ (tI cs,b):=λρ' h0 h1 h3=>by
  rw[lZ,cu,jh,h0,cu,my,yU,jh,h1,cu,jh,h3];exact O
 refine jE (f:=c_) ?_ ⟨(W,cs,U4 z),_,rfl,⟨λe=>?_,λc hc=>low c (g c hc),y.2,c1,c2,z,B,j,rfl⟩,g,R⟩
 ·rw[vv,fN,jh,fN,J _ rfl rfl rfl,fN,jh];show a_ (jf (W,cs,U4 z),((b || im (tI cs)) && c_))=_;rw[mo,gu];rfl
 ·have e:W=[]:=e;rw[e]at y;exact absurd y.1 (by decide)
section
def SU{fs:List Fm}(c:bE C x (full ρ)=a_ (.lst (fs.map jf),g))(hl:fs.length<=1000)(d:bE C y (full ρ)=a_ (jf f,g')):∃t j,bE C (.cmp .nin (.sl y b_ (a_ (.e_ 2))) (.comp 1 c_ [] (.itv x) [] (.sl (.v 0) b_ (a_ (.e_ 2))))) (full ρ)=a_ (.bl t,j):=by
 obtain⟨k,e,_,_⟩:=o8 (elt:=.sl (.v 0) b_ (a_ (.e_ 2))) (λf:Fm=>.tup [sT f.1,tI f.2.1]) (λ_ _=>True) (by rw[yS,c];rfl) hl (λf=>by
  show(c_ && (jL (f.2.1.map Dat.int) && c_))=c_
  rw[qG];rfl) λf _=>⟨f,d_,rfl,trivial⟩
 have hs:∀fs:List Fm,eC 20 (fs.map λf=>Dat.tup [sT f.1,tI f.2.1])=c_:=λfs=>by
  induction fs with
  |nil=>rfl
  |cons g r l=>rw[ax];show(iR 20 _ && eC 20 _)=c_;rw[zW,l];rfl
 obtain⟨t,q⟩:∃t,fQ .nin (.tup [sT f.1,tI f.2.1]) (.lst (k.map λf=>.tup [sT f.1,tI f.2.1]))=a_ t:=⟨_,if_pos (by rw[zW,hs];rfl)⟩
 refine⟨t,d_,?_⟩;rw[yV,e,KZ,d];show((fQ .nin (.tup [sT f.1,tI f.2.1]) _).map λr=>(Dat.bl r,d_))=_;rw[q];rfl
def yO(h:Ev C x (full ρ) P)(j:bE C y (full ρ)=a_ (.int k,g))(hi:(ρ[i]?).join=a_ (.lst ds,c_))(K:∀d,P d->∃c,kJ .seti (.lst ds) [d,.int k]=a_ (.lst c)/\Go C ss (ρ.set i (a_ (.lst c,c_))) Q):Go C (.mut .seti i [x,y]::ss) ρ Q:=by
 obtain⟨d,f,h1,h2,h3⟩:=h;obtain⟨c,l,q⟩:=K d h3;exact fM (CN hi (by rw[fN,h1,fN,j];show a_ ([d,.int k],(f || im d) && ((g || c_) && c_))=_;rw[h2,gu,gu];rfl) l) q
end
structure fq(ls:List Nat)(fs:List Fm):Prop where
 o:∀f∈fs,lo ls f
 w:∀c∈ls,∃cs,([c],cs,L7)∈fs
def iB:List Sx:=[(.set 5 (.call 24 [(.v 0),(.v 3),(.v 2),(.v 1)])),(.ifs (.cmp .nin (.sl (.v 5) b_ (a_ (.e_ 2))) (.comp 1 c_ [] (.itv (.v 4)) [] (.sl (.v 0) b_ (a_ (.e_ 2))))) [(.set 6 (.call 20 [(.v 0),(.bin .add (.e_ 10) (.v 3)),(.e_ 25031),(.bin .add (.blt .len [(.v 4)]) (.e_ 1))])),(.set 4 (.bin .add (.bin .add (.sl (.v 4) b_ (a_ (.v 6))) (.lst [(.v 5)])) (.sl (.v 4) (a_ (.v 6)) b_)))] [])]
abbrev UZ(N:Dat)(c:Int)(ls:List Nat)(fs:List Fm)(z3 d g:g_):dI:=[a_ (N,d_),a_ (.int c,d_),a_ (L3 ls,c_),z3,a_ (.lst (fs.map jf),c_),d,g]
def X4(N:Dat)(c:Int)(ls:List Nat)(us:List Nat)(ρ:dI):Prop:=∃(fs:List Fm) (z3 d g:g_),ρ=UZ N c ls fs z3 d g/\fs.length<=ls.length+us.length/\fq ls fs
def VQ{fs:List Fm}(h:q<=fs.length):D7 (.lst (fs.map jf)) b_ (a_ (q:Int))=a_ (.lst ((fs.take q).map jf),c_):=by
 show a_ (Dat.lst (cutD (fs.map jf) b_ (a_ (q))),jL (cutD (fs.map jf) b_ (a_ (q))))=_;rw[Fy (j5 _) (by rw[ai];exact dB.mpr h),show((q:Int)).toNat=q by rfl,<-m6,nA]
def VS{fs:List Fm}(h:q<=fs.length):D7 (.lst (fs.map jf)) (a_ (q:Int)) b_=a_ (.lst ((fs.drop q).map jf),c_):=by
 show a_ (Dat.lst (cutD (fs.map jf) (a_ (q:Int)) b_),jL (cutD (fs.map jf) (a_ (q:Int)) b_))=_;rw[Fx (by omega) (by rw[ai];omega),show((q:Int)).toNat=q by omega,<-ql,nA]
def LG{A B:List Fm}(h:A.length+B.length<=1000):hJ .add (.lst (A.map jf)) (.lst (B.map jf))=a_ (.lst ((A++B).map jf),c_):=by
 rw[p8 (by rw[ai,ai];exact aa h (by decide)),<-dS,nA]
def QU(hd:Dw C N)(O:Fw C N)(hf:0<few/\few<=63)(hl:lq ls){us:List Nat}(hu:us.length<=5)(R:x<=5)(h:X4 N few ls us ρ):∃ρ1,iV c_ [3] (.int (x:Nat)) ρ=a_ ρ1/\Go C iB ρ1 λo=>∃j,o=.nx j/\X4 N few ls (us++[x]) j:=by
 obtain⟨fs,z3,U,M,rfl,h1,h2⟩:=h;refine⟨_,rfl,?_⟩;obtain⟨f,b,W,l⟩:=O (x:Nat) few ls (⟨(j5 _),(fK (dB.mpr R) (by decide))⟩) hf hl;have l6:=hl.2.1;show Go C (.set 5 (.call 24 [.v 0,.v 3,.v 2,.v 1])::.ifs (.cmp .nin (.sl (.v 5) b_ (a_ (.e_ 2))) (.comp 1 c_ [] (.itv (.v 4)) [] (.sl (.v 0) b_ (a_ (.e_ 2))))) [.set 6 (.call 20 [_,_,_,_]),.set 4 (.bin .add (.bin .add (.sl (.v 4) b_ (a_ (.v 6))) (.lst [.v 5])) (.sl (.v 4) (a_ (.v 6)) b_))] []::[]) (UZ N few ls fs (a_ (.int (x:Nat),d_)) U M) _;refine fM (jl W (Kt f)) ?_;show Go C _ (UZ N few ls fs (a_ (.int (x:Nat),d_)) (a_ (jf f,d_)) M) _;refine AX (J:=X4 N few ls (us++[x])) (SU (fs:=fs) (g':=d_) rfl (by omega) rfl) ?_ ⟨fs,_,_,_,rfl,by rw[az];exact bW h1,h2⟩ λρ' h=>dH ⟨_,rfl,h⟩;have y:gW .len [.lst (fs.map jf)]=a_ (.int (fs.length:Nat),d_):=by rw[j9,ai]
 refine oN (pZ (P:=(·<=fs.length)) (gV hd rfl (lz rfl rfl) rfl (lz (by rw[p0,cu];exact y) rfl) (by omega) (by decide) (by simp) λq h=>by omega)) ?_;rintro _ ⟨q,rfl,z⟩;have D:(fs.take q).length=q:=by rw[eA];exact dz z
 have L:(fs.drop q).length=fs.length - q:=eX;have Y:=LG (A:=fs.take q) (B:=[f]) (by simp;omega);have Z:=LG (A:=fs.take q++[f]) (B:=fs.drop q) (by simp;omega);refine fX ?_ (dH ⟨_,rfl,fs.take q++[f]++fs.drop q,_,_,_,rfl,?_,?_,?_⟩)
 ·have e1:bE C (.sl (.v 4) b_ (a_ (.v 6))) (full (UZ N few ls fs (a_ (.int (x:Nat),d_)) (a_ (jf f,d_)) (a_ (.int (q:Nat),d_))))=a_ (.lst ((fs.take q).map jf),c_):=VQ z;have e2:bE C (.sl (.v 4) (a_ (.v 6)) b_) (full (UZ N few ls fs (a_ (.int (x:Nat),d_)) (a_ (jf f,d_)) (a_ (.int (q:Nat),d_))))=a_ (.lst ((fs.drop q).map jf),c_):=VS z;have e3:bE C (.lst [.v 5]) (full (UZ N few ls fs (a_ (.int (x:Nat),d_)) (a_ (jf f,d_)) (a_ (.int (q:Nat),d_))))=a_ (.lst ([f].map jf),im (jf f) && c_):=rfl;show bE C _ (full (UZ N few ls fs (a_ (.int (x:Nat),d_)) (a_ (jf f,d_)) (a_ (.int (q:Nat),d_))))=_;rw[my,my,e1,e2,e3,bw,bw];show bD (hJ .add (.lst ((fs.take q).map jf)) (.lst ([f].map jf))) _=_;rw[Y];exact Z
 ·rw[az,az,D,L,az];show q+1+(fs.length - q)<=ls.length+(us.length+1);omega
 ·intro g d
  rcases ao.mp d with d|d
  ·rcases ao.mp d with d|d
   ·exact h2.o g (bS d)
   ·rw[aA.mp d];exact l
  ·exact h2.o g (du d)
 ·intro c hc;obtain⟨cs,k⟩:=h2.w c hc;refine⟨cs,?_⟩;rw[<-aY q fs]at k
  rcases ao.mp k with h|h
  ·exact aq _ (aq _ h)
  ·exact ag _ h
def Ow(C:Fs)(N:Dat):Prop:=∀c:Int,0<c/\c<=63->∃(ls:List Nat) (fs:List Fm) (b:Bool),C 25 [N,.int c]=a_ (.tup (fs.map jf),b)/\fs.length<=11/\lq ls/\fq ls fs
def uL(h:aT m=us++x::vs):us.length<m/\x<m:=by
 have h1:=congrArg jB h;rw[a9,az,a8]at h1;have h2:x∈aT m:=by rw[h];simp
 exact⟨aG (aX _ _) (ae h1.symm),bf.mp h2⟩
def Se:L7=U4 15:=by decide
def ow{ns:List Int}:Ow (Cn D (n+5)) (.lst (ns.map Dat.int)):=λd hf=>by
 have hd:Dw (Cn D (n+4)) (.lst (ns.map Dat.int)):=dw;have hc:Cw (Cn D (n+4)) (.lst (ns.map Dat.int)):=cw;have g:Fw (Cn D (n+4)) (.lst (ns.map Dat.int)):=fw;obtain⟨ls,el,hl⟩:Lw (Cn D (n+4)) (.lst (ns.map Dat.int)):=lw
 suffices h:Go (Cn D (n+4)) ZZ [a_ (.lst (ns.map Dat.int),d_),a_ (.int d,d_),b_,b_,b_,b_,b_] λo=>∃(fs:List Fm) (b:Bool),o=.rt (.tup (fs.map jf)) b/\fs.length<=11/\fq ls fs by
  obtain⟨_,h1,fs,b,rfl,h2,h3⟩:=h;exact⟨ls,fs,b,fA rfl h1,h2,hl,h3⟩
 generalize Dat.lst (ns.map Dat.int)=N at hd hc g el ⊢;generalize Cn D (n+4)=C at hd hc g el ⊢;have Y:=hl.1;have J:=hl.2.1;have j:gW .len [L3 ls]=a_ (.int (ls.length:Nat),d_):=by rw[j9,ai]
 show Go C (.set 2 (.call 23 [.v 0])::.set 4 (.comp 1 c_ [1,2,0] (.rng [.blt .len [.v 2]]) [] (.tup [.ix (.v 2) (.v 0),.call 22 [.v 3,.bin .add (.e_ 4) (.v 0),.v 1],.f_ "wbme"]))::.loop c_ [3] (.rng [.call 20 [_,_,_,_]]) iB::.ret (.blt .tuple [.v 4])::[]) _ _;refine fX el ?_
 obtain⟨fs,e,l,h1,h2⟩:=o8 (C:=C) (ρ:=full [a_ (N,d_),a_ (.int d,d_),a_ (L3 ls,c_),b_,b_,b_,b_]) (caps:=[1,2,0]) (it:=.rng [.blt .len [.v 2]]) (elt:=.tup [.ix (.v 2) (.v 0),.call 22 [.v 3,.bin .add (.e_ 4) (.v 0),.v 1],.f_ "wbme"]) jf (λ(k:Nat)(f:Fm)=>lo ls f/\∀h:k<ls.length,f.1=[ls[k]]/\f.2.2=L7) (xH (by rw[p0,cu];exact j) (aa J (by decide))) (by rw[a9];omega) (λf=>Kt f) λi hi=>by
  have hi:=bf.mp hi;obtain⟨cs,b,L,c1,c2,M⟩:=hc (4+(i:Int)) d (by omega) hf
  have y:vf (L3 ls) (.int (i:Nat))=a_ (sT [ls[i]]):=by
   show rd _ (i:Int)=_;rw[km (by rw[aN,af hi];rfl)]
  refine⟨([ls[i]],cs,L7),c_,?_,⟨⟨by simp,λc h=>?_,by simp,c1,c2,15,by decide,by decide,Se⟩,λc h=>?_,M⟩,λ_=>⟨rfl,rfl⟩⟩
  ·rw[vv,fN];show bD (bD (hX _ (vf (L3 ls) (.int (i:Nat)))) _) _=_;rw[y];show bD (hX _ (nE C (.call 22 [_,_,_]::_) _)) _=_;rw[fN];show bD (hX _ (bD (C 22 [N,.int (4+(i:Int)),.int d]) _)) _=_;rw[L,WBT];show a_ (jf ([ls[i]],cs,L7),((b || im (tI cs)) && c_))=_;rw[mo,gu];rfl
  ·rw[aA.mp h];exact hl.2.2 _ (bh hi)
  ·rw[aA.mp h];exact bh hi
 rw[a9]at l;refine fX e ?_;refine KI (I:=X4 N d ls) (gV hd rfl rfl rfl rfl (by decide) (by decide) (by decide) λq h=>by omega) (λm h=>by omega) ⟨fs,_,_,_,rfl,by simp;exact ae l,⟨λf hf=>?_,λc hc=>?_⟩⟩ (λm O us x vs ρ B z=>QU hd g hf hl (by have:=uL B;omega) (by have:=uL B;omega) z) λm O ρ z=>?_
 ·obtain⟨_,_,q,_⟩:=h1 f hf;exact q
 ·obtain⟨i,hi,rfl⟩:=kZ hc;obtain⟨f,hf,_,q⟩:=h2 i (bf.mpr hi);obtain⟨R,U⟩:=q hi;exact⟨f.2.1,by rw[<-R,<-U];exact hf⟩
 ·obtain⟨fs,z3,Z,z6,rfl,y,W⟩:=z;rw[a9]at y;exact jE (by rw[p0,cu];rfl) ⟨fs,_,rfl,by omega,W⟩
def Mw(C:Fs)(N:Dat):Prop:=∀k c:Int,0<=k/\k<=100->0<c/\c<=63->∃cs b,C 26 [N,.int k,.int c]=a_ (tI cs,b)/\cq 2 cs
def mw{ns:List Int}:Mw (Cn D (n+4)) (.lst (ns.map Dat.int)):=λk g j hf=>by
 obtain⟨cs,b,e,c1,c2,l⟩:=cw (ns:=ns) k g j hf;refine⟨cs.take 2,d_,fA rfl ?_,by rw[eA];omega,by rw[eA];exact gm _ _,λc h=>l c (bS h)⟩;generalize Dat.lst (ns.map Dat.int)=N at e ⊢;generalize Cn D (n+3)=C at e ⊢;refine v8 ?_;show bD (C 22 [N,.int k,.int g]) _=_;rw[e];show a_ (Dat.tup (cutD (cs.map Dat.int) b_ (a_ 2)),d_)=_
 have:cutD (cs.map Dat.int) b_ (a_ 2)=(cs.take 2).map Dat.int:=by
  by_cases h:2<=cs.length
  ·rw[Fy (by simp) (by rw[ai];exact dB.mpr h)];exact m6.symm
  ·match cs,c1 with
   |[c],_=>rfl
   |c::d::r,_=>simp at h
 rw[this]
def mq(b:Nat)(m:List Int):Prop:=m.length<=b/\∀c∈m,1<=c/\c<=63
def rY(b:Nat):mq b []:=⟨aR _,λ_ h=>nomatch h⟩
def cq.m{b:Nat}{m:List Int}(h:cq b m):mq b m/\m≠[]:=⟨⟨h.2.1,h.2.2⟩,λe=>by rw[e]at h;exact absurd h.1 (by decide)⟩
structure wT(t:Tb):Prop where
 ok:PX t
 own:∀f∈t.fs,∀c∈f.1,∃cs,([c],cs,L7)∈t.fs
 cf:∀f∈t.fs,∀c∈f.2.1,1<=c/\c<=63
 cm:∀m∈[t.m0,t.m1,t.m2,t.m3,t.fg],∀c∈m,1<=c/\c<=63
 m1:t.m1≠[]->t.m0≠[]
 m3:t.fg≠[]->t.m3≠[]
def uc(c:Mw C N)(h0:ρ[0]?=a_ (a_ (N,d_)))(h1:ρ[1]?=a_ (a_ (.int few,d_)))(g:0<=k/\k<=100)(hf:0<few/\few<=63):Ev C (.call 26 [.v 0,.con (.int k),.v 1]) (full ρ) λd=>∃cs,d=tI cs/\cq 2 cs:=by
 obtain⟨cs,b,e,h⟩:=c k few g hf;refine⟨tI cs,b,?_,mo cs,cs,rfl,h⟩;have j:bE C (.v 0) (full ρ)=a_ (N,d_):=by rw[jh,full,aN,h0];rfl
 have l:bE C (.v 1) (full ρ)=a_ (.int few,d_):=by rw[jh,full,aN,h1];rfl
 rw[lZ,cu,j,cu,yU,cu,l];exact e
abbrev XR(m0 m1 m2 m3:List Int):Dat:=.lst [tI m0,tI m1,tI m2,tI m3]
def GF{ns:List Int}:∃t b,Cn D (n+6) 27 [.lst (ns.map Dat.int)]=a_ (tb t,b)/\wT t:=by
 have hd:Dw (Cn D (n+5)) (.lst (ns.map Dat.int)):=dw;have k:Mw (Cn D (n+5)) (.lst (ns.map Dat.int)):=mw;have ho:Ow (Cn D (n+5)) (.lst (ns.map Dat.int)):=ow
 suffices h:Go (Cn D (n+5)) ZY [a_ (.lst (ns.map Dat.int),d_),b_,b_,b_,b_] λo=>∃t b,o=.rt (tb t) b/\wT t by
  obtain⟨_,h1,t,b,rfl,h2⟩:=h;exact⟨t,b,fA rfl h1,h2⟩
 generalize Dat.lst (ns.map Dat.int)=N at hd k ho ⊢;generalize Cn D (n+5)=C at hd k ho ⊢;show Go C (.set 1 (.ix (.lst _) (.call 20 [_,_,_,_]))::.set 2 (.lst [.tup [],.tup [],.tup [],.tup []])::.ifs (.cmp .eq (.call 20 [_,_,_,_]) (.e_ 0)) [.mut .seti 2 [.call 26 [.v 0,.e_ 25,.v 1],.e_ 0],.ifs (.cmp .eq (.call 20 [_,_,_,_]) (.e_ 0)) [.mut .seti 2 [.call 26 [.v 0,.e_ 26,.v 1],.e_ 1]] []] []::.set 3 (.lst [])::.ifs (.cmp .eq (.call 20 [_,_,_,_]) (.e_ 0)) [.set 4 (.bin .add (.e_ 1) (.call 20 [_,_,_,_])),.ifs (.cmp .eq (.call 20 [_,_,_,_]) (.e_ 0)) [.set 4 (.bin .add (.e_ 1) (.call 20 [_,_,_,_]))] [],.set 3 (.comp 1 c_ [1,0] (.rng [.v 4]) [] (.bin .add (.e_ 1) (.call 20 [.v 2,.e_ 27,.bin .add (.e_ 30091) (.bin .mul (.e_ 22) (.v 0)),.v 1]))),.mut .seti 2 [.call 26 [.v 0,.e_ 28,.v 1],.e_ 2],.mut .seti 2 [.call 26 [.v 0,.e_ 29,.v 1],.e_ 3]] []::.ret (.tup [.call 25 [.v 0,.v 1],.blt .tuple [.v 2],.blt .tuple [.v 3]])::[]) _ _;refine oN (pZ (P:=λq=>0<q/\q<=63) (Fl (is:=[3,6,63]) rfl (gV hd rfl rfl rfl rfl (by decide) (by decide) (by decide) λq h=>by show q<3;omega) (by decide))) ?_;rintro _ ⟨g,rfl,hf⟩;have hf:(0:Int)<(g:Int)/\(g:Int)<=63:=⟨(vZ.mpr hf.1),(dB.mpr hf.2)⟩
 refine fX rfl ?_;refine AX (J:=λρ=>∃m0 m1,ρ=[a_ (N,d_),a_ (.int (g:Nat),d_),a_ (XR m0 m1 [] [],c_),b_,b_]/\mq 2 m0/\mq 2 m1/\(m1≠[]->m0≠[])) (sY (gV hd rfl rfl rfl rfl (by decide) (by decide) (by decide) λq h=>trivial) 0) ?_ ⟨[],[],rfl,rY 2,rY 2,λh=>absurd rfl h⟩ ?_
 ·refine yO (uc k rfl rfl (by decide) hf) rfl rfl λd j=>?_;obtain⟨m0,rfl,h0⟩:=j;refine⟨[tI m0,tI [],tI [],tI []],rfl,AX (J:=λρ=>∃m1,ρ=[a_ (N,d_),a_ (.int (g:Nat),d_),a_ (XR m0 m1 [] [],c_),b_,b_]/\mq 2 m1) (sY (gV hd rfl rfl rfl rfl (by decide) (by decide) (by decide) λq h=>trivial) 0) ?_ ⟨[],rfl,rY 2⟩ ?_⟩
  ·refine yO (uc k rfl rfl (by decide) hf) rfl rfl λd j=>?_;obtain⟨m1,rfl,h1⟩:=j;exact⟨[tI m0,tI m1,tI [],tI []],rfl,dH ⟨_,rfl,m1,rfl,h1.m.1⟩⟩
  ·rintro _ ⟨m1,rfl,h1⟩;exact dH ⟨_,rfl,m0,m1,rfl,h0.m.1,h1,λ_=>h0.m.2⟩
 rintro _ ⟨m0,m1,rfl,h0,h1,L⟩;refine fX rfl ?_;refine AX (J:=λρ=>∃m2 m3 fg O,ρ=[a_ (N,d_),a_ (.int (g:Nat),d_),a_ (XR m0 m1 m2 m3,c_),a_ (.lst (fg.map Dat.int),c_),O]/\mq 2 m2/\mq 2 m3/\mq 10 fg/\(fg≠[]->m3≠[])) (sY (gV hd rfl rfl rfl rfl (by decide) (by decide) (by decide) λq h=>trivial) 0) ?_ ⟨[],[],[],b_,rfl,rY 2,rY 2,rY 10,λh=>absurd rfl h⟩ ?_
 ·refine vn (P:=λv=>1<=v/\v<=10) (sZ hd rfl rfl rfl rfl (by decide) (by decide) (by decide) (by decide)) (λv=>sY (P:=λ_=>True) (gV hd rfl rfl rfl rfl (by decide) (by decide) (by decide) λ_ _=>trivial) 0) (λv=>sZ hd rfl rfl rfl rfl (by decide) (by decide) (by decide) (by decide)) λm M=>?_;have z:=M.2;obtain⟨fg,e,l,h3⟩:=Bs (ρ:=full [a_ (N,d_),a_ (.int (g:Nat),d_),a_ (XR m0 m1 [] [],c_),a_ (.lst [],c_),a_ (.int (m:Nat),d_)]) (p:=30091) (caps:=[1,0]) (it:=.v 4) (e1:=.v 2) (e2:=.e_ 27) (e3:=.v 1) hd rfl z (by decide) (by decide) hf (λ_=>rfl) (λ_=>rfl) (λ_=>rfl);refine fX e ?_;refine yO (uc k rfl rfl (by decide) hf) rfl rfl λd j=>?_;obtain⟨m2,rfl,h2⟩:=j;refine⟨[tI m0,tI m1,tI m2,tI []],rfl,yO (uc k rfl rfl (by decide) hf) rfl rfl λd j=>?_⟩;obtain⟨m3,rfl,B⟩:=j;exact⟨[tI m0,tI m1,tI m2,tI m3],rfl,dH ⟨_,rfl,m2,m3,fg,_,rfl,h2.m.1,B.m.1,⟨aa (ae l) z,h3⟩,λ_=>B.m.2⟩⟩
 rintro _ ⟨m2,m3,fg,O,rfl,h2,h3,R,U⟩;obtain⟨ls,fs,b,e,hl,W,y⟩:=ho g hf;refine jE (d:=tb ⟨fs,m0,m1,m2,m3,fg⟩) (f:=c_) ?_ ⟨_,_,rfl,⟨λf hf=>(y.o f hf).1,by show fs.length<=12;exact bW hl,h0.1,h1.1,h2.1,h3.1,R.1⟩,λf hf c hc=>y.w c ((y.o f hf).2.1 c hc),λf hf=>(y.o f hf).2.2,?_,L,U⟩
 ·rw[vv,fN];show bD (bD (C 25 [N,.int (g:Nat)]) _) _=_;rw[e];have Y:im (Dat.tup (fs.map jf))=c_:=nA fs
  have i2:im (Dat.tup [tI m0,tI m1,tI m2,tI m3])=c_:=by
   simp only[im,jL,iF,aj];exact⟨mo _,mo _,mo _,mo _⟩
  have i3:=mo fg;show a_ (tb ⟨fs,m0,m1,m2,m3,fg⟩,(b || im (Dat.tup (fs.map jf))) && ((_ || im (Dat.tup [tI m0,tI m1,tI m2,tI m3])) && ((_ || im (tI fg)) && c_)))=_;rw[Y,i2,i3,gu];simp only[gu];rfl
 ·intro m k c hc;simp only[aw,bP,or_false]at k
  rcases k with rfl|rfl|rfl|rfl|rfl
  ·exact h0.2 c hc
  ·exact h1.2 c hc
  ·exact h2.2 c hc
  ·exact h3.2 c hc
  ·exact R.2 c hc
noncomputable def ltN(a b:Nat):Bool:=decide (a<b)
def YR:M.LO ltN:=⟨λx=>by simp[ltN],λx y z h h'=>by simp[ltN]at *;exact cR h h',λx y h h'=>by simp[ltN]at *;exact bA h' h⟩
def ZK(a b:Nat):t7 (T [a]) (T [b])=ltN a b:=by
 show decide ([a] < [b])=decide (a<b);refine decide_eq_decide.mpr ⟨λh=>?_,λh=>?_⟩
 ·cases h with
  |rel h=>exact h
  |cons h=>cases h
 ·exact List.Lex.rel h
theorem AU{α β:Type}{lt:α->α->Bool}{c:β->β->Bool}{g:α->β}(h:∀a b,c (g a) (g b)=lt a b)(x:α):∀l:List α,vh c (g x) (l.map g)=(vh lt x l).map g
 |[]=>rfl
 |y::ys=>by
   simp only[ax,vh,h];split
   ·rfl
   ·split
    ·rw[AU h x ys];rfl
    ·rfl
theorem wK{α β:Type}{lt:α->α->Bool}{c:β->β->Bool}{g:α->β}(h:∀a b,c (g a) (g b)=lt a b):∀l:List α,gC c (l.map g)=(gC lt l).map g
 |[]=>rfl
 |x::l=>by simp only[ax,gC,wK h l,AU h]
theorem AS{α β:Type}{lt:α->α->Bool}{c:β->β->Bool}{g:α->β}(h:∀a b,c (g a) (g b)=lt a b)(x:α):∀l:List α,wc c (g x) (l.map g)=(wc lt x l).map g
 |[]=>rfl
 |y::ys=>by
   simp only[ax,wc,h];split
   ·rw[AS h x ys];rfl
   ·rfl
theorem wH{α β:Type}{lt:α->α->Bool}{c:β->β->Bool}{g:α->β}(h:∀a b,c (g a) (g b)=lt a b):∀l:List α,mL c (l.map g)=(mL lt l).map g
 |[]=>rfl
 |x::l=>by simp only[ax,mL,wH h l,AS h]
abbrev c1(l:List Nat):List Dat:=l.map λc=>sT [c]
def QZ{l:List Nat}(h:l.length<4000)(c:(gC ltN l).length<64):gW .sset [.str (T l)]=a_ (.lst (c1 (gC ltN l)),c_):=by
 show D2 (dY (T l))=_;rw[yu];unfold D2;rw[wK (lt:=ltN) ZK,if_pos ⟨by rw[ai];omega,by rw[ai];exact c⟩,cB];rfl
def Rg{l:List Nat}(h:l.length<64):gW .sorted [.str (T l)]=a_ (.lst (c1 (mL ltN l)),c_):=by
 show D4 (dY (T l))=_;rw[yu];unfold D4;rw[wH ZK,if_pos (by rw[ai];exact h),cB];rfl
def Xm(l:List Nat):c1 l=(l.map λc=>[c]).map λl=>Dat.str (T l):=by rw[cB];rfl
def join_1{l:List Nat}(h:l.length<=1000):jc .join (.str (T [])) [.lst (c1 l)]=a_ (.str (T l),d_):=by
 have:=yE (ws:=l.map λc=>[c]) (by rw[VL];exact aa h (by decide));rw[Qi,<-Xm]at this;exact this
noncomputable def lets(fs:List Fm):List Nat:=(fs.map (·.1)).flatten
def U(fs:List Fm):List Nat:=gC ltN (lets fs)
def Kc(ho:∀f∈fs,HK f):(lets fs).length<=6 * fs.length:=by
 induction fs with
 |nil=>simp[lets]
 |cons f r c=>
   have a:=c λg m=>ho g (iE _ m);have b:=(ho f g7).ll;simp only[lets,ax,mK,az,a8]at a ⊢;omega
def ER:c∈U fs↔∃f∈fs,c∈f.1:=by
 rw[U,jo YR];unfold lets;rw[List.mem_flatten];constructor
 ·rintro⟨l,h1,h2⟩;obtain⟨f,h3,rfl⟩:=cg.mp h1;exact⟨f,h3,h2⟩
 ·rintro⟨f,h1,h2⟩;exact⟨f.1,de h1,h2⟩
def Qv(ho:∀f∈fs,HK f):∀c∈U fs,c∈qB:=λc hc=>by
 obtain⟨f,h3,h2⟩:=ER.mp hc;exact(ho f h3).low c h2
def Qw(ho:∀f∈fs,HK f):(U fs).length<=26:=CM (mQ YR (jD YR _)) λc hc=>Qv ho c hc
def GI{fs:List Fm}(h:fs.length<=100)(ho:∀f∈fs,HK f):Cn D (n+1) 1 [.tup (fs.map jf)]=a_ (sT (U fs),d_):=by
 refine fA (body:=b1) rfl ?_;unfold K43.b1;rw[Z9];have h1:=FC (C:=Cn D n) (ρ:=[a_ (.tup (fs.map jf))]) (caps:=[]) (it:=.itv (.v 0)) (elt:=.ix (.v 0) (.e_ 0)) rfl (aa h (by decide)) (λ_ _=>rfl) λf _=>⟨d_,rfl⟩
 have hl:=Kc ho
 have h2:jc .join (.str (T [])) [.lst (fs.map λf=>sT f.1)]=a_ (.str (T (lets fs)),d_):=by
  rw[show(fs.map λf=>sT f.1)=(fs.map (·.1)).map λl=>.str (T l) by rw[cB];rfl];refine yE (ws:=fs.map (·.1)) ?_
  have e:((fs.map (·.1)).map (·.length)).sum=(lets fs).length:=by
   unfold lets;rw[List.length_flatten]
  omega
 have c:=Qw ho;unfold U at c;have h3:=QZ (l:=lets fs) (by omega) (aG c (by decide));have d:=join_1 (l:=gC ltN (lets fs)) (aa c (by decide));show _=a_ (Out.rt (.str (T (gC ltN (lets fs)))) d_);exact v8 (Tc rfl (pq (Tc rfl h1 h2) h3) d)
def slB:((aT 11).all λk=>qu (D7 (.str (T qM)) b_ (a_ (k:Nat))) (a_ (.str (T (qM.take k)),d_)))=c_:=by kernel_rfl
def Yo(h:k<=10):D7 (.str (T qM)) b_ (a_ (k:Nat))=a_ (.str (T (qM.take k)),d_):=oH (bo.mp slB k (bf.mpr (bC h)))
noncomputable def KH(t:Tb)(u:List Nat):List Nat:=if t.m0.isEmpty=c_ then []else u.map (·- 32)
def raw(t:Tb):List Nat:=[32]++qM.take t.fg.length++KH t (U t.fs)++U t.fs
def OA(t:Tb)(u:List Nat):(KH t u).length<=u.length:=by
 unfold KH;split
 ·exact aR _
 ·rw[ai];exact au _
def W5(d:∀c∈u,c∈qB)(hl:u.length<=1000):bE C (.ite (.cmp .eq (.ix (.ix (.v 0) (.e_ 1)) (.e_ 0)) (.tup [])) (.f_ "") (.jr .upper (.v 1) [])) [a_ (tb t),a_ (sT u),a,b]=a_ (sT (KH t u),d_):=by
 have h:bE C (.cmp .eq (.ix (.ix (.v 0) (.e_ 1)) (.e_ 0)) (.tup [])) [a_ (tb t),a_ (sT u),a,b]=a_ (.bl t.m0.isEmpty,d_):=by
  show(fQ .eq (tI t.m0) (.tup [])).map _=_;rw[Dq];rfl
 rw[Fk h rfl];unfold KH;cases t.m0.isEmpty
 ·exact tU d hl
 ·rw[Z9];rfl
def GH(ht:PX t):∃s,Cn D (n+2) 2 [tb t]=a_ (sT s,d_)/\∀c,c∈s↔c∈raw t:=by
 refine⟨mL ltN (raw t),?_,λc=>(k9 _).mem_iff⟩;have r:=GI (n:=n) (aa ht.hl (by decide)) ht.ho;have y:=Qw ht.ho;have low:=Qv ht.ho;have L:=OA t (U t.fs);have j:(qM.take t.fg.length).length<=10:=by rw[eA];exact kF _ _
 have e2:raw t=[32]++qM.take t.fg.length++KH t (U t.fs)++U t.fs:=rfl;have d:(raw t).length<64:=by rw[e2];simp only[az,a8,kU];omega
 have z:=LH (a:=[32]) (by exact aa (fF j _) (by decide));have B:=LH (a:=[32]++qM.take t.fg.length) (b:=KH t (U t.fs)) (by simp only[az,a8,kU];omega);have q:=LH (a:=[32]++qM.take t.fg.length++KH t (U t.fs)) (b:=U t.fs) (by simp only[az,a8,kU];omega);have hs:=Rg d;have J:=join_1 (l:=mL ltN (raw t)) (by rw[(k9 _).length_eq];exact bb (aa d (by decide)));have k:=Yo ht.hf;rw[<-e2]at q;refine fA rfl ?_;generalize Cn D (n+1)=C at r ⊢;show dP C (.set 1 _::.set 2 _::.set 3 (.sl (.f_ "0123456789") b_ (a_ (.blt .len [.ix (.v 0) (.e_ 2)])))::.ret (.jr .join (.f_ "") [.blt .sorted [.bin .add (.bin .add (.bin .add (.f_ " ") (.v 3)) (.v 2)) (.v 1)]])::[]) [a_ (tb t,d_),b_,b_,b_]=_;have s1:ot C (.set 1 (.call 1 [.ix (.v 0) (.e_ 0)])) [a_ (tb t,d_),b_,b_,b_]=a_ (.nx [a_ (tb t,d_),a_ (sT (U t.fs),d_),b_,b_]):=jl r rfl;rw[kj s1];generalize M:U t.fs=u at *;have s2:=jl (C:=C) (i:=2) (ρ:=[a_ (tb t,d_),a_ (sT u,d_),b_,b_]) (W5 low (aa y (by decide))) rfl;rw[kj s2];generalize KH t u=g at *
 have s3:ot C (.set 3 (.sl (.f_ "0123456789") b_ (a_ (.blt .len [.ix (.v 0) (.e_ 2)])))) [a_ (tb t,d_),a_ (sT u,d_),a_ (sT g,d_),b_]=a_ (.nx [a_ (tb t,d_),a_ (sT u,d_),a_ (sT g,d_),a_ (sT (qM.take t.fg.length),d_)]):=by
  refine jl (fl:=d_) ?_ rfl;exact Yn rfl (pq rfl (vc t.fg)) k
 show dP C _ [a_ (tb t,d_),a_ (sT u,d_),a_ (sT g,d_),b_]=_;rw[kj s3];refine v8 ?_;exact Tc rfl (pq (lD (lD (lD rfl rfl z) rfl B) rfl q) hs) J
def T9{ds:List Dat}(h:ds.length=np)(c:dP C body (ds.map (λd=>a_ (d,d_))++dt (nl - np) b_)=a_ (.nx ρ)):OL C np nl body ds=a_ (.non,d_):=by
 unfold OL;rw[if_pos h,c];rfl
def Tr:List Sx:=[(.ifs (.cmp .nin (.v 4) (.v 2)) [.LX] [])]
theorem WJ:∀(x:List Nat)(k:Nat)(z3 g:g_),(∀c∈x,c∈s)->∃j l,jd (iV d_ [3,4]) (dP C Tr) (we k (c1 x)) [a_ (a,d_),a_ (b,d_),a_ (sT s,d_),z3,g]=a_ (.nx [a_ (a,d_),a_ (b,d_),a_ (sT s,d_),j,l])
 |[],k,z3,g,_=>⟨z3,g,rfl⟩
 |c::x,k,z3,g,h=>by
   obtain⟨q,y,z⟩:=WJ x (k+1) (a_ (.int (k:Nat),d_)) (a_ (sT [c],d_)) λd hd=>h d (iE _ hd);refine⟨q,y,?_⟩;have e:bE C (.cmp .nin (.v 4) (.v 2)) (full [a_ (a,d_),a_ (b,d_),a_ (sT s,d_),a_ (.int (k:Nat),d_),a_ (sT [c],d_)])=a_ (.bl d_,d_):=jt rfl rfl (by rw[Wz,decide_eq_true (h c g7)];rfl);refine(EW (ρ1:=[a_ (a,d_),a_ (b,d_),a_ (sT s,d_),a_ (.int (k:Nat),d_),a_ (sT [c],d_)]) rfl ?_).trans z;unfold Tr;exact pY (by rw[E5 e rfl];rfl)
def GN(ht:PX t)(d:∀c∈x,c∈raw t)(hl:x.length<=1000):Cn D (n+3) 11 [tb t,sT x]=a_ (.non,d_):=by
 obtain⟨s,r,hs⟩:=GH ht;obtain⟨z3,g,h⟩:=WJ (C:=Cn D (n+2)) (a:=tb t) (b:=sT x) x 0 b_ b_ λc hc=>(hs c).mpr (d c hc);refine T9 (ρ:=[a_ (tb t,d_),a_ (sT x,d_),a_ (sT s,d_),z3,g]) rfl ?_;generalize Cn D (n+2)=C at r h ⊢;have s1:ot C (.set 2 (.call 2 [.v 0])) [a_ (tb t,d_),a_ (sT x,d_),b_,b_,b_]=a_ (.nx [a_ (tb t,d_),a_ (sT x,d_),a_ (sT s,d_),b_,b_]):=jl r rfl;show dP C (.set 2 (.call 2 [.v 0])::.loop d_ [3,4] (.enu (.v 1)) Tr::[]) [a_ (tb t,d_),a_ (sT x,d_),b_,b_,b_]=_;rw[kj s1];refine pY ?_;exact h
def Yl:((aT 10).all λk=>qu (gW .str [.int (k:Nat)]) (a_ (.str (T [48+k]),d_)) && decide (qM[k]?=a_ (48+k)))=c_:=by kernel_rfl
def DY(h:k<10):gW .str [.int (k:Nat)]=a_ (.str (T [48+k]),d_)/\qM[k]?=a_ (48+k):=by
 have:=bo.mp Yl k (bf.mpr h);rw[aj]at this;exact⟨oH this.1,of_decide_eq_true this.2⟩
def WA:fQ .nin (sT [c]) (.lst (c1 l))=a_ (!decide (c∈l)):=by
 have hs:∀l:List Nat,eC 20 (c1 l)=c_:=λl=>by
  induction l with
  |nil=>rfl
  |cons a r d=>show(c_ && eC 20 (c1 r))=c_;rw[d];rfl
 show(if(c_ && eC 20 (c1 l))=c_ then a_ (!(c1 l).any λy=>nW y (sT [c]))else b_)=_;rw[hs,kG,if_pos rfl]
 congr 2
 induction l with
 |nil=>rfl
 |cons a r d=>
   show((T [a] == T [c]) || (c1 r).any λy=>nW y (sT [c]))=_;rw[d];by_cases h:a=c
   ·subst h;simp
   ·have h':¬c=a:=λe=>h e.symm;simp[h,h']
def Oj(h:bE C a ρ=a_ (tI m,f)):bE C (.cmp .gt (.blt .len [a]) (.e_ 0)) ρ=a_ (.bl (!m.isEmpty),d_):=jt (pq h (vc m)) rfl (by
 show a_ (decide (0<((m.length:Nat):Int)))=_
 cases m with
 |nil=>rfl
 |cons a r=>rw[decide_eq_true (by simp)];rfl)
def V7{t:Tb}(hf:f∈t.fs)(hc:c∈f.1):c∈raw t:=ag _ (ER.mpr ⟨f,hf,hc⟩)
def V5{t:Tb}(hf:f∈t.fs)(hc:c∈f.1)(d:t.m0.isEmpty=d_):c - 32∈raw t:=by
 refine aq _ (ag _ ?_);unfold KH;rw[d];exact cg.mpr ⟨c,ER.mpr ⟨f,hf,hc⟩,rfl⟩
def V6{t:Tb}(c:k<t.fg.length)(h:k<10):48+k∈raw t:=by
 refine aq _ (aq _ (ag _ ?_));have:=(DY h).2;exact oS.mpr ⟨k,by rw[bX,if_pos c];exact this⟩
def V8(t:Tb):32∈raw t:=aq _ (aq _ (aq _ g7))
def sq(t:Tb)(b:Nat)(ss:List Nat):Prop:=ss≠[]/\ss.length<=b/\∀c∈ss,c∈raw t
abbrev QB(t:Tb)(ss:List Nat)(z:g_):dI:=[a_ (tb t,d_),a_ (.lst (c1 ss),c_),z]
def UX(t:Tb)(us:List Fm)(ρ:dI):Prop:=∃ss z,ρ=QB t ss z/\sq t (11+2 * us.length) ss
def WM:List Sx:=[(.ifs (.and (.cmp .eq (.blt .len [(.ix (.v 2) (.e_ 0))]) (.e_ 1)) (.cmp .nin (.ix (.v 2) (.e_ 0)) (.v 1))) [(.mut .app 1 [(.ix (.v 2) (.e_ 0))]),(.ifs (.cmp .gt (.blt .len [(.ix (.ix (.v 0) (.e_ 1)) (.e_ 0))]) (.e_ 0)) [(.mut .app 1 [(.jr .upper (.ix (.v 2) (.e_ 0)) [])])] [])] [])]
def IH(h:sq t b ss)(hc:c∈raw t):sq t (b+1) (ss++[c]):=⟨by simp,by rw[az];have:=h.2.1;exact bC this,λd hd=>by
 rcases ao.mp hd with q|q
 ·exact h.2.2 d q
 ·rw[aA.mp q];exact hc⟩
def Lv(ss:List Nat)(c:Nat):c1 ss++[sT [c]]=c1 (ss++[c]):=by show _=Pq _ _;rw[dS];rfl
def QT(ht:PX t){us:List Fm}(hf:f∈t.fs)(R:us.length<=100)(h:UX t us ρ):∃ρ1,iV c_ [2] (jf f) ρ=a_ ρ1/\Go C WM ρ1 λo=>∃g,o=.nx g/\UX t (us++[f]) g:=by
 obtain⟨ss,z,rfl,hs⟩:=h;refine⟨_,rfl,?_⟩;have l:=ht.ho f hf;have y:gW .len [sT f.1]=a_ (.int (f.1.length:Nat),d_):=len_T (aa l.ll (by decide));have hlen:=hs.2.1;have fin:∀ss',sq t (11+2 * us.length+2) ss'->∃g,Out.nx (QB t ss' (a_ (jf f,d_)))=.nx g/\UX t (us++[f]) g:=λss' h=>⟨_,rfl,ss',_,rfl,h.1,by rw[az];have:=h.2.1;show _<=11+2 * (_+1);omega,h.2.2⟩
 show Go C (.ifs (.and (.cmp .eq (.blt .len [.ix (.v 2) (.e_ 0)]) (.e_ 1)) (.cmp .nin (.ix (.v 2) (.e_ 0)) (.v 1))) [.mut .app 1 [.ix (.v 2) (.e_ 0)],.ifs (.cmp .gt (.blt .len [.ix (.ix (.v 0) (.e_ 1)) (.e_ 0)]) (.e_ 0)) [.mut .app 1 [.jr .upper (.ix (.v 2) (.e_ 0)) []]] []] []::[]) (QB t ss (a_ (jf f,d_))) _
 have L:bE C (.cmp .eq (.blt .len [.ix (.v 2) (.e_ 0)]) (.e_ 1)) (full (QB t ss (a_ (jf f,d_))))=a_ (.bl (decide (f.1.length=1)),d_):=jt (pq rfl y) rfl (by
  show a_ (decide (((f.1.length:Nat):Int)=1))=_
  rw[decide_eq_decide.mpr (show((f.1.length:Nat):Int)=1↔f.1.length=1 by omega)])
 by_cases h1:f.1.length=1
 ·obtain⟨c,hc⟩:∃c,f.1=[c]:=by
   match q:f.1,h1 with
   |[c],_=>exact⟨c,rfl⟩
  have k:c∈f.1:=by rw[hc];exact g7
  have M:bE C (.cmp .nin (.ix (.v 2) (.e_ 0)) (.v 1)) (full (QB t ss (a_ (jf f,d_))))=a_ (.bl (!decide (c∈ss)),d_):=jt rfl rfl (by rw[hc,WA])
  have B:bE C (.and (.cmp .eq (.blt .len [.ix (.v 2) (.e_ 0)]) (.e_ 1)) (.cmp .nin (.ix (.v 2) (.e_ 0)) (.v 1))) (full (QB t ss (a_ (jf f,d_))))=a_ (.bl (!decide (c∈ss)),d_):=by
   rw[nF L,decide_eq_true h1];exact M
  refine oO (J:=UX t (us++[f])) B (λ_=>?_) (λ_=>dH (fin ss ⟨hs.1,B6 hlen,hs.2.2⟩)) λρ' h=>dH ⟨_,rfl,h⟩;refine r8 (P:=(·= sT [c])) ⟨sT f.1,d_,rfl,rfl,by rw[hc]⟩ rfl (by rw[ai];omega) λd hd=>?_;rw[hd,Lv];have j:=IH hs (V7 hf k);have O:bE C (.cmp .gt (.blt .len [.ix (.ix (.v 0) (.e_ 1)) (.e_ 0)]) (.e_ 0)) (full (QB t (ss++[c]) (a_ (jf f,d_))))=a_ (.bl (!t.m0.isEmpty),d_):=Oj rfl;refine oO (J:=UX t (us++[f])) O (λq=>?_) (λ_=>dH (fin _ ⟨j.1,bW j.2.1,j.2.2⟩)) λρ' h=>dH ⟨_,rfl,h⟩;have D:jc .upper (sT [c]) []=a_ (sT [c - 32],d_):=tU (u:=[c]) (λd hd=>by rw[aA.mp hd];exact l.low c k) (by simp);refine r8 (P:=(·= sT [c - 32])) ⟨sT [c - 32],d_,?_,rfl,rfl⟩ rfl (by rw[ai,az];show _+1<_;omega) λd hd=>?_
  ·show jc .upper (sT f.1) []=_;rw[hc];exact D
  ·rw[hd,Lv];exact dH (fin _ (IH j (V5 hf k (by simpa using q))))
 ·have B:bE C (.and (.cmp .eq (.blt .len [.ix (.v 2) (.e_ 0)]) (.e_ 1)) (.cmp .nin (.ix (.v 2) (.e_ 0)) (.v 1))) (full (QB t ss (a_ (jf f,d_))))=a_ (.bl d_,d_):=by
   rw[nF L,decide_eq_false h1];rfl
  exact oO (J:=UX t (us++[f])) B (λq=>absurd q (by decide)) (λ_=>dH (fin ss ⟨hs.1,B6 hlen,hs.2.2⟩)) λρ' h=>dH ⟨_,rfl,h⟩
def CB(ht:PX t):∃ss,Cn D (n+1) 28 [tb t]=a_ (.lst (c1 ss),c_)/\sq t 40 ss:=by
 suffices h:Go (Cn D n) ZX [a_ (tb t,d_),b_,b_] λo=>∃ss,o=.rt (.lst (c1 ss)) c_/\sq t 40 ss by
  obtain⟨_,h1,ss,rfl,h2⟩:=h;exact⟨ss,fA rfl h1,h2⟩
 generalize Cn D n=C;have d:=ht.hf;show Go C (.set 1 (.cat (.lst [.f_ " "]) (.comp 1 c_ [] (.rng [.blt .len [.ix (.v 0) (.e_ 2)]]) [] (.blt .str [.v 0])))::.loop c_ [2] (.itv (.ix (.v 0) (.e_ 0))) WM::.qv 1::[]) _ _
 obtain⟨fs,e,l,h1,_⟩:=o8 (ρ:=full [a_ (tb t,d_),b_,b_]) (it:=.rng [.blt .len [.ix (.v 0) (.e_ 2)]]) (elt:=.blt .str [.v 0]) (λc=>sT [c]) (λ(_:Nat)c=>c∈raw t) (xH (vc t.fg) (aa d (by decide))) (by rw[a9];omega) (λ_=>rfl) λk g=>by
  have g:=bf.mp g;exact⟨48+k,d_,(DY (aa g d)).1,V6 g (by omega)⟩
 rw[a9]at l;refine fX (ds:=c1 (32::fs)) ?_ ?_
 ·show bD (bE C (.comp 1 c_ [] (.rng [.blt .len [.ix (.v 0) (.e_ 2)]]) [] (.blt .str [.v 0])) (full [a_ (tb t,d_),b_,b_])) _=_;rw[e,BL];show(if 1+(fs.map λc=>sT [c]).length<=aB then _ else b_)=_;rw[if_pos (by rw[ai,eM];omega)];rfl
 ·refine qH (I:=UX t) (u9 rfl rfl (by show(jL (t.fs.map jf) || d_)=c_;rw[nA];rfl)) ⟨32::fs,_,rfl,by simp,by simp;exact aa (ae l) d,λc hc=>?_⟩ (λus f vs ρ q h=>QT ht (by rw[q];simp) (by have:=ht.hl;rw[q]at this;simp at this;omega) h) λρ' h=>?_
  ·rcases aw.mp hc with rfl|hc
   ·exact V8 t
   ·obtain⟨_,_,q⟩:=h1 c hc;exact q
  ·obtain⟨ss,z,rfl,hs⟩:=h;exact⟨_,rfl,ss,rfl,hs.1,by have:=hs.2.1;have:=ht.hl;omega,hs.2.2⟩
def IW{ns:List Int}(ht:PX t)(y:m<=100):∃x b,Cn D (n+3) 29 [.lst (ns.map Dat.int),tb t,.int (m:Nat)]=a_ (sT x,b)/\x.length=m/\∀c∈x,c∈raw t:=by
 have hd:Dw (Cn D (n+2)) (.lst (ns.map Dat.int)):=dw;obtain⟨ss,r,h0,hl,hs⟩:=CB (n:=n+1) ht
 suffices h:Go (Cn D (n+2)) ZW [a_ (.lst (ns.map Dat.int),d_),a_ (tb t,d_),a_ (.int (m),d_),b_] λo=>∃x b,o=.rt (sT x) b/\x.length=m/\∀c∈x,c∈raw t by
  obtain⟨_,h1,x,b,rfl,h2⟩:=h;exact⟨x,b,fA rfl h1,h2⟩
 generalize Dat.lst (ns.map Dat.int)=N at hd ⊢;have g :=fD.mpr h0;refine fX r ?_
 have hi:∀l:List Nat,jL (c1 l)=c_:=λl=>by
  induction l with
  |nil=>rfl
  |cons a r z=>show(c_ && jL (c1 r))=c_;rw[z];rfl
 refine fX (ds:=c1 (ss++ss.drop 1)) ?_ ?_
 ·have e1:D7 (.lst (c1 ss)) (a_ 1) b_=a_ (.lst (c1 (ss.drop 1)),c_):=by
   show a_ (Dat.lst (cutD (c1 ss) (a_ 1) b_),jL (cutD (c1 ss) (a_ 1) b_))=_;rw[Fx (by simp) (by rw[ai];exact dB.mpr g)];show a_ (Dat.lst ((c1 ss).drop 1),jL ((c1 ss).drop 1))=_;rw[ql.symm,hi]
  refine lD rfl (VR rfl rfl e1) ?_;rw[p8 (by rw[ai,ai,eX];omega),dS.symm,hi]
 ·have h2:∀c∈ss++ss.drop 1,c∈raw t:=λc hc=>by
   rcases ao.mp hc with q|q
   ·exact hs c q
   ·exact hs c (du q)
  have h3:0<(ss++ss.drop 1).length:=by rw[az];exact Mj _ g
  generalize ss++ss.drop 1=s2 at h2 h3 ⊢;have j:gW .len [.lst (c1 s2)]=a_ (.int (s2.length),d_):=by rw[j9,ai]
  obtain⟨d,f,e,_,W,rfl,B,k⟩:=Qj (ρ:=full [a_ (N,d_),a_ (tb t,d_),a_ (.int (m),d_),a_ (.lst (c1 s2),c_)]) (e:=.v 2) (caps:=[0,3]) (elt:=.ix (.v 2) (.call 20 [.v 1,.bin .add (.e_ 31) (.v 0),.e_ 35023,.blt .len [.v 2]])) (r:=(·= m)) ⟨m,_,rfl,rfl⟩ (λm h=>(aa (ae h) (aa y (by decide)))) λJ h i hi=>K0 rfl (gV hd rfl (lz rfl rfl) rfl (by exact j) (by omega) (by decide) (vZ.mpr h3) λq h=>by omega) h2;exact jE e ⟨W,f,rfl,B,k⟩
end K43E
namespace M
open PySem L2
open Builtin Builtin.Str
set_option tactic.hygienic true in
def MW{x:List Nat}(h1:p<=q)(h2:q<=x.length)(h:strSliceIndices l u 1 x.length=strSliceIndices (a_ (p:Int)) (a_ (q:Int)) 1 x.length):fe (T x) l u=T ((x.drop p).take (q - p)):=by
 have e:=PySem.StrLaws.sliced_plain (T x) h1 (by rw[nX];exact h2);rw[nX]at e;unfold fe;rw[nX,h,e,PySem.StrLaws.strSliceIndices_plain h1 h2,ai,a9];split
 ·rename_i z;simp at z;have hp:p=0:=by omega
  subst hp;rw[z,fj,LQ]
 ·rfl
end M
namespace K43E
open PySem L2 M K43
def vj:Qa (c::r)=(c - 32)::r:=by
 have h:fe (T (c::r)) (a_ 1) b_=T r:=by
  refine(MW (p:=1) (q:=(c::r).length) (by simp) (au _) ?_).trans (by simp);have e:max (0:Int) (min ((c::r).length:Int) ((c::r).length:Int))=((c::r).length:Int):=by omega
  simp only[Builtin.Str.strSliceIndices,show((1:Int) > 0)=True by simp,if_true];rw[if_neg (show¬(((c::r).length:Nat):Int)<0 from(λz=>(uo z (j5 _)))),e];rfl
 unfold Qa;rw[h,FR];rfl
variable{t:Tb}{e:Ed}
def J2:e∈s0 t↔∃f∈t.fs,∃w∈W6,e∈Qg f w:=by
 show e∈t.fs.flatMap (λf=>W6.flatMap (Qg f))↔_;rw[eo];exact⟨λ⟨f,h1,h2⟩=>⟨f,h1,eo.mp h2⟩,λ⟨f,h1,h2⟩=>⟨f,h1,eo.mpr h2⟩⟩
def CU:e∈s1 t↔∃c∈s0 t,e=c\/(t.m0.isEmpty=d_/\e=OB t.m0 c):=by
 show e∈(if t.m0.isEmpty=c_ then s0 t else s0 t++(s0 t).map (OB t.m0))↔_;cases t.m0.isEmpty
 ·show e∈s0 t++(s0 t).map (OB t.m0)↔_;rw[ao,cg];constructor
  ·rintro(h|⟨c,h,rfl⟩)
   ·exact⟨e,h,.inl rfl⟩
   ·exact⟨c,h,.inr ⟨rfl,rfl⟩⟩
  ·rintro⟨c,h,rfl|⟨_,rfl⟩⟩
   ·exact .inl h
   ·exact .inr ⟨c,h,rfl⟩
 ·constructor
  ·intro h;exact⟨e,h,.inl rfl⟩
  ·rintro⟨c,h,rfl|⟨q,_⟩⟩
   ·exact h
   ·cases q
def yF:e∈Ac t↔e∈s1 t\/(t.m1.isEmpty=d_/\∃f∈t.fs,∃w∈A6,e∈KP t.m1 f w):=by
 show e∈(if t.m1.isEmpty=c_ then s1 t else s1 t++t.fs.flatMap (H6 t.m1))↔_;cases t.m1.isEmpty
 ·show e∈s1 t++t.fs.flatMap (H6 t.m1)↔_;rw[ao,eo];constructor
  ·rintro(h|⟨f,hf,h⟩)
   ·exact .inl h
   ·exact .inr ⟨rfl,f,hf,eo.mp h⟩
  ·rintro(h|⟨_,f,hf,h⟩)
   ·exact .inl h
   ·exact .inr ⟨f,hf,eo.mpr h⟩
 ·show e∈s1 t↔_;constructor
  ·exact .inl
  ·rintro(h|⟨q,_⟩)
   ·exact h
   ·cases q
def CT:e∈s3 t↔e∈Ac t/\(t.fg.isEmpty=c_->e.1≠vJ):=by
 show e∈(if t.fg.isEmpty=c_ then(Ac t).filter sQ else Ac t)↔_;cases t.fg.isEmpty
 ·exact⟨λh=>⟨h,λh=>nomatch h⟩,λh=>h.1⟩
 ·show e∈(Ac t).filter sQ↔_;rw[bJ];have:sQ e=c_↔e.1≠vJ:=by simp[sQ]
  exact⟨λh=>⟨h.1,λ_=>this.mp h.2⟩,λh=>⟨h.1,this.mpr (h.2 rfl)⟩⟩
def W6B:(W6.all λw=>decide (w.2.1∈l8) && decide (w.2.2∈l8))=c_:=by decide +kernel
def A6B:(A6.all λw=>decide (w.2.1∈l8) && decide (w.2.2∈l8))=c_:=by decide +kernel
structure U5(e:Ed):Prop where
 b:e.1∈l8
 o:e.2.2.2∈l8
 t:e.2.1.length<=6
 n:e.2.1=[]->e.1=rf/\e.2.2.2=vJ
 c:e.2.2.1≠[]
 z:(∀c∈e.2.2.1,c≠0)\/(e.1∈tK/\e.2.2.2=DH)
 k:e.2.2.1.length<=6
def wZ(h1:e.1∈l8)(h2:e.2.2.2∈l8)(h3:e.2.1.length<=6)(d:e.2.1≠[])(h5:e.2.2.1≠[])(g:∀c∈e.2.2.1,c≠0)(j:e.2.2.1.length<=6):U5 e:=⟨h1,h2,h3,λh=>absurd h d,h5,.inl g,j⟩
set_option tactic.hygienic true in
def TY(w:wT t):∀e∈got t,U5 e:=λe he=>by
 have ht:=w.ok;have d:∀m∈[t.m0,t.m1,t.m2,t.m3,t.fg],∀c∈m,c≠0:=λm B c hc=>by have:=w.cm m B c hc;exact λz=>(Int.not_lt_of_ge this.1 (fW (Int.le_of_eq z) (by decide)))
 have app:∀{a b:List Int},(∀c∈a,c≠0)->(∀c∈b,c≠0)->∀c∈a++b,c≠0:=λha hb c hc=>(ao.mp hc).elim (ha c) (hb c)
 rcases ao.mp he with he|he
 ·rcases ao.mp he with he|he
  ·have j:∀f∈t.fs,HK f/\(∀c∈f.2.1,c≠0)/\f.2.1≠[]/\∃c r,f.1=c::r:=λf hf=>by
    have go:=ht.ho f hf;refine⟨go,λc hc=>by have:=w.cf f hf c hc;omega,fD.mp go.c1,?_⟩
    cases q:f.1 with
    |nil=>exact absurd q go.ne
    |cons c r=>exact⟨c,r,rfl⟩
   rcases yF.mp (CT.mp he).1 with h|⟨_,f,hf,k,l,h⟩
   ·obtain⟨D,h0,h⟩:=CU.mp h;obtain⟨f,hf,k,l,h0⟩:=J2.mp h0;obtain⟨go,hz,g,c,r,hc⟩:=j f hf;have hB:=bo.mp W6B k l;rw[aj,decide_eq_true_eq,decide_eq_true_eq]at hB
    have v:D=(k.2.1,f.1,f.2.1,k.2.2):=by
     unfold Qg at h0;split at h0
     ·exact aA.mp h0
     ·cases h0
    subst v;have ll:=go.ll
    rcases h with rfl|⟨_,rfl⟩
    ·exact wZ hB.1 hB.2 ll go.ne g hz (by have:=go.cl;show f.2.1.length<=6;exact aa this (by decide))
    ·refine wZ hB.1 hB.2 ?_ ?_ ?_ ?_ ?_
     ·show(Qa f.1).length<=6;rw[hc,vj];rw[hc]at ll;exact ll
     ·show Qa f.1≠[];rw[hc,vj];simp
     ·exact λh=>g (BS.mp h).2
     ·exact app (d t.m0 (by simp)) hz
     ·show(t.m0++f.2.1).length<=6;rw[az];have:=ht.h0;have:=go.cl;omega
   ·obtain⟨go,hz,g,c,r,hc⟩:=j f hf;have hB:=bo.mp A6B k l;rw[aj,decide_eq_true_eq,decide_eq_true_eq]at hB;have ll:=go.ll;unfold KP at h;split at h
    ·rw[aA.mp h];refine wZ hB.1 hB.2 ?_ ?_ ?_ ?_ ?_
     ·show(uT f.1).length<=6;rw[ai];exact ll
     ·show uT f.1≠[];rw[hc];simp
     ·exact λh=>g (BS.mp h).2
     ·refine app (λc hc=>?_) hz;split at hc
      ·cases hc
      ·exact d t.m1 (by simp) c hc
     ·show((if(k.2.1 == vO)=c_ then []else t.m1)++f.2.1).length<=6;have h1:=ht.h1;have h2:=go.cl;rw[az];split
      ·show 0+_<=_;exact aa (fF h2 _) (by decide)
      ·exact aa (j4 h1 h2) (by decide)
    ·cases h
  ·have hB:(Vj.all λe=>decide (e.1∈l8) && (decide (e.2.2.2∈l8) && (decide (e.2.1.length<=6) && (decide (e.2.1≠[]) && (decide (e.2.2.1≠[]) && (decide (e.1∈tK) && (decide (e.2.2.2=DH) && decide (e.2.2.1.length<=6))))))))=c_:=by decide +kernel
   have:=bo.mp hB e he;simp only[aj,decide_eq_true_eq]at this;obtain⟨h1,h2,h3,J,h5,L,M,h8⟩:=this;exact⟨h1,h2,h3,λh=>absurd h J,h5,.inr ⟨L,M⟩,h8⟩
 ·have he:e∈(if t.fg.isEmpty=c_ then []else(rf,[],t.m3,vJ)::(Bd t).flatMap (pF t)):=he;split at he
  ·cases he
  ·rename_i q
   rcases aw.mp he with rfl|he
   ·exact⟨by show rf∈l8;decide,by show vJ∈l8;decide,aR _,λ_=>⟨rfl,rfl⟩,w.m3 (λz=>q (by rw[z];rfl)),.inl (d t.m3 (by simp)),by show t.m3.length<=6;have:=ht.h3;exact aa this (by decide)⟩
   ·obtain⟨p,hp,h⟩:=eo.mp he;have y:p.2≠0:=d t.fg (by simp) p.2 (iC hp).2;have h1:∀c∈[p.2],c≠0:=λc hc=>by rw[aA.mp hc];exact y
    simp only[pF,aw,bP,or_false]at h
    rcases h with rfl|rfl|rfl
    ·exact wZ (by show DH∈l8;decide) (by show rf∈l8;decide) (by show [p.1].length<=6;simp) (by show [p.1]≠[];simp) (by show t.m2++[p.2]≠[];simp) (app (d t.m2 (by simp)) h1) (by show(t.m2++[p.2]).length<=6;rw[az];have:=ht.h2;show _+1<=_;exact aG this (by decide))
    ·exact wZ (by show DI∈l8;decide) (by show rf∈l8;decide) (by show [p.1].length<=6;simp) (by show [p.1]≠[];simp) (by show t.m2++[p.2]≠[];simp) (app (d t.m2 (by simp)) h1) (by show(t.m2++[p.2]).length<=6;rw[az];have:=ht.h2;show _+1<=_;omega)
    ·exact wZ (by show rf∈l8;decide) (by show rf∈l8;decide) (by show [p.1].length<=6;simp) (by show [p.1]≠[];simp) (by show [p.2]≠[];simp) h1 (by show 1<=6;decide)
def Fc(ht:PX t):(got t).length<=300:=by
 have h1:=IU ht.hl;have h2:=Jj t;rw[az,az];show _+3+_<=_;omega
def K6(w:wT t):∃E:List Ed,Gw (got t)=E.map dQ/\gE E/\(∀e,e∈E↔e∈got t)/\∀e∈E,U5 e:=by
 obtain⟨E,h1,_,h3,c⟩:=Q9 (got t);have ok:=λe he=>TY w e ((h3 e).mp he);exact⟨E,h1,⟨λe he=>(ok e he).b,λe he=>(ok e he).o,λe he=>aa (ok e he).t (by decide),λe he=>(ok e he).n,aa c (Fc w.ok)⟩,h3,ok⟩
def Ou(t:Tb)(d:Nat):Prop:=∃c∈U t.fs,d=c\/(t.m0.isEmpty=d_/\d=c - 32)
def Tp(w:wT t)(hd:Ou t d)(k:v∈W6)(hl:t.fg.isEmpty=c_->v.2.1≠vJ):∃cs,(v.2.1,[d],cs,v.2.2)∈got t:=by
 obtain⟨c,hc,h⟩:=hd;obtain⟨f,hf,g⟩:=ER.mp hc;obtain⟨cs,j⟩:=w.own f hf c g;have l:(W6.all λv=>decide (v.1∈L7))=c_:=by decide
 have h5:=of_decide_eq_true (bo.mp l v k)
 have h0:(v.2.1,[c],cs,v.2.2)∈s0 t:=J2.mpr ⟨_,j,v,k,by
  unfold Qg;rw[if_pos (decide_eq_true (show v.1∈L7 from h5))]
  exact aA.mpr rfl⟩
 rcases h with rfl|⟨q,rfl⟩
 ·exact⟨cs,aq _ (aq _ (CT.mpr ⟨yF.mpr (.inl (CU.mpr ⟨_,h0,.inl rfl⟩)),hl⟩))⟩
 ·refine⟨t.m0++cs,aq _ (aq _ (CT.mpr ⟨yF.mpr (.inl (CU.mpr ⟨_,h0,.inr ⟨q,?_⟩⟩)),hl⟩))⟩;show _=(v.2.1,Qa [c],t.m0++cs,v.2.2)
  rw[vj]
def Ul(hf:t.fg.length<=10)(d:k<t.fg.length)(hs:s∈tK):∃cs,(s,[48+k],cs,rf)∈got t:=by
 have q :=(DY (aa d hf)).2
 have hz:(48+k,t.fg[k])∈Bd t:=by
  refine oS.mpr ⟨k,?_⟩;rw[List.getElem?_zip_eq_some];exact⟨q,af d⟩
 have g:t.fg.isEmpty=d_:=by
  cases h:t.fg with
  |nil=>rw[h]at d;cases d
  |cons a r=>rfl
 have c:∀e∈pF t (48+k,t.fg[k]),e∈got t:=λe he=>by
  refine ag _ ?_;show e∈(if t.fg.isEmpty=c_ then []else(rf,[],t.m3,vJ)::(Bd t).flatMap (pF t));rw[g];exact iE _ (eo.mpr ⟨_,hz,he⟩)
 simp only[tK,aw,bP,or_false]at hs
 rcases hs with rfl|rfl|rfl
 ·exact⟨_,c _ g7⟩
 ·exact⟨_,c _ (iE _ g7)⟩
 ·exact⟨_,c _ (iE _ (iE _ g7))⟩
def Xq(hs:s∈tK):(s,[32],[0],DH)∈got t:=by
 refine aq _ (ag _ ?_);have hB:(tK.all λs=>decide ((s,[32],[0],DH)∈Vj))=c_:=by decide +kernel
 exact of_decide_eq_true (bo.mp hB s hs)
def Wx(h:t.fg.isEmpty=d_):(rf,[],t.m3,vJ)∈got t:=by
 refine ag _ ?_;show _∈(if t.fg.isEmpty=c_ then []else(rf,[],t.m3,vJ)::(Bd t).flatMap (pF t));rw[h];exact g7
variable{E:List Ed}{x:List Nat}
def fin(E:List Ed)(x:List Nat)(p:Nat)(s:bu):Prop:=∃k,lW E x p s=a_ k
def yR(g:gE E)(hs:s∈tK):fin E x x.length s:=⟨0,by rw[rO g (au _),if_pos ⟨rfl,hs⟩]⟩
def Bb(g:gE E)(hp:p<=x.length)(he:e∈E)(c:e.2.1 <+: x.drop p)(h:fin E x (p+e.2.1.length) e.2.2.2):fin E x p e.1:=by
 obtain⟨k,j⟩:=h;unfold fin;rw[rO g hp];by_cases q:p=x.length/\e.1∈tK
 ·exact⟨0,by rw[if_pos q]⟩
 ·rw[if_neg q]
  cases d:uX (Bq E x p e.1 λe=>lW E x (p+e.2.1.length) e.2.2.2)with
  |some k=>exact⟨k,d⟩
  |none=>
    exfalso;rw[G4]at d
    have:e.2.2.1.length+k∈Bq E x p e.1 λe=>lW E x (p+e.2.1.length) e.2.2.2:=by
     refine ig.mpr ⟨e,bJ.mpr ⟨bJ.mpr ⟨he,by simp⟩,decide_eq_true c⟩,?_⟩;show hX (λk=>e.2.2.1.length+k) (lW E x (p+e.2.1.length) e.2.2.2)=_;rw[j];rfl
    rw[d]at this;cases this
set_option tactic.hygienic true in
def GR(w:wT t)(h:d∈raw t)(l:¬Ou t d):d=32\/∃k,k<t.fg.length/\d=48+k:=by
 rcases ao.mp h with h|h
 ·rcases ao.mp h with h|h
  ·rcases ao.mp h with h|h
   ·exact .inl (aA.mp h)
   ·obtain⟨k,j⟩:=oS.mp h
    have g:k<t.fg.length:=by
     rw[bX]at j;split at j
     ·assumption
     ·cases j
    rw[bX,if_pos g,(DY (aa g w.ok.hf)).2]at j;exact .inr ⟨k,g,(aW j).symm⟩
  ·exfalso;unfold KH at h;split at h
   ·cases h
   ·rename_i q;obtain⟨c,hc,rfl⟩:=cg.mp h;exact l ⟨c,hc,.inr ⟨by simpa using q,rfl⟩⟩
 ·exact absurd ⟨d,h,.inl rfl⟩ l
structure cl(t:Tb)(E:List Ed)(x:List Nat)(p:Nat):Prop where
 o:fin E x p DH
 i:(∃d,x[p]?=a_ d/\Ou t d)->fin E x p xY
 d:(¬ ∃d,x[p]?=a_ d/\Ou t d)->fin E x p DI
 n:t.fg.isEmpty=d_->fin E x p rf
theorem FQ(w:wT t)(g:gE E)(D:∀e,e∈E↔e∈got t)(M:∀c∈x,c∈raw t):∀(m p:Nat),p+m=x.length->cl t E x p
 |0,p,h=>by
   have hp:p=x.length:=by omega
   subst hp;refine⟨yR g (by decide),?_,λ_=>yR g (by decide),λ_=>yR g (by decide)⟩;rintro⟨d,hd,_⟩;rw[dh (au _)]at hd;cases hd
 |m+1,p,h=>by
   have hp:p<x.length:=aG (aX _ _) (ae h);have B:=FQ w g D M m (p+1) (by omega);have hd:x[p]?=a_ x[p]:=af hp
   have l:[x[p]] <+: x.drop p:=by
    rw[eR hp];exact⟨x.drop (p+1),rfl⟩
   have go:∀{s o:bu}{cs:List Int},(s,[x[p]],cs,o)∈got t->fin E x (p+1) o->fin E x p s:=λ{s o cs}he hf=>Bb g (bb hp) ((D _).mpr he) l hf;by_cases y:Ou t x[p]
   ·have j:∀{v:Nat×bu×bu},v∈W6->(t.fg.isEmpty=c_->v.2.1≠vJ)->fin E x (p+1) v.2.2->fin E x p v.2.1:=λ{v} R hl hf=>by
     obtain⟨cs,he⟩:=Tp w y R hl;exact go he hf
    have num:fin E x p vJ->t.fg.isEmpty=d_->fin E x p rf:=λhl hf=>Bb g (by omega) ((D _).mpr (Wx hf)) (List.nil_prefix) hl;by_cases O:∃d,x[p+1]?=a_ d/\Ou t d
    ·have hi:=B.i O;refine⟨j (v:=(98,DH,xY)) (by decide) (λ_=>by decide) hi,λ_=>j (v:=(109,xY,xY)) (by decide) (λ_=>by decide) hi,λq=>absurd ⟨_,hd,y⟩ q,λq=>num (j (v:=(98,vJ,xY)) (by decide) (λz=>by rw[q]at z;cases z) hi) q⟩
    ·have hi:=B.d O;refine⟨j (v:=(119,DH,DI)) (by decide) (λ_=>by decide) hi,λ_=>j (v:=(101,xY,DI)) (by decide) (λ_=>by decide) hi,λq=>absurd ⟨_,hd,y⟩ q,λq=>num (j (v:=(119,vJ,DI)) (by decide) (λz=>by rw[q]at z;cases z) hi) q⟩
   ·have hi:¬ ∃d,x[p]?=a_ d/\Ou t d:=by
     rintro⟨d,h1,h2⟩;rw[hd]at h1;exact y (aW h1▸h2)
    rcases GR w (M _ (bh hp)) y with e|⟨k,J,e⟩
    ·have hb:∀{s:bu},s∈tK->fin E x p s:=λ{s}hs=>go (cs:=[0]) (by rw[e];exact Xq hs) B.o;exact⟨hb (by decide),λz=>absurd z hi,λ_=>hb (by decide),λ_=>hb (by decide)⟩
    ·have L:t.fg.isEmpty=d_:=by
      cases h:t.fg with
      |nil=>rw[h]at J;cases J
      |cons a r=>rfl
     have hb:∀{s:bu},s∈tK->fin E x p s:=λ{s}hs=>by
      obtain⟨cs,he⟩:=Ul w.ok.hf J hs;exact go (cs:=cs) (by rw[e];exact he) (B.n L)
     exact⟨hb (by decide),λz=>absurd z hi,λ_=>hb (by decide),λ_=>hb (by decide)⟩
def NH(w:wT t)(g:gE E)(d:∀e,e∈E↔e∈got t)(j:∀c∈x,c∈raw t):fin E x 0 DH:=(FQ w g d j x.length 0 (gG _)).o
end K43E
namespace K43E
open PySem L2 M K43
variable{E:List Ed}{x:List Nat}{p:Nat}{s:bu}
abbrev rE(E:List Ed)(x:List Nat)(p:Nat)(e:Ed):Option Nat:=(lW E x (p+e.2.1.length) e.2.2.2).map λk=>e.2.2.1.length+k
def Vr(a b:Option Nat):fQ .eq (vD a) (vD b)=a_ (decide (a=b)):=by
 cases a with
 |none=>
   cases b with
   |none=>rfl
   |some k=>rfl
 |some j=>
   cases b with
   |none=>rfl
   |some k=>
     show a_ (decide ((j:Int)=(k)))=_;rw[decide_eq_decide.mpr (show(j:Int)=(k)↔a_ j=a_ k by simp;omega)]
abbrev Vi(E:List Ed)(x:List Nat)(p:Nat)(o:Option Nat)(e:Ed):Bool:=decide (rE E x p e=o)
def Nd{es:List Ed}(hl:es.length<=1000)(h:∀e∈es,e.2.1.length<=1000000/\p+e.2.1.length<=x.length/\e.2.2.2∈l8)(he:(es.filter (Vi E x p o)).head? = a_ e) :
  Cn D (n+2) 16 [.lst (es.map dQ),.int (p:Nat),Jq E x,vD o]=a_ (dQ e,d_):=by
 have c:∀e∈es,Cn D (n+1) 13 [dQ e,.int (p:Nat),Jq E x]=a_ (vD (rE E x p e),d_):=λe he=>by
  obtain⟨h1,h2,h3⟩:=h e he;exact IX h1 (by rw[aN,qd (bC h2)];rfl) (yp.mp h3)
 refine fA rfl (v8 ?_);generalize Cn D (n+1)=C at c ⊢;refine Kg (ud (Vi E x p o) rfl hl vi λe he=>⟨d_,jt (c e he) rfl (Vr _ _)⟩) rfl ?_;show rd _ ((0:Nat):Int)=_;exact km (by rw[aN,<-List.head?_eq_getElem?,he];rfl)
noncomputable abbrev fP(S:List Ed):List Int:=S.flatMap λe=>e.2.2.1
def M9(hl:(fP S).length<=100000):∃b,Cn D (n+1) 17 [.lst (S.map dQ)]=a_ (tI (fP S),b):=by
 suffices h:Go (Cn D n) Z5 [a_ (.lst (S.map dQ),d_),b_,b_] λo=>∃b,o=.rt (tI (fP S)) b by
  obtain⟨_,h1,b,rfl⟩:=h;exact⟨b,fA rfl h1⟩
 refine fX rfl (qH (I:=λus ρ=>∃z,ρ=[a_ (.lst (S.map dQ),d_),a_ (.lst ((fP us).map Dat.int),c_),z]) (by rfl) ⟨b_,rfl⟩ ?_ ?_)
 ·rintro us e vs _ c ⟨z,rfl⟩
  have h1:(fP us).length+e.2.2.1.length<=100000:=by
   rw[c]at hl;simp only[fP,eO,jS,az]at hl;show(us.flatMap λe=>e.2.2.1).length+_<=_;omega
  refine⟨_,rfl,fM (CN (ds:=[tI e.2.2.1]) rfl ?_ (G3 (by rw[ai,ai];exact aa h1 (by decide)))) (dH ⟨_,rfl,a_ (dQ e,d_),?_⟩)⟩
  ·show a_ ([tI e.2.2.1],(d_ || im (tI e.2.2.1)) && c_)=_;rw[mo];rfl
  ·rw[<-dS];simp only[fP,eO,jS,nU,aM];rfl
 ·rintro _ ⟨z,rfl⟩;exact jE rfl ⟨_,rfl⟩
def Ch:bu->List Ed->bu->Prop
 |s,[],o=>s=o
 |s,e::S,o=>e.1=s/\Ch e.2.2.2 S o
theorem Lj:∀{S:List Ed}{a b:bu}{e:Ed},Ch a S b->e.1=b->Ch a (S++[e]) e.2.2.2
 |[],_,_,_,h,q=>⟨q.trans h.symm,rfl⟩
 |_::S,_,_,_,h,q=>⟨h.1,Lj h.2 q⟩
noncomputable abbrev txO(S:List Ed):List Nat:=S.flatMap λe=>e.2.1
structure Wr(E:List Ed)(x:List Nat)(S:List Ed)(p:Nat)(s:bu):Prop where
 hc:Ch DH S s
 he:∀e∈S,e∈E
 hp:p<=x.length
 ht:txO S=x.take p
 hf:fin E x p s
 hs:s∈l8
 hl:S.length<=2 * p+1/\(s≠vJ->S.length<=2 * p)
def N0(g:gE E)(hp:p<x.length)(hf:fin E x p s):∃e,(((FJ E s).filter (pre x p)).filter (Vi E x p (lW E x p s))).head? = a_ e/\e∈E/\e.1=s/\e.2.1 <+: x.drop p/\fin E x (p+e.2.1.length) e.2.2.2:=by
 obtain⟨k,c⟩:=hf;have h1:=c;rw[rO g (bb hp),if_neg (λz=>(aV hp (ae z.1.symm)))]at h1;obtain⟨h2,_⟩:=xj.mp h1;obtain⟨e,he,h3⟩:=ig.mp h2;have y:e∈((FJ E s).filter (pre x p)).filter (Vi E x p (lW E x p s)):=bJ.mpr ⟨he,decide_eq_true (by rw[c];exact h3)⟩
 cases hh:((FJ E s).filter (pre x p)).filter (Vi E x p (lW E x p s))with
 |nil=>rw[hh]at y;cases y
 |cons d r=>
   have h5:d∈((FJ E s).filter (pre x p)).filter (Vi E x p (lW E x p s)):=by rw[hh];exact g7
   obtain⟨B,D⟩:=bJ.mp h5;obtain⟨h8,J⟩:=bJ.mp B;obtain⟨l,q⟩:=bJ.mp h8;have v:rE E x p d=a_ k:=by rw[<-c];exact of_decide_eq_true D
   obtain⟨j,L,_⟩:=eD v;exact⟨d,rfl,l,by simpa using q,of_decide_eq_true J,j,L⟩
abbrev HR(t:Tb)(x:List Nat)(E S:List Ed)(p:Nat)(s:bu)(z:g_):dI:=[a_ (tb t,d_),a_ (sT x,d_),a_ (n9 E,c_),a_ (Jq E x,c_),a_ (.lst (S.map dQ),c_),a_ (.int (p:Nat),d_),a_ (.str s,d_),z]
def wB:List Sx:=[(.set 7 (.call 16 [(.call 12 [(.ix (.v 2) (.v 6)),(.v 1),(.v 5)]),(.v 5),(.v 3),(.ix (.ix (.v 3) (.v 5)) (.v 6))])),(.mut .app 4 [(.v 7)]),(.set 5 (.bin .add (.v 5) (.blt .len [(.ix (.v 7) (.e_ 1))]))),(.set 6 (.ix (.v 7) (.e_ 3)))]
abbrev HN(C:Fs)(ρ:dI):Option Bool:=(bE C (.cmp .lt (.v 5) (.blt .len [(.v 1)])) (full ρ)).bind λx=>fL x.1
def PD(h:bE C a (full ρ)=a_ (d,c_))(hi:im d=d_):ot C (.set i a) ρ=a_ (.nx (ρ.set i (a_ (d,c_)))):=by
 rw[ub,h];show(if(im d || c_)=c_ then a_ (Out.nx (ρ.set i (a_ (d,c_ && !im d))))else _)=_;rw[hi];rfl
def VM(g:gE E)(hx:x.length<=1000)(h:Wr E x S p s)(hp:p<x.length):∃e W,dP (Cn D (n+2)) wB (HR t x E S p s z)=a_ (.nx (HR t x E (S++[e]) (p+e.2.1.length) e.2.2.2 W))/\Wr E x (S++[e]) (p+e.2.1.length) e.2.2.2/\(e.2.1=[]->s=rf/\e.2.2.2=vJ):=by
 obtain⟨e,hh,he,hs,c,hf⟩:=N0 g hp h.hf;have hlen:=c.length_le;rw[eX]at hlen;have B:=g.n e he;have j:=Jc (n:=n+1) (es:=FJ E s) (bb hp) (aa (df _ _) (aa g.l (by decide)))
 have k:=Nd (n:=n) (aa (df _ _) (aa (df _ _) (aa g.l (by decide)))) (λy h'=>by
  obtain⟨h1,h2⟩:=bJ.mp h';obtain⟨h3,_⟩:=bJ.mp h1;have:=(of_decide_eq_true h2).length_le;rw[eX]at this
  exact⟨aa (g.t y h3) (by decide),by omega,g.o y h3⟩) hh
 have Y:Wr E x (S++[e]) (p+e.2.1.length) e.2.2.2:=by
  refine⟨Lj h.hc hs,λy h'=>?_,by omega,?_,hf,g.o e he,?_⟩
  ·rcases ao.mp h' with q|q
   ·exact h.he y q
   ·rw[aA.mp q];exact he
  ·show(S++[e]).flatMap (λe=>e.2.1)=_;rw[eO,jS,nU,aM,show(S.flatMap λe=>e.2.1)=x.take p from h.ht,List.take_add]
   congr 1
   exact nO.mp c
  ·rw[az];show S.length+1<=_/\(_->S.length+1<=_)
   obtain⟨l1,Z⟩:=h.hl;by_cases q:e.2.1=[]
   ·obtain⟨U,q2⟩:=B q;rw[hs]at U;have:=Z (by rw[U];decide);exact⟨by omega,λz=>absurd q2 z⟩
   ·have :=fD.mpr q;exact⟨by omega,λ_=>by omega⟩
 refine⟨e,a_ (dQ e,d_),?_,Y,λq=>⟨hs▸(B q).1,(B q).2⟩⟩;have hl:=h.hl.1;generalize Cn D (n+2)=C at j k ⊢;have d1:vf (n9 E) (.str s)=a_ (.lst ((FJ E s).map dQ)):=CY h.hs
 have d2:vf (Jq E x) (.int (p))=a_ (dD xX (lW E x p)):=by
  exact km (by rw[aN,qd (bW hp)];rfl)
 have d3:vf (dD xX (lW E x p)) (.str s)=a_ (vD (lW E x p s)):=CZ (yp.mp h.hs)
 have J:bE C (.call 12 [(.ix (.v 2) (.v 6)),(.v 1),(.v 5)]) (full (HR t x E S p s z))=a_ (.lst (((FJ E s).filter (pre x p)).map dQ),c_):=by
  rw[lZ,cu,Kg rfl rfl d1];exact j
 have L:bE C (.ix (.ix (.v 3) (.v 5)) (.v 6)) (full (HR t x E S p s z))=a_ (vD (lW E x p s),d_):=Kg (Kg rfl rfl d2) rfl d3
 have M:bE C (.call 16 [(.call 12 [(.ix (.v 2) (.v 6)),(.v 1),(.v 5)]),(.v 5),(.v 3),(.ix (.ix (.v 3) (.v 5)) (.v 6))]) (full (HR t x E S p s z))=a_ (dQ e,d_):=by
  rw[lZ,cu,J,cu,cu,cu,L];exact k
 have O :=len_T (aa (g.t e he) (by decide))
 have R:Go C wB (HR t x E S p s z) λo=>o=.nx (HR t x E (S++[e]) (p+e.2.1.length) e.2.2.2 (a_ (dQ e,d_))):=by
  refine fM (jl M (vi e)) (r8 (P:=(·= dQ e)) ⟨dQ e,d_,rfl,vi e,rfl⟩ rfl (by rw[ai];omega) λd hd=>?_);rw[hd,show S.map dQ++[dQ e]=(S++[e]).map dQ by rw[dS];rfl];refine fM (jl (lD rfl (pq rfl O) (by rw[nH])) rfl) ?_;exact fM (jl rfl rfl) (dH rfl)
 obtain⟨_,h1,rfl⟩:=R;exact h1
theorem P2(g:gE E)(c:x.length<=1000):∀(m fuel:Nat)(S:List Ed)(p:Nat)(s:bu)(z:g_),Wr E x S p s->2 * (x.length - p)+(if s=rf then 1 else 0)<=m->m<fuel->∃S' s' d,zL (HN (Cn D (n+2))) (dP (Cn D (n+2)) wB) fuel (HR t x E S p s z)=a_ (.nx (HR t x E S' x.length s' d))/\Wr E x S' x.length s'
 |m,0,S,p,s,z,h,j,hf=>absurd hf (vX _)
 |m,fuel+1,S,p,s,z,h,j,hf=>by
   have k:gW .len [sT x]=a_ (.int (x.length:Nat),d_):=len_T (aa c (by decide))
   have hc:HN (Cn D (n+2)) (HR t x E S p s z)=a_ (decide (p<x.length)):=by
    generalize Cn D (n+2)=C
    have:bE C (.cmp .lt (.v 5) (.blt .len [(.v 1)])) (full (HR t x E S p s z))=a_ (.bl (decide (p<x.length)),d_):=jt rfl (pq rfl k) (by
     show a_ (decide ((p:Int)<(x.length:Int)))=_
     rw[decide_eq_decide.mpr (show(p:Int)<(x.length:Int)↔p<x.length by simp)])
    unfold HN;rw[this];rfl
   unfold zL;rw[hc,bw];by_cases hp:p<x.length
   ·rw[decide_eq_true hp,if_pos rfl];obtain⟨e,d,h1,h2,h3⟩:=VM (z:=z) g c h hp;have B:=h2.hp
    obtain⟨l,y⟩:∃l,m=l+1:=⟨m - 1,by
     have:2<=2 * (x.length - p):=by omega
     omega⟩
    subst y
    obtain⟨S',s',J,L,h5⟩:=P2 g c l fuel (S++[e]) (p+e.2.1.length) e.2.2.2 d h2 (by
     by_cases q:e.2.1=[]
     ·obtain⟨M,O⟩:=h3 q;rw[if_pos M]at j;rw[q,O,if_neg (by decide)];simp only[kU];exact bp j
     ·have:0<e.2.1.length:=fD.mpr q
      split<;>omega) (bp hf)
    refine⟨S',s',J,?_,h5⟩;rw[h1];exact L
   ·rw[decide_eq_false hp,if_neg (by decide)];have:p=x.length:=bA h.hp (bF hp);subst this;exact⟨S,s,z,rfl,h⟩
def QF:ot C (.Vq c b) ρ=zL (λρ=>(bE C c (full ρ)).bind λx=>fL x.1) (dP C b) ng ρ:=rfl
def OE(h:n<=1000):2 * n+1<ng:=by
 unfold ng;omega
def Af(w:wT t)(R:Gw (got t)=E.map dQ)(g:gE E)(U:∀e,e∈E↔e∈got t)(ok:∀e∈E,U5 e)(M:∀c∈x,c∈raw t)(hl:x.length<=1000):∃S s,Cn D (n+5) 18 [tb t,sT x]=a_ (.tup [tI (fP S),.lst (S.map dQ)],d_)/\Wr E x S x.length s/\(fP S).length<=100000:=by
 have q:=GN (n:=n+1) w.ok M hl;have y:=RK (n:=n+1) (by rw[GL w.ok (Fc w.ok),R]) g.l g.b;have z:=GJ (n:=n+1) g hl;obtain⟨S,s,W,O,J⟩:=P2 (t:=t) g hl (2 * x.length+1) ng [] 0 DH b_ ⟨rfl,(λ_ h=>nomatch h),aR _,rfl,NH w g U M,by decide,by simp⟩ (by split<;>simp) (OE hl)
 have d:(fP S).length<=100000:=by
  have h1:=mS λe he=>(ok e (J.he e he)).k;have:=J.hl.1;show(S.flatMap λe=>e.2.2.1).length<=_;omega
 obtain⟨j,B⟩:=M9 d;refine⟨S,s,fA (np:=2) rfl ?_,J,d⟩
 suffices h:Go (Cn D (n+4)) Z4 [a_ (tb t,d_),a_ (sT x,d_),b_,b_,b_,b_,b_,b_] λo=>o=.rt (.tup [tI (fP S),.lst (S.map dQ)]) d_ by
  obtain⟨_,h1,rfl⟩:=h;exact h1
 generalize Cn D (n+4)=C at q y z B O ⊢;show Go C (.exp (.call 11 [.v 0,.v 1])::.set 2 (.call 10 [.v 0])::.set 3 (.call 15 [.v 2,.v 1])::.set 4 (.lst [])::.set 5 (.e_ 0)::.set 6 (.con (.str DH))::.Vq (.cmp .lt (.v 5) (.blt .len [.v 1])) wB::.ret (.tup [.call 17 [.v 4],.v 4])::[]) _ _
 have s1:ot C (.exp (.call 11 [.v 0,.v 1])) [a_ (tb t,d_),a_ (sT x,d_),b_,b_,b_,b_,b_,b_]=a_ (.nx [a_ (tb t,d_),a_ (sT x,d_),b_,b_,b_,b_,b_,b_]):=by
  rw[OK];show hX _ (C 11 [tb t,sT x])=_;rw[q];rfl
 refine fM s1 (fM (PD y rfl) (fM (PD z rfl) (fX rfl (fM (jl rfl rfl) (fM (jl rfl rfl) (fM (by rw[QF];exact O) ?_))))));have L:bE C (.call 17 [.v 4]) (full (HR t x E S x.length s W))=a_ (tI (fP S),j):=B;refine jE ?_ rfl;rw[vv,fN,L];show a_ (Dat.tup [tI (fP S),.lst (S.map dQ)],(j || im (tI (fP S))) && ((d_ || d_) && c_))=_;rw[mo,gu];rfl
end K43E
namespace K43E
open PySem L2 M K43
abbrev Kr(e:Ed):Bool:=decide (e.2.2.2∈[xY,vO])
def hs:Nat->List Ed->List Nat
 |_,[]=>[]
 |a,e::S=>if Kr e=c_ then(a+e.2.2.1.length)::hs (a+e.2.2.1.length) S else hs (a+e.2.2.1.length) S
theorem Ky:∀(S:List Ed)(a:Nat)(e:Ed),hs a (S++[e])=hs a S++if Kr e=c_ then [a+(fP S).length+e.2.2.1.length]else []
 |[],a,e=>by
   rfl
 |c::S,a,e=>by
   have d:=Ky S (a+c.2.2.1.length) e;have hl:(fP (c::S)).length=c.2.2.1.length+(fP S).length:=by simp[fP]
   rw[hl,<-iH];show(if Kr c=c_ then _::hs (a+c.2.2.1.length) (S++[e])else hs (a+c.2.2.1.length) (S++[e]))=(if Kr c=c_ then _::hs (a+c.2.2.1.length) S else hs (a+c.2.2.1.length) S)++_;rw[d];cases Kr c<;>rfl
def Eg(S:List Ed)(e:Ed):(fP (S++[e])).length=(fP S).length+e.2.2.1.length:=by simp[fP]
noncomputable abbrev nD(l:List Nat):Dat:=.lst (l.map λk:Nat=>.int (k:Nat))
def hB(c:Ex):List Sx:=[.set 2 (.bin .add (.v 2) (.blt .len [.ix (.v 3) (.e_ 2)])),.ifs c [.mut .app 1 [.v 2]] []]
def Qd(hl:(fP S).length<=100000/\S.length<=100000)(hc:∀(ρ:dI) (e:Ed),e∈S->ρ[3]?=a_ (a_ (dQ e,d_))->bE C c (full ρ)=a_ (.bl (Kr e),d_)) :
  Go C [.set 1 (.lst []),.set 2 (.e_ 0),.loop c_ [3] (.itv (.v 0)) (hB c),.qv 1] [a_ (.lst (S.map dQ),d_),b_,b_,b_] λo=>o=.rt (nD (hs 0 S)) c_:=by
 refine fX rfl (fM (jl rfl rfl) ?_);refine qH (I:=λus ρ=>∃z,ρ=[a_ (.lst (S.map dQ),d_),a_ (nD (hs 0 us),c_),a_ (.int ((fP us).length),d_),z]) (by rfl) ⟨b_,rfl⟩ ?_ ?_
 ·rintro us e vs _ k ⟨z,rfl⟩
  have g:us.length<=100000:=by
   have:=hl.2;rw[k,az]at this;exact aa (aX _ _) this
  have j:∀(us:List Ed)(a:Nat),(hs a us).length<=us.length:=λus=>by
   induction us with
   |nil=>intro a;exact au _
   |cons e r l=>
     intro a;have:=l (a+e.2.2.1.length);show(if Kr e=c_ then _ else _:List Nat).length<=_;split
     ·simp;omega
     ·exact bW this
  have h0:=j us 0;refine⟨_,rfl,?_⟩
  refine fM (jl (d:=.int ((fP (us++[e])).length)) (lD rfl (pq rfl (vc _)) (by
   rw[nH,Eg,show(((fP us).length):Int)+((e.2.2.1.length):Int)=(((fP us).length+e.2.2.1.length:Nat)) by rfl])) rfl) ?_
  have hh:=Ky us 0 e;rw[gG,<-Eg]at hh;refine oO (hc _ e (by rw[k];simp) rfl) (λq=>?_) (λq=>dH ⟨_,rfl,by rw[hh,q];simp only[bH,if_false,aM];rfl⟩) λρ' h=>dH ⟨_,rfl,_,h⟩;refine r8 (P:=(·= .int ((fP (us++[e])).length))) ⟨_,d_,rfl,rfl,rfl⟩ rfl (by rw[ai];exact aG h0 (aG g (by decide))) λd hd=>dH ⟨_,rfl,?_⟩;rw[hd,hh,q];show _=[_,a_ (Dat.lst ((hs 0 us++[_]).map _),c_),_,_]
  rw[dS];rfl
 ·rintro _ ⟨z,rfl⟩;exact⟨_,rfl,rfl⟩
def inB:(l8.all λs=>decide (fQ .isin (.str s) (.tup [.str xY,.str vO])=a_ (decide (s∈[xY,vO]))) && decide (fQ .isin (.str s) (.lst [.str xY,.str vO])=a_ (decide (s∈[xY,vO]))))=c_:=by decide +kernel
def P7(h:s∈l8):fQ .isin (.str s) (.tup [.str xY,.str vO])=a_ (decide (s∈[xY,vO]))/\fQ .isin (.str s) (.lst [.str xY,.str vO])=a_ (decide (s∈[xY,vO])):=by
 have:=bo.mp inB s h;rw[aj,decide_eq_true_eq,decide_eq_true_eq]at this;exact this
def ZP(h:ρ[3]?=a_ (a_ (dQ e,d_))):bE C (.ix (.v 3) (.e_ 3)) (full ρ)=a_ (.str e.2.2.2,d_):=by
 have a:bE C (.v 3) (full ρ)=a_ (dQ e,d_):=by rw[jh,full,aN,h];rfl
 exact Kg a rfl rfl
def Nb(hl:(fP S).length<=100000/\S.length<=100000)(ok:∀e∈S,e.2.2.2∈l8):Cn D (n+1) 0 [.lst (S.map dQ)]=a_ (nD (hs 0 S),c_):=by
 obtain⟨_,h,rfl⟩:=Qd (c:=.cmp .isin (.ix (.v 3) (.e_ 3)) (.con (.tup [.str xY,.str vO]))) hl λρ e he h=>jt (ZP h) rfl (P7 (ok e he)).1;exact fA rfl h
def IZ(hl:(fP S).length<=100000/\S.length<=100000)(ok:∀e∈S,e.2.2.2∈l8):Cn D (n+1) 30 [.lst (S.map dQ)]=a_ (nD (hs 0 S),c_):=by
 obtain⟨_,h,rfl⟩:=Qd (c:=.cmp .isin (.ix (.v 3) (.e_ 3)) (.lst [.con (.str xY),.con (.str vO)])) hl λρ e he h=>jt (ZP h) rfl (P7 (ok e he)).2;exact fA rfl h
def Fd(row:List Int)(H:List Nat):Prop:=H.Pairwise (·< ·)/\∀h∈H,1<=h/\h<row.length/\row[h]?≠a_ 0/\row[h - 1]?≠a_ 0
theorem E7:∀(S:List Ed)(s o:bu)(pre:List Int),Ch s S o->o∈tK->(∀e∈S,U5 e)->(hs pre.length S).Pairwise (·< ·)/\(∀h∈hs pre.length S,pre.length<h/\h<(pre++fP S).length/\(pre++fP S)[h]?≠a_ 0/\(pre++fP S)[h - 1]?≠a_ 0)
 |[],_,_,_,_,_,_=>⟨oy,λ_ h=>nomatch h⟩
 |e::S,s,o,pre,hc,ho,ok=>by
   have he:=ok e g7;have L:0<e.2.2.1.length:=fD.mpr he.c;have el:(pre++e.2.2.1).length=pre.length+e.2.2.1.length:=az;have M:pre++fP (e::S)=(pre++e.2.2.1)++fP S:=by simp[fP]
   obtain⟨j,d⟩:=E7 S e.2.2.2 o (pre++e.2.2.1) hc.2 ho λg h'=>ok g (iE _ h');rw[el]at j d;rw[M]
   cases q:Kr e with
   |false=>
     have hh:hs pre.length (e::S)=hs (pre.length+e.2.2.1.length) S:=by
      show(if Kr e=c_ then _ else _)=_;rw[q];rfl
     rw[hh];exact⟨j,λh k=>by obtain⟨a,b⟩:=d h k;exact⟨aG (aX _ _) a,b⟩⟩
   |true=>
     have hh:hs pre.length (e::S)=(pre.length+e.2.2.1.length)::hs (pre.length+e.2.2.1.length) S:=by
      show(if Kr e=c_ then _ else _)=_;rw[q];rfl
     rw[hh];refine⟨List.Pairwise.cons (λh k=>(d h k).1) j,λh k=>?_⟩
     rcases aw.mp k with rfl|k
     ·have l:e.2.2.2∈[xY,vO]:=of_decide_eq_true q
      have O:∀c∈e.2.2.1,c≠0:=by
       rcases he.z with z|⟨_,z⟩
       ·exact z
       ·rw[z]at l;exact absurd l (by decide)
      cases S with
      |nil=>
        have:e.2.2.2=o:=hc.2;rw[this]at l;exfalso;have hB:(tK.all λo=>decide (o∉[xY,vO]))=c_:=by decide
        exact of_decide_eq_true (bo.mp hB o ho) l
      |cons g S'=>
        have v:=ok g (iE _ g7);have h1:g.1=e.2.2.2:=hc.2.1
        have D:∀c∈g.2.2.1,c≠0:=by
         rcases v.z with z|⟨z,_⟩
         ·exact z
         ·rw[h1]at z;have hB:([xY,vO].all λo=>decide (o∉tK))=c_:=by decide
          exact absurd z (of_decide_eq_true (bo.mp hB _ l))
        obtain⟨J,R,y⟩:∃c r,g.2.2.1=c::r:=by
         cases z:g.2.2.1 with
         |nil=>exact absurd z v.c
         |cons c r=>exact⟨c,r,rfl⟩
        have B:fP (g::S')=J::(R++fP S'):=by simp[fP,y]
        refine⟨fF L _,?_,?_,?_⟩
        ·rw[az,el,B,a8];exact bC (aX _ _)
        ·rw[<-el,aH (au _),iq,B];show a_ J≠a_ 0;exact λz=>D J (by rw[y];exact g7) (aW z)
        ·rw[aQ (by omega),aH (pT (fF L _))];intro z;exact O 0 (aU z) rfl
     ·obtain⟨a,b⟩:=d h k;exact⟨by omega,b⟩
def Ug(g:gE E)(h:fin E x x.length s):s∈tK:=by
 obtain⟨k,c⟩:=h;by_cases q:s∈tK
 ·exact q
 ·exfalso;rw[rO g (au _),if_neg λz=>q z.2]at c;obtain⟨h2,_⟩:=xj.mp c;obtain⟨e,he,_⟩:=ig.mp h2;obtain⟨h3,j⟩:=bJ.mp he;obtain⟨h5,l⟩:=bJ.mp h3;have d:=of_decide_eq_true j;rw[tR]at d;have h8:=(g.n e h5 (List.prefix_nil.mp d)).1;have v:e.1=s:=by simpa using l
  exact q (by rw[<-v,h8];decide)
def wY(h:bE C a ρ=a_ (.bl d_,f))(h':bE C b ρ=a_ (.bl d_,g)):∃g,bE C (.or a b) ρ=a_ (.bl d_,g):=⟨g,by rw[Dm h];exact h'⟩
def Wv(h:bE C a ρ=a_ (.bl b,f)):bE C (.not a) ρ=a_ (.bl (!b),d_):=by
 rw[Ua,h];rfl
def SV(H:List Nat):nD H=.lst ((H.map λk:Nat=>(k:Int)).map Dat.int):=by rw[cB];rfl
def GD:Cn D (n+1) 21 [.int (k:Nat)]=a_ (.bl c_,d_):=fA rfl (v8 rfl)
def gB:List Sx:=[(.set 4 (.ix (.v 0) (.v 3))),(.ifs (.or (.not (.call 21 [(.v 4)])) (.or (.cmp .lt (.v 4) (.e_ 1)) (.or (.cmp .ge (.v 4) (.blt .len [(.v 2)])) (.or (.cmp .eq (.ix (.v 2) (.v 4)) (.e_ 0)) (.cmp .eq (.ix (.v 2) (.bin .sub (.v 4) (.e_ 1))) (.e_ 0)))))) [(.ret (.con (.bl d_)))] []),(.ifs (.and (.cmp .gt (.v 3) (.e_ 0)) (.cmp .ge (.ix (.v 0) (.bin .sub (.v 3) (.e_ 1))) (.v 4))) [(.ret (.con (.bl d_)))] [])]
abbrev Vn(H:List Nat)(row:List Int)(z3 c:g_):dI:=[a_ (nD H,d_),a_ (nD H,d_),a_ (tI row,d_),z3,c]
def ZG{H:List Nat}(h:k<H.length):vf (nD H) (.int (k:Nat))=a_ (.int (H[k]:Nat)):=by
 show rd _ (k:Int)=_;exact km (by rw[aN,af h];rfl)
def FE{row:List Int}(hl:h<row.length)(hz:row[h]?≠a_ 0):∃c:Int,vf (tI row) (.int (h:Nat))=a_ (.int c)/\fQ .eq (.int c) (.int 0)=a_ d_:=by
 refine⟨row[h],?_,?_⟩
 ·exact km (by rw[aN,af hl];rfl)
 ·show a_ (decide (row[h]=0))=_;rw[decide_eq_false λz=>hz (by rw[af hl,z])]
def QS{C:Fs}{H:List Nat}{row:List Int}{k:Nat}{z3 l:g_}(L:∀k:Nat,C 21 [.int (k:Nat)]=a_ (.bl c_,d_))(D:Fd row H)(g:k<H.length):Go C gB (Vn H row (a_ (.int (k:Nat),d_)) l) λo=>∃ρ,o=.nx ρ/\∃z3 l,ρ=Vn H row z3 l:=by
 obtain⟨M,q,O,R⟩:=D.2 H[k] (bh g);obtain⟨c,c1,c2⟩:=FE q O;obtain⟨c',U,W⟩:=FE (nZ q) R;unfold gB;refine fM (jl (Kg rfl rfl (ZG g)) rfl) ?_;show Go C _ (Vn H row (a_ (.int (k:Nat),d_)) (a_ (.int (H[k]:Nat),d_))) _
 have prev:∀j,j+1=k->(J:j<H.length)->H[j]<H[k]:=λj J y=>by
  have:=dC.mp D.1 j k y g (ae J);exact this
 have B:bE C (.call 21 [.v 4]) (full (Vn H row (a_ (.int (k:Nat),d_)) (a_ (.int (H[k]:Nat),d_))))=a_ (.bl c_,d_):=L H[k]
 have d:∀m:Nat,1<=m->hJ .sub (.int (m:Nat)) (.int 1)=a_ (.int ((m - 1:Nat):Int),d_):=λm Y=>by
  show a_ (Dat.int ((m:Int) - 1),d_)=_;rw[show(m:Int) - 1=((m - 1:Nat):Int)from(kN (Int.ofNat_sub Y))]
 generalize hh:H[k]=h at *;obtain⟨f5,Z⟩:=wY (ρ:=full (Vn H row (a_ (.int (k:Nat),d_)) (a_ (.int (h:Nat),d_)))) (jt (Kg (a:=.v 2) (e:=.v 4) rfl rfl c1) (e:=.e_ 0) rfl c2) (jt (Kg (a:=.v 2) rfl (lD (a:=.v 4) (e:=.e_ 1) rfl rfl (d h M)) U) (e:=.e_ 0) rfl W)
 obtain⟨f4,o4⟩:=wY (a:=.cmp .ge (.v 4) (.blt .len [(.v 2)])) (jt rfl (pq rfl (vc row)) (by
  show a_ (decide ((row.length:Int)<=(h:Int)))=_
  rw[decide_eq_false (λz=>(aV q (dB.mp z)))])) Z
 obtain⟨f3,o3⟩:=wY (a:=.cmp .lt (.v 4) (.e_ 1)) (jt rfl rfl (by
  show a_ (decide ((h:Int)<1))=_
  rw[decide_eq_false (by omega)])) o4
 obtain⟨f2,o2⟩:=wY (Wv B) o3;refine xC o2 (xC (f:=d_) ?_ (dH ⟨_,rfl,_,_,rfl⟩))
 cases k with
 |zero=>exact nF (x:=d_) (jt rfl rfl rfl)
 |succ j=>
   rw[nF (jt rfl rfl (by
    show a_ (decide (0<((j+1:Nat):Int)))=_
    rw[decide_eq_true (by simp)]))]
   have hp:=prev j rfl (bb g);refine jt (Kg rfl (lD rfl rfl (d (j+1) (by simp))) (ZG (nZ g))) rfl ?_;show a_ (decide ((h:Int)<=(H[j]:Int)))=_;rw[decide_eq_false (λz=>(aV hp (dB.mp z)))]
def I0(g:Fd row H)(hl:H.length<=1000):Cn D (n+2) 31 [nD H,nD H,tI row]=a_ (.bl c_,d_):=by
 have d:∀k:Nat,Cn D (n+1) 21 [.int (k:Nat)]=a_ (.bl c_,d_):=λk=>GD
 suffices h:Go (Cn D (n+1)) ZV [a_ (nD H,d_),a_ (nD H,d_),a_ (tI row,d_),b_,b_] λo=>o=.rt (.bl c_) d_ by
  obtain⟨_,h1,rfl⟩:=h;exact fA rfl h1
 generalize Cn D (n+1)=C at d ⊢;show Go C (.ifs (.or (.not (.blt (.isi .list) [.v 0])) (.cmp .ne (.v 0) (.v 1))) [.ret (.con (.bl d_))] []::.loop c_ [3] (.rng [.blt .len [.v 0]]) gB::.ret (.con (.bl c_))::[]) _ _
 obtain⟨q,j⟩:=wY (ρ:=full [a_ (nD H,d_),a_ (nD H,d_),a_ (tI row,d_),b_,b_]) (a:=.not (.blt (.isi .list) [.v 0])) (b:=.cmp .ne (.v 0) (.v 1)) rfl (jt rfl rfl (by
  rw[SV,WC (oG 19 _) (oG 19 _),xK,decide_eq_true rfl];rfl))
 refine xC j (KI (I:=λ_ ρ=>∃z3 c,ρ=Vn H row z3 c) ⟨H.length,d_,pq rfl (by rw[j9,ai]),rfl⟩ (λm h=>(aa (ae h.symm) hl)) ⟨b_,b_,rfl⟩ ?_ ?_)
 ·rintro m rfl us k vs _ l ⟨z3,c,rfl⟩;exact⟨_,rfl,QS (z3:=z3) d g (uL l).2⟩
 ·rintro m rfl _ ⟨z3,c,rfl⟩;exact jE rfl rfl
def Na{ns:List Int}:Cn D (n+7) 32 [.lst (ns.map Dat.int)]=a_ (.bl c_,d_):=by
 obtain⟨t,b,O,w⟩:=GF (ns:=ns);obtain⟨E,hE,g,R,ok⟩:=K6 w;have hd:Dw (Cn D (n+6)) (.lst (ns.map Dat.int)):=dw;have U:=λ(m:Nat)(h:m<=100)=>IW (n:=n+3) (ns:=ns) w.ok h;have W:=λ(x:List Nat)(h1:∀c∈x,c∈raw t)(h2:x.length<=1000)=>Af (n:=n+1) w hE g R ok h1 h2;have r0:=λ(S:List Ed)(h1:(fP S).length<=100000/\S.length<=100000)(h2:∀e∈S,e.2.2.2∈l8)=>Nb (n:=n+5) h1 h2;have Y:=λ(S:List Ed)(h1:(fP S).length<=100000/\S.length<=100000)(h2:∀e∈S,e.2.2.2∈l8)=>IZ (n:=n+5) h1 h2;have Z:=λ(H:List Nat)(row:List Int)(h1:Fd row H)(h2:H.length<=1000)=>I0 (n:=n+4) h1 h2
 suffices h:Go (Cn D (n+6)) ZU [a_ (.lst (ns.map Dat.int),d_),b_,b_,b_,b_,b_,b_,b_] λo=>o=.rt (.bl c_) d_ by
  obtain⟨_,h1,rfl⟩:=h;exact fA rfl h1
 generalize Dat.lst (ns.map Dat.int)=N at *;generalize Cn D (n+6)=C at *;show Go C (.set 1 (.call 27 [.v 0])::.set 2 (.call 20 [_,_,_,_])::.ifs (.cmp .eq (.call 20 [_,_,_,_]) (.e_ 0)) [.set 2 (.bin .add (.e_ 13) (.call 20 [_,_,_,_]))] []::.Vs [3,4] (.call 18 [.v 1,.call 29 [.v 0,.v 1,.v 2]])::.set 5 (.call 30 [.v 4])::.set 6 (.blt .list [.v 4])::.set 7 (.call 0 [.v 6])::.ifs (.or (.not (.call 31 [.v 7,.v 5,.v 3])) (.cmp .ne (.v 6) (.v 4))) [.ret (.con (.bl d_))] []::.mut .app 7 [.e_ 0]::.ret (.and (.call 31 [.call 0 [.v 6],.v 5,.v 3]) (.cmp .eq (.call 0 [.lst []]) (.lst [])))::[]) _ _
 have htb:im (tb t)=c_:=by
  show(jL (t.fs.map jf) && (im (L1 t) && (im (tI t.fg) && c_)))=c_
  have i1:im (L1 t)=c_:=by
   simp only[im,jL,iF,aj];exact⟨mo _,mo _,mo _,mo _⟩
  rw[nA,i1,mo];rfl
 refine fM (jl O htb) ?_;refine vn (P:=(·<=32)) (gV hd rfl rfl rfl rfl (by decide) (by decide) (by decide) λq h=>by omega) (λv=>sY (P:=λ_=>True) (gV hd rfl rfl rfl rfl (by decide) (by decide) (by decide) λ_ _=>trivial) 0) (λv=>K5 13 (P:=(·< 20)) (gV hd rfl rfl rfl rfl (by decide) (by decide) (by decide) λq h=>by omega) λq h=>by omega) λm L=>?_;obtain⟨x,b',e29,hx1,hx2⟩:=U m (aa L (by decide));obtain⟨S,s,Bl,M,j⟩:=W x hx2 (aa (ae hx1) (aa L (by decide)));have hS:S.length<=100:=by have:=M.hl.1;omega
 have t5:∀e∈S,U5 e:=λe he=>ok e (M.he e he);have z:=r0 S ⟨j,aa hS (by decide)⟩ λe he=>(t5 e he).o;have y:=Y S ⟨j,by omega⟩ λe he=>(t5 e he).o
 have hH:(hs 0 S).length<=1000:=by
  have hsl:∀(us:List Ed)(a:Nat),(hs a us).length<=us.length:=λus=>by
   induction us with
   |nil=>intro a;exact au _
   |cons e r J=>
     intro a;have:=J (a+e.2.2.1.length);show(if Kr e=c_ then _ else _:List Nat).length<=_;split
     ·simp;omega
     ·simp;exact bW this
  have:=hsl S 0;exact aa this (aa hS (by decide))
 have hG:Fd (fP S) (hs 0 S):=by
  obtain⟨h1,h2⟩:=E7 S DH s [] M.hc (Ug g M.hf) t5;exact⟨h1,λh R=>by obtain⟨a,b⟩:=h2 h R;exact⟨a,b⟩⟩
 have k:=Z _ _ hG hH
 have u1:ot C (.Vs [3,4] (.call 18 [.v 1,.call 29 [.v 0,.v 1,.v 2]])) [a_ (N,d_),a_ (tb t,d_),a_ (.int (m:Nat),d_),b_,b_,b_,b_,b_]=a_ (.nx [a_ (N,d_),a_ (tb t,d_),a_ (.int (m:Nat),d_),a_ (tI (fP S),d_),a_ (.lst (S.map dQ),d_),b_,b_,b_]):=by
  show(Hk C (.call 18 [.v 1,.call 29 [.v 0,.v 1,.v 2]]) [a_ (N,d_),a_ (tb t,d_),a_ (.int (m:Nat),d_),b_,b_,b_,b_,b_]).bind _=_;unfold Hk;have ec:∀ρ0:iG,ρ0[0]?=a_ (a_ N)->ρ0[1]?=a_ (a_ (tb t))->ρ0[2]?=a_ (a_ (.int (m:Nat)))->bE C (.call 18 [.v 1,.call 29 [.v 0,.v 1,.v 2]]) ρ0=a_ (.tup [tI (fP S),.lst (S.map dQ)],d_):=λρ0 h0 h1 h2=>(Xe (by rw[jh,h1];rfl) ((Lm (by rw[jh,h0];rfl) (by rw[jh,h1];rfl) (by rw[jh,h2];rfl)).trans e29)).trans Bl;rw[ec _ rfl rfl rfl,ec _ rfl rfl rfl,bw]
  have hi:(im (Dat.tup [tI (fP S),.lst (S.map dQ)]) || d_)=d_:=by
   show((im (tI (fP S)) && (d_ && c_)) || d_)=d_;rw[mo];rfl
  rw[if_neg (by rw[hi];decide)];rfl
 refine fM u1 (fX y (fX (pq rfl (by show a_ (Dat.lst (S.map dQ),jL (S.map dQ))=_;rw[Dd])) (fX z ?_)))
 have B:eC 19 (S.map dQ)=c_/\g9 (S.map dQ)=c_:=by
  clear M j t5 z y hH hG k u1 Bl hS
  induction S with
  |nil=>exact⟨rfl,rfl⟩
  |cons e S J=>
    have h1:eC 18 (e.2.2.1.map Dat.int)=c_:=oG 18 _
    have h2:g9 (e.2.2.1.map Dat.int)=c_:=by
     generalize e.2.2.1=l
     induction l with
     |nil=>rfl
     |cons a r J=>show(c_ && g9 (r.map Dat.int))=c_;rw[J];rfl
    constructor
    ·show((c_ && (c_ && (eC _ (e.2.2.1.map Dat.int) && (c_ && c_)))) && eC 19 (S.map dQ))=c_;rw[show eC 17 (e.2.2.1.map Dat.int)=c_ from oG 17 _,J.1];rfl
    ·show((c_ && (c_ && (g9 (e.2.2.1.map Dat.int) && (c_ && c_)))) && g9 (S.map dQ))=c_;rw[h2,J.2];rfl
 obtain⟨f1,o1⟩:=wY (ρ:=full [a_ (N,d_),a_ (tb t,d_),a_ (.int (m:Nat),d_),a_ (tI (fP S),d_),a_ (.lst (S.map dQ),d_),a_ (nD (hs 0 S),c_),a_ (.lst (S.map dQ),c_),a_ (nD (hs 0 S),c_)]) (b:=.cmp .ne (.v 6) (.v 4)) (Wv (a:=.call 31 [.v 7,.v 5,.v 3]) ((Lm rfl rfl rfl).trans k)) (jt rfl rfl (by rw[WC B.1 B.1,o6 _ B.2];rfl));refine xC o1 (r8 ⟨.int 0,d_,rfl,rfl,rfl⟩ rfl (by rw[ai];exact aG hH (by decide)) λd hd=>?_);refine jE ?_ rfl;rw[nF ((Lm ((Xf rfl).trans z) rfl rfl).trans k),if_pos rfl];exact jt (r0 [] ⟨by decide,by decide⟩ λ_ h=>nomatch h) rfl rfl
end K43E
namespace K43
open M
def math(ns:List Int)(h:ns.length<=63):∃fr,Cn D 12 32 [.lst (ns.map Dat.int)]=a_ (.bl c_,fr):=⟨d_,K43E.Na⟩
end K43
namespace M
open PySem PySem.Spec PyProof.Rows L2
section
variable{K:Fg}
mutual
noncomputable def Nl(K:Fg):Dat->ah->Bool
 |.str x,.str y _=>decide (x=y)
 |.int i,.int j _=>decide (i=j)
 | .tup ds,.ref p=>match K.lookup p with
   |some ⟨.type c,b_,.seq its _,_⟩=>decide (c="tuple") && decide (its.size<=aB) && Jg K ds its.toList
   |_=>d_
 |_,_=>d_
noncomputable def Jg(K:Fg):List Dat->List ah->Bool
 |[],[]=>c_
 |d::ds,u::us=>Nl K d u && Jg K ds us
 |_,_=>d_
end
set_option tactic.hygienic true
mutual
theorem El:∀(d:Dat)(u:ah),Nl K d u=c_->∃v,RelV v u/\CV K d v
 |.str x,.str y t,h=>by
   cases of_decide_eq_true h;exact⟨.str x,⟨t,rfl⟩,λ_=>rfl,λ_ z=>nomatch z⟩
 |.int i,.int j t,h=>by
   cases of_decide_eq_true h;exact⟨.int i,⟨t,rfl⟩,λ_=>rfl,λ_ z=>nomatch z⟩
 |.tup ds,.ref p,h=>by
   unfold Nl at h;split at h
   ·rename_i c its n l g;obtain⟨h,h3⟩:=i8.mp h;obtain⟨h1,h2⟩:=i8.mp h;cases of_decide_eq_true h1;obtain⟨vs,r,q⟩:=Ai ds its.toList h3;exact⟨.ref p,rfl,λF=>⟨p,vs,rfl,.inr ⟨_,its,n,g,rfl,rfl,of_decide_eq_true h2,r⟩,q F⟩,λb z=>by cases z;exact⟨_,g,rfl,rfl⟩⟩
   ·cases h
theorem Ai:∀(ds:List Dat)(us:List ah),Jg K ds us=c_->∃vs,cM vs us/\∀F,cT K F ds vs
 |[],[],_=>⟨[],.nil,λ_=>rfl⟩
 |d::ds,u::us,h=>by
   obtain⟨h1,h2⟩:=i8.mp h;obtain⟨v,r,q⟩:=El d u h1;obtain⟨vs,c,g⟩:=Ai ds us h2;exact⟨v::vs,.cons r c,λF=>⟨v,vs,rfl,q.1 F,g F⟩⟩
end
def Xd(K:Fg)(p:bu×Dat):Bool:=match m7 K mainGlobals p.1 with
 |some (a_ u)=>Nl K p.2 u
 |_=>d_
theorem FA(X:K.In h)(G:h.Ns mainGlobals mg):∀{con:List (bu×Dat)},con.all (Xd K)=c_->∀x d,con.lookup x=a_ d->∃v u,mg x=a_ u/\RelV v u/\CV K d v
 |(y,e)::L,h,x,d,q=>by
   rw[dv]at h;obtain⟨h1,h2⟩:=i8.mp h;rw[eW]at q;split at q
   ·rename_i z;cases q;rw[eq_of_beq z];unfold Xd at h1;split at h1
    ·rename_i u a;obtain⟨v,r,c⟩:=El _ _ h1;exact⟨v,u,LL X G a,r,c⟩
    ·cases h1
   ·exact FA X G h2 x d q
set_option tactic.hygienic false
end
end M
open PySem PySem.W PyProof.Rows
namespace PySem.W.Fast
def tw17147660552042409719:=0
def tw4460504872199894387:=0
def tw5841776026597774258:=0
def tw24052796853807028:=0
def tw1432658616564468431:=0
def tw12845952226010569389:=0
def tw12299904866411482375:=0
def tw10181799812329318713:=0
def tw14767517683588851826:=0
def tw15693546040681888834:=0
def tw9189003459574506209:=0
def tw4958372692502389561:=0
def tw14400414128203506823:=0
def tw2806233050903223797:=0
def tw2559272987865159173:=0
def tw18281729744422622009:=0
def tw17417045285273407318:=0
def tw1588780601588060787:=0
def tw17463737870747363133:=0
def tw5406124287497132642:=0
def tw9337956668027938019:=0
def tw15536530460770294909:=0
def tw15762778421965048435:=0
def tw5631429154709408408:=0
def tw17949502941317098896:=0
def tw17106440894184461469:=0
def tw4371554716562043376:=0
def tw323468534904218447:=0
def tw9711337244309782090:=0
def tw11658804687471496178:=0
def tw15550963614071547470:=0
def tw3147345698540608918:=0
def tw1225591652364648090:=0
def tw8082095142915697315:=0
def tw9657294990233940028:=0
def tw6924450288662887599:=0
def tw18175478542981986635:=0
def tw11711377328434320423:=0
def tw11022877972666198621:=0
def tw8289502868794666128:=0
def tw2454350926606482567:=0
def tw7003636318581206655:=0
def tw15756004587700155829:=0
def tw3628134296013469564:=0
def tw12470035058015492445:=0
def tw9334602815039178428:=0
def tw4124836747678148927:=0
def tw7078068680441813743:=0
def tw8325518447461259412:=0
def tw10353836006712839199:=0
def tw3955731265763025961:=0
def tw12319913188429344485:=0
def tw5939651089198882678:=0
def tw528967047811744575:=0
def tw11646183343322852475:=0
def tw8524242990439230017:=0
def tw4458926199820840888:=0
def tw6262677709017024427:=0
def tw17192825496143093685:=0
def tw11898869022348293518:=0
def tw10720027108489436820:=0
def tw15634697766489608363:=0
def tw1242192350359802292:=0
def tw2969976608023239651:=0
def tw5845191958449761382:=0
def tw17041099605119528947:=0
def tw17414692523113338744:=0
def tw9453571629232492300:=0
def tw1194706004901089736:=0
def tw17315337135866078023:=0
def tw5119170997923681659:=0
def tw9816341033206200983:=0
def tw3713357751699141241:=0
def tw13073218325948873057:=0
def tw12111954637607645710:=0
def tw10063322515666617101:=0
def tw1853409528612855788:=0
def tw16022661007418998915:=0
def tw8410626136370776683:=0
def tw5696241087038839495:=0
def tw5501464410461660183:=0
def tw9120650094394813178:=0
def tw10009628123450398080:=0
def tw541284010624079559:=0
def tw12021846225060139281:=0
def tw3828475916938353676:=0
def tw17594737668744353280:=0
def tw7386540527285186275:=0
def tw16255956578717645842:=0
def tw16370392956782411559:=0
def tw3756247638345885161:=0
def tw13289981199493927345:=0
def tw13245290371123193382:=0
def tw1616483258126720887:=0
def tw1265372484766148930:=0
def tw15399908058146241739:=0
def tw1935767717465543724:=0
def tw2335532154037037197:=0
def tw11915551744816102389:=0
def tw5941095158366463423:=0
def tw1559959883662741762:=0
def tw16813504415839107973:=0
def tw2253327911199705164:=0
def tw9704757381836666425:=0
def tw4652033096803591464:=0
def tw2809254425968074049:=0
def tw9058629936759732792:=0
def tw3302921357679708854:=0
def tw1212029141891227840:=0
def tw3138235003772227326:=0
def tw3586578040681049532:=0
def tw11991648243639428760:=0
def tw12323068631552432890:=0
def tw10486871112928282620:=0
def tw2876547911290487478:=0
def tw16124506617862788976:=0
def tw8751794470085080416:=0
def tw18430115640086149037:=0
def tw2130393025554644883:=0
def tw2085026873108303635:=0
def tw10780827944178716761:=0
def tw12665514781246025231:=0
def tw13289945172277799460:=0
def tw5264896116322582090:=0
def tw3159226531254713406:=0
def tw10934073592713353035:=0
def tw14207203184040773319:=0
def tw6521285139700891968:=0
def tw16432581218687459930:=0
def tw16811418510493655523:=0
def tw12693482209261489250:=0
def tw8253161565211137218:=0
def tw3630740346856774778:=0
def tw13802945884428975606:=0
def tw11623605487833307106:=0
def tw6888663141081739428:=0
def tw1587532710316869984:=0
def tw6620358396828531472:=0
def tw14808150432641859626:=0
def tw4036253431501323834:=0
def tw4592739785659568161:=0
def tw17549339627190413709:=0
def tw156098276733291533:=0
def tw4417680556343194184:=0
def tw11957039591853964776:=0
def tw10390995263288163701:=0
def tw15390187089752162657:=0
def tw7407883744025924199:=0
def tw8173753221101286242:=0
def tw6100056799531910941:=0
def tw7451189579299693764:=0
def tw4464049084919011695:=0
def tw9112912611785562453:=0
def tw16469503767625164115:=0
def tw10761988540620312212:=0
def tw16834117479742280090:=0
def tw4491555476842507385:=0
def tw13435257086247407457:=0
def tw11971070676698703190:=0
def tw1987225301470935809:=0
def tw13380425053341763865:=0
def tw15263056194813098355:=0
def tw10575103356348634982:=0
def tw4968729256524598786:=0
def tw8153035943154794651:=0
def tw291499072182271115:=0
def tw13665781667533660983:=0
def tw14651514766184764278:=0
def tw7182926065355570169:=0
def tw6612158048356699365:=0
def tw1736814883647525111:=0
def tw4280828973417593583:=0
def tw11608421997722853758:=0
def tw3854497430800962662:=0
def tw10019478058612030325:=0
def tw7632802711241954812:=0
def tw10653071841208082877:=0
def tw8409682262516853547:=0
def tw5896844019369143466:=0
def tw4067624775820434565:=0
end PySem.W.Fast
set_option maxRecDepth 100000 in
set_option maxHeartbeats 0 in
theorem PySem.Challenge.cw_dots_k43_hinges_holds : PySem.Challenge.rw_dots_k43_hinges.Holds := by
 w_on;o_law;k_head;(case hw=>w_witness2)
 k_fill
 refine M.walk (l:=nc) (n:=12) (x:="_law_script") rfl ⟨rfl,by decide,by decide⟩ rfl (λw h Y=>PySem.W.kIn_of Y) ?F
 case F=>
  intro w mg fa h KX G hmg
  have Z:∀x∈M.lA,mg x=b_:=by
   refine M.O7 KX G ?_
   kernel_rfl
  have T:M.Here (L2.KOf KX) mg K43.D K43.con:=⟨K43.Ws,M.UL KX G (by kernel_rfl) (by kernel_rfl) (λ_ _ _ _ _ _ _=>by kernel_rfl),Z,M.FA KX G (by kernel_rfl)⟩
  exact M.Ts (l:=nc) T (j:=32) rfl rfl hmg K43.math
