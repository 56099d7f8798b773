import PyProof.Rows.All
import Wide.All
import OpenK.AllK
import Wide.FinOn
import Lean
import PyProof.EqAt
import PyProof.EqKinds
import PyProof.TupleCall
import PySem.Challenge.RW_dots_k09_edges_of_great_letters
set_option bootstrap.genMatcherCode false
open And renaming intro->JX
open Array renaming getElem?_eq_getElem->aW,length_toList->bF,getElem?_eq_some_iff->cQ,getElem?_toList->dM,getD_eq_getD_getElem?->eA,getElem?_eq_none->fu,forIn_toList->fI,replicate->nN,getD->uA,getElem_toList->Ae,ext_getElem?->DT,size_append->FA
open Bool renaming and_eq_true->aF,false_eq_true->aJ,false_ne_true->bI,not_true->dA,and_true->eV,not_false->iJ,or_eq_true->kG,and_false->lJ,not_eq_true'->mw,true_or->nM,false_and->oI,true_and->pP,and_self->pQ,eq_iff_iff->JW,and_assoc->M9
open Classical renaming propDecidable->lT,em->FW
open False renaming elim->iA
open ForInStep renaming yield->iQ
open Int renaming ofNat->fH,emod_lt_of_pos->jq,eq_ofNat_of_zero_le->jy,toNat_natCast->jP,emod_nonneg->kS,fdiv_eq_ediv_of_nonneg->vW,toNat->JV
open Int.ofNat renaming inj->Fy
open List renaming getElem?_eq_getElem->af,length_append->ak,mem_cons->ao,map_cons->aq,mem_singleton->au,mem_append_right->aA,append_assoc->aC,mem_append->aD,length_map->aG,size_toArray->aH,append_nil->aL,getElem?_append_right->aR,range->aT,mem_flatMap->aV,mem_map->aX,mem_append_left->aY,not_mem_nil->ba,getElem?_eq_some_iff->be,getElem?_append_left->bf,length_cons->bo,mem_of_getElem?->bq,mem_range->br,take_append_drop->bu,getElem?_map->bx,getElem?_cons_succ->bD,getElem_mem->bM,all_eq_true->bQ,getElem?_cons_zero->bT,length_range->bW,nodup_cons->bX,mem_of_mem_take->bY,flatMap_cons->ck,map_map->cx,mem_iff_getElem->cD,map_nil->cF,replicate->cT,nodup_append->cV,getElem?_take->cX,flatMap_nil->dc,set_cons_zero->du,mem_of_mem_drop->dv,getD_eq_getElem?_getD->dw,perm_append_comm->dO,all_cons->dQ,nil_append->dW,mem_filter->dX,map_append->dY,pairwise_append->eo,getElem?_replicate->et,mem_map_of_mem->eK,pairwise_iff_getElem->eN,pairwise_cons->eQ,lookup_cons->eR,getElem?_set_ne->eY,drop_sublist->fh,take_of_length_le->fx,nodup_range->fF,cons_append->fG,perm_ext_iff_of_nodup->fK,drop_zero->fL,reverse_perm->fU,pairwise_map->fV,getElem?_of_mem->fW,map_congr_left->gh,length_take->gp,length_eq_zero_iff->gr,length_zip->g9,getElem?_toArray->hZ,take_sublist->ik,nodup_nil->iH,forIn_cons->jd,find?_cons->je,zip_cons_cons->ji,replicate_one->jj,take_zero->jE,take_take->jF,getElem?_inj->jG,drop_left->jH,drop_eq_nil_of_le->jI,drop_drop->jJ,pairwise_reverse->jX,length_replicate->jY,getElem?_eq_none->jZ,zipIdx_cons->j9,isEmpty_iff->kc,take_append_of_le_length->kr,length_nil->kF,getElem_of_mem->kQ,filterMap_cons->kR,set_cons_succ->lH,getElem?_drop->lI,drop_eq_getElem_cons->mj,pairwise_singleton->ni,mem_reverse->nj,length_drop->nr,ext_getElem->nu,getElem?_set_self->nL,zipIdx_nil->nR,length_filter_le->oh,forIn_nil->oH,replicate_succ->pB,length_flatMap->pC,sum_cons->pL,map_take->pN,any_cons->pO,mem_filterMap->ql,getElem?_set->qQ,flatten_cons->qR,ext_getElem?->qS,getElem_zip->rB,any_eq_true->rC,length->rZ,eq_nil_of_length_eq_zero->r8,of_mem_zip->t9,take_left->uP,setIfInBounds_toArray->uQ,length_eraseIdx_of_lt->uR,drop_take->uS,map_drop->xm,find?_range_eq_none->xn,pairwise_filterMap->xE,getD->xF,pairwise_lt_range->zQ,length_eq_one_iff->zR,length_singleton->Ac,cons_lt_cons_iff->Ad,toList_toArray->DP,replicate_zero->DQ,flatten_append->DR,filter_sublist->DS,length_modify->Fw,getElem_drop->FU,any_eq_false->FV,reverse_nil->Jw,perm_middle->Jx,map_toArray->Jy,flatten_nil->Jz,drop_length->JA,zip_append->JT,foldl_cons->JU
open List.Nodup renaming sublist->xp
open List.Pairwise renaming imp_of_mem->kA,imp->nS,nil->uU,map->uV
open List.Perm renaming append_left->jx,eq_of_pairwise->se,trans->B1
open List.cons renaming injEq->iP,inj->Fx
open Nat renaming le_refl->aK,lt_of_lt_of_le->bB,lt_irrefl->bK,ne_of_lt->bN,le_trans->cP,zero_le->dJ,lt_or_ge->gW,ne_of_gt->iR,min_eq_left->jh,mod_lt->jo,sub_self->jN,lt_trans->jO,lt_succ_self->ki,le_add_right->kj,zero_add->lu,lt_trichotomy->mL,lt_succ_of_lt->mM,add_assoc->mO,le_of_lt->nQ,min_self->Aa,le_of_eq->Ab,le_succ->DO,lt_of_succ_lt->Jv,not_lt_zero->M7,min_le_left->M8
open Ne renaming symm->fD
open Option renaming bind_some->ah,map_some->bE,join_some->cZ,bind->dC,isNone_iff_eq_none->iM,map->jT,getD_some->jU,isSome_iff_ne_none->lG,isSome_iff_exists->uO,bind_eq_some_iff->vV,map_eq_some_iff->xk,bind_eq_bind->zZ,getD_none->Fv
open Option.some renaming inj->bw,injEq->iX
open Prod.mk renaming injEq->uy
open PyProof.Rows renaming SortSt->bJ,slot_tuple_getitem->dh,callWith_type1->eX,Keyed->fk,SortKind->gf,AllBare->nK,callWith_builtin1->oG,lt_int->ux,subscriptTail_builtinR->FQ,IntsAre->FT,IsTup->JS
open PyProof.Rows.F renaming plain_set_update_loop->g8,entry_set_update_loop->mK
open PyProof.Rows.IsTup renaming new->FR
open PyProof.Rows.SortSt renaming mk'->fB
open PySem renaming Value->ab,Shared->ae,Addr->ag,wpAny->aB,model->aI,Expr->aO,sizeLine->aP,Program->aS,SetTable->aZ,Str->bh,starEach->bp,World->bA,Around->bC,wpAny_setField_rec->bH,wpAny_seqItems->bO,Heap->bP,wpAny_call_entry->cg,sizeLine_eq->cj,wpAny_field->cv,wpAny_callSpecial?_slot->cy,IsPair->cU,wpAny_mono->dm,wpAny_newObj_type->dq,wpAny_setState_of->dR,cLine->dS,wpAny_holding->eh,wpAny_isInstance->eG,wpAny_forIn_list->eH,Obj->fe,FuncData->fj,Builtin->fO,Pos->fS,Scope->fX,IsZip->fY,mem_of_lookup->f6,wpAny_updateSeq_pair->f7,Paired->gR,wpAny_rule->ic,wpAny_Call_Name_kw->ie,wpAny_specialOf->iy,wpAny_onRaise->iG,wpAny_truthy_bool->iN,IsTupleKey->iW,Stmt->jl,wpAny_attempt->jA,NameKind->jB,wpAny_tupleItemsOf->jL,wpAny_getItem_str_slice->jS,codeAny_mono->ke,isSubtype_tuple_tuple->kE,wpAny_passesOwn->lP,codeAny_builtin->lQ,wpAny_typeOf->mo,wpAny_pyIter_list->nH,wpAny_letGo->nJ,wpAny_pyIter_zip->oz,wpAny_updateSeq->ph,wpAny_loadPart'->pq,post_val_or_str->pv,KeyKind->pz,wpAny_newTuple->qo,IsPart->qq,Keyword->qO,Sem->rl,concat_meets->uc,Operator->uh,GenState->uk,Env->uq,BindsTo->uu,wpAny_askSetting->vP,noFill_tuple_add->vQ,CmpOp->xj,placed->xw,Tok->xA,wpAny_richCompare_same_room->zO,isSubtype_stop->zT,call_meets->zU,MulOk->zW,wpAny_letOwnedTupleGo_zip->BV,wpAny_standAt->DI,wpAny_comprehension_free->DJ,seq_tuple_add->DK,plainId_quiet->DL,call->DM,PassesOwn->Ft,seqIndex_neg->FJ,pyIter->FK,builtinLookup_eq_fast->Jr,wpAny_of_eq->JN,seqIndex_of->JO,codeAny_call_builtin->JP,wpAny_setEntries_of->M4,sub_zip->M5
open PySem.Around renaming under_plainId->j8
open PySem.AutoSeq1 renaming sub_tuple_tuple->t8,sub_tuple_list->uv,sub_list_tuple->uw,sub_list_list->uN,idx_int->B0
open PySem.Builtin renaming bitAnd->rY,bitOr->Ju
open PySem.Builtin.Frozenset renaming updateFrom->nP,isAnySet->oB,sizeOf->oU,newClass->JR
open PySem.Builtin.List renaming listTooLong->fJ,listFitsIndex->j7,listLengthHint->pJ,listExtendWith->pK,listSameRef->qP
open PySem.Builtin.Slice renaming slicePlaces->g7,sliceAdjust->kh,sliceApplied->pI
open PySem.Builtin.SmallTypes renaming nextOf->bS,ownedTupleIsFree->cA,ownedTupleHandOut->gn
open PySem.Builtin.Str renaming occurrences->lr
open PySem.Builtin.Tuple renaming tupleHashOf->eC,tupleExact->ig,tupleItemsOf->jW,tupleIsExact->pH
open PySem.Calls renaming Name_function_global->ur,callWith_builtin->xD,spliced_cons->DN,spliced_nil->Fu
open PySem.Challenge renaming rw_dots_k09_edges_of_great_letters->jM
open PySem.Env renaming kindOf->qr
open PySem.F renaming slot_zip_next->dF,slot_tuple_hash->eW,slot_tuple_iterator_next->fQ,args_zip_next_1->i6,entry_zip_next->jm,slot_tuple_eq->jD,slot_list_extend->lR,args_tuple_add_2->lS,plainAttrs_list->mq,entry_tuple_add->mr,slot_tuple_add->mN,args_tuple_iterator_next_1->oT,entry_tuple_iterator_next->pA,args_object_init_3->rX,slot_list_insert->um,slot_list_append->uo,plain_list_iadd->uM,typeCall_zip_2->vS,plainAttrs_str->vT,entry_set_init->vU,slot_tuple_lt->w5,slot_set_iter->w6,newCall_zip_2->xf,entry_zip_new->xg,called_zip->zX,called_set->zY,args_list_extend_2->FP,entry_list_extend->Jt
open PySem.Heap renaming get?_push_size->aQ,size_push->cB,SameBut->cC,get?_update_self->hX,get?_update_other->jC,get?_none_of_le->oF,ExtBut->BZ
open PySem.Heap.SameBut renaming update->ng
open PySem.NameKind renaming free->eB,cell->lE
open PySem.Obj renaming mapSeq->en,data_mapFields->FO
open PySem.Paired renaming length->uL
open PySem.ScopeKind renaming function->xC
open PySem.SeqAt renaming EqAt->nD,RcAt->ug
open PySem.SeqAt.EqAt renaming str_int->wY,int_str->wZ
open PySem.SetTable renaming below->aM,Probe->bG,insertAt->cO,bits->dD,runEnd->dI,sizeAbove->dP,advance->dU,toList_insertAt->eO,grown->fw,leap->gH,turns->hV,slot->lz,laid->lA,fits->lD,fill->oA,layClean->px,has->uK,tooFull->BY,Met->Js
open PySem.SetTable.below renaming go->kg
open PySem.SetTable.layClean renaming free->df
open PySem.SetTable.probe renaming go->cw
open PySem.Shared renaming TypeIs->uJ,heap->zP
open PySem.Str renaming ofString->aa
open PySem.Txt renaming slice->iO,upper->qp,join->rj,slice_le->xx
open PySem.Unicode renaming upperOf->rh
open PySem.Value renaming ref->bZ,none->de,type->lq,bool->uf,str->FL,int->FN,isStrOf->M6
open PySem.Value.type renaming inj->m9
open PySem.W renaming Frag->aN,fnOf->dz,keepIn->eE,kia_one->fP,OpenLaw->iU,nsIn->jk,findIn->kO,codeIn->kP,methodObj->pG,mg_of->ud,WalkO->ue,cellsFrom_some->vR,kas_item->zV,specialIn->BW,kitx_dict->BX,instObj->Fq,isFn->JQ
open PySem.pickOrder renaming go->ub
open Sum renaming inl->jg,inr->lp
open Sum.inl renaming inj->MZ
open Sum.inr renaming inj->MY
open True renaming intro->j6
set_option Elab.async false
set_option compiler.extract_closed false
set_option linter.all false
set_option maxRecDepth 100000
set_option maxHeartbeats 4000000
theorem eD{α β:Type _}{x:Option α}{f:α->Option β}{b:β}(h:x.bind f=some b):∃a,x=some a/\f a=some b:=vV.mp h
theorem fM{α β:Type _}{x:Option α}{f:α->β}{b:β}(h:x.map f=some b):∃a,x=some a/\f a=b:=xk.mp h
open PySem PySem.Spec in def wb9:=@wpAny_bind
open PySem PySem.Spec in def wu9:=@wpAny_pure
open PySem in def hp9:=@Heap.get?_push_of_some
open PySem in def hl9:=@Heap.lt_size
theorem ja{α:Type _}{a:α}{l:List α}:a∈a::l:=List.mem_cons_self
theorem jt{α:Type _}(y:α){a:α}{l:List α}(h:a∈l):a∈y::l:=List.mem_cons_of_mem y h
namespace L2
open PySem PySem.Spec PyProof.Rows
noncomputable abbrev Key:=Sum Int bh
noncomputable def vn:Key->ab->Bool
 | .inl k,v=>Value.isInt k v
 | .inr x,v=>M6 x v
noncomputable def VG(w:bA):Key->Int
 | .inl k=>hashInt k
 | .inr x=>hashStr w x
theorem cW:∀{k:Key} {v:ab},vn k v=true->(∃i t,k=jg i/\v=FN i t)\/(∃x t,k=lp x/\v=FL x t)
 | .inl i,v,h=>by
   obtain⟨t,e⟩:=Value.isInt_shape (k:=i) (v:=v) h;exact .inl ⟨i,t,rfl,e⟩
 | .inr x,v,h=>by
   obtain⟨t,e⟩:=Value.isStrOf_shape (x:=x) (v:=v) h;exact .inr ⟨x,t,rfl,e⟩
theorem EB(i:Int)(t:xA):vn (.inl i) (.int i t)=true:=by simp[vn,Value.isInt]
theorem EA(x:bh)(t:xA):vn (.inr x) (.str x t)=true:=by simp[vn,M6]
theorem PN(a b:Int):decide ((jg a:Key)=jg b)=(a == b):=by
 by_cases e:a=b
 ·subst e;simp
 ·have h:¬(jg a:Key)=jg b:=fun q=>e (MZ q);rw[decide_eq_false h];exact(beq_eq_false_iff_ne.mpr e).symm
theorem PK(a b:bh):decide ((lp a:Key)=lp b)=decide (a=b):=by
 by_cases e:a=b
 ·subst e;simp
 ·have h:¬(lp a:Key)=lp b:=fun q=>e (MY q);rw[decide_eq_false h,decide_eq_false e]
theorem PM(a:Int)(b:bh):decide ((jg a:Key)=lp b)=false:=decide_eq_false (fun q=>nomatch q)
theorem PL(a:bh)(b:Int):decide ((lp a:Key)=jg b)=false:=decide_eq_false (fun q=>nomatch q)
noncomputable def cf(prog:aS)(w:bA):pz prog w Key where
 is:=vn
 hash:=VG w
 inj:=fun v a b ha hb=>by
  rcases cW ha with⟨i,t,rfl,rfl⟩|⟨x,t,rfl,rfl⟩
  ·rcases cW hb with⟨j,u,rfl,e⟩|⟨y,u,rfl,e⟩
   ·injection e with e1 _;rw[e1]
   ·exact nomatch e
  ·rcases cW hb with⟨j,u,rfl,e⟩|⟨y,u,rfl,e⟩
   ·exact nomatch e
   ·injection e with e1 _;rw[e1]
 byValue:=fun k v h=>by
  rcases cW h with⟨i,t,rfl,rfl⟩|⟨x,t,rfl,rfl⟩<;>rfl
 pyHash:=fun hv h=>by
  rcases cW hv with⟨i,t,rfl,rfl⟩|⟨x,t,rfl,rfl⟩
  ·exact wpAny_pyHash_int h
  ·exact wpAny_pyHash_str h
 eqBool:=fun hu hv h=>by
  rcases cW hu with⟨i,t,rfl,rfl⟩|⟨x,t,rfl,rfl⟩
  ·rcases cW hv with⟨j,u,rfl,rfl⟩|⟨y,u,rfl,rfl⟩
   ·rw[PN]at h;exact wpAny_eqBool_int h
   ·rw[PM]at h;exact wZ i t y u _ _ _ _ h
  ·rcases cW hv with⟨j,u,rfl,rfl⟩|⟨y,u,rfl,rfl⟩
   ·rw[PL]at h;exact wY x t j u _ _ _ _ h
   ·rw[PK]at h;exact wpAny_eqBool_str h
 «strs» :=fun k x t v h=>by
  rcases cW h with⟨i,u,rfl,e⟩|⟨y,u,rfl,e⟩
  ·exact nomatch e
  ·injection e with e1 _
   subst e1;cases v<;>rfl
theorem yv(prog:aS)(w:bA)(i:Int)(t:xA):(cf prog w).is (.inl i) (.int i t)=true:=EB i t
theorem yu(prog:aS)(w:bA)(x:bh)(t:xA):(cf prog w).is (.inr x) (.str x t)=true:=EA x t
noncomputable abbrev NK:=Sum Key (List Key)
section
variable{P:aS}{w:bA}{A:bC}{E:ab->ae->Prop}{z0:ae}
noncomputable def JB(P:aS)(w:bA)(h:bP):NK->ab->Prop
 | .inl k,v=>(cf P w).is k v=true
 | .inr ks,v=>∃b,v=.ref b/\iW (cf P w) h ks b
inductive e8 (P:aS) (w:bA) (h:bP):List NK->List ab->Prop
 | nil:e8 P w h [] []
 | cons {k:NK} {v:ab} {ks:List NK} {vs:List ab}:JB P w h k v->e8 P w h ks vs->e8 P w h (k::ks) (v::vs)
def kz(P:aS)(w:bA)(h:bP)(ks:List NK)(p:ag):Prop:=∃o its0 n,h.get? p=some o/\o.cls=.type "tuple"/\o.data=.seq its0 n/\e8 P w h ks its0.toList
theorem JB.inj{h:bP}{x y:NK}{v:ab}(ex:JB P w h x v)(ey:JB P w h y v):x=y:=by
 cases x with
 | inl k=>
   cases y with
   | inl k'=>exact congrArg _ ((cf P w).inj _ _ _ ex ey)
   | inr ks=>obtain⟨b,rfl,_⟩:=ey;exact nomatch ((cf P w).byValue _ _ ex)
 | inr ks=>
   obtain⟨b,rfl,q⟩:=ex
   cases y with
   | inl k'=>exact nomatch ((cf P w).byValue _ _ ey)
   | inr ks'=>obtain⟨b',e,q'⟩:=ey;cases e;exact congrArg _ (q.inj q')
theorem e8.inj{h:bP}{x y:List NK}{vs:List ab}(ex:e8 P w h x vs)(ey:e8 P w h y vs):x=y:=by
 induction ex generalizing y with
 | nil=>cases ey;rfl
 | cons h1 _ ih=>
   cases ey with
   | cons h2 t2=>rw[JB.inj h1 h2,ih t2]
theorem kz.typeIs{ks:List NK}{p:ag}(x:kz P w z0.heap ks p):z0.TypeIs (.ref p) "tuple":=let ⟨o,_,_,go,gc,_⟩:=x;⟨o,go,gc⟩
theorem kz.inj{h:bP}{p:ag}{x y:List NK}(ex:kz P w h x p)(ey:kz P w h y p):x=y:=by
 obtain⟨o,its0,n,go,_,gd,gi⟩:=ex;obtain⟨o',items',n',ho',_,hd',hi'⟩:=ey;obtain rfl:o=o':=bw (go.symm.trans ho');rw[gd]at hd'
 injection hd' with h1 _
 subst h1;exact gi.inj hi'
theorem e8.keeps{h h':bP}{ks:List NK}{vs:List ab}{d:ag}{o:fe}{es ep}(x:e8 P w h ks vs)(go:h.get? d=some o)(gd:o.data=.dict es ep)(es0:cC d h h'):e8 P w h' ks vs:=by
 induction x with
 | nil=>exact .nil
 | @cons k v ks vs h1 _ ih=>
   refine .cons ?_ ih
   cases k with
   | inl k=>exact h1
   | inr q=>obtain⟨b,e,z⟩:=h1;exact⟨b,e,z.keeps go gd es0⟩
theorem kz.keeps{h h':bP}{ks:List NK}{p d:ag}{o:fe}{es ep}(x:kz P w h ks p)(go:h.get? d=some o)(gd:o.data=.dict es ep)(es0:cC d h h'):kz P w h' ks p:=by
 obtain⟨o',its0,n,ho',gc,hd',gi⟩:=x
 have hne:p≠d:=by
  rintro rfl;obtain rfl:o'=o:=bw (ho'.symm.trans go);rw[gd]at hd';exact nomatch hd'
 exact⟨o',its0,n,(es0.2 p hne).trans ho',gc,hd',gi.keeps go gd es0⟩
noncomputable def sW(P:aS)(w:bA):NK->Int
 | .inl k=>(cf P w).hash k
 | .inr ks=>tupleKeyHash (cf P w) ks
noncomputable def yq:NK->Nat
 | .inl _=>1
 | .inr ks=>ks.length+1
noncomputable def dB(P:aS)(w:bA)(ks:List NK):Int:=reduceHash (eC (ks.map (sW P w)))
theorem Ii{k:NK}{v:ab}{Q:Int->ae->Prop}(room0:A.units<dS)(gk:JB P w z0.heap k v)(h:Q (sW P w k) { z0 with toks:=z0.toks+yq k }):aB (aI P w) A (pyHash v) Q E z0:=by
 cases k with
 | inl k=>exact(cf P w).pyHash gk h
 | inr ks=>obtain⟨b,rfl,z⟩:=gk;exact wpAny_pyHash_tuple room0 z h
theorem Ij{ks:List NK}{p:ag}{Q:Int->ae->Prop}(room0:A.units+1<dS)(gk:kz P w z0.heap ks p)(h:Q (dB P w ks) { z0 with toks:=z0.toks+((ks.map yq).sum+1) }) :
  aB (aI P w) A (pyHash (.ref p)) Q E z0:=by
 have gt:=gk.typeIs;obtain⟨o,its0,n,go,_,gd,gi⟩:=gk;unfold pyHash
 first|unfold pyHashByItsType|skip
 first|refine wb9 (wpAny_cRoomFor_or (.inr (by omega)) ?_)|skip
 refine wb9 (iy gt eW.lookup ?_);show aB _ _ (if(some (Value.builtin "tuple.__hash__") == some de)=true then _ else _) Q E z0;rw[if_neg (by rw[beq_builtin_none];exact bI)];refine wb9 (iy gt eW.lookup ?_);show aB _ _ (callSpecialIfBoundUnlessNone? (.ref p) "__hash__" _ >>= _) Q E z0;refine wb9 (wpAny_callSpecialIfBoundUnlessNone?_slot gt eW (cg eW gt PySem.F.entry_tuple_hash ?_ (PySem.F.args_tuple_hash_1 _)));show aB _ _ (jW (.ref p) >>= _) _ _ z0;refine wb9 (jL go gd ?_);refine wb9 ?_;rw[<-fI]
 refine eH _
  (fun tl (b:Array Int) z1=>∃pre suf,ks=pre++suf/\e8 P w z0.heap suf tl/\b.toList=pre.map (sW P w)/\z1={ z0 with toks:=z0.toks+(pre.map yq).sum })
  _ ?_ ?_ _ _ ⟨[],ks,rfl,gi,rfl,rfl⟩
 ·rintro x tl b z1 ⟨pre,suf,rfl,gl,gb,rfl⟩
  cases gl with
  | @cons k _ ks' _ h1 gl'=>
    refine wb9 (Ii (z0:={ z0 with toks:=z0.toks+(pre.map yq).sum }) ?_ h1 ?_)
    ·first|exact room0|(show _<dS;omega)|exact Jv room0
    first
     | exact wu9 ⟨pre++[k],ks',by simp,gl',by simp[gb],by simp[mO]⟩
     | exact wb9 (wu9 (wu9 ⟨pre++[k],ks',by simp,gl',by simp[gb],by simp[mO]⟩))
 ·rintro b z1 ⟨pre,suf,rfl,gl,gb,rfl⟩;cases gl;rw[aL]at h;show aB _ _ (retInt (eC b.toList)) _ _ _;rw[gb];refine wpAny_ret_mkInt ?_;show aB _ _ (if(decide (-(2:Int) ^ 63<=eC (pre.map (sW P w))) && decide (eC (pre.map (sW P w))<2 ^ 63))=true then _ else _) Q E _;unfold dB reduceHash at h;by_cases ge:(decide (-(2:Int) ^ 63<=eC (pre.map (sW P w))) && decide (eC (pre.map (sW P w))<2 ^ 63))=true
  ·rw[if_pos ge];rw[if_pos ge]at h;exact wu9 (by simpa [mO]using h)
  ·rw[if_neg ge];rw[if_neg ge]at h;exact wb9 (ic (wu9 (by simpa [mO]using h)))
theorem IE{x y:NK}{u v:ab}(room0:A.units<dS)(ex:JB P w z0.heap x u)(ey:JB P w z0.heap y v){Q:Bool->ae->Prop}(h:Q (decide (x=y)) z0):aB (aI P w) A (eqBool u v) Q E z0:=by
 cases x with
 | inl k=>
   cases y with
   | inl k'=>
     refine(cf P w).eqBool ex ey ?_;have:decide (k=k')=decide ((jg k:NK)=jg k'):=decide_eq_decide.mpr ⟨fun e=>by rw[e],fun e=>MZ e⟩;rw[this];exact h
   | inr ks=>
     obtain⟨b,rfl,o,its,n,go,gc,gd,_⟩:=ey;have ff:decide ((jg k:NK)=lp ks)=false:=decide_eq_false fun q=>nomatch q
     rw[ff]at h;have ht:z0.heap.IsTuple b its:=⟨o,go,gc,n,gd⟩
     rcases cW ex with⟨i,t,rfl,rfl⟩|⟨z,t,rfl,rfl⟩
     ·exact SeqAt.EqAt.int_tuple i t ht room0 _ _ _ _ h
     ·exact SeqAt.EqAt.str_tuple z t ht room0 _ _ _ _ h
 | inr ks=>
   obtain⟨b,rfl,q⟩:=ex
   cases y with
   | inl k'=>
     obtain⟨o,its,n,go,gc,gd,_⟩:=q;have ff:decide ((lp ks:NK)=jg k')=false:=decide_eq_false fun q=>nomatch q
     rw[ff]at h;have ht:z0.heap.IsTuple b its:=⟨o,go,gc,n,gd⟩
     rcases cW ey with⟨i,t,rfl,rfl⟩|⟨z,t,rfl,rfl⟩
     ·exact SeqAt.EqAt.tuple_int i t ht room0 _ _ _ _ h
     ·exact SeqAt.EqAt.tuple_str z t ht room0 _ _ _ _ h
   | inr ks'=>
     obtain⟨b',rfl,q'⟩:=ey;refine wpAny_eqBool_tuple room0 q q' ?_;have:decide (ks=ks')=decide ((lp ks:NK)=lp ks'):=decide_eq_decide.mpr ⟨fun e=>by rw[e],fun e=>MY e⟩;rw[this];exact h
theorem Mn{x y:List NK}{p b:ag}{R:Fin->ae->Prop}(room0:A.units<dS)(ex:kz P w z0.heap x p)(ey:kz P w z0.heap y b)(h:R (.done (.ret (.bool (decide (x=y))))) z0) :
  aB (aI P w) A (fO.«tuple.__eq__» ⟨[.ref p,.ref b],[]⟩) R E z0:=by
 have gtb:=ey.typeIs;obtain⟨oa,xs,na,goa,_,gda,gia⟩:=ex;obtain⟨ob,ys,nb,gob,_,gdb,gib⟩:=ey;show aB _ _ (isInstance (.ref b) (.type "tuple") >>= _) _ _ z0;refine wb9 (eG gtb kE ?_);simp only[if_false,aJ,dA];refine wb9 (jL goa gda ?_);refine wb9 (jL gob gdb ?_);refine wb9 ?_
 refine eH _
  (fun tl r z1=>r.1=none/\z1=z0/\∃x' y' xs' ys',tl=List.zip xs' ys'/\e8 P w z0.heap x' xs'/\e8 P w z0.heap y' ys'/\decide (x'=y')=decide (x=y)/\(xs'.length == ys'.length)=(xs.size == ys.size))
  _ ?_ ?_ _ _ ⟨rfl,rfl,x,y,xs.toList,ys.toList,rfl,gia,gib,rfl,by simp⟩
 ·rintro⟨u,v⟩ tl r z1 ⟨ge,rfl,x',y',xs',ys',gz,hx',hy',gdec,glen⟩
  cases hx' with
  | nil=>simp at gz
  | @cons k1 u' x'' xs'' h1 hx''=>
    cases hy' with
    | nil=>simp at gz
    | @cons k2 v' y'' ys'' h2 hy''=>
      simp only[uy,iP,ji]at gz;obtain⟨⟨rfl,rfl⟩,rfl⟩:=gz;refine wb9 (IE room0 h1 h2 ?_);by_cases gk:k1=k2
      ·subst gk;rw[decide_eq_true rfl];simp only[if_false,aJ,dA];refine wu9 ⟨rfl,rfl,x'',y'',xs'',ys'',rfl,hx'',hy'',?_,by simpa using glen⟩;rw[<-gdec];by_cases hxy:x''=y''
       ·simp[hxy]
       ·simp[hxy]
      ·rw[decide_eq_false gk];simp only[iJ,if_true];have ff:decide (x=y)=false:=by rw[<-gdec];simp[gk]
       rw[ff]at h;exact wb9 (wu9 (wu9 (wu9 h)))
 ·rintro⟨r1,r2⟩ z1 ⟨ge,rfl,x',y',xs',ys',gz,hx',hy',gdec,glen⟩;simp only at ge;subst ge;refine wu9 ?_
  have ffin:(xs.size == ys.size)=decide (x=y):=by
   rw[<-gdec,<-glen]
   cases hx' with
   | nil=>
     cases hy' with
     | nil=>simp
     | cons _ _=>simp
   | cons _ _=>
     cases hy' with
     | nil=>simp
     | cons _ _=>simp at gz
  show R (.done (.ret (.bool (xs.size == ys.size)))) z1;rw[ffin];exact h
theorem SX{x y:List NK}{p b:ag}{Q:Bool->ae->Prop}(room0:A.units+1<dS)(ex:kz P w z0.heap x p)(ey:kz P w z0.heap y b)(h:Q (decide (x=y)) z0) :
  aB (aI P w) A (eqBool (.ref p) (.ref b)) Q E z0:=by
 unfold eqBool
 try with_reducible refine eh ?_
 show aB _ _ (if(bZ p == bZ b)=true then _ else _) Q E z0;by_cases fab:(bZ p == bZ b)=true
 ·rw[if_pos fab];have e:p=b:=by have:=eq_of_beq fab;injection this
  subst e;obtain rfl:=ex.inj ey;exact wb9 (ic (wu9 (by simpa using h)))
 ·rw[if_neg fab]
  exact wb9 (zO (op:=.Eq) ex.typeIs ey.typeIs jD
   (cg jD ex.typeIs PySem.F.entry_tuple_eq (Mn room0 ex ey ⟨_,rfl,(fun e=>nomatch e),iN h⟩) (PySem.F.args_tuple_eq_2 _ _)) (by omega))
theorem GY{n:Nat}{ks:List Key}{p:ag}{Q:Bool->ae->Prop}(gk:iW (cf P w) z0.heap ks p)(h:Q true z0):aB (aI P w) A (eqIsQuiet (n+1) (.ref p)) Q E z0:=by
 have gt:=gk.typeIs;obtain⟨o,its0,m,go,_,gd,gi⟩:=gk;unfold eqIsQuiet;refine wb9 (iy gt jD.lookup ?_);show aB _ _ (isInstance (.ref p) (.type "tuple") >>= _) _ _ z0;refine wb9 (eG gt kE ?_);simp only[if_false,aJ,dA];refine wb9 (bO go gd ?_);refine wb9 ?_;show aB _ _ (forIn its0 _ _) _ _ z0;rw[<-fI];refine eH _ (fun tl r z1=>r.1=none/\z1=z0/\∀v∈tl,carriedByValue v=true) _ ?_ ?_ _ _ ⟨rfl,rfl,gi.byValue⟩
 ·rintro v tl r z1 ⟨ge,rfl,gall⟩;rw[eqIsQuiet_byValue _ (gall v ja)];refine wb9 (wu9 ?_);simp only[if_false,aJ,dA];exact wu9 ⟨rfl,rfl,fun u hu'=>gall u (jt _ hu')⟩
 ·rintro⟨r1,r2⟩ z1 ⟨ge,rfl,_⟩;simp only at ge;subst ge;exact wu9 h
theorem wd{ks:List NK}{p:ag}{Q:Bool->ae->Prop}(gk:kz P w z0.heap ks p)(h:Q true z0):aB (aI P w) A (eqIsQuiet 8 (.ref p)) Q E z0:=by
 have gt:=gk.typeIs;obtain⟨o,its0,m,go,_,gd,gi⟩:=gk;unfold eqIsQuiet;refine wb9 (iy gt jD.lookup ?_);show aB _ _ (isInstance (.ref p) (.type "tuple") >>= _) _ _ z0;refine wb9 (eG gt kE ?_);simp only[if_false,aJ,dA];refine wb9 (bO go gd ?_);refine wb9 ?_;show aB _ _ (forIn its0 _ _) _ _ z0;rw[<-fI];refine eH _ (fun tl r z1=>r.1=none/\z1=z0/\∃l,e8 P w z0.heap l tl) _ ?_ ?_ _ _ ⟨rfl,rfl,_,gi⟩
 ·rintro v tl r z1 ⟨ge,rfl,l,gl⟩
  cases gl with
  | @cons k _ ks' _ h1 gl'=>
    have step:∀{Q':Bool->ae->Prop},Q' true z1->aB (aI P w) A (eqIsQuiet 7 v) Q' E z1:=fun {Q'} q=>by
     cases k with
     | inl k=>rw[eqIsQuiet_byValue _ ((cf P w).byValue _ _ h1)];exact wu9 q
     | inr ks=>obtain⟨b,rfl,z⟩:=h1;exact GY (n:=6) z q
    refine wb9 (step ?_);simp only[if_false,aJ,dA];exact wu9 ⟨rfl,rfl,ks',gl'⟩
 ·rintro⟨r1,r2⟩ z1 ⟨ge,rfl,_⟩;simp only at ge;subst ge;exact wu9 h
end
noncomputable def Nn(P:aS)(w:bA):HeapKind P w (List NK) where
 is:=kz P w
 hash:=dB P w
 draws:=fun ks=>(ks.map yq).sum+1
 room:=fun A=>A.units+1<dS
 inj:=fun ex ey=>ex.inj ey
 keeps:=fun x go gd es0=>x.keeps go gd es0
 pyHash:=fun room0 gk h=>Ij room0 gk h
 eqBool:=fun room0 ex ey h=>SX room0 ex ey h
 quiet:=fun gk h=>wd gk h
inductive V where
 | non|bl (b:Bool)|int (i:Int)|str (x:bh)|byt (b:Array UInt8)|flt (b:UInt64)|ref (a:ag)|ty (n:String)
 deriving DecidableEq
noncomputable def RelV:V->ab->Prop
 | .non,u=>u=de
 | .bl b,u=>u=uf b
 | .int i,u=>∃t,u=FN i t
 | .str x,u=>∃t,u=FL x t
 | .byt b,u=>∃t,u=Value.bytes b t
 | .flt b,u=>∃t,u=Value.float b t
 | .ref a,u=>u=bZ a
 | .ty n,u=>u=lq n
abbrev cL:List V->List ab->Prop:=gR RelV
theorem cL.length{xs:List V}{us:List ab}(r:cL xs us):xs.length=us.length:=uL r
theorem cL.get:∀{xs:List V} {us:List ab} {i:Nat} {x:V},cL xs us->xs[i]? = some x->∃u,us[i]? = some u/\RelV x u
 | _,_,_,_,.nil,e=>by simp at e
 | _,_,0,_,.cons r _,e=>by simp at e;subst e;exact⟨_,rfl,r⟩
 | _,_,i+1,x,.cons _ t,e=>by
   obtain⟨u,h1,h2⟩:=cL.get (i:=i) (x:=x) t (by simpa using e);exact⟨u,by simpa using h1,h2⟩
theorem cL.set{x:V}{u:ab}(r:RelV x u):∀{xs:List V} {us:List ab} (i:Nat),cL xs us->cL (xs.set i x) (us.set i u)
 | _,_,_,.nil=>.nil
 | _,_,0,.cons _ t=>.cons r t
 | _,_,i+1,.cons q t=>.cons q (cL.set r i t)
theorem cL.append:∀{xs ys:List V} {us ws:List ab},cL xs us->cL ys ws->cL (xs++ys) (us++ws)
 | _,_,_,_,.nil,s=>s
 | _,_,_,_,.cons r t,s=>.cons r (cL.append t s)
theorem cL.take:∀{xs:List V} {us:List ab} (n:Nat),cL xs us->cL (xs.take n) (us.take n)
 | _,_,0,_=>.nil
 | _,_,_+1,.nil=>.nil
 | _,_,n+1,.cons r t=>.cons r (cL.take n t)
theorem cL.drop:∀{xs:List V} {us:List ab} (n:Nat),cL xs us->cL (xs.drop n) (us.drop n)
 | _,_,0,r=>r
 | _,_,_+1,.nil=>.nil
 | _,_,n+1,.cons _ t=>cL.drop n t
noncomputable def zL:Option V->Option ab->Prop
 | some v,some u=>RelV v u
 | none,none=>True
 | _,_=>False
def KV{κ:Type}:List (κ×V)->List (κ×ab)->Prop:=gR fun(p:κ×V) (q:κ×ab)=>p.1=q.1/\RelV p.2 q.2
noncomputable def kV:Key->V
 | .inl i=>.int i
 | .inr x=>.str x
inductive HO where
 | lst (xs:List V)
 | tup (xs:List V)
 | dK (kvs:List (Key×V))|dT (kvs:List (List Key×V))
 | dN (xs:List (List NK×ag))
 | set (S:Int->Bool) (n:Nat)
 | ins (C dx:ag) (fs:List (bh×V))
 | own (x:ag)
 | xd (fs:List (bh×V))
 | met (f x:ag)
 | rng (lo hi:Int)
 | lL (o:fe) (u:HO)
 | tbl (ps:Array ab)
 | ext (φ:bP->Prop)
noncomputable abbrev Hp:=ag->Option HO
noncomputable def upd(H:Hp)(a:ag)(o:HO):Hp:=fun b=>if b=a then some o else H b
theorem cJ{H:Hp}{a:ag}{o:HO}:upd H a o a=some o:=by unfold upd;rw[if_pos rfl]
theorem cm{H:Hp}{a b:ag}{o:HO}(h:b≠a):upd H a o b=H b:=by unfold upd;rw[if_neg h]
theorem eF{H:Hp}{a b:ag}{o:HO}(h:H a=some o)(h':H b=none):a≠b:=by
 intro e;subst e;rw[h]at h';cases h'
section
variable(P:aS)(w:bA)
noncomputable def iT(H:Hp)(h:bP)(a:ag):HO->Prop
 | .lst xs=>xs.length<=aP/\∃(its:List ab) (n:Nat),cL xs its/\h.get? a=some { cls:=.type "list",data:=.seq its.toArray n }
 | .tup xs=>xs.length<=aP/\∃its:List ab,cL xs its/\JS h a its.toArray
 | .dK kvs=>kvs.length<=aP/\(a == sysModules)=false/\∃vs,KV kvs vs/\h.DictOf (cf P w) a vs
 | .dT kvs=>kvs.length<=aP/\(a == sysModules)=false/\∃xs:List (List Key×ag×ab),
   gR (fun(p:List Key×V) (q:List Key×ag×ab)=>p.1=q.1/\H q.2.1=some (.tup (p.1.map kV))/\RelV p.2 q.2.2) kvs xs/\
   ∃o es ep,h.get? a=some o/\o.ExactDict/\o.data=.dict es ep/\es.toList=xs.map (entryOfKey (tupleKind (cf P w)))/\(xs.map (·.1)).Nodup
 | .dN xs=>xs.length<=aP/\(a == sysModules)=false/\∃o es ep,h.get? a=some o/\o.ExactDict/\o.data=.dict es ep/\es.toList=xs.map (fun x=>entryOfKey (Nn P w) (x.1,x.2,.bool true))/\(xs.map (·.1)).Nodup
 | .set S n=>h.SetOf (intKind P w) a S n
 | .ins C dx fs=>H dx=some (.own a)/\fs.length<=1000/\dx≠a/\h.get? a=some (Fq C dx)/\
   ∃mA,h.Ns1 dx mA/\(∀f,zL (fs.lookup f) (mA f))/\PySem.Within mA (fs.map (·.1))
 | .own _=>∃o,h.get? a=some o
 | .xd fs=>∃mA,h.Ns1 a mA/\∀f,zL (fs.lookup f) (mA f)
 | .rng lo hi=>∃t u v,h.get? a=some { cls:=.type "range",data:=.fields #[.int lo t,.int hi u,.int 1 v] }
 | .lL o u=>h.get? a=some o/\iT H h a u
 | .tbl ps=>h.get? a=some { cls:=.none,data:=.fields ps }
 | .met f x=>h.get? a=some (pG (.ref f) (.ref x))
 | .ext φ=>φ h/\(∃o,h.get? a=some o)/\∀h1 h2:bP,φ h1->(∀o,h1.get? a=some o->h2.get? a=some o)->φ h2
def qm(H:Hp)(h:bP):Prop:=∀a o,H a=some o->iT P w H h a o
end
section
variable{P:aS}{w:bA}{H H':Hp}{h h':bP}{a:ag}{o:HO}
theorem iT.lt(x:iT P w H h a o):a<h.objs.size:=by
 cases o with
 | lst xs=>obtain⟨_,_,_,_,e⟩:=x;exact hl9 e
 | tup xs=>obtain⟨_,_,_,p⟩:=x;exact p.lt
 | dK kvs=>obtain⟨_,_,_,_,o,_,_,e,_⟩:=x;exact hl9 e
 | dT kvs=>obtain⟨_,_,_,_,o,_,_,e,_⟩:=x;exact hl9 e
 | dN xs=>obtain⟨_,_,o,_,_,e,_⟩:=x;exact hl9 e
 | set S n=>obtain⟨o,_,_,_,e,_⟩:=x;exact hl9 e
 | ins C dx fs=>obtain⟨_,_,_,e,_⟩:=x;exact hl9 e
 | own y=>obtain⟨_,e⟩:=x;exact hl9 e
 | xd fs=>obtain⟨_,⟨_,_,_,e,_⟩,_⟩:=x;exact hl9 e
 | rng lo hi=>obtain⟨_,_,_,e⟩:=x;exact hl9 e
 | lL ob u=>obtain⟨e,_⟩:=x;exact hl9 e
 | tbl ps=>exact hl9 (show h.get? a=some _ from x)
 | met f y=>exact hl9 (show h.get? a=some _ from x)
 | ext φ=>obtain⟨_,⟨_,e⟩,_⟩:=x;exact hl9 e
theorem Paired.Sh{α β:Type}{F G:α->β->Prop}:∀{l₁:List α} {l₂:List β},gR F l₁ l₂->(∀a b,F a b->G a b)->gR G l₁ l₂
 | _,_,.nil,_=>.nil
 | _,_,.cons r t,f=>.cons (f _ _ r) (Paired.Sh t f)
theorem iT.As(x:iT P w H h a o)(k:∀b u,(b=a\/H b=some (.own a))->h.get? b=some u->h'.get? b=some u)
  (ho:∀b,H b=some (.own a)->H' b=some (.own a))(ht:∀b xs,H b=some (.tup xs)->H' b=some (.tup xs)):iT P w H' h' a o:=by
 induction o with
 | lst xs=>obtain⟨z,its,n,r,e⟩:=x;exact⟨z,its,n,r,k _ _ (.inl rfl) e⟩
 | tup xs=>obtain⟨z,its,r,ob,e,c⟩:=x;exact⟨z,its,r,ob,k _ _ (.inl rfl) e,c⟩
 | dK kvs=>obtain⟨z,y,vs,r,ob,es,ep,e,c⟩:=x;exact⟨z,y,vs,r,ob,es,ep,k _ _ (.inl rfl) e,c⟩
 | dT kvs=>
   obtain⟨z,y,xs,r,ob,es,ep,e,c⟩:=x;exact⟨z,y,xs,Paired.Sh r fun p q z=>⟨z.1,ht _ _ z.2.1,z.2.2⟩,ob,es,ep,k _ _ (.inl rfl) e,c⟩
 | dN xs=>obtain⟨z,y,ob,es,ep,e,c⟩:=x;exact⟨z,y,ob,es,ep,k _ _ (.inl rfl) e,c⟩
 | set S n=>obtain⟨ob,es,ep,t,e,c⟩:=x;exact⟨ob,es,ep,t,k _ _ (.inl rfl) e,c⟩
 | ins C dx fs=>
   obtain⟨d,z,ne,e,mA,⟨od,es,ep,e2,c⟩,r⟩:=x;exact⟨ho _ d,z,ne,k _ _ (.inl rfl) e,mA,⟨od,es,ep,k _ _ (.inr d) e2,c⟩,r⟩
 | own y=>obtain⟨ob,e⟩:=x;exact⟨ob,k _ _ (.inl rfl) e⟩
 | xd fs=>obtain⟨mA,⟨od,es,ep,e,c⟩,r⟩:=x;exact⟨mA,⟨od,es,ep,k _ _ (.inl rfl) e,c⟩,r⟩
 | rng lo hi=>obtain⟨t,u,v,e⟩:=x;exact⟨t,u,v,k _ _ (.inl rfl) e⟩
 | lL ob u ih=>obtain⟨e,q⟩:=x;exact⟨k _ _ (.inl rfl) e,ih q⟩
 | tbl ps=>
   have e:h.get? a=some { cls:=.none,data:=.fields ps }:=x;show h'.get? a=some { cls:=.none,data:=.fields ps };exact k a _ (.inl rfl) e
 | met f y=>
   have e:h.get? a=some (pG (.ref f) (.ref y)):=x;show h'.get? a=some (pG (.ref f) (.ref y));exact k a _ (.inl rfl) e
 | ext φ=>obtain⟨p,⟨o,e⟩,st⟩:=x;exact⟨st _ _ p fun o q=>k _ _ (.inl rfl) q,⟨o,k _ _ (.inl rfl) e⟩,st⟩
theorem qm.lt(x:qm P w H h)(e:H a=some o):a<h.objs.size:=(x a o e).lt
theorem qm.fresh(x:qm P w H h)(e:h.objs.size<=a):H a=none:=by
 cases q:H a with
 | none=>rfl
 | some u=>exact absurd (bB (x.lt q) e) (bK _)
theorem qm.kept(x:qm P w H h)(k:∀b u,h.get? b=some u->h'.get? b=some u):qm P w H h':=fun a o e=>
 (x a o e).As (fun b u _ q=>k b u q) (fun _ q=>q) fun _ _ q=>q
theorem qm.laid(x:qm P w H h)(k:∀b u,h.get? b=some u->h'.get? b=some u)(hp:h.objs.size<=a)(new:iT P w (upd H a o) h' a o):qm P w (upd H a o) h':=fun b u e=>by
 have hn:=x.fresh hp;by_cases hb:b=a
 ·subst hb;rw[cJ]at e;cases e;exact new
 ·rw[cm hb]at e;exact(x b u e).As (fun c v _ q=>k c v q) (fun c q=>by rw[cm (eF q hn)];exact q) fun c xs q=>by rw[cm (eF q hn)];exact q
end
def Rd(H:Hp)(a:ag)(u:HO):Prop:=H a=some u\/∃o,H a=some (.lL o u)
theorem Rd.ok{P:aS}{w:bA}{H:Hp}{h:bP}{a:ag}{u:HO}(r:Rd H a u)(x:qm P w H h):iT P w H h a u:=by
 rcases r with r|⟨o,r⟩
 ·exact x a u r
 ·obtain⟨_,q⟩:=x a _ r;exact q
noncomputable def TM:Option HO->Prop
 | some (.lst _)=>True
 | some (.dK _)=>True
 | some (.dT _)=>True
 | some (.dN _)=>True
 | some (.set _ _)=>True
 | some (.ins _ _ _)=>True
 | some (.ext _)=>True
 | _=>False
section
variable{P:aS}{w:bA}{H:Hp}{h h':bP}{x e:ag}{o':HO}
theorem qm.write(ok:qm P w H h)(mu:TM (H x))(he:e=x\/H e=some (.own x))(k:∀b u,b≠e->h.get? b=some u->h'.get? b=some u)(heo:∃u,h'.get? e=some u)
  (new:iT P w (upd H x o') h' x o'):qm P w (upd H x o') h':=fun b u q=>by
 have nown:∀c y,H c=some (.own y)->c≠x:=fun c y r z=>by subst z;rw[r]at mu;exact mu
 have ntup:∀c xs,H c=some (.tup xs)->c≠x:=fun c xs r z=>by subst z;rw[r]at mu;exact mu
 by_cases hb:b=x
 ·subst hb;rw[cJ]at q;cases q;exact new
 ·rw[cm hb]at q;by_cases hbe:b=e
  ·have q':H b=some (.own x):=by
    rcases he with z|z
    ·exact absurd (hbe.trans z) hb
    ·rw[hbe];exact z
   rw[q]at q';cases q';obtain⟨v,hv⟩:=heo;exact⟨v,by rw[hbe];exact hv⟩
  ·refine(ok b u q).As (fun c v hc r=>k c v ?_ r) (fun c r=>by rw[cm (nown c b r)];exact r) fun c xs r=>by rw[cm (ntup c xs r)];exact r
   rcases hc with rfl|hc
   ·exact hbe
   ·rintro rfl
    rcases he with z|z
    ·exact nown c b hc z
    ·rw[hc]at z;cases z;exact hb rfl
end
structure Un(fs ex:List ag)(H H':Hp)(h h':bP):Prop where
 keep:∀b o,h.get? b=some o->H b=none->b∉fs->b∉ex->h'.get? b=some o
 slot:∀b o,h.get? b=some o->H b=none->b∈fs->b∉ex->∃sl,h'.get? b=some { o with slots:=sl }
 free:∀b o,h.get? b=some o->H b=none->b∉ex->H' b=none
 there:∀b o,h.get? b=some o->b∉ex->∃o',h'.get? b=some o'
 tups:∀b xs,H b=some (.tup xs)->H' b=some (.tup xs)
 frzs:∀b o u,H b=some (.lL o u)->H' b=some (.lL o u)
 tbls:∀b ps,H b=some (.tbl ps)->∃more,H' b=some (.tbl (ps++more))
section
variable{fs fs' ex ex':List ag}{H H1 H2:Hp}{h h1 h2 h':bP}{a x e:ag}{o:HO}
theorem Un.any(u:Un fs ex H H1 h h1){b:ag}{ob:fe}(q:h.get? b=some ob)(n:H b=none)(hx:b∉ex):∃sl,h1.get? b=some { ob with slots:=sl }:=by
 by_cases hb:b∈fs
 ·exact u.slot b ob q n hb hx
 ·exact⟨ob.slots,u.keep b ob q n hb hx⟩
theorem Un.kept(k:∀b u,h.get? b=some u->h'.get? b=some u):Un fs ex H H h h':=
 ⟨fun b ob q _ _ _=>k b ob q,fun b ob q _ _ _=>⟨ob.slots,k b ob q⟩,fun _ _ _ n _=>n,fun b ob q _=>⟨ob,k b ob q⟩,fun _ _ q=>q,fun _ _ _ q=>q,fun _ ps q=>⟨#[],by rw[q];simp⟩⟩
theorem Un.refl:Un fs ex H H h h:=Un.kept fun _ _ q=>q
theorem Un.laid(k:∀b u,h.get? b=some u->h'.get? b=some u)(hp:h.objs.size<=a)(hn:H a=none):Un fs ex H (upd H a o) h h' where
 keep:=fun b u q _ _ _=>k b u q
 slot:=fun b u q _ _ _=>⟨u.slots,k b u q⟩
 free:=fun b u q n _=>by rw[cm (bN (bB (hl9 q) hp))];exact n
 there:=fun b u q _=>⟨u,k b u q⟩
 tups:=fun b xs q=>by rw[cm (eF q hn)];exact q
 frzs:=fun b u xs q=>by rw[cm (eF q hn)];exact q
 tbls:=fun b ps q=>⟨#[],by rw[cm (eF q hn),q];simp⟩
theorem Un.write(mu:TM (H x))(he:e=x\/H e=some (.own x))(k:∀b u,b≠e->h.get? b=some u->h'.get? b=some u)(heo:∃u,h'.get? e=some u):Un fs ex H (upd H x o) h h':=by
 have hx:∀b,H b=none->b≠x:=fun b n z=>by subst z;rw[n]at mu;exact mu
 have hb:∀b,H b=none->b≠e:=fun b n z=>by
  subst z
  rcases he with r|r
  ·exact hx b n r
  ·rw[n]at r;cases r
 have hm:∀b u,H b=some u->¬TM (some u)->b≠x:=fun b u q nm z=>by subst z;rw[q]at mu;exact nm mu
 refine⟨fun b u q n _ _=>k b u (hb b n) q,fun b u q n _ _=>⟨u.slots,k b u (hb b n) q⟩,fun b u q n _=>by rw[cm (hx b n)];exact n,fun b u q _=>?_,
  fun b xs q=>by rw[cm (hm b _ q fun z=>z)];exact q,fun b u xs q=>by rw[cm (hm b _ q fun z=>z)];exact q,fun b ps q=>⟨#[],by rw[cm (hm b _ q fun z=>z),q];simp⟩⟩
 by_cases hbe:b=e
 ·subst hbe;exact heo
 ·exact⟨u,k b u hbe q⟩
end
noncomputable def T8(h:bP)(H:Hp):List ag:=(aT h.objs.size).filter fun a=>(H a).isSome
noncomputable def wC(h:bP)(H:Hp):bP:=PySem.W.hideAll h (T8 h H)
theorem EJ(h:bP)(H:Hp):(wC h H).objs.size=h.objs.size:=PySem.W.hideAll_size _ _
theorem Ie{h:bP}{H:Hp}{b:ag}{o:fe}(e:h.get? b=some o)(n:H b=none):(wC h H).get? b=some o:=
 PySem.W.hideAll_get _ e fun hm=>by
  have q:(H b).isSome=true:=(dX.mp hm).2;rw[n]at q;simp at q
theorem Lp{h:bP}{H:Hp}{b:ag}{o:fe}(e:(wC h H).get? b=some o):h.get? b=some o/\H b=none:=by
 have e':h.get? b=some o:=PySem.W.of_hideAll (T8 h H) e;refine⟨e',?_⟩
 cases q:H b with
 | none=>rfl
 | some x=>
   have hm:b∈T8 h H:=dX.mpr ⟨br.mpr (hl9 e'),by simp[q]⟩;have z:(wC h H).get? b=none:=PySem.W.hideAll_none (T8 h H) hm;rw[z]at e;cases e
noncomputable def MR(g h:bP)(L:ag):List (ag×fe):=(aT h.objs.size).filterMap fun a=>if a=L\/(g.get? a).isSome=true then none else(h.get? a).map fun o=>(a,o)
noncomputable def rest(g h:bP)(L d:ag):List (ag×fe):=(MR g h L).filter fun p=>decide (p.1≠d)
structure Mod(K:aN)(mg:bh->Option ab)(base:bP):Prop where
 kin:K.In base
 glob:base.Ns mainGlobals mg
 blt:∃mb,base.Ns builtinsNs mb/\∀x:bh,x≠"__name__"->mb x=bootBuiltins x
 nolimit:base.NoLimit
structure Cx where
 prog:aS
 w:bA
 K:aN
 mg:bh->Option ab
 base:bP
 A:bC
 N:List bh
 s₀:ae
 H₀:Hp
 env:uq
 outer:List uq
 stack:List uq
 ex:List ag
 fn:bh->Bool
 calm:Bool
 pn:List (ag×fe)
 xe:ab->ae->Prop
noncomputable def FD(l:List uq):List ag:=l.filterMap (·.frame)
noncomputable abbrev Cx.fs(X:Cx):List ag:=FD X.outer
def NU(sc:fX)(x:bh):Prop:=sc.names.lookup x=some .local\/sc.names.lookup x=some .cell\/sc.names.lookup x=some .free
def Loc(sc:fX)(x:bh):Prop:=sc.names.lookup x=some .local\/sc.names.lookup x=some .cell
def Look(env:uq)(h:bP)(m:bh->Option ab)(x:bh)(u:ab):Prop:=
 (env.kindOf x=some .local/\m x=some u)\/((env.kindOf x=some .cell\/env.kindOf x=some .free)/\∃c,env.cells.lookup x=some c/\h.IsCell c (some u))
structure Cx.Ok(X:Cx):Prop where
 mod:Mod X.K X.mg X.base
 kind:X.env.scope.kind=.function
 glob:X.env.globals=mainGlobals
 blt:X.env.builtins=builtinsNs
 above:X.s₀.heap.objs.size<=X.env.locals
 inj:∀x y c,X.env.cells.lookup x=some c->X.env.cells.lookup y=some c->x=y
 has:∀x,(X.env.kindOf x=some .cell\/X.env.kindOf x=some .free)->∃c,X.env.cells.lookup x=some c
 cab:∀x c,X.fn x=true->X.env.cells.lookup x=some c->X.s₀.heap.objs.size<=c
 hd:X.calm=true->X.A.handled=none
 frames:X.A.frames=some X.stack
 Nf:X.stack=X.outer\/(X.stack=X.env::X.outer/\X.env.frame=some X.env.locals)
 exf:∀b∈X.ex,b≠X.env.locals/\∀x c,X.env.cells.lookup x=some c->c≠b
 bs:∀b o,X.base.get? b=some o->X.s₀.heap.get? b=some o/\X.H₀ b=none
 bsz:X.base.objs.size<=X.s₀.heap.objs.size
 noex:∀b o,X.base.get? b=some o->b∉X.ex
 exfs:∀b∈X.ex,b∉X.fs
 tH:X.s₀.heap.FunFrames X.base X.outer
 frf:∀b∈X.fs,X.H₀ b=none
structure Inv(X:Cx)(pins:List (ag×fe))(σ:List (Option V))(H:Hp)(s:ae):Prop where
 ok:X.Ok
 os:s.os=X.s₀.os
 bare:nK s.gens
 base:Un X.fs X.ex X.H₀ H X.s₀.heap s.heap
 loc:∃m,s.heap.Ns X.env.locals m/\∀(i:Nat) (x:bh) (v:V),X.N[i]? = some x->σ[i]? = some (some v)->NU X.env.scope x->∃u,RelV v u/\Look X.env s.heap m x u
 cell:∀x c,X.env.cells.lookup x=some c->∃v,s.heap.IsCell c v
 free:H X.env.locals=none
 freeC:∀x c,X.env.cells.lookup x=some c->H c=none
 pin:∀p∈X.pn++pins,s.heap.get? p.1=some p.2/\H p.1=none/\p.1≠X.env.locals/\p.1∉X.fs/\∀v,p.2.data≠.cell v
 hok:qm X.prog X.w H s.heap
 len:σ.length=X.N.length
section
variable{X:Cx}{pins:List (ag×fe)}{σ:List (Option V)}{H H':Hp}{s:ae}{h':bP}
theorem Cx.Ok.Vw(ok:X.Ok){b:ag}{o:fe}(e:X.base.get? b=some o):b∉X.fs:=fun hb=>by
 have:=(ok.tH.mem hb).1;rw[e]at this;cases this
theorem Inv.bs(I:Inv X pins σ H s):∀b o,X.base.get? b=some o->s.heap.get? b=some o/\H b=none:=fun b o e=>
 ⟨I.base.keep b o (I.ok.bs b o e).1 (I.ok.bs b o e).2 (I.ok.Vw e) (I.ok.noex b o e),I.base.free b o (I.ok.bs b o e).1 (I.ok.bs b o e).2 (I.ok.noex b o e)⟩
theorem Inv.bk(I:Inv X pins σ H s):∀b o,X.base.get? b=some o->s.heap.get? b=some o:=fun b o e=>(I.bs b o e).1
theorem Inv.mod(I:Inv X pins σ H s):Mod X.K X.mg X.base:=I.ok.mod
theorem Inv.Bl(I:Inv X pins σ H s):X.K.In s.heap:=I.ok.mod.kin.keeps I.bk
theorem Inv.fr(I:Inv X pins σ H s):∃m,Fr X.base X.env.locals s.heap m:=
 let ⟨m,hn,_⟩:=I.loc
 ⟨m,hn,I.bk,cP I.ok.bsz I.ok.above⟩
theorem Inv.lt(I:Inv X pins σ H s):X.env.locals<s.heap.objs.size:=let ⟨_,hn,_⟩:=I.loc;hn.lt
theorem Inv.sz(I:Inv X pins σ H s):X.s₀.heap.objs.size<=s.heap.objs.size:=cP I.ok.above (nQ I.lt)
theorem Inv.Sf(I:Inv X pins σ H s){a:ag}(h:s.heap.objs.size<=a):a∉X.fs:=fun hb=>by
 obtain⟨_,o,ho,_⟩:=I.ok.tH.mem hb;exact absurd (bB (hl9 ho) (cP I.sz h)) (bK _)
theorem Inv.Qv(I:Inv X pins σ H s):∀x c,X.env.cells.lookup x=some c->c≠X.env.locals:=fun x c e z=>by
 obtain⟨v,o,ho,hd⟩:=I.cell x c e;obtain⟨m,⟨o',es,ep,ho',hd',_⟩,_⟩:=I.loc;rw[z,ho']at ho;cases ho;rw[hd']at hd;cases hd
theorem Inv.tH(I:Inv X pins σ H s):s.heap.FunFrames X.base X.outer:=by
 have all:∀(l:List uq),(∀b∈FD l,b∈X.fs)->X.s₀.heap.FunFrames X.base l->s.heap.FunFrames X.base l:=by
  intro l
  induction l with
  | nil=>intro _ _;trivial
  | cons env r ih=>
    intro hs hl;obtain⟨hk,⟨L,o,hf,hn,ho,hd⟩,hr⟩:=hl;have hL:L∈X.fs:=hs L (by unfold FD;rw[kR,hf];exact ja);obtain⟨sl,e⟩:=I.base.slot L o ho (I.ok.frf L hL) hL fun z=>I.ok.exfs L z hL;exact⟨hk,⟨L,_,hf,hn,e,hd⟩,ih (fun b hb=>hs b (by unfold FD;rw[kR,hf];exact jt _ hb)) hr⟩
 exact all X.outer (fun _ hb=>hb) I.ok.tH
theorem Inv.stack(I:Inv X pins σ H s):s.heap.FunFrames X.base X.stack:=by
 rcases I.ok.Nf with e|⟨e,hf⟩
 ·rw[e];exact I.tH
 ·rw[e];obtain⟨m,hn,_⟩:=I.loc;refine .cons (by rw[I.ok.kind];decide) hf hn ?_ I.tH;exact oF (cP I.ok.bsz I.ok.above)
theorem Inv.sA(I:Inv X pins σ H s):∀b∈FD X.stack,b∈X.env.locals::X.fs:=fun b hb=>by
 rcases I.ok.Nf with e|⟨e,hf⟩
 ·rw[e]at hb;exact jt _ hb
 ·rw[e]at hb;unfold FD at hb;rw[kR,hf]at hb;exact hb
theorem Inv.B8(I:Inv X pins σ H s):∀b∈FD X.stack,H b=none:=fun b hb=>by
 rcases ao.mp (I.sA b hb)with e|hb
 ·rw[e];exact I.free
 ·obtain⟨_,o,ho,_⟩:=I.ok.tH.mem hb;exact I.base.free b o ho (I.ok.frf b hb) fun z=>I.ok.exfs b z hb
theorem Inv.step{g':Array uk}{t':Nat}{d':Drawn}{ch:List ag}(I:Inv X pins σ H s)
  (hch:∀b∈ch,(b∈X.ex\/X.s₀.heap.objs.size<=b)/\b≠X.env.locals/\(∀x c,X.env.cells.lookup x=some c->c≠b)/\∀p∈X.pn++pins,p.1≠b)
  (keep:∀b o,b≠X.env.locals->b∉X.fs->b∉ch->s.heap.get? b=some o->H b=none->h'.get? b=some o)
  (slot:∀b o,b≠X.env.locals->b∈X.fs->b∉ch->s.heap.get? b=some o->H b=none->∃sl,h'.get? b=some { o with slots:=sl })(free:∀b o,b∉ch->s.heap.get? b=some o->H b=none->H' b=none)
  (there:∀b o,b∉ch->s.heap.get? b=some o->∃o',h'.get? b=some o')
  (tups:∀b xs,H b=some (.tup xs)->H' b=some (.tup xs))(frzs:∀b o u,H b=some (.lL o u)->H' b=some (.lL o u))(tbls:∀b ps,H b=some (.tbl ps)->∃more,H' b=some (.tbl (ps++more)))
  (ns:∀m,s.heap.Ns X.env.locals m->h'.Ns X.env.locals m)(hok:qm X.prog X.w H' h')(hg:nK g') :
  Inv X pins σ H' { s with heap:=h',gens:=g',drawn:=d',toks:=t' }:=by
 have neL:∀b o,X.s₀.heap.get? b=some o->b≠X.env.locals:=fun b o e=>bN (bB (hl9 e) I.ok.above)
 have neC:∀b o,X.s₀.heap.get? b=some o->b∉X.ex->b∉ch:=fun b o e hx hb=>by
  rcases(hch b hb).1 with z|z
  ·exact hx z
  ·exact absurd (bB (hl9 e) z) (bK _)
 have cellK:∀x c,X.env.cells.lookup x=some c->∀v,s.heap.IsCell c v->h'.IsCell c v:=fun x c e v z4=>by
  obtain⟨o,ho,hd⟩:=z4;have nch:c∉ch:=fun z=>(hch c z).2.2.1 x c e rfl;by_cases hc:c∈X.fs
  ·obtain⟨sl,q⟩:=slot c o (I.Qv x c e) hc nch ho (I.freeC x c e);exact⟨_,q,hd⟩
  ·exact⟨o,keep c o (I.Qv x c e) hc nch ho (I.freeC x c e),hd⟩
 refine⟨I.ok,I.os,hg,⟨fun b o e n hb hx=>?_,fun b o e n hb hx=>?_,fun b o e n hx=>?_,fun b o e hx=>?_,fun b xs e=>tups b xs (I.base.tups b xs e),fun b o xs e=>frzs b o xs (I.base.frzs b o xs e),fun b ps e=>?_⟩,?_,fun x c e=>?_,?_,fun x c e=>?_,fun p hp=>?_,hok,I.len⟩
 ·exact keep b o (neL b o e) hb (neC b o e hx) (I.base.keep b o e n hb hx) (I.base.free b o e n hx)
 ·obtain⟨sl,e1⟩:=I.base.slot b o e n hb hx;obtain⟨sl',e2⟩:=slot b _ (neL b o e) hb (neC b o e hx) e1 (I.base.free b o e n hx);exact⟨sl',e2⟩
 ·obtain⟨o',e1⟩:=I.base.there b o e hx;exact free b o' (neC b o e hx) e1 (I.base.free b o e n hx)
 ·obtain⟨o',e1⟩:=I.base.there b o e hx;exact there b o' (neC b o e hx) e1
 ·obtain⟨m1,e1⟩:=I.base.tbls b ps e;obtain⟨m2,e2⟩:=tbls b _ e1;exact⟨m1++m2,by rw[e2,Array.append_assoc]⟩
 ·obtain⟨m,hn,hl⟩:=I.loc;refine⟨m,ns m hn,fun i x v e1 e2 e3=>?_⟩;obtain⟨u,r,l⟩:=hl i x v e1 e2 e3;refine⟨u,r,?_⟩
  rcases l with l|⟨k,c,e,z⟩
  ·exact .inl l
  ·exact .inr ⟨k,c,e,cellK x c e _ z⟩
 ·obtain⟨v,z⟩:=I.cell x c e;exact⟨v,cellK x c e v z⟩
 ·obtain⟨m,⟨o,_,_,ho,_⟩,_⟩:=I.loc;exact free _ o (fun z=>(hch _ z).2.1 rfl) ho I.free
 ·obtain⟨v,o,ho,hd⟩:=I.cell x c e;exact free c o (fun z=>(hch c z).2.2.1 x c e rfl) ho (I.freeC x c e)
 ·obtain⟨e,n,ne,nf,d⟩:=I.pin p hp;have nch:p.1∉ch:=fun z=>(hch p.1 z).2.2.2 p hp rfl;exact⟨keep p.1 p.2 ne nf nch e n,free p.1 p.2 nch e n,ne,nf,d⟩
theorem Inv.un{t':Nat}(I:Inv X pins σ H s)(u:Un X.fs [] H H' s.heap h')(hok:qm X.prog X.w H' h'):Inv X pins σ H' { s with heap:=h',toks:=t' }:=by
 obtain⟨m,⟨o,es,ep,ho,r⟩,_⟩:=id I.loc;obtain⟨sl,hL⟩:=u.any ho I.free (by simp)
 exact I.step (g':=s.gens) (d':=s.drawn) (ch:=[]) (fun _ z=>nomatch z) (fun b o _ hb _ e n=>u.keep b o e n hb (by simp)) (fun b o _ hb _ e n=>u.slot b o e n hb (by simp)) (fun b o _ e n=>u.free b o e n (by simp)) (fun b o _ e=>u.there b o e (by simp)) u.tups u.frzs u.tbls (fun m' hm=>by
  obtain⟨o',es',ep',ho',r'⟩:=hm;rw[ho]at ho';cases ho'
  exact⟨_,es',ep',hL,r'⟩) hok I.bare
theorem Inv.call{g':Array uk}{t':Nat}{d':Drawn}{ch:List ag}(I:Inv X pins σ H s)(u:Un (FD X.stack) ch H H' s.heap h')(hok:qm X.prog X.w H' h')(hg:nK g')
  (hch:∀b∈ch,(b∈X.ex\/X.s₀.heap.objs.size<=b)/\b≠X.env.locals/\(∀x c,X.env.cells.lookup x=some c->c≠b)/\∀p∈X.pn++pins,p.1≠b) :
  Inv X pins σ H' { s with heap:=h',gens:=g',drawn:=d',toks:=t' }:=by
 obtain⟨m,⟨o,es,ep,ho,r⟩,_⟩:=id I.loc;obtain⟨sl,hL⟩:=u.any ho I.free fun z=>(hch _ z).2.1 rfl
 exact I.step (ch:=ch) hch (fun b o hL hb hc e n=>u.keep b o e n (fun z=>(ao.mp (I.sA b z)).elim hL hb) hc) (fun b o _ _ hc e n=>u.any e n hc) (fun b o hc e n=>u.free b o e n hc) (fun b o hc e=>u.there b o e hc) u.tups u.frzs u.tbls (fun m' hm=>by
  obtain⟨o',es',ep',ho',r'⟩:=hm;rw[ho]at ho';cases ho'
  exact⟨_,es',ep',hL,r'⟩) hok hg
theorem Inv.turned{t':Nat}{it:ag}(I:Inv X pins σ H s)(k:∀b o,b≠it->s.heap.get? b=some o->h'.get? b=some o)(hn:H it=none)(hL:it≠X.env.locals)
  (h1:it∈X.ex\/X.s₀.heap.objs.size<=it)(h2:∀x c,X.env.cells.lookup x=some c->c≠it)(h3:∀p∈X.pn++pins,p.1≠it):Inv X pins σ H { s with heap:=h',toks:=t' }:=by
 have nit:∀b u,H b=some u->b≠it:=fun b u e z=>by rw[z,hn]at e;cases e
 refine I.step (g':=s.gens) (d':=s.drawn) (ch:=[it]) (fun b hb=>?_) (fun b o _ _ hc e _=>k b o (fun z=>hc (by simp[z])) e) (fun b o _ _ hc e _=>⟨o.slots,k b o (fun z=>hc (by simp[z])) e⟩) (fun _ _ _ _ n=>n)
  (fun b o hc e=>⟨o,k b o (fun z=>hc (by simp[z])) e⟩) (fun _ _ e=>e) (fun _ _ _ e=>e) (fun b ps e=>⟨#[],by rw[e];simp⟩) (fun m hm=>?_) (fun b u e=>?_) I.bare
 ·have e:b=it:=by simpa using hb
  subst e;exact⟨h1,hL,h2,h3⟩
 ·obtain⟨o,es,ep,ho,r⟩:=hm;exact⟨o,es,ep,k _ o (fD hL) ho,r⟩
 ·refine(I.hok b u e).As (fun c v hc q=>k c v ?_ q) (fun _ q=>q) fun _ _ q=>q
  rcases hc with z|z
  ·rw[z];exact nit b u e
  ·exact nit c _ z
theorem Inv.tok(I:Inv X pins σ H s)(t:Nat):Inv X pins σ H { s with toks:=t }:=I.un (h':=s.heap) (t':=t) Un.refl I.hok
theorem Inv.kept{t':Nat}(I:Inv X pins σ H s)(k:∀b u,s.heap.get? b=some u->h'.get? b=some u):Inv X pins σ H { s with heap:=h',toks:=t' }:=I.un (Un.kept k) (I.hok.kept k)
theorem Inv.laid{a:ag}{o:HO}{t':Nat}(I:Inv X pins σ H s)(k:∀b u,s.heap.get? b=some u->h'.get? b=some u)(hp:s.heap.objs.size<=a)(new:iT X.prog X.w (upd H a o) h' a o) :
  Inv X pins σ (upd H a o) { s with heap:=h',toks:=t' }:=I.un (Un.laid k hp (I.hok.fresh hp)) (I.hok.laid k hp new)
theorem Inv.write{x e:ag}{o:HO}{t':Nat}(I:Inv X pins σ H s)(mu:TM (H x))(he:e=x\/H e=some (.own x))(k:∀b u,b≠e->s.heap.get? b=some u->h'.get? b=some u)(heo:∃u,h'.get? e=some u)
  (new:iT X.prog X.w (upd H x o) h' x o):Inv X pins σ (upd H x o) { s with heap:=h',toks:=t' }:=I.un (Un.write mu he k heo) (I.hok.write mu he k heo new)
theorem Inv.weak{σ':List (Option V)}(I:Inv X pins σ H s)(hl:σ'.length=σ.length)(w:∀(i:Nat) v,σ'[i]? = some (some v)->σ[i]? = some (some v)):Inv X pins σ' H s:=
 ⟨I.ok,I.os,I.bare,I.base,let ⟨m,hn,hl'⟩:=I.loc;⟨m,hn,fun i x v e1 e2 e3=>hl' i x v e1 (w i v e2) e3⟩,I.cell,I.free,I.freeC,I.pin,I.hok,hl.trans I.len⟩
theorem Inv.pY{pins':List (ag×fe)}(I:Inv X pins σ H s)(h:∀p∈pins',s.heap.get? p.1=some p.2/\H p.1=none/\p.1≠X.env.locals/\p.1∉X.fs/\∀v,p.2.data≠.cell v):Inv X pins' σ H s:=
 ⟨I.ok,I.os,I.bare,I.base,I.loc,I.cell,I.free,I.freeC,fun p hp=>(aD.mp hp).elim (fun z=>I.pin p (aY _ z)) (h p),I.hok,I.len⟩
theorem yn{N:List bh}(hN:N.Nodup){i j:Nat}{x:bh}(a:N[i]? = some x)(b:N[j]? = some x):i=j:=by
 obtain⟨h1,e1⟩:=be.mp a;obtain⟨h2,e2⟩:=be.mp b;exact(List.getElem_inj hN).mp (e1.trans e2.symm)
theorem D5{M:Model}{A:bC}{E:ab->ae->Prop}{i:Nat}{x:bh}{v:V}{u:ab}{Q:Unit->ae->Prop}(I:Inv X pins σ H s)(hN:X.N.Nodup)(hi:X.N[i]? = some x)(hx:Loc X.env.scope x)(r:RelV v u)
  (h:∀s',Inv X pins (σ.set i (some v)) H s'->(∃a,cC a s.heap s'.heap/\(a=X.env.locals\/X.env.cells.lookup x=some a))->Q () s')(hf:X.fn x=true\/X.env.scope.names.lookup x=some .local:=by first|exact .inl rfl|exact .inr rfl|assumption):aB M A (storeName X.env x u) Q E s:=by
 obtain⟨m,hn,hl⟩:=id I.loc;have hcls:(X.env.scope.kind == .class || (X.env.scope.kind == .module && X.env.locals != X.env.globals))=false:=by rw[I.ok.kind];rfl
 have hiσ:i<σ.length:=by rw[I.len];exact(be.mp hi).1
 have Qv:=I.Qv
 have tracked:∀{a:ag} {h':bP},(∃o,s.heap.get? a=some o/\H a=none)->cC a s.heap h'->qm X.prog X.w H h':=fun {a h'} ha hs b ob e=>by
  obtain⟨_,_,hfree⟩:=ha;refine(I.hok b ob e).As (fun c w' hc q=>(hs.2 c ?_).trans q) (fun _ q=>q) fun _ _ q=>q;rintro rfl
  rcases hc with rfl|hc
  ·rw[hfree]at e;cases e
  ·rw[hfree]at hc;cases hc
 rcases hx with hk|hk
 ·refine wpAny_storeName_local hk hn (fun h' hn' hs=>?_) hcls;obtain⟨oL,_,_,hoL,_⟩:=id hn;refine h _ ⟨I.ok,I.os,I.bare,⟨fun b o e n hb hx=>?_,fun b o e n hb hx=>?_,I.base.free,fun b o e hx=>?_,I.base.tups,I.base.frzs,I.base.tbls⟩,⟨_,hn',fun j y v' e1 e2 e3=>?_⟩,fun y c e=>?_,I.free,I.freeC,fun p hp=>?_,tracked ⟨oL,hoL,I.free⟩ hs,by simpa using I.len⟩ ⟨_,hs,.inl rfl⟩
  ·exact(hs.2 b (bN (bB (hl9 e) I.ok.above))).trans (I.base.keep b o e n hb hx)
  ·obtain⟨sl,e1⟩:=I.base.slot b o e n hb hx;exact⟨sl,(hs.2 b (bN (bB (hl9 e) I.ok.above))).trans e1⟩
  ·obtain⟨o',e1⟩:=I.base.there b o e hx;exact⟨o',(hs.2 b (bN (bB (hl9 e) I.ok.above))).trans e1⟩
  ·by_cases hj:j=i
   ·subst hj;rw[hi]at e1;cases e1;rw[nL hiσ]at e2;cases e2;exact⟨u,r,.inl ⟨hk,by simp⟩⟩
   ·rw[eY (fD hj)]at e2;obtain⟨u',r',q⟩:=hl j y v' e1 e2 e3;refine⟨u',r',?_⟩
    rcases q with⟨k,e⟩|⟨k,c,e,z⟩
    ·refine .inl ⟨k,?_⟩;have:y≠x:=fun e=>hj (yn hN e1 (e▸hi));simp[this,e]
    ·exact .inr ⟨k,c,e,z.sameBut hs (Qv y c e)⟩
  ·obtain⟨w',z⟩:=I.cell y c e;exact⟨w',z.sameBut hs (Qv y c e)⟩
  ·obtain⟨e,n,ne,nf,d⟩:=I.pin p hp;exact⟨(hs.2 p.1 ne).trans e,n,ne,nf,d⟩
 ·have hfn:X.fn x=true:=by
   rcases hf with z|z
   ·exact z
   ·rw[z]at hk;cases hk
  obtain⟨c,hc⟩:=I.ok.has x (.inl hk);obtain⟨w',z⟩:=I.cell x c hc;refine wpAny_storeName_cell I.ok.kind hk hc z (fun h' hc' hs=>?_);obtain⟨oc,hoc,hocd⟩:=id z;refine h { s with heap:=h' } ⟨I.ok,I.os,I.bare,⟨fun b o e n hb hx=>?_,fun b o e n hb hx=>?_,I.base.free,fun b o e hx=>?_,I.base.tups,I.base.frzs,I.base.tbls⟩,⟨m,hn.sameBut hs (fD (Qv x c hc)),fun j y v' e1 e2 e3=>?_⟩,fun y c' e=>?_,I.free,I.freeC,fun p hp=>?_,tracked ⟨oc,hoc,I.freeC x c hc⟩ hs,by simpa using I.len⟩ ⟨c,hs,.inr hc⟩
  ·exact(hs.2 b (bN (bB (hl9 e) (I.ok.cab x c hfn hc)))).trans (I.base.keep b o e n hb hx)
  ·obtain⟨sl,e1⟩:=I.base.slot b o e n hb hx;exact⟨sl,(hs.2 b (bN (bB (hl9 e) (I.ok.cab x c hfn hc)))).trans e1⟩
  ·obtain⟨o',e1⟩:=I.base.there b o e hx;exact⟨o',(hs.2 b (bN (bB (hl9 e) (I.ok.cab x c hfn hc)))).trans e1⟩
  ·by_cases hj:j=i
   ·subst hj;rw[hi]at e1;cases e1;rw[nL hiσ]at e2;cases e2;exact⟨u,r,.inr ⟨.inl hk,c,hc,hc'⟩⟩
   ·rw[eY (fD hj)]at e2;obtain⟨u',r',q⟩:=hl j y v' e1 e2 e3;refine⟨u',r',?_⟩
    rcases q with q|⟨k,c',e,z'⟩
    ·exact .inl q
    ·refine .inr ⟨k,c',e,z'.sameBut hs ?_⟩;rintro rfl;exact hj (yn hN e1 (I.ok.inj _ _ _ e hc▸hi))
  ·by_cases hcc:c'=c
   ·subst hcc;exact⟨_,hc'⟩
   ·obtain⟨w2,z2⟩:=I.cell y c' e;exact⟨w2,z2.sameBut hs hcc⟩
  ·obtain⟨e,n,ne,nf,d⟩:=I.pin p hp;refine⟨(hs.2 p.1 ?_).trans e,n,ne,nf,d⟩;intro q;rw[q,hoc]at e;have q':oc=p.2:=bw e;exact d w' (by rw[<-q'];exact hocd)
theorem sy{M:Model}{A:bC}{E:ab->ae->Prop}{i:Nat}{x:bh}{v:V}{u:ab}{Q:Unit->ae->Prop}(I:Inv X pins σ H s)(hN:X.N.Nodup)(hi:X.N[i]? = some x)(hx:Loc X.env.scope x)(r:RelV v u)
  (h:∀s',Inv X pins (σ.set i (some v)) H s'->Q () s')(hf:X.fn x=true\/X.env.scope.names.lookup x=some .local:=by first|exact .inl rfl|exact .inr rfl|assumption):aB M A (storeName X.env x u) Q E s:=
 D5 I hN hi hx r (fun s' I' _=>h s' I') hf
theorem Inv.S8{s':ae}{ch:List ag}(I:Inv X pins σ H s)(ho:s'.os=s.os)(u:Un (FD X.stack) ch H H' s.heap s'.heap)(hok:qm X.prog X.w H' s'.heap)(hg:nK s'.gens)
  (hch:∀b∈ch,(b∈X.ex\/X.s₀.heap.objs.size<=b)/\b≠X.env.locals/\(∀x c,X.env.cells.lookup x=some c->c≠b)/\∀p∈X.pn++pins,p.1≠b):Inv X pins σ H' s':=by
 obtain⟨h',g',d',t',o'⟩:=s';have e:o'=s.os:=ho;subst e;exact I.call (g':=g') (t':=t') (d':=d') u hok hg hch
end
noncomputable abbrev XK:=ab->Option ag->Hp->Prop
noncomputable abbrev St:=List (Option V)
noncomputable abbrev VK:=V->Hp->Prop
noncomputable abbrev TE:=St->Hp->VK->Prop
noncomputable abbrev TT:=St->Hp->(Bool->Hp->Prop)->Prop
noncomputable abbrev TA:=St->Hp->(List V->Hp->Prop)->Prop
structure Ends where
 nx:St->Hp->Prop
 rt:VK
 bk:St->Hp->Prop:=fun _ _=>False
 ct:St->Hp->Prop:=fun _ _=>False
noncomputable abbrev TS:=Ends->St->Hp->Prop
def EP(X:Cx)(pins:List (ag×fe))(σ:St)(Q:VK)(u:ab)(s':ae):Prop:=∃v H',Inv X pins σ H' s'/\RelV v u/\Q v H'
def TP(X:Cx)(pins:List (ag×fe))(σ:St)(Q:Bool->Hp->Prop)(b:Bool)(s':ae):Prop:=∃H',Inv X pins σ H' s'/\Q b H'
def AP(X:Cx)(pins:List (ag×fe))(σ:St)(Q:List V->Hp->Prop)(us:List ab)(s':ae):Prop:=∃vs H',Inv X pins σ H' s'/\cL vs us/\Q vs H'
def SP(X:Cx)(pins:List (ag×fe))(D:Ends)(f:Flow)(s':ae):Prop:=
 match f with
 | .next=>∃σ' H',Inv X pins σ' H' s'/\D.nx σ' H'
 | .brk=>∃σ' H',Inv X pins σ' H' s'/\D.bk σ' H'
 | .cont=>∃σ' H',Inv X pins σ' H' s'/\D.ct σ' H'
 | .ret u=>∃v σ' H',Inv X pins σ' H' s'/\RelV v u/\D.rt v H'
def PE(X:Cx)(e:aO)(t:TE):Prop:=
 ∀(pins:List (ag×fe)) (s:ae) (σ:St) (H:Hp) (Q:VK),Inv X pins σ H s->t σ H Q->aB (aI X.prog X.w) X.A (eval e X.env) (EP X pins σ Q) X.xe s
def PT(X:Cx)(e:aO)(t:TT):Prop:=
 ∀(pins:List (ag×fe)) (s:ae) (σ:St) (H:Hp) (Q:Bool->Hp->Prop),Inv X pins σ H s->t σ H Q->aB (aI X.prog X.w) X.A (isTrue e X.env (eval e X.env)) (TP X pins σ Q) X.xe s
def PW(X:Cx)(e:aO)(t:TT):Prop:=
 ∀(whole:rl ab) (pins:List (ag×fe)) (s:ae) (σ:St) (H:Hp) (Q:Bool->Hp->Prop),Inv X pins σ H s->t σ H Q->aB (aI X.prog X.w) X.A (isTrue e X.env whole) (TP X pins σ Q) X.xe s
theorem PW.pt{X:Cx}{e:aO}{t:TT}(h:PW X e t):PT X e t:=h _
def PA(X:Cx)(es:List aO)(t:TA):Prop:=
 ∀(pos:fS) (pins:List (ag×fe)) (s:ae) (σ:St) (H:Hp) (Q:List V->Hp->Prop),Inv X pins σ H s->t σ H Q->aB (aI X.prog X.w) X.A (spliced (backTo pos (bp es X.env))) (AP X pins σ Q) X.xe s
def PS(X:Cx)(st:jl)(t:TS):Prop:=
 ∀(pins:List (ag×fe)) (s:ae) (σ:St) (H:Hp) (D:Ends),Inv X pins σ H s->t D σ H->aB (aI X.prog X.w) X.A (exec st X.env) (SP X pins D) X.xe s
def zM(X:Cx)(st:List jl)(t:TS):Prop:=
 ∀(pins:List (ag×fe)) (s:ae) (σ:St) (H:Hp) (D:Ends),Inv X pins σ H s->t D σ H->aB (aI X.prog X.w) X.A (execs st X.env) (SP X pins D) X.xe s
theorem iL{α:Type}{t:rl α}{Q Q':α->ae->Prop}{M:Model}{A:bC}{E:ab->ae->Prop}{s:ae}(h:aB M A t Q E s)(hQ:∀a s,Q a s->Q' a s):aB M A t Q' E s:=dm h hQ fun _ _ x=>x
section
variable{X:Cx}
theorem bin{a b:aO}{ta tb:TE}(ha:PE X a ta)(hb:PE X b tb){pins:List (ag×fe)}{s:ae}{σ:St}{H:Hp}{R:V->V->Hp->Prop}(I:Inv X pins σ H s)(h:ta σ H fun x H1=>tb σ H1 fun y H2=>R x y H2)
  {α:Type}{Q:α->ae->Prop}{f:ab->ab->rl α}
  (hf:∀v u s2 x y H2,Inv X pins σ H2 s2->RelV x v->RelV y u->R x y H2->aB (aI X.prog X.w) X.A (f v u) Q X.xe s2) :
  aB (aI X.prog X.w) X.A (eval a X.env) (fun v s₁=>aB (aI X.prog X.w) X.A (eval b X.env) (fun u s₂=>aB (aI X.prog X.w) X.A (f v u) Q X.xe s₂) X.xe s₁) X.xe s:=by
 refine iL (ha pins s σ H _ I h) fun v s1 ⟨x,H1,I1,r1,q1⟩=>?_;refine iL (hb pins s1 σ H1 _ I1 q1) fun u s2 ⟨y,H2,I2,r2,q2⟩=>?_;exact hf v u s2 x y H2 I2 r1 r2 q2
noncomputable def Kb(i:Nat):TE:=fun σ H Q=>∃v,σ[i]? = some (some v)/\Q v H
noncomputable def tC(v:V):TE:=fun _ H Q=>Q v H
theorem wj{i:Nat}{x:bh}{pos:fS}(hN:X.N[i]? = some x)(hv:NU X.env.scope x)(hd:(x == ("__debug__":bh))=false:=by decide)(hcd:(x == ("__classdict__":bh))=false:=by decide):PE X (.Name x pos) (Kb i):=by
 intro pins s σ H Q I h;obtain⟨v,e,h⟩:=h;obtain⟨m,hn,hl⟩:=I.loc;obtain⟨u,r,l⟩:=hl i x v hN e hv;have fin:EP X pins σ Q u s:=⟨v,H,I,r,h⟩
 rcases l with⟨hk,hm⟩|⟨hk,c,hc,hcell⟩
 ·exact wpAny_Name (wpAny_loadName_local I.ok.kind hk hn hm fin) hd
 ·rcases hk with hk|hk
  ·exact wpAny_Name (wpAny_loadName_cell I.ok.kind hk hc hcell fin) hd
  ·exact wpAny_Name (wpAny_loadName_free I.ok.kind hk hc hcell fin hcd) hd
theorem Hi{i j pos}:PE X (.Constant (.int i) j pos) (tC (.int i)):=fun _ _ _ H _ I h=>wpAny_Constant_int ⟨.int i,H,I.tok _,⟨_,rfl⟩,h⟩
theorem R6{b j pos}:PE X (.Constant (.bool b) j pos) (tC (.bl b)):=fun _ _ _ H _ I h=>Constant_bool ⟨.bl b,H,I,rfl,h⟩
theorem OX{j pos}:PE X (.Constant .none j pos) (tC .non):=fun _ _ _ H _ I h=>Constant_none ⟨.non,H,I,rfl,h⟩
theorem Hg{x j pos}:PE X (.Constant (.str x) j pos) (tC (.str x)):=fun _ _ _ H _ I h=>Calls.Constant_str ⟨.str x,H,I.tok _,⟨_,rfl⟩,h⟩
def Gl(X:Cx)(x:bh):Prop:=X.env.kindOf x=some .globalImplicit
theorem wx{E:ab->ae->Prop}{pins:List (ag×fe)}{s:ae}{σ:St}{H:Hp}{x:bh}{u:ab}{pos:fS}{Q:ab->ae->Prop}(I:Inv X pins σ H s)(hg:Gl X x)(hm:X.mg x=some u)(h:Q u s)
  (hd:(x == ("__debug__":bh))=false:=by decide):aB (aI X.prog X.w) X.A (eval (.Name x pos) X.env) Q E s:=
 ur I.ok.kind hg (Calls.loadGlobal_global (by rw[I.ok.glob];exact I.mod.glob.keeps I.bk) hm h) hd
theorem n6{E:ab->ae->Prop}{pins:List (ag×fe)}{s:ae}{σ:St}{H:Hp}{x:bh}{u:ab}{pos:fS}{Q:ab->ae->Prop}(I:Inv X pins σ H s)(hg:Gl X x)(hm:X.mg x=none)(hv:bootBuiltins x=some u)(h:Q u s)
  (hn:x≠"__name__":=by decide)(hd:(x == ("__debug__":bh))=false:=by decide):aB (aI X.prog X.w) X.A (eval (.Name x pos) X.env) Q E s:=by
 obtain⟨mb,h1,h2⟩:=I.mod.blt;exact ur I.ok.kind hg (Calls.loadGlobal_builtin (by rw[I.ok.glob];exact I.mod.glob.keeps I.bk) hm (by rw[I.ok.blt];exact h1.keeps I.bk) ((h2 x hn).trans hv) h) hd
theorem La{x:bh}{v:V}{u:ab}{pos:fS}(hg:Gl X x)(hm:X.mg x=some u)(r:RelV v u)(hd:(x == ("__debug__":bh))=false:=by decide):PE X (.Name x pos) (tC v):=
 fun _ _ _ H _ I h=>wx I hg hm ⟨v,H,I,r,h⟩ hd
theorem Lf{x:bh}{v:V}{u:ab}{pos:fS}(hg:Gl X x)(hm:X.mg x=none)(hv:bootBuiltins x=some u)(r:RelV v u)(hn:x≠"__name__":=by decide)(hd:(x == ("__debug__":bh))=false:=by decide):PE X (.Name x pos) (tC v):=
 fun _ _ _ H _ I h=>n6 I hg hm hv ⟨v,H,I,r,h⟩ hn hd
variable{a b:aO}{ta tb:TE}{pos:fS}
noncomputable def tB(t:TE):TT:=fun σ H Q=>t σ H fun x H1=>∃c,x=.bl c/\Q c H1
variable{tA tB':TT}{rest:List aO}
noncomputable def U7(t u:TT):TT:=fun σ H Q=>t σ H fun c H1=>if c=true then u σ H1 Q else Q false H1
noncomputable def WB(t u:TT):TT:=fun σ H Q=>t σ H fun c H1=>if c=true then Q true H1 else u σ H1 Q
theorem KW(ha:PT X a tA):PW X (.BoolOp .And [a] pos) tA:=by
 intro wh pins s σ H Q I h;refine isTrue_and (iL (ha pins s σ H Q I h) fun c s1 e=>?_)
 cases c with
 | true=>exact isTrue_and_nil e
 | false=>exact e
theorem OM(ha:PT X a tA):PW X (.BoolOp .Or [a] pos) tA:=by
 intro wh pins s σ H Q I h;refine isTrue_or (iL (ha pins s σ H Q I h) fun c s1 e=>?_)
 cases c with
 | false=>exact isTrue_or_nil e
 | true=>exact e
theorem ON(ha:PT X a tA)(hb:PW X (.BoolOp .And (b::rest) pos) tB'):PW X (.BoolOp .And (a::b::rest) pos) (U7 tA tB'):=by
 intro wh pins s σ H Q I h;refine isTrue_and (iL (ha pins s σ H _ I h) fun c s1 ⟨H1,I1,q1⟩=>?_)
 cases c with
 | true=>exact hb wh pins s1 σ H1 Q I1 q1
 | false=>exact⟨H1,I1,q1⟩
theorem RT(ha:PT X a tA)(hb:PW X (.BoolOp .Or (b::rest) pos) tB'):PW X (.BoolOp .Or (a::b::rest) pos) (WB tA tB'):=by
 intro wh pins s σ H Q I h;refine isTrue_or (iL (ha pins s σ H _ I h) fun c s1 ⟨H1,I1,q1⟩=>?_)
 cases c with
 | true=>exact⟨H1,I1,q1⟩
 | false=>exact hb wh pins s1 σ H1 Q I1 q1
noncomputable def RF(ta tb:TE):TE:=fun σ H Q=>ta σ H fun x H1=>∃c,x=.bl c/\if c=true then tb σ H1 Q else Q (.bl false) H1
noncomputable def U2(ta tb:TE):TE:=fun σ H Q=>ta σ H fun x H1=>∃c,x=.bl c/\if c=true then Q (.bl true) H1 else tb σ H1 Q
theorem OW{op}{t:TE}(h:PE X a t):PE X (.BoolOp op [a] pos) t:=fun pins s σ H Q I hw=>BoolOp_one (h pins s σ H Q I hw)
theorem O2(ha:PE X a ta)(hb:PE X (.BoolOp .And (b::rest) pos) tb):PE X (.BoolOp .And (a::b::rest) pos) (RF ta tb):=by
 intro pins s σ H Q I h;refine BoolOp_and (iL (ha pins s σ H _ I h) fun v s1 ⟨x,H1,I1,r1,q1⟩=>?_);obtain⟨c,rfl,q1⟩:=q1;cases r1;refine iN ?_
 cases c with
 | true=>exact hb pins s1 σ H1 Q I1 q1
 | false=>exact⟨.bl false,H1,I1,rfl,q1⟩
theorem RZ(ha:PE X a ta)(hb:PE X (.BoolOp .Or (b::rest) pos) tb):PE X (.BoolOp .Or (a::b::rest) pos) (U2 ta tb):=by
 intro pins s σ H Q I h;refine BoolOp_or (iL (ha pins s σ H _ I h) fun v s1 ⟨x,H1,I1,r1,q1⟩=>?_);obtain⟨c,rfl,q1⟩:=q1;cases r1;refine iN ?_
 cases c with
 | false=>exact hb pins s1 σ H1 Q I1 q1
 | true=>exact⟨.bl true,H1,I1,rfl,q1⟩
noncomputable def WC(t:TT)(ta tb:TE):TE:=fun σ H Q=>t σ H fun c H1=>if c=true then ta σ H1 Q else tb σ H1 Q
theorem Hj{c:aO}(hc:PT X c tA)(ha:PE X a ta)(hb:PE X b tb):PE X (.IfExp c a b pos) (WC tA ta tb):=by
 intro pins s σ H Q I h;refine wpAny_IfExp (iL (hc pins s σ H _ I h) fun d s1 ⟨H1,I1,q1⟩=>?_)
 cases d with
 | true=>exact ha pins s1 σ H1 Q I1 q1
 | false=>exact hb pins s1 σ H1 Q I1 q1
end
def nF(K:aN)(H:Hp)(a:ag)(xs:List V):Prop:=
 Rd H a (.lst xs)\/
  ∃(o:fe) (its:Array ab) (n:Nat),K.lookup a=some o/\o.cls=.type "list"/\o.dict=none/\o.data=.seq its n/\its.size<=aP/\cL xs its.toList
def rV(K:aN)(H:Hp)(a:ag)(xs:List V):Prop:=
 Rd H a (.tup xs)\/
  ∃(o:fe) (its:Array ab) (n:Nat),K.lookup a=some o/\o.cls=.type "tuple"/\o.data=.seq its n/\its.size<=aP/\cL xs its.toList
noncomputable def Wg:ab->Option V
 | .none=>some .non
 | .bool b=>some (.bl b)
 | .int i _=>some (.int i)
 | .str x _=>some (.str x)
 | .bytes b _=>some (.byt b)
 | .float b _=>some (.flt b)
 | .ref a=>some (.ref a)
 | .type n=>some (.ty n)
 | _=>none
theorem RelV.abs{x:V}{u:ab}(r:RelV x u):Wg u=some x:=by
 cases x with
 | non=>cases r;rfl
 | bl _=>cases r;rfl
 | int _=>obtain⟨t,rfl⟩:=r;rfl
 | str _=>obtain⟨t,rfl⟩:=r;rfl
 | byt _=>obtain⟨t,rfl⟩:=r;rfl
 | flt _=>obtain⟨t,rfl⟩:=r;rfl
 | ref _=>cases r;rfl
 | ty _=>cases r;rfl
theorem RelV.inj{x y:V}{u:ab}(r:RelV x u)(q:RelV y u):x=y:=bw (r.abs.symm.trans q.abs)
theorem cL.inj:∀{xs ys:List V} {us:List ab},cL xs us->cL ys us->xs=ys
 | _,_,_,.nil,.nil=>rfl
 | _,_,_,.cons r t,.cons r' t'=>by rw[r.inj r',cL.inj t t']
section
variable{X:Cx}{pins:List (ag×fe)}{σ:St}{H:Hp}{s:ae}{a:ag}{xs ys:List V}
theorem nF.of{K:aN}(h:H a=some (.lst xs)):nF K H a xs:=.inl (.inl h)
theorem Inv.list(I:Inv X pins σ H s)(h:nF X.K H a xs):∃its:List ab,cL xs its/\PlainL s.heap a its.toArray/\xs.length<=aP:=by
 rcases h with h|⟨o,its,n,hk,hc,hd,hs,hz,r⟩
 ·obtain⟨z,its,n,r,e⟩:=h.ok I.hok;exact⟨its,r,⟨_,n,e,rfl,rfl,rfl⟩,z⟩
 ·refine⟨its.toList,r,⟨o,n,I.Bl a o hk,hc,hd,by simpa using hs⟩,?_⟩;have e:=r.length;simp only[bF]at e;omega
theorem Inv.tuple(I:Inv X pins σ H s)(h:rV X.K H a xs):∃its:List ab,cL xs its/\JS s.heap a its.toArray/\xs.length<=aP:=by
 rcases h with h|⟨o,its,n,hk,hc,hs,hz,r⟩
 ·obtain⟨z,its,r,p⟩:=h.ok I.hok;exact⟨its,r,p,z⟩
 ·refine⟨its.toList,r,⟨o,I.Bl a o hk,hc,n,by simpa using hs⟩,?_⟩;have e:=r.length;simp only[bF]at e;omega
theorem Inv.p9(I:Inv X pins σ H s)(h:nF X.K H a xs)(h':nF X.K H a ys):xs=ys:=by
 obtain⟨its,r,⟨o,n,e,_,_,d⟩,_⟩:=I.list h;obtain⟨its',r',⟨o',n',e',_,_,d'⟩,_⟩:=I.list h';rw[e]at e';cases e';rw[d]at d'
 injection d' with d1 _
 have:its=its':=by simpa using congrArg Array.toList d1
 subst this;exact r.inj r'
theorem Inv.oi(I:Inv X pins σ H s)(h:rV X.K H a xs)(h':rV X.K H a ys):xs=ys:=by
 obtain⟨its,r,⟨o,e,_,n,d⟩,_⟩:=I.tuple h;obtain⟨its',r',⟨o',e',_,n',d'⟩,_⟩:=I.tuple h';rw[e]at e';cases e';rw[d]at d'
 injection d' with d1 _
 have:its=its':=by simpa using congrArg Array.toList d1
 subst this;exact r.inj r'
end
noncomputable abbrev Cx.uB(X:Cx)(E:ab->ae->Prop):Cx:={ X with xe:=E }
noncomputable abbrev Cx.Rb(X:Cx):Cx:=X.uB fun _ _=>False
theorem Cx.Ok.uB{X:Cx}(ok:X.Ok)(E:ab->ae->Prop):(X.uB E).Ok:=
 ⟨ok.mod,ok.kind,ok.glob,ok.blt,ok.above,ok.inj,ok.has,ok.cab,ok.hd,ok.frames,ok.Nf,ok.exf,ok.bs,ok.bsz,ok.noex,ok.exfs,ok.tH,ok.frf⟩
theorem Cx.Ok.nW{X:Cx}{E:ab->ae->Prop}(ok:(X.uB E).Ok):X.Ok:=
 ⟨ok.mod,ok.kind,ok.glob,ok.blt,ok.above,ok.inj,ok.has,ok.cab,ok.hd,ok.frames,ok.Nf,ok.exf,ok.bs,ok.bsz,ok.noex,ok.exfs,ok.tH,ok.frf⟩
section
variable{X:Cx}{pins:List (ag×fe)}{σ:St}{H:Hp}{s:ae}{E:ab->ae->Prop}
theorem Inv.uB(I:Inv X pins σ H s)(E:ab->ae->Prop):Inv (X.uB E) pins σ H s:=⟨I.ok.uB E,I.os,I.bare,I.base,I.loc,I.cell,I.free,I.freeC,I.pin,I.hok,I.len⟩
theorem Inv.nW(I:Inv (X.uB E) pins σ H s):Inv X pins σ H s:=⟨I.ok.nW,I.os,I.bare,I.base,I.loc,I.cell,I.free,I.freeC,I.pin,I.hok,I.len⟩
theorem SP.nW{D:Ends}{f:Flow}{s':ae}(h:SP (X.uB E) pins D f s'):SP X pins D f s':=by
 cases f with
 | next=>obtain⟨σ',H',I,q⟩:=h;exact⟨σ',H',I.nW,q⟩
 | brk=>obtain⟨σ',H',I,q⟩:=h;exact⟨σ',H',I.nW,q⟩
 | cont=>obtain⟨σ',H',I,q⟩:=h;exact⟨σ',H',I.nW,q⟩
 | ret u=>obtain⟨v,σ',H',I,r,q⟩:=h;exact⟨v,σ',H',I.nW,r,q⟩
theorem zM.Rb{st:List jl}{t:TS}(h:zM X.Rb st t):zM X st t:=fun pins s σ H D I hw=>
 dm (h pins s σ H D (I.uB _) hw) (fun _ _ q=>q.nW) fun _ _ z=>iA z
end
section
variable{X:Cx}{st:jl}{rest:List jl}{t u:TS}{e:aO}{te:TE}{pos:fS}
noncomputable def RB:TS:=fun D σ H=>D.nx σ H
noncomputable def U0(t u:TS):TS:=fun D σ H=>t { D with nx:=u D } σ H
theorem K3:zM X [] RB:=fun _ _ σ H _ I h=>wpAny_execs_nil ⟨σ,H,I,h⟩
theorem G4(h1:PS X st t)(h2:zM X rest u):zM X (st::rest) (U0 t u):=by
 intro pins s σ H D I h;refine wpAny_execs_cons (iL (h1 pins s σ H { D with nx:=u D } I h) fun f s1 q=>?_)
 cases f with
 | next=>
   obtain⟨σ',H',I',q⟩:=q;exact h2 pins s1 σ' H' D I' q
 | ret v=>exact q
 | brk=>exact q
 | cont=>exact q
theorem Inv.quiet{pins:List (ag×fe)}{σ:St}{H:Hp}{s:ae}(I:Inv X pins σ H s):interactive X.env=false:=by simp[interactive,I.ok.kind]
noncomputable def Gp(te:TE):TS:=fun D σ H=>te σ H fun _ H1=>D.nx σ H1
theorem wg(he:PE X e te)(hs:swapsWith e none pos.line X.env=pure false:=by rfl):PS X (.Expr e pos) (Gp te):=by
 intro pins s σ H D I h;exact wpAny_Expr_any (iL (he pins s σ H _ I h) fun v s1 ⟨x,H1,I1,r1,q1⟩=>⟨σ,H1,I1,q1⟩) I.quiet hs
noncomputable def U1(te:TE):TS:=fun D σ H=>te σ H D.rt
theorem G5(he:PE X e te):PS X (.Return (some e) pos) (U1 te):=by
 intro pins s σ H D I h;exact wpAny_Return_some (iL (he pins s σ H _ I h) fun v s1 ⟨x,H1,I1,r1,q1⟩=>⟨x,σ,H1,I1,r1,q1⟩)
noncomputable def U4(c:TT)(t u:TS):TS:=fun D σ H=>c σ H fun b H1=>if b=true then t D σ H1 else u D σ H1
theorem RV{c:aO}{a b:List jl}{tc:TT}(hc:PT X c tc)(ha:zM X a t)(hb:zM X b u):PS X (.If c a b pos) (U4 tc t u):=by
 intro pins s σ H D I h;refine wpAny_If (iL (hc pins s σ H _ I h) fun d s1 ⟨H1,I1,q1⟩=>?_)
 cases d with
 | true=>exact ha pins s1 σ H1 D I1 q1
 | false=>exact hb pins s1 σ H1 D I1 q1
end
noncomputable abbrev TG:=V->St->Hp->(St->Hp->Prop)->Prop
noncomputable abbrev Fl:=List V->St->Hp->(St->Hp->Prop)->Prop
def PG(X:Cx)(target:aO)(t:TG):Prop:=
 ∀(pins:List (ag×fe)) (s:ae) (σ:St) (H:Hp) (v:V) (u:ab) (Q:St->Hp->Prop),Inv X pins σ H s->RelV v u->t v σ H Q->
  aB (aI X.prog X.w) X.A (assign target X.env u) (fun _ s'=>∃σ' H',Inv X pins σ' H' s'/\Q σ' H') X.xe s
def Rn(X:Cx)(ts:List aO)(t:Fl):Prop:=
 ∀(pins:List (ag×fe)) (s:ae) (σ:St) (H:Hp) (vs:List V) (us:List ab) (Q:St->Hp->Prop),Inv X pins σ H s->cL vs us->t vs σ H Q->
  aB (aI X.prog X.w) X.A (assignInOrder ((assignEach ts X.env).map (·.2)) us) (fun _ s'=>∃σ' H',Inv X pins σ' H' s'/\Q σ' H') X.xe s
noncomputable abbrev QY:=V->V->V->Hp->(Hp->Prop)->Prop
def TH(X:Cx)(t:QY):Prop:=
 ∀(pins:List (ag×fe)) (s:ae) (σ:St) (H:Hp) (o i v:V) (ov iv u:ab) (Q:Hp->Prop),Inv X pins σ H s->RelV o ov->RelV i iv->RelV v u->t o i v H Q->
  aB (aI X.prog X.w) X.A (setItem ov iv u) (fun _ s'=>∃H',Inv X pins σ H' s'/\Q H') X.xe s
section
variable{X:Cx}{pos:fS}
noncomputable def ku(i:Nat):TG:=fun v σ H Q=>Q (σ.set i (some v)) H
theorem Cz{i:Nat}{x:bh}(hN:X.N.Nodup)(hi:X.N[i]? = some x)(hx:Loc X.env.scope x)(hf:X.fn x=true\/X.env.scope.names.lookup x=some .local:=by first|exact .inl rfl|exact .inr rfl|assumption):PG X (.Name x pos) (ku i):=by
 intro pins s σ H v u Q I r h;exact wpAny_assign_Name (sy I hN hi hx r (fun s' I'=>⟨_,H,I',h⟩) hf)
noncomputable def EN:Fl:=fun vs σ H Q=>vs=[]/\Q σ H
noncomputable def vt(t:TG)(u:Fl):Fl:=fun vs σ H Q=>∃v r,vs=v::r/\t v σ H fun σ' H'=>u r σ' H' Q
theorem Cy:Rn X [] EN:=by
 intro pins s σ H vs us Q I r h;obtain⟨e,h⟩:=h;subst e;cases r;exact assignInOrder_nil ⟨σ,H,I,h⟩
theorem xZ{e:aO}{es:List aO}{t:TG}{u:Fl}(h1:PG X e t)(h2:Rn X es u)
  (hs:(assignEach (e::es) X.env).map (·.2)=assign e X.env::(assignEach es X.env).map (·.2):=by rfl):Rn X (e::es) (vt t u):=by
 intro pins s σ H vs us Q I r h;obtain⟨v,vr,e1,h⟩:=h;subst e1
 cases r with
 | cons r rr=>
   rw[hs];refine assignInOrder_cons (iL (h1 pins s σ H _ _ _ I r h) fun _ s1 ⟨σ1,H1,I1,q1⟩=>?_);exact h2 pins s1 σ1 H1 _ _ Q I1 rr q1
noncomputable def Ik(K:aN)(n:Nat)(t:Fl):TG:=fun v σ H Q=>∃a xs,v=.ref a/\rV K H a xs/\xs.length=n/\t xs σ H Q
theorem Hd{es:List aO}{k:Nat}{t:Fl}{n:Nat}(hc:X.calm=true)(h:Rn X es t)
  (hn:(assignEach es X.env).length=n:=by rfl)(hst:(assignEach es X.env).findIdx? (·.1)=none:=by rfl):PG X (.Tuple es k pos) (Ik X.K n t):=by
 intro pins s σ H v u Q I r hw;obtain⟨a,xs,e1,hq,hl,hw⟩:=hw;subst e1;cases r;obtain⟨its,rv,ht,hz⟩:=I.tuple hq;refine assign_Tuple_tuple (I.ok.hd hc) ht (by simp[hn,<-hl,rv.length]) hst fun h' hx=>?_;have I1:Inv X pins σ H { s with heap:=h' }:=I.kept (t':=s.toks) fun b o e=>hx b o (bN (hl9 e)) e;exact h pins _ σ H xs _ Q I1 (by simpa using rv) hw
noncomputable def SK(to ti:TE)(t:QY):TG:=fun v σ H Q=>to σ H fun o H1=>ti σ H1 fun i H2=>t o i v H2 fun H3=>Q σ H3
theorem OS{o i:aO}{to ti:TE}{t:QY}(ho:PE X o to)(hi:PE X i ti)(hs:TH X t)
  (ha:∀v,assign (.Subscript o i pos) X.env v=(do
   let ov <-holding [v] (eval o X.env);let iv <-holding [v,ov] (eval i X.env)
   standAt pos
   holding [v,ov,iv] (setItem ov iv v)
   release [v,ov,iv] []):=by intro _;rfl):PG X (.Subscript o i pos) (SK to ti t):=by
 intro pins s σ H v u Q I r h;rw[ha];refine wb9 (eh (iL (ho pins s σ H _ I h) fun ov s1 ⟨x,H1,I1,r1,q1⟩=>?_));refine wb9 (eh (iL (hi pins s1 σ H1 _ I1 q1) fun iv s2 ⟨y,H2,I2,r2,q2⟩=>?_));refine wb9 (DI (wb9 (eh (iL (hs pins s2 σ H2 x y v ov iv u _ I2 r1 r2 r q2) fun _ s3 ⟨H3,I3,q3⟩=>?_))));exact wpAny_release ⟨σ,H3,I3,q3⟩
noncomputable def Gr(te:TE)(g:TG):TS:=fun D σ H=>te σ H fun x H1=>g x σ H1 D.nx
theorem G7{tg e:aO}{te:TE}{g:TG}(he:PE X e te)(hg:PG X tg g)(hs:swapsWithSole [tg] e pos.line X.env=pure false:=by rfl)(hw:swappedStores [tg] e X.env=pure none:=by rfl)
  (h1:(assignEach [tg] X.env).map (·.2)=[assign tg X.env]:=by rfl):PS X (.Assign [tg] e pos) (Gr te g):=by
 intro pins s σ H D I h;refine wpAny_Assign_stores (iL (he pins s σ H _ I h) fun v s1 ⟨x,H1,I1,r1,q1⟩=>?_) hs hw;rw[h1];exact iL (hg pins s1 σ H1 x v _ I1 r1 q1) fun _ s2 q=>q
theorem OO{i:Nat}{x:bh}{e:aO}{te:TE}{pos':fS}(hN:X.N.Nodup)(hi:X.N[i]? = some x)(hx:Loc X.env.scope x)(he:PE X e te)(hs:swapsWith e (some (.Name x pos')) pos.line X.env=pure false:=by rfl)(hf:X.fn x=true\/X.env.scope.names.lookup x=some .local:=by first|exact .inl rfl|exact .inr rfl|assumption) :
  PS X (.Assign [.Name x pos'] e pos) (Gr te (ku i)):=by
 intro pins s σ H D I h;refine wpAny_Assign_Name (iL (he pins s σ H _ I h) fun v s1 ⟨y,H1,I1,r1,q1⟩=>?_) hs;exact sy I1 hN hi hx r1 (fun s2 I2=>⟨_,H1,I2,q1⟩) hf
end
section
variable{X:Cx}{pos:fS}
end
structure It where
 go:Nat->Hp->Prop
 yld:Nat->Hp->V->Hp->Prop
 stop:Nat->Hp->Prop
def pe(X:Cx)(pins:List (ag×fe))(H:Hp)(b:ag):Prop:=
 H b=none/\b≠X.env.locals/\b∉X.fs/\(b∈X.ex\/X.s₀.heap.objs.size<=b)/\(∀x c,X.env.cells.lookup x=some c->c≠b)/\∀p∈X.pn++pins,p.1≠b
theorem Inv.yX{X:Cx}{pins:List (ag×fe)}{σ:St}{H H':Hp}{s:ae}{b:ag}(I:Inv X pins σ H s)(hb:s.heap.objs.size<=b)(hn:H' b=none):pe X pins H' b:=by
 refine⟨hn,iR (bB I.lt hb),I.Sf hb,.inr (cP I.sz hb),fun x c e z=>?_,fun p hp z=>?_⟩
 ·obtain⟨v,q⟩:=I.cell x c e;exact absurd (bB q.lt (by rw[z];exact hb)) (bK _)
 ·exact absurd (bB (hl9 (I.pin p hp).1) (by rw[z];exact hb)) (bK _)
structure Turn(P:aS)(w:bA)(K:aN)(tg:aO)(J:It)(fp:List ag)(it:ag)(tn:Nat->bP->Prop):Prop where
 mem:it∈fp
 obj:∀i h,tn i h->∀b∈fp,∃o,h.get? b=some o/\∀v,o.data≠.cell v
 keep:∀i h h',tn i h->(∀b∈fp,∀o,h.get? b=some o->h'.get? b=some o)->tn i h'
 item:∀(X:Cx),X.prog=P->X.w=w->X.K=K->X.calm=true->∀(i:Nat) (pins:List (ag×fe)) (s:ae) (σ:St) (H:Hp) (E:ab->ae->Prop),Inv X pins σ H s->(∀b∈fp,pe X pins H b)->tn i s.heap->J.go i H->
  aB (aI P w) X.A (pyNext (.ref it)) (fun r s1=>∃u,r=some u/\
   aB (aI P w) X.A (letOwnedTupleGo tg (.ref it) u) (fun _ s2=>∃x H',Inv X pins σ H' s2/\RelV x u/\J.yld i H x H'/\tn (i+1) s2.heap/\∀b∈fp,H' b=none) E s1) E s
 done:∀(X:Cx),X.prog=P->X.w=w->X.K=K->X.calm=true->∀(i:Nat) (pins:List (ag×fe)) (s:ae) (σ:St) (H:Hp) (E:ab->ae->Prop),Inv X pins σ H s->(∀b∈fp,pe X pins H b)->tn i s.heap->J.stop i H->
  aB (aI P w) X.A (pyNext (.ref it)) (fun r s1=>r=none/\Inv X pins σ H s1) E s
 self:∀(A:bC) (i:Nat) (s:ae) (Q:ab->ae->Prop) (E:ab->ae->Prop),tn i s.heap->Q (.ref it) s->aB (aI P w) A (FK (.ref it)) Q E s
noncomputable abbrev TI:=St->Hp->(It->Hp->Prop)->Prop
def Wi(X:Cx)(pins:List (ag×fe))(σ:St)(tg:aO)(R:It->Hp->Prop)(itv:ab)(s2:ae):Prop:=
 ∃(it:ag) (fp:List ag) (tn:Nat->bP->Prop) (J:It) (H':Hp),itv=.ref it/\Inv X pins σ H' s2/\Turn X.prog X.w X.K tg J fp it tn/\tn 0 s2.heap/\(∀b∈fp,pe X pins H' b)/\R J H'
def PI(X:Cx)(tg iter:aO)(wi:TI):Prop:=
 ∀(pins:List (ag×fe)) (s:ae) (σ:St) (H:Hp) (R:It->Hp->Prop),Inv X pins σ H s->wi σ H R->
  aB (aI X.prog X.w) X.A (eval iter X.env) (fun v s1=>aB (aI X.prog X.w) X.A (FK v) (Wi X pins σ tg R) X.xe s1) X.xe s
theorem yP{M:Model}{A:bC}{E:ab->ae->Prop}{s:ae}{tg:aO}{it:ag}{u:ab}{o:fe}{n:String}{vs:Array ab}{Q:Unit->ae->Prop}(ho:s.heap.get? it=some o)(hc:o.cls=.type n)(hd:o.data=.fields vs)
  (hn:["enumerate","zip","dict_itemiterator","dict_reverseitemiterator","odict_iterator","itertools.zip_longest","itertools.pairwise"].contains n=false)(hQ:Q () s):aB M A (letOwnedTupleGo tg (.ref it) u) Q E s:=by
 unfold letOwnedTupleGo
 cases tg<;>first
  | exact wu9 hQ
  | (cases u<;>first
    | exact wu9 hQ
    | (refine wb9 (wpAny_load ho ?_)
       rw[hc,hd];show aB M A (if(["enumerate","zip","dict_itemiterator","dict_reverseitemiterator","odict_iterator","itertools.zip_longest","itertools.pairwise"].contains n && vs[0]? == some (rawInt _))=true then _ else _) Q E s;rw[if_neg (by intro h;rw[hn,oI]at h;cases h)]
       exact wu9 hQ))
noncomputable def Wn(K:aN)(a:ag):It:=
 ⟨fun i H=>∃xs x,nF K H a xs/\xs[i]? = some x,fun i H x H'=>H'=H/\∀xs,nF K H a xs->xs[i]? = some x,fun i H=>∃xs,nF K H a xs/\xs.length<=i⟩
noncomputable def Wm(K:aN)(a:ag):It:=
 ⟨fun i H=>∃xs x,rV K H a xs/\xs[i]? = some x,fun i H x H'=>H'=H/\∀xs,rV K H a xs->xs[i]? = some x,fun i H=>∃xs,rV K H a xs/\xs.length<=i⟩
noncomputable def US(lo:Int)(n:Nat):It:=⟨fun i _=>i<n,fun i H x H'=>H'=H/\x=.int (lo+i),fun i _=>n<=i⟩
theorem DZ{P:aS}{w:bA}{K:aN}{tg:aO}(a it:ag):Turn P w K tg (Wn K a) [it] it (fun i h=>h.IsListIter it a i) where
 mem:=by simp
 obj:=fun i h st b hb=>by
  have e:b=it:=by simpa using hb
  subst e;obtain⟨o,e,c,d⟩:=st;exact⟨o,e,fun v z=>by rw[d]at z;cases z⟩
 keep:=fun i h h' st k=>st.at fun o e=>k it (by simp) o e
 item:=by
  intro X hP hw hK hc i pins s σ H E I hf st hg;subst hP hw hK;obtain⟨xs,x,hq,hx⟩:=hg;obtain⟨its,rv,p,hz⟩:=I.list hq;obtain⟨u,hu,ru⟩:=rv.get hx;obtain⟨f0,f1,f2,f3,f4,f5⟩:=hf it (by simp);refine wpAny_pyNext_list_item st p.isList (x:=u) (by simpa using hu) fun h' st' sb=>?_;have I1:Inv X pins σ H { s with heap:=h' }:=I.turned (t':=s.toks) (fun b o hb e=>(sb.2 b hb).trans e) f0 f1 f3 f4 f5;obtain⟨o,e,c,d⟩:=id st';exact⟨u,rfl,yP (s:={ s with heap:=h' }) e c d (by decide) ⟨x,H,I1,ru,⟨rfl,fun ys hy=>by rw[I.p9 hy hq];exact hx⟩,st',fun b hb=>(hf b hb).1⟩⟩
 done:=by
  intro X hP hw hK hc i pins s σ H E I hf st hg;subst hP hw hK;obtain⟨xs,hq,hx⟩:=hg;obtain⟨its,rv,p,hz⟩:=I.list hq;obtain⟨f0,f1,f2,f3,f4,f5⟩:=hf it (by simp);have hl:=rv.length;exact wpAny_pyNext_list_end (I.ok.hd hc) st p.isList (by simp;omega) fun h' eb=>⟨rfl,I.turned (t':=s.toks) (fun b o hb e=>eb b o hb e) f0 f1 f3 f4 f5⟩
 self:=fun _ _ _ _ _ st h=>wpAny_pyIter_listiter st h
theorem An{P:aS}{w:bA}{K:aN}{tg:aO}(a it:ag):Turn P w K tg (Wm K a) [it] it (fun i h=>h.IsTupleIter it a i) where
 mem:=by simp
 obj:=fun i h st b hb=>by
  have e:b=it:=by simpa using hb
  subst e;obtain⟨o,e,c,d⟩:=st;exact⟨o,e,fun v z=>by rw[d]at z;cases z⟩
 keep:=fun i h h' st k=>st.at fun o e=>k it (by simp) o e
 item:=by
  intro X hP hw hK hc i pins s σ H E I hf st hg;subst hP hw hK;obtain⟨xs,x,hq,hx⟩:=hg;obtain⟨its,rv,p,hz⟩:=I.tuple hq;obtain⟨u,hu,ru⟩:=rv.get hx;obtain⟨f0,f1,f2,f3,f4,f5⟩:=hf it (by simp);refine wpAny_pyNext_tuple_item st (show s.heap.IsTuple a its.toArray from p) (x:=u) (by simpa using hu) fun h' st' sb=>?_;have I1:Inv X pins σ H { s with heap:=h' }:=I.turned (t':=s.toks) (fun b o hb e=>(sb.2 b hb).trans e) f0 f1 f3 f4 f5;obtain⟨o,e,c,d⟩:=id st';exact⟨u,rfl,yP (s:={ s with heap:=h' }) e c d (by decide) ⟨x,H,I1,ru,⟨rfl,fun ys hy=>by rw[I.oi hy hq];exact hx⟩,st',fun b hb=>(hf b hb).1⟩⟩
 done:=by
  intro X hP hw hK hc i pins s σ H E I hf st hg;subst hP hw hK;obtain⟨xs,hq,hx⟩:=hg;obtain⟨its,rv,p,hz⟩:=I.tuple hq;obtain⟨f0,f1,f2,f3,f4,f5⟩:=hf it (by simp);have hl:=rv.length;exact wpAny_pyNext_tuple_end (I.ok.hd hc) st (show s.heap.IsTuple a its.toArray from p) (by simp;omega) fun h' eb=>⟨rfl,I.turned (t':=s.toks) (fun b o hb e=>eb b o hb e) f0 f1 f3 f4 f5⟩
 self:=fun _ _ _ _ _ st h=>wpAny_pyIter_tupleiter st h
theorem Ao{P:aS}{w:bA}{K:aN}{tg:aO}(it:ag)(lo:Int)(n:Nat):Turn P w K tg (US lo n) [it] it (fun i h=>IsRangeIter h it (lo+(i:Nat) * 1) ((n:Int) - (i:Nat)) 1) where
 mem:=by simp
 obj:=fun i h st b hb=>by
  have e:b=it:=by simpa using hb
  subst e
  exact⟨_,st,fun v z=>by
   have z':Data.fields _=Data.cell v:=z
   cases z'⟩
 keep:=fun i h h' st k=>k it (by simp) _ st
 item:=by
  intro X hP hw hK hc i pins s σ H E I hf st hg;subst hP hw hK;obtain⟨f0,f1,f2,f3,f4,f5⟩:=hf it (by simp);have W:=Walks.range (prog:=X.prog) (w:=X.w) (I.ok.hd hc) it lo 1 n;refine W.item i s _ _ hg st fun v h' tk hv st' kk=>?_;obtain⟨t,rfl⟩:=hv;have I1:Inv X pins σ H { s with heap:=h',toks:=tk }:=I.turned (fun b o hb e=>kk b o (by simpa using hb) e) f0 f1 f3 f4 f5;refine⟨_,rfl,yP (s:={ s with heap:=h',toks:=tk }) (n:="range_iterator") st' rfl rfl (by decide) ⟨.int (lo+i),H,I1,⟨t,?_⟩,⟨rfl,rfl⟩,st',fun b hb=>(hf b hb).1⟩⟩;rw[Int.mul_one]
 done:=by
  intro X hP hw hK hc i pins s σ H E I hf st hg;subst hP hw hK;obtain⟨f0,f1,f2,f3,f4,f5⟩:=hf it (by simp);exact wpAny_pyNext_range_end (I.ok.hd hc) st (by have:n<=i:=hg;omega) fun h' eb=>⟨rfl,I.turned (t':=s.toks) (fun b o hb e=>eb b o hb e) f0 f1 f3 f4 f5⟩
 self:=fun _ _ _ _ _ st h=>wpAny_pyIter_rangeiter st h
section
variable{X:Cx}{tg:aO}
noncomputable def SH(K:aN)(tl:TE):TI:=fun σ H R=>tl σ H fun x H1=>∃a,x=.ref a/\(∃xs,nF K H1 a xs)/\R (Wn K a) H1
noncomputable def VN(K:aN)(tl:TE):TI:=fun σ H R=>tl σ H fun x H1=>∃a,x=.ref a/\(∃xs,rV K H1 a xs)/\R (Wm K a) H1
theorem Cw{l:aO}{tl:TE}(hl:PE X l tl):PI X tg l (SH X.K tl):=by
 intro pins s σ H R I h;refine iL (hl pins s σ H _ I h) fun v s1 ⟨x,H1,I1,r1,q1⟩=>?_;obtain⟨a,e,⟨xs,hq⟩,q⟩:=q1;subst e;cases r1;obtain⟨its,rv,p,hz⟩:=I1.list hq;refine nH p.isList ?_;refine⟨s1.heap.objs.size,[s1.heap.objs.size],_,_,H1,rfl,I1.kept (t':=s1.toks) fun b o e=>hp9 _ e,DZ a _,⟨_,aQ _ rfl,rfl,rfl⟩,fun b hb=>?_,q⟩;have e:b=s1.heap.objs.size:=by simpa using hb
 subst e;exact I1.yX (aK _) (I1.hok.fresh (aK _))
theorem Hb{l:aO}{tl:TE}(hl:PE X l tl):PI X tg l (VN X.K tl):=by
 intro pins s σ H R I h;refine iL (hl pins s σ H _ I h) fun v s1 ⟨x,H1,I1,r1,q1⟩=>?_;obtain⟨a,e,⟨xs,hq⟩,q⟩:=q1;subst e;cases r1;obtain⟨its,rv,p,hz⟩:=I1.tuple hq;refine wpAny_pyIter_tuple (show s1.heap.IsTuple a its.toArray from p) ?_;refine⟨s1.heap.objs.size,[s1.heap.objs.size],_,_,H1,rfl,I1.kept (t':=s1.toks) fun b o e=>hp9 _ e,An a _,⟨_,aQ _ rfl,rfl,rfl⟩,fun b hb=>?_,q⟩;have e:b=s1.heap.objs.size:=by simpa using hb
 subst e;exact I1.yX (aK _) (I1.hok.fresh (aK _))
theorem GW{pins:List (ag×fe)}{σ:St}{H:Hp}{s:ae}{R:It->Hp->Prop}{E:ab->ae->Prop}{lo hi:Int}{t u v:xA}{tk:Nat}(I:Inv X pins σ H s)(h1:-(2 ^ 62)<=lo)(h2:lo<2 ^ 62)(h3:-(2 ^ 62)<=hi)(h4:hi<2 ^ 62)
  (q:R (US lo (hi - lo).toNat) H):aB (aI X.prog X.w) X.A (FK (.ref s.heap.objs.size)) (Wi X pins σ tg R) E { s with heap:=s.heap.push { cls:=.type "range",data:=.fields #[.int lo t,.int hi u,.int 1 v] },toks:=tk }:=by
 refine wpAny_pyIter_range (IsRange.new ..) (small_one h1 h2 h3 h4) ?_;have I1:Inv X pins σ H { s with heap:=s.heap.push { cls:=.type "range",data:=.fields #[.int lo t,.int hi u,.int 1 v] },toks:=tk }:=I.kept fun b o e=>hp9 _ e
 refine⟨(s.heap.push { cls:=.type "range",data:=.fields #[.int lo t,.int hi u,.int 1 v] }).objs.size,[(s.heap.push { cls:=.type "range",data:=.fields #[.int lo t,.int hi u,.int 1 v] }).objs.size],_,_,H,rfl,
  I1.kept (t':=tk) fun b o e=>hp9 _ e,Ao _ lo (hi - lo).toNat,?_,fun b hb=>?_,q⟩
 ·have e1:lo+((0:Nat):Int) * 1=lo:=by simp
  have e2:(((hi - lo).toNat:Nat):Int) - ((0:Nat):Int)=Builtin.Range.rangeSize lo hi 1:=by rw[rangeSize_one];split<;>omega
  show IsRangeIter _ _ (lo+((0:Nat):Int) * 1) ((((hi - lo).toNat:Nat):Int) - ((0:Nat):Int)) 1;rw[e1,e2];exact aQ _ rfl
 ·have e:b=(s.heap.push { cls:=.type "range",data:=.fields #[.int lo t,.int hi u,.int 1 v] }).objs.size:=by simpa using hb
  subst e;exact I1.yX (aK _) (I1.hok.fresh (aK _))
noncomputable def SG(ta:TA):TI:=fun σ H R=>ta σ H fun vs H1=>∃j:Int,vs=[.int j]/\-(2 ^ 62)<=j/\j<2 ^ 62/\R (US 0 j.toNat) H1
theorem Em{a:aO}{ta:TA}{p pos:fS}(hg:Gl X "range")(hm:X.mg "range"=none)(ha:PA X [a] ta)(hs:bp [a] X.env=[(false,eval a X.env)]:=by rfl):PI X tg (.Call (.Name "range" p) [a] [] pos) (SG ta):=by
 intro pins s σ H R I h;refine Call_ (n6 I hg hm boot_range (eX (iL (ha pos pins s σ H _ I h) fun us s1 ⟨vs,H1,I1,r1,q1⟩=>?_) hs rfl));obtain⟨j,e,q1,q2,q⟩:=q1;subst e
 cases r1 with
 | cons r rr=>
   cases rr;obtain⟨t,rfl⟩:=r;exact call_range_1 (GW I1 (by omega) (by omega) q1 q2 (by simpa using q))
noncomputable def U5(wi:TI)(g:TG)(tb:TS):TS:=fun D σ H=>wi σ H fun J H1=>∃W:Nat->Nat->St->Hp->Prop,(∃m,W 0 m σ H1)/\∀i m σ H,W i m σ H->
 (J.stop i H/\D.nx σ H)\/(J.go i H/\∃N:St->Hp->Prop,(∀σ' H',N σ' H'->∃m',m'<m/\W (i+1) m' σ' H')/\∀x H',J.yld i H x H'->g x σ H' fun σ2 H2=>tb { D with nx:=N,ct:=N,bk:=D.nx } σ2 H2)
noncomputable def lU(fp:List ag)(h:bP):List (ag×fe):=fp.filterMap fun b=>(h.get? b).map fun o=>(b,o)
theorem mX{fp:List ag}{h:bP}{b:ag}{o:fe}(hb:b∈fp)(e:h.get? b=some o):(b,o)∈lU fp h:=ql.mpr ⟨b,hb,by rw[e];rfl⟩
theorem vc{fp:List ag}{h:bP}{p:ag×fe}(hp:p∈lU fp h):p.1∈fp/\h.get? p.1=some p.2:=by
 obtain⟨b,hb,e⟩:=ql.mp hp
 cases q:h.get? b with
 | none=>rw[q]at e;cases e
 | some o=>
   rw[q]at e;have e':(b,o)=p:=bw e;subst e';exact⟨hb,q⟩
theorem Inv.pinned{pins:List (ag×fe)}{σ:St}{H:Hp}{s:ae}{fp:List ag}(I:Inv X pins σ H s)(hf:∀b∈fp,pe X pins H b)(ho:∀b∈fp,∃o,s.heap.get? b=some o/\∀v,o.data≠.cell v):Inv X (pins++lU fp s.heap) σ H s:=
 I.pY fun p hp=>(aD.mp hp).elim (fun z=>I.pin p (aA _ z)) fun z=>by
  obtain⟨hb,e⟩:=vc z;obtain⟨f0,f1,f2,_⟩:=hf p.1 hb;obtain⟨o,e',d⟩:=ho p.1 hb;rw[e]at e';cases e';exact⟨e,f0,f1,f2,d⟩
theorem Inv.my{pins pl:List (ag×fe)}{σ:St}{H:Hp}{s:ae}(I:Inv X (pins++pl) σ H s):Inv X pins σ H s:=I.pY fun p hp=>I.pin p (aA _ (aY _ hp))
theorem G6{iter:aO}{body:List jl}{wi:TI}{g:TG}{tb:TS}{pos:fS}(hp:Ft (aI X.prog X.w) X.A X.env X.xe)(hc:X.calm=true)(hi:PI X tg iter wi)(hg:PG X tg g)(hb:zM X body tb)
  (hs:∀x,foldedSetIterable iter X.env x=pure x:=by intro _;rfl):PS X (.For tg iter body [] pos) (U5 wi g tb):=by
 intro pins s σ H D I h;refine wpAny_For (iL (hi pins s σ H _ I h) fun v s1 h1=>iL h1 fun itv s2 h2=>?_) hs;obtain⟨it,fp,tn,J,H2,e,I2,T,iB,f2,W,⟨m0,w0⟩,turn⟩:=h2;subst e;have stat:∀{H':Hp},(∀b∈fp,H' b=none)->∀b∈fp,pe X pins H' b:=fun hn b hb=>⟨hn b hb,(f2 b hb).2⟩
 refine codeAny_forLoop_any (fun n s'=>∃i σ' H',Inv X pins σ' H' s'/\tn i s'.heap/\(∀b∈fp,H' b=none)/\W i n σ' H') ?_ m0 ⟨0,σ,H2,I2,iB,fun b hb=>(f2 b hb).1,w0⟩;rintro n s3 ⟨i,σ3,H3,I3,qu,fr3,w3⟩
 rcases turn i n σ3 H3 w3 with⟨stop,qn⟩|⟨go,N,hN,step⟩
 ·refine lP hp (iL (T.done X rfl rfl rfl hc i pins s3 σ3 H3 X.xe I3 (stat fr3) qu stop) fun r s4 ⟨hr,I4⟩=>?_);subst hr;exact wpAny_execs_nil ⟨σ3,H3,I4,qn⟩
 ·refine lP hp (iL (T.item X rfl rfl rfl hc i pins s3 σ3 H3 X.xe I3 (stat fr3) qu go) fun r s4 ⟨u,hr,h4⟩=>?_);subst hr;refine lP hp (iL h4 fun _ s5 ⟨x,H5,I5,r5,y5,st5,fr5⟩=>?_);have I5':=I5.pinned (stat fr5) (T.obj _ _ st5);refine lP hp (iL (hg _ s5 σ3 H5 x u _ I5' r5 (step x H5 y5)) fun _ s6 ⟨σ6,H6,I6,q6⟩=>?_);refine lP hp (iL (hb _ s6 σ6 H6 _ I6 q6) fun f s7 q7=>?_)
  have again:∀{σ7:St} {H7:Hp},Inv X (pins++lU fp s5.heap) σ7 H7 s7->N σ7 H7->∃m,m<n/\∃i σ' H',Inv X pins σ' H' s7/\tn i s7.heap/\(∀b∈fp,H' b=none)/\W i m σ' H':=fun {σ7 H7} I7 n7=>by
   obtain⟨m',hm,w7⟩:=hN σ7 H7 n7;refine⟨m',hm,i+1,σ7,H7,I7.my,T.keep _ _ _ st5 fun b hb o e=>(I7.pin (b,o) (aA _ (aA _ (mX hb e)))).1,fun b hb=>?_,w7⟩;obtain⟨o,e,d⟩:=T.obj _ _ st5 b hb;exact(I7.pin (b,o) (aA _ (aA _ (mX hb e)))).2.1
  cases f with
  | next=>obtain⟨σ7,H7,I7,n7⟩:=q7;exact again I7 n7
  | cont=>obtain⟨σ7,H7,I7,n7⟩:=q7;exact again I7 n7
  | brk=>obtain⟨σ7,H7,I7,q7⟩:=q7;exact⟨σ7,H7,I7.my,q7⟩
  | ret v=>obtain⟨x7,σ7,H7,I7,r7,q7⟩:=q7;exact⟨x7,σ7,H7,I7.my,r7,q7⟩
end
noncomputable abbrev R2:=V->V->Hp->VK->Prop
def kM(X:Cx)(f:ab->ab->rl ab)(r:R2):Prop:=
 ∀(pins:List (ag×fe)) (s:ae) (σ:St) (H:Hp) (x y:V) (v u:ab) (Q:VK),Inv X pins σ H s->RelV x v->RelV y u->r x y H Q->
  aB (aI X.prog X.w) X.A (f v u) (EP X pins σ Q) X.xe s
def og(X:Cx)(f:ab)(r:List V->Hp->VK->Prop):Prop:=
 ∀(pins:List (ag×fe)) (s:ae) (σ:St) (H:Hp) (xs:List V) (us:List ab) (Q:VK),Inv X pins σ H s->cL xs us->r xs H Q->
  aB (aI X.prog X.w) X.A (call f us) (EP X pins σ Q) X.xe s
def Wh(X:Cx)(r:V->Hp->(Bool->Hp->Prop)->Prop):Prop:=
 ∀(pins:List (ag×fe)) (s:ae) (σ:St) (H:Hp) (x:V) (v:ab) (Q:Bool->Hp->Prop),Inv X pins σ H s->RelV x v->r x H Q->
  aB (aI X.prog X.w) X.A (truthy v) (TP X pins σ Q) X.xe s
noncomputable def Rz(r:R2)(ta tb:TE):TE:=fun σ H Q=>ta σ H fun x H1=>tb σ H1 fun y H2=>r x y H2 Q
noncomputable def rI(C:Int->Int->Prop)(g:Int->Int->V):R2:=fun x y H Q=>∃i j,x=.int i/\y=.int j/\C i j/\Q (g i j) H
noncomputable def OK(g:Int->Int->V):R2:=fun x y H Q=>∃i j,x=.int i/\y=.int j/\Q (g i j) H
section
variable{X:Cx}{a b c:aO}{ta tb tc:TE}{pos:fS}
theorem QI(ha:PE X a ta)(hb:PE X b tb){pins:List (ag×fe)}{s:ae}{σ:St}{H:Hp}{R:V->V->Hp->Prop}(I:Inv X pins σ H s)
  (h:ta σ H fun x H1=>tb σ H1 fun y H2=>R x y H2){Q:ab->ae->Prop}{f:ab->ab->rl ab}
  (hf:∀v u s2 x y H2,Inv X pins σ H2 s2->RelV x v->RelV y u->R x y H2->aB (aI X.prog X.w) X.A (f v u) Q X.xe s2) :
  aB (aI X.prog X.w) X.A (eval a X.env) (fun v s₁=>aB (aI X.prog X.w) X.A (eval b X.env) (fun u s₂=>aB (aI X.prog X.w) X.A (f v u) Q X.xe s₂) X.xe s₁) X.xe s:=by
 refine iL (ha pins s σ H _ I h) fun v s1 ⟨x,H1,I1,r1,q1⟩=>?_;refine iL (hb pins s1 σ H1 _ I1 q1) fun u s2 ⟨y,H2,I2,r2,q2⟩=>?_;exact hf v u s2 x y H2 I2 r1 r2 q2
theorem R0{op:uh}{r:R2}(ho:kM X (binaryOp op) r)(ha:PE X a ta)(hb:PE X b tb):PE X (.BinOp a op b pos) (Rz r ta tb):=by
 intro pins s σ H Q I h;exact wpAny_BinOp (QI ha hb I h fun v u s2 x y H2 I2 rx ry q=>ho pins s2 σ H2 x y v u Q I2 rx ry q)
theorem Uc{f:ab->ab->rl ab}{C:Int->Int->Prop}{g:Int->Int->Int}
  (rule:∀(i j:Int) (t u:xA) (s:ae) (Q:ab->ae->Prop) (E:ab->ae->Prop),C i j->Q (.int (g i j) s.toks) { s with toks:=s.toks+1 }->aB (aI X.prog X.w) X.A (f (.int i t) (.int j u)) Q E s) :
  kM X f (rI C fun i j=>.int (g i j)):=by
 intro pins s σ H x y v u Q I rx ry h;obtain⟨i,j,rfl,rfl,hc,q⟩:=h;obtain⟨t,rfl⟩:=rx;obtain⟨t',rfl⟩:=ry;exact rule i j t t' s _ _ hc ⟨.int (g i j),H,I.tok _,⟨_,rfl⟩,q⟩
theorem Sb{f:ab->ab->rl ab}{g:Int->Int->Int}
  (rule:∀(i j:Int) (t u:xA) (s:ae) (Q:ab->ae->Prop) (E:ab->ae->Prop),Q (.int (g i j) s.toks) { s with toks:=s.toks+1 }->aB (aI X.prog X.w) X.A (f (.int i t) (.int j u)) Q E s) :
  kM X f (OK fun i j=>.int (g i j)):=by
 intro pins s σ H x y v u Q I rx ry h;obtain⟨i,j,rfl,rfl,q⟩:=h;obtain⟨t,rfl⟩:=rx;obtain⟨t',rfl⟩:=ry;exact rule i j t t' s _ _ ⟨.int (g i j),H,I.tok _,⟨_,rfl⟩,q⟩
theorem Vm{f:ab->ab->rl ab}{g:Int->Int->Bool}
  (rule:∀(i j:Int) (t u:xA) (s:ae) (Q:ab->ae->Prop) (E:ab->ae->Prop),Q (.bool (g i j)) s->aB (aI X.prog X.w) X.A (f (.int i t) (.int j u)) Q E s) :
  kM X f (OK fun i j=>.bl (g i j)):=by
 intro pins s σ H x y v u Q I rx ry h;obtain⟨i,j,rfl,rfl,q⟩:=h;obtain⟨t,rfl⟩:=rx;obtain⟨t',rfl⟩:=ry;exact rule i j t t' s _ _ ⟨.bl (g i j),H,I,rfl,q⟩
def MX(i j:Int):Prop:=0<j/\j<1073741824
def MW(i j:Int):Prop:=0<=j/\j<=1000000/\i.natAbs<2 ^ 64
def Fo(i j:Int):Prop:=(-(2 ^ 64)<i/\i<2 ^ 64)\/(-(2 ^ 64)<j/\j<2 ^ 64)
theorem Fo.ok{i j:Int}(h:Fo i j):IntMulOk i j:=by
 rcases h with⟨h1,h2⟩|⟨h1,h2⟩
 ·exact .of_left (intBits_le_64 h1 h2)
 ·exact .of_right (intBits_le_64 h1 h2)
theorem Am(k:Nat):(0:Int)<=2 ^ k:=by
 rw[two_pow_cast];exact Int.natCast_nonneg _
theorem Pe:kM X (binaryOp .Add) (OK fun i j=>.int (i+j)):=Sb fun _ _ _ _ _ _ _ q=>add_int q
theorem O7:kM X (binaryOp .Mult) (rI Fo fun i j=>.int (i * j)):=Uc fun _ _ _ _ _ _ _ hc q=>mul_int q hc.ok
theorem Ll:kM X (binaryOp .FloorDiv) (rI MX fun i j=>.int (i / j)):=Uc fun i j _ _ _ _ _ hc q=>by
 have h1:(0:Int)<j:=hc.1;have h2:j<1073741824:=hc.2;exact floordiv_int (by omega) (by rw[vW i (by omega)];exact q) (.inl (PyProof.noPylong_small (by omega)))
theorem O8:kM X (binaryOp .Mod) (rI (fun _ j=>0<j) fun i j=>.int (i % j)):=Uc fun i j _ _ _ _ _ hc q=>by
 have h1:(0:Int)<j:=hc;exact mod_int' (by omega) (by rw[Int.fmod_eq_emod_of_nonneg i (by omega)];exact q)
theorem O5:kM X (binaryOp .RShift) (rI (fun _ j=>0<=j) fun i j=>.int (i / 2 ^ j.toNat)):=Uc fun i j _ _ _ _ _ hc q=>
 rshift_int hc (by rw[vW i (Am _)];exact q)
theorem Pd:kM X (binaryOp .BitAnd) (OK fun i j=>.int (rY i j)):=Sb fun _ _ _ _ _ _ _ q=>and_int q
end
section
variable{X:Cx}{a b c:aO}{ta tb tc:TE}{pos:fS}
theorem Iq{pins:List (ag×fe)}{σ:St}{H:Hp}{s:ae}{Q:VK}{k k':Bool}(I:Inv X pins σ H s)(q:Q (.bl k) H)(e:k=k'):EP X pins σ Q (.bool k') s:=by
 subst e;exact⟨.bl k,H,I,rfl,q⟩
theorem Sa:kM X (compareOp .Gt) (OK fun i j=>.bl (decide (j<i))):=Vm fun _ _ _ _ _ _ _ q=>gt_int q
theorem Eo:kM X (compareOp .In) (fun x y H Q=>∃i j,x=.str i/\y=.str j/\Q (.bl (!(lr j i 0 j.length 1).isEmpty)) H):=by
 intro pins s σ H x y v u Q I rx ry h;obtain⟨i,j,rfl,rfl,q⟩:=h;obtain⟨t,rfl⟩:=rx;obtain⟨t',rfl⟩:=ry;exact in_str (Iq I q rfl)
theorem O9:kM X (compareOp .Is) (fun x y H Q=>y=.non/\Q (.bl (decide (x=.non))) H):=by
 intro pins s σ H x y v u Q I rx ry h;obtain⟨rfl,q⟩:=h;cases ry;refine is_none_gen (Iq I q ?_)
 cases x<;>first
  | (cases rx;rfl)
  | (obtain⟨t,rfl⟩:=rx;rfl)
theorem Ld{op:xj}{r:R2}(ho:kM X (compareOp op) r)(ha:PE X a ta)(hb:PE X b tb)(hm:behindInMarks op b=false):PE X (.Compare a [op] [b] pos) (Rz r ta tb):=by
 intro pins s σ H Q I h;exact wpAny_Compare1 (QI ha hb I h fun v u s2 x y H2 I2 rx ry q=>ho pins s2 σ H2 x y v u Q I2 rx ry q) hm
noncomputable def Rx(t:TE):TT:=fun σ H Q=>t σ H fun x H'=>∃k,x=.bl k/\Q k H'
theorem K2{op:xj}{r:R2}(ho:kM X (compareOp op) r)(ha:PE X a ta)(hb:PE X b tb)(hm:behindInMarks op b=false):PT X (.Compare a [op] [b] pos) (Rx (Rz r ta tb)):=by
 intro pins s σ H Q I h
 refine wpAny_isTrue_Compare1 (iL (ha pins s σ H _ I h) fun v s1 ⟨x,H1,I1,r1,q1⟩=>iL (hb pins s1 σ H1 _ I1 q1) fun u s2 ⟨y,H2,I2,r2,q2⟩=>
  iL (ho pins s2 σ H2 x y v u _ I2 r1 r2 q2) fun c s3 ⟨z,H3,I3,r3,k,e,q3⟩=>?_) hm
 subst e;cases r3;exact iN ⟨H3,I3,q3⟩
def QU(K:aN)(x:V)(H:Hp)(k:Bool):Prop:=
 match x with
 | .non=>k=false
 | .bl b=>k=b
 | .int i=>k=(i != 0)
 | .str y=>y.length<=aP/\k=((y.length:Int) != 0)
 | .byt y=>y.size<=aP/\k=((y.size:Int) != 0)
 | .ref p=>(∃xs,nF K H p xs/\k=!xs.isEmpty)\/(∃xs,rV K H p xs/\k=!xs.isEmpty)\/∃kvs,H p=some (.dK kvs)/\k=!kvs.isEmpty
 | _=>False
theorem Bn{κ:Type}{kvs:List (κ×V)}{vs:List (κ×ab)}(r:KV kvs vs):(!vs.isEmpty)=!kvs.isEmpty:=by
 cases r<;>rfl
theorem tD{xs:List V}{its:List ab}(r:cL xs its):(!its.toArray.isEmpty)=!xs.isEmpty:=by
 cases r<;>simp
theorem oY:(aP:Nat)<2 ^ 63:=by rw[cj];decide
theorem N8:Wh X (fun x H Q=>∃k,QU X.K x H k/\Q k H):=by
 intro pins s σ H x v Q I rx h;obtain⟨k,e,q⟩:=h;have hl:=oY;have hs:aP=16777216:=cj
 cases x with
 | non=>
   cases rx;have e':k=false:=e;subst e';exact truthy_none ⟨H,I,q⟩
 | bl b=>
   cases rx;have e':k=b:=e;subst e';exact iN ⟨H,I,q⟩
 | int i=>
   obtain⟨t,rfl⟩:=rx;have e':k=(i != 0):=e;subst e';exact PySem.P.truthy_int ⟨H,I,q⟩
 | str y=>
   obtain⟨t,rfl⟩:=rx;obtain⟨hy,e'⟩:y.length<=aP/\k=((y.length:Int) != 0):=e;subst e';exact PySem.P.truthy_str (by omega) ⟨H,I.tok _,q⟩
 | byt y=>
   obtain⟨t,rfl⟩:=rx;obtain⟨hy,e'⟩:y.size<=aP/\k=((y.size:Int) != 0):=e;subst e';exact PySem.W.truthy_bytes (by omega) ⟨H,I.tok _,q⟩
 | ref p=>
   cases rx;have e':(∃xs,nF X.K H p xs/\k=!xs.isEmpty)\/(∃xs,rV X.K H p xs/\k=!xs.isEmpty)\/∃kvs,H p=some (.dK kvs)/\k=!kvs.isEmpty:=e
   rcases e' with⟨xs,hx,e'⟩|⟨xs,hx,e'⟩|⟨kvs,hx,e'⟩
   ·subst e';obtain⟨its,r,pl,hz⟩:=I.list hx;have hlen:=r.length;exact wpAny_truthy_list pl.isList (by simp only[aH];omega) ⟨H,I.tok _,by rw[tD r];exact q⟩
   ·subst e';obtain⟨its,r,pl,hz⟩:=I.tuple hx;have hlen:=r.length;exact truthy_tuple pl (by simp only[aH];omega) ⟨H,I.tok _,by rw[tD r];exact q⟩
   ·subst e';obtain⟨hz,hS,vs,r,m⟩:kvs.length<=aP/\(p == sysModules)=false/\∃vs,KV kvs vs/\s.heap.DictOf (cf X.prog X.w) p vs:=I.hok p _ hx;have hlen:kvs.length=vs.length:=uL r;exact wpAny_truthy_dict hS m (by omega) ⟨H,I.tok _,by rw[Bn r];exact q⟩
 | _=>exact(show False from e).elim
theorem G3(ha:PE X a ta)(he:∀whole,isTrue a X.env whole=(do let v <-whole;standAt a.pos;holding [v] (truthy v))) :
  PT X a (fun σ H Q=>ta σ H fun x H'=>∃k,QU X.K x H' k/\Q k H'):=by
 intro pins s σ H Q I h;exact isTrue_plain (iL (ha pins s σ H _ I h) fun v s1 ⟨x,H1,I1,r1,q1⟩=>N8 pins s1 σ H1 x v Q I1 r1 q1) (he _)
theorem AS:kM X (binaryOp .Add) (fun x y H Q=>∃i j,x=.str i/\y=.str j/\i.length+j.length<=aP/\Q (.str (i++j)) H):=by
 intro pins s σ H x y v u Q I rx ry h;obtain⟨i,j,rfl,rfl,hz,q⟩:=h;obtain⟨t,rfl⟩:=rx;obtain⟨t',rfl⟩:=ry;exact add_str (fun t' tk=>⟨.str (i++j),H,I.tok _,⟨_,rfl⟩,q⟩) hz
theorem vals1{x:V}{us:List ab}(r:cL [x] us):∃u,us=[u]/\RelV x u:=by
 cases r with
 | cons r1 r2=>cases r2;exact⟨_,rfl,r1⟩
theorem vals2{x y:V}{us:List ab}(r:cL [x,y] us):∃u w',us=[u,w']/\RelV x u/\RelV y w':=by
 cases r with
 | cons r1 r2=>
   cases r2 with
   | cons r3 r4=>cases r4;exact⟨_,_,rfl,r1,r3⟩
end
structure Xd(h:bP)(x dx C:ag)(mA:bh->Option ab):Prop where
 obj:h.get? x=some (Fq C dx)
 ns:h.Ns1 dx mA
 ne:dx≠x
section
variable{prog:aS}{w:bA}{A:bC}{E:ab->ae->Prop}{s:ae}{K:aN}{x dx C f:ag}{mA:bh->Option ab}{name:bh}{v:ab}
end
theorem zL.some_of{v:V}{o:Option ab}(r:zL (some v) o):∃u,o=some u/\RelV v u:=by
 cases o with
 | none=>exact(show False from r).elim
 | some u=>exact⟨u,rfl,r⟩
section
variable{P:aS}{w:bA}{H H':Hp}{h h':bP}{a C dx:ag}{fs fs':List (bh×V)}
end
structure Xf(K:aN)(C:ag):Prop where
 pg:PySem.W.plainGet K C Str.empty=true
 hd:PySem.W.hasDictIn K C=true
 po:PySem.W.plainOver K C=true
 sa:kO K (.ref C) "__setattr__"=some (some (.builtin "object.__setattr__"))
structure Xh(K:aN)(C:ag)(f:bh)(v:V)(u:ab):Prop where
 at_:kO K (.ref C) f=some (some u)
 rel:RelV v u
 get:BW K u "__get__"=some none
 cp:PySem.W.copiedNames.contains f=false
structure Xe(K:aN)(C:ag)(m:bh)(f:ag):Prop where
 at_:kO K (.ref C) m=some (some (.ref f))
 fn:JQ K (.ref f)=true
 kp:eE K (.ref f)=true
section
variable{X:Cx}{pins:List (ag×fe)}{σ:St}{H:Hp}{s:ae}{a C dx:ag}{fs:List (bh×V)}{f:bh}{v:V}{A:bC}{E:ab->ae->Prop}
end
section
variable{X:Cx}{o e value:aO}{f:bh}{pos pos' tpos:fS}{ta tv:TE}
end
section
variable{X:Cx}{pins:List (ag×fe)}{σ:St}{H:Hp}{s:ae}{A:bC}{E:ab->ae->Prop}{Q:ab->ae->Prop}{c:ab}{b:Bool}
inductive t5 (K:aN) (H:Hp):V->ab->Prop where
 | non:t5 K H .non (.type "NoneType")
 | bl (x:Bool):t5 K H (.bl x) (.type "bool")
 | int (i:Int):t5 K H (.int i) (.type "int")
 | str (x:bh):t5 K H (.str x) (.type "str")
 | flt (x:UInt64):t5 K H (.flt x) (.type "float")
 | lst {a:ag} {xs:List V} (e:H a=some (.lst xs)):t5 K H (.ref a) (.type "list")
 | lL {a:ag} {o:fe} {xs:List V} (e:H a=some (.lL o (.lst xs))):t5 K H (.ref a) (.type "list")
 | tup {a:ag} {xs:List V} (e:H a=some (.tup xs)):t5 K H (.ref a) (.type "tuple")
 | dK {a:ag} {kvs:List (Key×V)} (e:H a=some (.dK kvs)):t5 K H (.ref a) (.type "dict")
 | dT {a:ag} {kvs:List (List Key×V)} (e:H a=some (.dT kvs)):t5 K H (.ref a) (.type "dict")
 | ins {a C dx:ag} {fs:List (bh×V)} (e:H a=some (.ins C dx fs)) (cl:Xf K C) (ha:kO K (.ref C) "__class__"=some (some (.builtin "object.__class__")))
   (hn:BW K (.builtin "object.__class__") "__get__"=some (some (.builtin "getset_descriptor.__get__"))) (htk:PySem.W.takesIn K (.builtin "object.__class__")=some true)
   (hm:PySem.W.mroIn K C (.type "object")=some true):t5 K H (.ref a) (.ref C)
end
structure mI(k:Nat)(A:bC):Prop where
 hd:A.handled=none
 dp:A.depth+3 * k+5<recursionLimit
 un:A.units+16 * k+200<dS
theorem mI.deeper{k:Nat}{A:bC}(r:mI (k+1) A)(env:uq):mI k (A.deeper env):=
 ⟨r.hd,by have:=r.dp;show A.depth+1+3 * k+5<_;omega,by have:=r.un;show A.units+3+16 * k+200<_;omega⟩
theorem mI.depth{k:Nat}{A:bC}(r:mI k A):A.depth<recursionLimit:=by have:=r.dp;omega
theorem mI.units{k:Nat}{A:bC}(r:mI k A):A.units+64<dS:=by have:=r.un;omega
noncomputable def RA:TA:=fun _ H Q=>Q [] H
noncomputable def RD(ta:TE)(tr:TA):TA:=fun σ H Q=>ta σ H fun x H1=>tr σ H1 fun xs H2=>Q (x::xs) H2
section
variable{X:Cx}{e:aO}{es:List aO}{te:TE}{t:TA}{pos:fS}
theorem AR:PA X [] RA:=fun _ _ _ _ H Q I h=>Fu ⟨[],H,I,.nil,h⟩
theorem rL(ha:PE X e te)(hr:PA X es t)(hs:bp (e::es) X.env=(false,eval e X.env)::bp es X.env:=by rfl):PA X (e::es) (RD te t):=by
 intro pos pins s σ H Q I h;rw[hs];show aB _ _ (spliced ((false,eval e X.env)::backTo pos (bp es X.env))) _ _ s;refine DN (iL (ha pins s σ H _ I h) fun u s1 ⟨x,H1,I1,r1,q1⟩=>?_);exact iL (hr pos pins s1 σ H1 _ I1 q1) fun us s2 ⟨xs,H2,I2,r2,q2⟩=>⟨x::xs,H2,I2,.cons r1 r2,q2⟩
noncomputable def UZ(t:TA):TE:=fun σ H Q=>t σ H fun xs H1=>xs.length<=aP/\∀p,H1 p=none->Q (.ref p) (upd H1 p (.tup xs))
noncomputable def U3(t:TA):TE:=fun σ H Q=>t σ H fun xs H1=>xs.length<=aP/\∀p,H1 p=none->Q (.ref p) (upd H1 p (.lst xs))
theorem OV{x1}(h:PA X es t):PE X (.Tuple es x1 pos) (UZ t):=by
 intro pins s σ H Q I hq;refine wpAny_Tuple_spliced (iL (h pos pins s σ H _ I hq) fun us s1 ⟨xs,H1,I1,r,z,q⟩=>⟨by rw[<-r.length];exact z,?_⟩);have hf:H1 s1.heap.objs.size=none:=I1.hok.fresh (aK _);refine⟨.ref s1.heap.objs.size,upd H1 s1.heap.objs.size (.tup xs),I1.laid (t':=s1.toks) (fun b u e=>hp9 _ e) (aK _) ?_,rfl,q _ hf⟩;exact⟨z,us,r,⟨_,aQ _ rfl,rfl,_,rfl⟩⟩
theorem OY(h:PA X es t):PE X (.List es pos) (U3 t):=by
 intro pins s σ H Q I hq;refine wpAny_List_spliced (iL (h pos pins s σ H _ I hq) fun us s1 ⟨xs,H1,I1,r,z,q⟩=>⟨by rw[<-r.length];exact z,?_⟩);have hf:H1 s1.heap.objs.size=none:=I1.hok.fresh (aK _);refine⟨.ref s1.heap.objs.size,upd H1 s1.heap.objs.size (.lst xs),I1.laid (t':=s1.toks) (fun b u e=>hp9 _ e) (aK _) ?_,rfl,q _ hf⟩;exact⟨z,us,0,r,aQ _ rfl⟩
end
noncomputable abbrev Sp:=List V->Hp->VK->XK->Prop
noncomputable abbrev FI:=List uq->Hp->ae->XK->ab->ae->Prop
structure gD(P:aS)(w:bA)(K:aN)(mg:bh->Option ab)(base:bP)(A:bC)(outer:List uq)(s:ae)(H:Hp):Prop where
 frames:A.frames=some outer
 mod:Mod K mg base
 bs:∀b o,base.get? b=some o->s.heap.get? b=some o/\H b=none
 bsz:base.objs.size<=s.heap.objs.size
 tH:s.heap.FunFrames base outer
 frf:∀b∈FD outer,H b=none
 hok:qm P w H s.heap
 bare:nK s.gens
def CE(outer:List uq)(P:aS)(w:bA)(H:Hp)(s:ae)(Q:VK)(u:ab)(s':ae):Prop:=
 ∃v H',s'.os=s.os/\nK s'.gens/\Un (FD outer) [] H H' s.heap s'.heap/\qm P w H' s'.heap/\RelV v u/\Q v H'
def CR(CX:FI)(outer:List uq)(P:aS)(w:bA)(H:Hp)(s:ae)(Q:VK)(E:XK)(r:Result)(s':ae):Prop:=
 match r with
 | .ok (.ret u)=>CE outer P w H s Q u s'
 | .ok _=>False
 | .error e=>CX outer H s E e s'
structure m8(P:aS)(w:bA)(K:aN)(mg:bh->Option ab)(base:bP)(CX:FI)(k:Nat)(f:ag)(fd:fj)(ps:List bh)(sp:Sp):Prop where
 len:∀vs H Q E,sp vs H Q E->vs.length=ps.length
 run:∀(A:bC) (outer:List uq) (s:ae) (H:Hp) (args:Args) (us:List ab) (vs:List V) (Q:VK) (E:XK),mI k A->gD P w K mg base A outer s H->uu s fd args (ps.zip us)->cL vs us->sp vs H Q E->
  codeAny (aI P w) A (.call (.ref f) args) (CR CX outer P w H s Q E) s
theorem m8.imp{P:aS}{w:bA}{K:aN}{mg:bh->Option ab}{base:bP}{CX:FI}{k:Nat}{f:ag}{fd:fj}{ps:List bh}{sp sp':Sp}(F:m8 P w K mg base CX k f fd ps sp)
  (h:∀vs H Q E,sp' vs H Q E->sp vs H Q E):m8 P w K mg base CX k f fd ps sp':=
 ⟨fun vs H Q E q=>F.len vs H Q E (h _ _ _ _ q),fun A outer s H args us vs Q E hr he hb hv hs=>F.run A outer s H args us vs Q E hr he hb hv (h _ _ _ _ hs)⟩
section
variable{X:Cx}{pins:List (ag×fe)}{σ:St}{H:Hp}{s s':ae}
theorem Inv.VU(I:Inv X pins σ H s):gD X.prog X.w X.K X.mg X.base X.A X.stack s H:=
 ⟨I.ok.frames,I.ok.mod,I.bs,cP I.ok.bsz I.sz,I.stack,I.B8,I.hok,I.bare⟩
theorem Inv.after{Q:VK}{u:ab}(I:Inv X pins σ H s)(h:CE X.stack X.prog X.w H s Q u s'):EP X pins σ Q u s':=by
 obtain⟨v,H',os,bare,un,hok,r,q⟩:=h;obtain⟨hh,g,d,t,os'⟩:=s';obtain rfl:os'=s.os:=os;exact⟨v,H',I.call (h':=hh) (g':=g) (d':=d) (t':=t) (ch:=[]) un hok bare (fun b z=>absurd z (by simp)),r,q⟩
end
noncomputable def Nd(sp:Sp)(dvs:List V)(E:XK)(t:TA):TE:=fun σ H Q=>t σ H fun vs H1=>sp (vs++dvs) H1 Q E
def Binds(K:aN)(fd:fj)(ps:List bh)(ds:List ab):Prop:=
 ∀(s:ae) (us:List ab),K.In s.heap->(us++ds).length=ps.length->uu s fd ⟨us,[]⟩ (ps.zip (us++ds))
theorem Binds.all{K:aN}{fd:fj}{ps:List bh}(h:∀us:List ab,us.length=ps.length->bindArgs fd ⟨us,[]⟩=pure (ps.zip us)):Binds K fd ps []:=fun s us _ hl=>by
 rw[aL]at hl ⊢;exact .of_eq (h us hl)
def wX(CX:FI)(X:Cx)(E:XK):Prop:=∀(pins:List (ag×fe)) (σ:St) (H:Hp) (s:ae) (e:ab) (s':ae),Inv X pins σ H s->CX X.stack H s E e s'->X.xe e s'
section
variable{X:Cx}{CX:FI}{k:Nat}{f C:ag}{fd:fj}{ps:List bh}{sp:Sp}{dvs:List V}{ds:List ab}{E:XK}{x m:bh}{p pos apos:fS}{e o:aO}{es:List aO}{ta:TE}{t:TA}
theorem GP{pins:List (ag×fe)}{σ:St}{H:Hp}{s:ae}{Q:VK}{us:List ab}{vs:List V}(F:m8 X.prog X.w X.K X.mg X.base CX k f fd ps sp)(hr:mI k X.A)(hb:Binds X.K fd ps ds)(hd:cL dvs ds)(hx:wX CX X E)
  (I:Inv X pins σ H s)(r:cL vs us)(h:sp (vs++dvs) H Q E):aB (aI X.prog X.w) X.A (call (.ref f) us) (EP X pins σ Q) X.xe s:=by
 have r2:cL (vs++dvs) (us++ds):=r.append hd;have hl:(us++ds).length=ps.length:=by rw[<-r2.length];exact F.len _ _ _ _ h
 refine wpAny_call (ke (F.run X.A X.stack s H ⟨us,[]⟩ (us++ds) (vs++dvs) Q E hr I.VU (hb s us I.Bl hl) r2 h) fun r s' hq=>?_)
 cases r with
 | error e=>exact hx pins σ H s e s' I hq
 | ok fl=>
   cases fl with
   | ret u=>exact I.after hq
   | next=>exact iA hq
   | brk=>exact iA hq
   | cont=>exact iA hq
theorem Le(F:m8 X.prog X.w X.K X.mg X.base CX k f fd ps sp)(hr:mI k X.A)(hg:Gl X x)(hm:X.mg x=some (.ref f))(hk:eE X.K (.ref f)=true)(hb:Binds X.K fd ps ds)(hd:cL dvs ds)(hx:wX CX X E)
  (ha:PA X (e::es) t)(hdb:(x == ("__debug__":bh))=false:=by decide)(he:bp (e::es) X.env=(false,eval e X.env)::bp es X.env:=by rfl)(hpl:(backTo pos (bp es X.env)).any (·.1)=false:=by rfl) :
  PE X (.Call (.Name x p) (e::es) [] pos) (Nd sp dvs E t):=by
 intro pins s σ H Q I h;refine ie (wx I hg hm ?_ hdb);refine PySem.W.callWith_K (h₀:=X.base) I.ok.mod.kin hk (iL (ha pos pins s σ H _ I h) fun us s1 ⟨vs,H1,I1,r,q⟩=>⟨I1.Bl,?_⟩) he hpl;exact GP F hr hb hd hx I1 r q
theorem Hk(F:m8 X.prog X.w X.K X.mg X.base CX k f fd ps sp)(hr:mI k X.A)(hg:Gl X x)(hm:X.mg x=some (.ref f))(hk:eE X.K (.ref f)=true)(hb:Binds X.K fd ps ds)(hd:cL dvs ds)(hx:wX CX X E)
  (hdb:(x == ("__debug__":bh))=false:=by decide):PE X (.Call (.Name x p) [] [] pos) (Nd sp dvs E RA):=by
 intro pins s σ H Q I h;refine ie (wx I hg hm ?_ hdb);exact PySem.W.callWith_K0 I.Bl hk (GP (us:=[]) F hr hb hd hx I .nil h)
structure Mk(K:aN)(C f:ag):Prop where
 makes:PySem.W.makesIn K C=true
 init:kO K (.ref C) "__init__"=some (some (.ref f))
 fn:JQ K (.ref f)=true
 kp:eE K (.ref C)=true
end
section
variable{X:Cx}{CX:FI}{k:Nat}{f C:ag}{fd:fj}{ps ks:List bh}{sp:Sp}{E:XK}{x m:bh}{p pos apos kpos:fS}{e o:aO}{es:List aO}{kws:List qO}{te ta:TE}{t tk:TA}{nm:Option bh}
structure Wk(K:aN)(fd:fj)(ps ks:List bh)(g:List ab->List ab->List ab)(gV:List V->List V->List V):Prop where
 to:∀(s:ae) (us ws:List ab),K.In s.heap->(g us ws).length=ps.length->uu s fd ⟨us,ks.zip ws⟩ (ps.zip (g us ws))
 rel:∀{vs:List V} {us:List ab} {zs:List V} {ws:List ab},cL vs us->cL zs ws->cL (gV vs zs) (g us ws)
variable{g:List ab->List ab->List ab}{gV:List V->List V->List V}
end
structure qk(N P:List bh)(sc:fX):Prop where
 kind:sc.kind=.function
 co:sc.isCoroutine=false
 gen:sc.isGenerator=false
 nd:N.Nodup
 pre:N.take P.length=P
 par:∀x∈P,sc.names.lookup x=some .local\/sc.names.lookup x=some .cell
 nofree:∀y∈sc.names,y.2≠.free
theorem vG{kindOf:bh->Option jB}{x:bh}:∀{binds:List (bh×ab)} {m:bh->Option ab},(∀v,(x,v)∉binds)->bindL kindOf binds m x=m x
 | [],_,_=>rfl
 | (n,v)::r,m,h=>by
   unfold bindL;rw[vG fun w hw=>h w (jt _ hw)];split
   ·have:x≠n:=by rintro rfl;exact h v ja
    simp[this]
   ·rfl
theorem vI{kindOf:bh->Option jB}{x:bh}:∀{binds:List (bh×ab)} {m:bh->Option ab},(∀v,(x,v)∉binds)->bindC kindOf binds m x=m x
 | [],_,_=>rfl
 | (n,v)::r,m,h=>by
   unfold bindC;rw[vI fun w hw=>h w (jt _ hw)];split
   ·rfl
   ·have:x≠n:=by rintro rfl;exact h v ja
    simp[this]
theorem vH{kindOf:bh->Option jB}{x:bh}{v:ab}:∀{P:List bh} {vs:List ab} {i:Nat} {m:bh->Option ab},P.Nodup->P[i]? = some x->vs[i]? = some v->kindOf x=some .local->
  bindL kindOf (P.zip vs) m x=some v
 | [],_,_,_,_,h,_,_=>by simp at h
 | _::_,[],_,_,_,_,h,_=>by simp at h
 | p::P,w::vs,0,m,nd,h1,h2,hk=>by
   simp at h1 h2;subst h1;subst h2;show bindL kindOf ((p,w)::P.zip vs) m p=_;unfold bindL;rw[vG fun v hv=>(bX.mp nd).1 (t9 hv).1,if_pos hk];simp
 | p::P,w::vs,i+1,m,nd,h1,h2,hk=>by
   show bindL kindOf ((p,w)::P.zip vs) m x=_;unfold bindL;exact vH (i:=i) (bX.mp nd).2 (by simpa using h1) (by simpa using h2) hk
theorem vJ{kindOf:bh->Option jB}{x:bh}{v:ab}:∀{P:List bh} {vs:List ab} {i:Nat} {m:bh->Option ab},P.Nodup->P[i]? = some x->vs[i]? = some v->kindOf x≠some .local->
  bindC kindOf (P.zip vs) m x=some v
 | [],_,_,_,_,h,_,_=>by simp at h
 | _::_,[],_,_,_,_,h,_=>by simp at h
 | p::P,w::vs,0,m,nd,h1,h2,hk=>by
   simp at h1 h2;subst h1;subst h2;show bindC kindOf ((p,w)::P.zip vs) m p=_;unfold bindC;rw[vI fun v hv=>(bX.mp nd).1 (t9 hv).1,if_neg hk];simp
 | p::P,w::vs,i+1,m,nd,h1,h2,hk=>by
   show bindC kindOf ((p,w)::P.zip vs) m x=_;unfold bindC;exact vJ (i:=i) (bX.mp nd).2 (by simpa using h1) (by simpa using h2) hk
noncomputable def start(N:List bh)(vs:List V):St:=vs.map some++cT (N.length - vs.length) none
noncomputable def zj(CX:FI)(P:aS)(w:bA)(K:aN)(mg:bh->Option ab)(base:bP)(N:List bh)(qual:bh)(scope:fX)(f:ag)(cd:ab)(A:bC)(outer:List uq)(s:ae)(H:Hp)(E:XK):Cx where
 prog:=P
 w:=w
 K:=K
 mg:=mg
 base:=base
 A:=A.deeper (envOfC qual scope s.heap.objs.size f cd)
 N:=N
 s₀:=s
 H₀:=H
 env:=envOfC qual scope s.heap.objs.size f cd
 outer:=outer
 stack:=envOfC qual scope s.heap.objs.size f cd::outer
 ex:=[]
 calm:=true
 fn:=fun _=>true
 pn:=[]
 xe:=fun e s'=>aB (aI P w) (A.deeper (envOfC qual scope s.heap.objs.size f cd)) (leaving (envOfC qual scope s.heap.objs.size f cd) e) (fun _ s''=>CX outer H s E e s'') (fun e' s''=>CX outer H s E e' s'') s'
theorem zp{sc:fX}{n:Nat}{x:bh}(h:sc.names.lookup x=some .cell):∃c,(cellsFrom n sc.names []).lookup x=some c:=by
 have q:=vR sc.names n [] (.inl h);exact uO.mp q
theorem EI{CX:FI}{P:aS}{w:bA}{K:aN}{mg:bh->Option ab}{base:bP}{N ps:List bh}{qual:bh}{scope:fX}{f:ag}{cd:ab}{A:bC}{outer:List uq}{s s1:ae}{H:Hp}{E:XK}{us:List ab}{vs:List V}
  (S:qk N ps scope)(hd:A.handled=none)(e0:gD P w K mg base A outer s H)(hl:vs.length=ps.length)(r:cL vs us)
  (x:InCallC s s.heap.objs.size (bindL (envOfC qual scope s.heap.objs.size f cd).kindOf (ps.zip us) fun _=>none) (cellsFrom (s.heap.objs.size+1) scope.names []) (bindC (envOfC qual scope s.heap.objs.size f cd).kindOf (ps.zip us) fun _=>none) s1) :
  Inv (zj CX P w K mg base N qual scope f cd A outer s H E) [] (start N vs) H s1:=by
 have hpl:ps.length<=N.length:=by have:=congrArg rZ S.pre;rw[gp]at this;omega
 obtain⟨h1,tk,rfl,hk⟩:=x.done;have noA:∀b:ag,b∉(zj CX P w K mg base N qual scope f cd A outer s H E).ex:=fun b z=>absurd (show b∈([]:List ag)from z) (by simp)
 refine⟨⟨e0.mod,S.kind,rfl,rfl,aK _,fun y z c h1 h2=>?_,fun y hy=>?_,fun y c _ h=>?_,fun _=>hd,Around.frames_deeper e0.frames,.inr ⟨rfl,rfl⟩,fun b z=>absurd z (noA b),e0.bs,e0.bsz,fun b _ _=>noA b,fun b z=>absurd z (noA b),e0.tH,e0.frf⟩,
  rfl,e0.bare,Un.kept hk,⟨_,x.toInCall.ns,fun i y v h1 h2 h3=>?_⟩,fun y c h=>⟨_,x.cell y c h⟩,e0.hok.fresh (aK _),fun y c h=>?_,fun p hp=>absurd (show p∈([]:List (ag×fe))from hp) (by simp),e0.hok.kept hk,?_⟩
 ·exact name_of_addr x.apart (f6 h1) (f6 h2)
 ·have hy:scope.names.lookup y=some .cell\/scope.names.lookup y=some .free:=hy
  rcases hy with hy|hy
  ·exact zp hy
  ·exact absurd rfl (S.nofree _ (f6 hy))
 ·exact nQ (x.above y c (f6 h))
 ·have hi:i<vs.length:=by
   unfold start at h2;by_cases hi:i<vs.length
   ·exact hi
   ·rw[aR (by simpa using hi)]at h2;rw[et]at h2;split at h2<;>cases h2
  have ha:vs[i]? = some v:=by
   unfold start at h2;rw[bf (by simpa using hi),bx]at h2
   cases e:vs[i]? with
   | none=>rw[e]at h2;cases h2
   | some a=>rw[e]at h2;cases h2;rfl
  obtain⟨u,hu,rv⟩:=r.get ha
  have hp:ps[i]? = some y:=by
   rw[<-S.pre,List.getElem?_take_of_lt (by omega)];exact h1
  have ndP:ps.Nodup:=by rw[<-S.pre];exact S.nd.sublist (ik _ _)
  refine⟨u,rv,?_⟩
  rcases S.par y (bq hp)with k|k
  ·exact .inl ⟨k,vH ndP hp hu k⟩
  ·obtain⟨c,e⟩:=zp (n:=s.heap.objs.size+1) k;refine .inr ⟨.inl k,c,e,?_⟩;have q:=x.cell y c e;rw[vJ ndP hp hu (by show scope.names.lookup y≠_;rw[k];decide)]at q;exact q
 ·exact e0.hok.fresh (nQ (x.above y c (f6 h)))
 ·unfold start;show _=N.length;rw[ak,aG,jY];omega
theorem SN{CX:FI}{P:aS}{w:bA}{K:aN}{mg:bh->Option ab}{base:bP}{k:Nat}{f:ag}{name qual:bh}{params:Arguments}{body:List jl}{scope:fX}{dV kV doc pm cdv ct oc:ab}{an od:Option ag}
  {osl:Array (Option ab)}{N ps:List bh}{sp:Sp}(lk:K.lookup f=some ⟨oc,od,.func (dz name qual params body scope dV kV doc pm an cdv ct),osl⟩)(hcd:kP K cdv qual=true)(S:qk N ps scope)
  (len:∀vs H Q E,sp vs H Q E->vs.length=ps.length)
  (hbody:∀(A:bC) (outer:List uq) (s:ae) (H:Hp) (vs:List V) (Q:VK) (E:XK),mI k (A.deeper (envOfC qual scope s.heap.objs.size f cdv))->sp vs H Q E->
   ∃t,zM (zj CX P w K mg base N qual scope f cdv A outer s H E) body t/\t { nx:=fun _ H'=>Q .non H',rt:=Q } (start N vs) H) :
  m8 P w K mg base CX (k+1) f (dz name qual params body scope dV kV doc pm an cdv ct) ps sp:=by
 refine⟨len,fun A outer s H args us vs Q E hr e0 hb r hsp=>?_⟩;have hl:=len _ _ _ _ hsp;have KX:K.In s.heap:=e0.mod.kin.keeps fun b o e=>(e0.bs b o e).1;have lim:s.heap.NoLimit:=e0.mod.nolimit.keeps fun b o e=>(e0.bs b o e).1
 have hkind:∀y∈ps.zip us,scope.names.lookup y.1=some .local\/(scope.names.lookup y.1=some .cell/\((cellsFrom (s.heap.objs.size+1) scope.names []).lookup y.1).isSome=true):=fun z0 hy=>by
  obtain⟨n,v⟩:=z0
  rcases S.par n (t9 hy).1 with q|q
  ·exact .inl q
  ·exact .inr ⟨q,vR _ _ _ (.inl q)⟩
 refine codeAny_call_function hr.depth (KX _ _ lk) rfl S.co S.gen rfl (PySem.W.codeRec_of KX hcd) (hb _ _ _ _ ?_);refine wpAny_newFunctionEnv_cells S.kind hkind fun env he s1 x=>?_;subst he;refine⟨lim.keeps x.toInCall.keep,codeAny_func ?_⟩;obtain⟨t,ht,hq⟩:=hbody A outer s H vs Q E (hr.deeper _) hsp;have I:Inv (zj CX P w K mg base N qual scope f cdv A outer s H E) [] (start N vs) H s1:=EI S hr.hd e0 hl r x;refine dm (ht [] s1 (start N vs) H _ I hq) (fun fl s' hs=>?_) fun e s' hs=>hs
 have fin:∀{σ':St} {H':Hp} {v:V} {u:ab},Inv (zj CX P w K mg base N qual scope f cdv A outer s H E) [] σ' H' s'->RelV v u->Q v H'->CE outer P w H s Q u s':=
  fun {σ' H' v u} J rv q=>⟨v,H',J.os,J.bare,J.base,J.hok,rv,q⟩
 cases fl with
 | ret u=>
   obtain⟨v,σ',H',J,rv,q⟩:=hs;exact fin J rv q
 | next=>
   obtain⟨σ',H',J,q⟩:=hs;exact fin (v:=V.non) (u:=de) J rfl q
 | brk=>
   obtain⟨_,_,_,q⟩:=hs;exact iA q
 | cont=>
   obtain⟨_,_,_,q⟩:=hs;exact iA q
section
variable{X:Cx}{x:bh}{p pos:fS}{e:aO}{es:List aO}{t:TA}{id T:String}{r:List V->Hp->VK->Prop}
noncomputable def U6(r:List V->Hp->VK->Prop)(t:TA):TE:=fun σ H Q=>t σ H fun vs H1=>r vs H1 Q
theorem yg(hc:og X (.builtin id) r)(hg:Gl X x)(hm:X.mg x=none)(hv:bootBuiltins x=some (.builtin id))(ha:PA X (e::es) t)(hn:x≠"__name__":=by decide)(hdb:(x == ("__debug__":bh))=false:=by decide)
  (he:bp (e::es) X.env=(false,eval e X.env)::bp es X.env:=by rfl)(hpl:(backTo pos (bp es X.env)).any (·.1)=false:=by rfl):PE X (.Call (.Name x p) (e::es) [] pos) (U6 r t):=by
 intro pins s σ H Q I h;refine ie (n6 I hg hm hv ?_ hn hdb);exact oG (iL (ha pos pins s σ H _ I h) fun us s1 ⟨vs,H1,I1,r1,q1⟩=>hc pins s1 σ H1 vs us Q I1 r1 q1) he hpl
theorem En(hc:og X (.type T) r)(hg:Gl X x)(hm:X.mg x=none)(hv:bootBuiltins x=some (.type T))(ha:PA X (e::es) t)(hn:x≠"__name__":=by decide)(hdb:(x == ("__debug__":bh))=false:=by decide)
  (he:bp (e::es) X.env=(false,eval e X.env)::bp es X.env:=by rfl)(hpl:(backTo pos (bp es X.env)).any (·.1)=false:=by rfl):PE X (.Call (.Name x p) (e::es) [] pos) (U6 r t):=by
 intro pins s σ H Q I h;refine ie (n6 I hg hm hv ?_ hn hdb);exact eX (iL (ha pos pins s σ H _ I h) fun us s1 ⟨vs,H1,I1,r1,q1⟩=>hc pins s1 σ H1 vs us Q I1 r1 q1) he hpl
end
end L2
namespace HT
open PySem PyProof.Rows
section
open PySem.SeqAt
open PySem.AutoSeq1 (wpAny_loadPart')
open PySem.MeetsSeq PySem.MeetsSeq2 PySem.MeetsSeq3
end
section
variable{prog:aS}{w:bA}{A:bC}{E:ab->ae->Prop}{s:ae}
theorem My{t b:ag}{vs ws:List ab}{Q:ab->ae->Prop}(ht:JS s.heap t vs.toArray)(hb:JS s.heap b ws.toArray)(hv:vs≠[])
  (h1:ws=[]->Q (.ref t) s)(h2:ws≠[]->Q (.ref s.heap.objs.size) { s with heap:=s.heap.push { cls:=.type "tuple",data:=.seq (vs++ws).toArray } })
  (hsz:vs.length+ws.length<=aP):aB (aI prog w) A (binaryOp .Add (.ref t) (.ref b)) Q E s:=by
 obtain⟨⟨cls,dd,data,sl⟩,ho,hc,n,hd⟩:=id ht;obtain⟨⟨cls2,dd2,data2,uD⟩,ho2,hc2,n2,hd2⟩:=id hb;simp only at hc hd hc2 hd2;subst hc hd hc2 hd2;have e:vs.toArray++ws.toArray=(vs++ws).toArray:=by simp
 by_cases hw:ws=[]
 ·exact uc ⟨_,ho,rfl⟩ ⟨_,ho2,rfl⟩ vQ DK mN mr (lS _ _)
   (tuple_addW1 t b vs.toArray ws.toArray n n2 dd dd2 sl uD (by simpa using hv) (by simp[hw])) ⟨ho,ho2,h1 hw⟩
 ·refine uc ⟨_,ho,rfl⟩ ⟨_,ho2,rfl⟩ vQ DK mN mr (lS _ _)
   (tuple_addW2 t b vs.toArray ws.toArray n n2 dd dd2 sl uD (by simpa using hv) (by simpa using hw) (by rw[aH,aH];exact hsz)) ⟨ho,ho2,?_⟩
  rw[e];exact h2 hw
noncomputable def gG(n d:Nat):Option Int->Nat
 | none=>d
 | some v=>if v<0 then(v+(n:Int)).toNat else min v.toNat n
theorem GH(n d:Nat)(hd:d<=n)(o:Option Int):gG n d o<=n:=by
 cases o with
 | none=>exact hd
 | some v=>
   show(if v<0 then(v+(n:Int)).toNat else min v.toNat n)<=n;by_cases hv:v<0
   ·rw[if_pos hv];omega
   ·rw[if_neg hv];exact Nat.min_le_right _ _
theorem Dt(v:Int)(n d:Nat):(if v<0 then max (v+(n:Int)) 0 else min v (n:Int))=((gG n d (some v):Nat):Int):=by
 show(if v<0 then max (v+(n:Int)) 0 else min v (n:Int))=(((if v<0 then(v+(n:Int)).toNat else min v.toNat n):Nat):Int)
 by_cases hv:v<0
 ·simp only[if_pos hv];omega
 ·simp only[if_neg hv];omega
theorem BR(lo hi:Option Int)(n:Nat):kh lo hi 1 (n:Int)=(((gG n 0 lo:Nat):Int),((gG n n hi:Nat):Int)):=by
 have h1:¬((1:Int)<0):=by omega
 unfold kh;simp only[h1,if_false];refine Prod.ext ?_ ?_
 ·cases lo with
  | none=>rfl
  | some v=>exact Dt v n 0
 ·cases hi with
  | none=>rfl
  | some v=>exact Dt v n n
theorem AL(i j:Nat):g7 (i:Int) (j:Int) 1=j - i:=by
 unfold g7;have h1:(1:Int) > 0:=by omega
 simp only[h1,if_true,Int.ediv_one];split<;>omega
theorem sG{v:ab}{o:Option Int}{Q:Option Int->ae->Prop}(p:qq v o)(h:Q o s):aB (aI prog w) A (Builtin.Slice.slicePartIndex v) Q E s:=by
 cases p with
 | none=>exact slicePart_none h
 | int i t=>exact slicePart_int h
theorem mz{sl:ag}{vl vu:ab}{lo hi:Option Int}{n:Nat}{Q:Int×Int×Nat->ae->Prop}(hs:s.heap.IsSliceOf sl vl vu .none)(pl:qq vl lo)(pu:qq vu hi)
  (h:Q (((gG n 0 lo:Nat):Int),1,gG n n hi - gG n 0 lo) s):aB (aI prog w) A (pI (.ref sl) (pure (n:Int))) Q E s:=by
 obtain⟨os,hos,hcs,hds⟩:=id hs;unfold pI Builtin.Slice.sliceFields;refine wb9 (wb9 (cv hos hds (x:=vl) rfl (wb9 (cv hos hds (x:=vu) rfl (wb9 (cv hos hds (x:=.none) rfl (wu9 ?_)))))));refine wb9 (slicePart_none ?_);show aB _ _ (if((1:Int) == 0)=true then _ else _) _ _ s;rw[if_neg (by decide)];refine wb9 (sG pl (wb9 (sG pu (wb9 (wu9 ?_)))));show aB _ _ (match kh lo hi 1 (n:Int)with|(lo,hi)=>pure (lo,(1:Int),g7 lo hi 1)) _ _ s;rw[BR lo hi n];show aB _ _ (pure (((gG n 0 lo:Nat):Int),(1:Int),g7 ((gG n 0 lo:Nat):Int) ((gG n n hi:Nat):Int) 1)) _ _ s;rw[AL];exact wu9 h
theorem Ha(xs:Array ab)(i k:Nat):((aT k).filterMap fun(m:Nat)=>xs[((i:Int)+(m:Int) * 1).toNat]?).toArray=((xs.toList.drop i).take k).toArray:=by
 have e:(fun(m:Nat)=>xs[((i:Int)+(m:Int) * 1).toNat]?)=fun m=>xs[i+m]? :=by
  funext m;have:((i:Int)+(m:Int) * 1).toNat=i+m:=by omega
  rw[this]
 rw[e];have:=pick_run xs i k;rw[List.filterMap_map]at this;have e2:((fun x=>xs[x]?) ∘ fun x=>i+x)=fun m=>xs[i+m]? :=rfl;rw[e2]at this;rw[this]
theorem qe{t sl:ag}{items:Array ab}{vl vu:ab}{lo hi:Option Int}{Q:ab->ae->Prop}(ht:JS s.heap t items)(hs:s.heap.IsSliceOf sl vl vu .none)(pl:qq vl lo)(pu:qq vu hi)
  (hw:¬(gG items.size 0 lo=0/\gG items.size items.size hi=items.size))
  (h:Q (.ref s.heap.objs.size) { s with heap:=s.heap.push { cls:=.type "tuple",data:=.seq ((items.toList.drop (gG items.size 0 lo)).take (gG items.size items.size hi - gG items.size 0 lo)).toArray } })
  (hsz:items.size<=aP):aB (aI prog w) A (getItem (.ref t) (.ref sl)) Q E s:=by
 have htake:sizeOk (.seq ((items.toList.drop (gG items.size 0 lo)).take (gG items.size items.size hi - gG items.size 0 lo)).toArray):=by
  show((items.toList.drop (gG items.size 0 lo)).take (gG items.size items.size hi - gG items.size 0 lo)).toArray.size<=aP;rw[aH,gp,nr,bF];omega
 have hj:gG items.size items.size hi<=items.size:=GH _ _ (aK _) hi;obtain⟨os,hos,hcs,hds⟩:=id hs;have hTs:s.TypeIs (.ref sl) "slice":=⟨os,hos,hcs⟩
 unfold getItem
 try with_reducible refine eh ?_
 first|refine wb9 (wu9 ?_)|skip
 refine wb9 (wpAny_sequenceKey ht.typeIs (by decide) ?_)
 refine wb9 (cy (name:=aa "__getitem__") ht.typeIs dh
  (cg dh ht.typeIs entry_tuple_getitem ?_ (args_tuple_getitem _ _)))
 show aB _ _ (jW (.ref t) >>= _) _ _ s;refine wb9 (tupleItemsOf_ ht ?_);refine wb9 (mo hTs ?_);rw[if_pos (by decide)];refine wb9 (mz hs pl pu ?_)
 have hno:¬((((gG items.size 0 lo:Nat):Int) == 0 && (1:Int) == 1 && (gG items.size items.size hi - gG items.size 0 lo) == items.size)=true):=by
  intro q;rw[aF,aF]at q;have q1:((gG items.size 0 lo:Nat):Int)=0:=eq_of_beq q.1.1;have q2:gG items.size items.size hi - gG items.size 0 lo=items.size:=eq_of_beq q.2;exact hw ⟨by omega,by omega⟩
 show aB _ _ (if(((gG items.size 0 lo:Nat):Int) == 0 && (1:Int) == 1 && (gG items.size items.size hi - gG items.size 0 lo) == items.size)=true then _ else _) _ _ s;rw[if_neg hno,Ha]
 first
  | exact wb9 (m:=ig _) (dq (wu9 ⟨_,rfl,wu9 h⟩) htake)
  | exact wb9 (m:=ig _) (dq (wb9 (wu9 (wu9 ⟨_,rfl,wu9 h⟩))) htake)
  | exact wb9 (wb9 (m:=ig _) (dq (wu9 (wu9 ⟨_,rfl,wu9 h⟩)) htake))
  | exact wb9 (wb9 (m:=ig _) (dq (wu9 ⟨_,rfl,wu9 h⟩) htake))
end
end HT
namespace L2
open PySem PySem.Spec PyProof.Rows
noncomputable abbrev TO:=St->Hp->(Option Int->Hp->Prop)->Prop
def PO(X:Cx)(e:Option aO)(t:TO):Prop:=
 ∀(pins:List (ag×fe)) (s:ae) (σ:St) (H:Hp) (Q:Option Int->Hp->Prop),Inv X pins σ H s->t σ H Q->
  aB (aI X.prog X.w) X.A (evalPart e X.env) (fun u s'=>∃o H',Inv X pins σ H' s'/\qq u o/\Q o H') X.xe s
noncomputable def Kc:TO:=fun _ H Q=>Q none H
noncomputable def Ry(t:TE):TO:=fun σ H Q=>t σ H fun x H1=>∃i,x=.int i/\Q (some i) H1
section
variable{X:Cx}{e:aO}{te:TE}{lo hi:Option aO}{tl th:TO}{pos p2:fS}
theorem K7:PO X none Kc:=by
 intro pins s σ H Q I h;rw[evalPart_none];exact wu9 ⟨none,H,I,.none,h⟩
theorem K6(h:PE X e te):PO X (some e) (Ry te):=by
 intro pins s σ H Q I hw;rw[evalPart_some];refine iL (h pins s σ H _ I hw) fun u s1 ⟨x,H1,I1,r1,q1⟩=>?_;obtain⟨i,rfl,q⟩:=q1;obtain⟨t,rfl⟩:=r1;exact⟨some i,H1,I1,.int i t,q⟩
def UQ(X:Cx)(r:V->Option Int->Option Int->Hp->VK->Prop):Prop:=
 ∀(pins:List (ag×fe)) (s:ae) (σ:St) (H:Hp) (x:V) (v vl vu:ab) (lo hi:Option Int) (sl:ag) (Q:VK),Inv X pins σ H s->RelV x v->s.heap.IsSliceOf sl vl vu .none->qq vl lo->qq vu hi->r x lo hi H Q->
  ∃T id,typeLookup (.type T) "__getitem__"=pure (some (.builtin id))/\s.TypeIs v T/\aB (aI X.prog X.w) X.A (getItem v (.ref sl)) (EP X pins σ Q) X.xe s
noncomputable def WA(r:V->Option Int->Option Int->Hp->VK->Prop)(te:TE)(tl th:TO):TE:=fun σ H Q=>te σ H fun x H1=>tl σ H1 fun l H2=>th σ H2 fun u H3=>r x l u H3 Q
theorem Hh{r:V->Option Int->Option Int->Hp->VK->Prop}(hr:UQ X r)(he:PE X e te)(hl:PO X lo tl)(hu:PO X hi th):PE X (.Subscript e (.Slice lo hi none p2) pos) (WA r te tl th):=by
 intro pins s σ H Q I h;refine Subscript_ (iL (he pins s σ H _ I h) fun v s1 ⟨x,H1,I1,r1,q1⟩=>?_);refine wpAny_Slice (iL (hl pins s1 σ H1 _ I1 q1) fun vl s2 ⟨l,H2,I2,pl,q2⟩=>iL (hu pins s2 σ H2 _ I2 q2) fun vu s3 ⟨u,H3,I3,pu,q3⟩=>?_);rw[evalPart_none];refine wu9 ?_;have I4:Inv X pins σ H3 { s3 with heap:=s3.heap.push { cls:=.type "slice",data:=.fields #[vl,vu,.none] } }:=I3.kept (t':=s3.toks) fun b ob q=>hp9 _ q;obtain⟨T,id,hT,ht,hg⟩:=hr pins { s3 with heap:=s3.heap.push { cls:=.type "slice",data:=.fields #[vl,vu,.none] } } σ H3 x v vl vu l u s3.heap.objs.size Q I4 r1 (Heap.IsSliceOf.new ..) pl pu q3;show aB (aI X.prog X.w) X.A (subscriptTail e (.Slice lo hi none p2) v (.ref s3.heap.objs.size)) (EP X pins σ Q) X.xe { s3 with heap:=s3.heap.push { cls:=.type "slice",data:=.fields #[vl,vu,.none] } };exact tail_any (ops:=[.ref s3.heap.objs.size,v]) ht hT hg (by with_unfolding_all rfl)
noncomputable def zk(xs:List V)(lo hi:Option Int):List V:=(xs.drop (HT.gG xs.length 0 lo)).take (HT.gG xs.length xs.length hi - HT.gG xs.length 0 lo)
theorem qX(xs:List V)(lo hi:Option Int):(zk xs lo hi).length<=xs.length:=by
 unfold zk;rw[gp,nr];omega
def Vc(K:aN):V->Option Int->Option Int->Hp->VK->Prop:=fun x lo hi H Q=>∃a xs,x=.ref a/\rV K H a xs/\
 ¬(HT.gG xs.length 0 lo=0/\HT.gG xs.length xs.length hi=xs.length)/\∀p,H p=none->Q (.ref p) (upd H p (.tup (zk xs lo hi)))
theorem Ol:UQ X (Vc X.K):=by
 intro pins s σ H x v vl vu lo hi sl Q I rx hs pl pu h;obtain⟨a,xs,rfl,hx,hw,q⟩:=h;cases rx;obtain⟨its,r,ht,hz⟩:=I.tuple hx;have hlen:its.toArray.size=xs.length:=by rw[aH];exact r.length.symm
 refine⟨"tuple",_,dh.lookup,ht.typeIs,?_⟩;refine HT.qe ht hs pl pu (by rw[hlen];exact hw) ?_ (by rw[hlen];exact hz);rw[hlen];refine⟨.ref s.heap.objs.size,_,I.laid (t':=s.toks) (o:=.tup (zk xs lo hi)) (fun b ob q=>hp9 _ q) (aK _) ?_,rfl,q _ (I.hok.fresh (aK _))⟩;exact⟨cP (qX xs lo hi) hz,_,(r.drop (HT.gG xs.length 0 lo)).take (HT.gG xs.length xs.length hi - HT.gG xs.length 0 lo),FR _ _⟩
noncomputable def RR(K:aN):R2:=fun x y H Q=>∃a b xs ys,x=.ref a/\y=.ref b/\rV K H a xs/\rV K H b ys/\xs≠[]/\xs.length+ys.length<=aP/\
 (ys=[]->Q (.ref a) H)/\(ys≠[]->∀p,H p=none->Q (.ref p) (upd H p (.tup (xs++ys))))
theorem cL.wk{xs:List V}{us:List ab}(r:cL xs us):us=[]↔xs=[]:=by
 cases r with
 | nil=>simp
 | cons _ _=>simp
theorem Lm:kM X (binaryOp .Add) (RR X.K):=by
 intro pins s σ H x y v u Q I rx ry h;obtain⟨a,b,xs,ys,rfl,rfl,ha,hb,hx,hz,q1,q2⟩:=h;cases rx;cases ry;obtain⟨its,r1,p1,_⟩:=I.tuple ha;obtain⟨its2,r2,p2,_⟩:=I.tuple hb;refine HT.My p1 p2 (fun z=>hx (r1.wk.mp z)) (fun z=>⟨.ref a,H,I,rfl,q1 (r2.wk.mp z)⟩) (fun z=>?_) (by rw[<-r1.length,<-r2.length];exact hz);refine⟨.ref s.heap.objs.size,_,I.laid (t':=s.toks) (o:=.tup (xs++ys)) (fun b ob q=>hp9 _ q) (aK _) ?_,rfl,q2 (fun w=>z (r2.wk.mpr w)) _ (I.hok.fresh (aK _))⟩;exact⟨by rw[ak];exact hz,_,r1.append r2,FR _ _⟩
end
noncomputable def JD(n:Nat)(i:Int):Option Nat:=if 0<=i then(if i<n then some i.toNat else none)else if -(n:Int)<=i then some (i+n).toNat else none
noncomputable def lN{α:Type}(xs:List α)(i:Int):Option α:=(JD xs.length i).bind fun j=>xs[j]?
theorem wA{n:Nat}{i:Int}{j:Nat}(h:JD n i=some j):seqIndex? i n=some j/\j<n/\-(n:Int)<=i/\i<n:=by
 unfold JD at h;by_cases h0:0<=i
 ·rw[if_pos h0]at h;by_cases h1:i<n
  ·rw[if_pos h1]at h;have e:i.toNat=j:=bw h;exact⟨by rw[JO h0 h1,e],by omega,by omega,h1⟩
  ·rw[if_neg h1]at h;cases h
 ·rw[if_neg h0]at h;by_cases h1:-(n:Int)<=i
  ·rw[if_pos h1]at h;have e:(i+n).toNat=j:=bw h;exact⟨by rw[FJ (by omega) h1,e],by omega,h1,by omega⟩
  ·rw[if_neg h1]at h;cases h
theorem wU{α:Type}{xs:List α}{i:Int}{v:α}(h:lN xs i=some v):∃j,seqIndex? i xs.length=some j/\xs[j]? = some v/\j<xs.length/\-(xs.length:Int)<=i/\i<xs.length:=by
 unfold lN at h
 cases e:JD xs.length i with
 | none=>rw[e]at h;cases h
 | some j=>
   rw[e]at h;obtain⟨h1,h2,h3,h4⟩:=wA e;exact⟨j,h1,h,h2,h3,h4⟩
theorem oy{α:Type}{xs:List α}{j:Nat}{v:α}(h:xs[j]? = some v):lN xs (j:Int)=some v:=by
 have hj:j<xs.length:=(be.mp h).1
 have e:JD xs.length (j:Int)=some j:=by
  unfold JD;rw[if_pos (by omega),if_pos (by omega)];simp
 unfold lN;rw[e];exact h
def wW(b:aO):Prop:=∀o i,subscripted b false o i=operate [o,i] (getItem o i)
def Rq(X:Cx)(r:R2):Prop:=
 ∀(value slice:aO) (pins:List (ag×fe)) (s:ae) (σ:St) (H:Hp) (x y:V) (v u:ab) (Q:VK),Inv X pins σ H s->RelV x v->RelV y u->r x y H Q->
  subscripted slice false v u=operate [v,u] (getItem v u)->aB (aI X.prog X.w) X.A (subscriptTail value slice v u) (EP X pins σ Q) X.xe s
def Ro(X:Cx)(id:String)(r:V->List V->Hp->VK->Prop):Prop:=
 ∀(pins:List (ag×fe)) (s:ae) (σ:St) (H:Hp) (x:V) (xs:List V) (v:ab) (us:List ab) (Q:VK),Inv X pins σ H s->RelV x v->cL xs us->r x xs H Q->
  aB (aI X.prog X.w) X.A (call (.builtin id) (v::us)) (EP X pins σ Q) X.xe s
section
variable{X:Cx}{a b:aO}{ta tb:TE}{pos:fS}
theorem R3{r:R2}(hr:Rq X r)(ha:PE X a ta)(hb:PE X b tb)(hs:wW b):PE X (.Subscript a b pos) (Rz r ta tb):=by
 intro pins s σ H Q I h;exact Subscript_ (QI ha hb I h fun v u s2 x y H2 I2 rx ry q=>hr a b pins s2 σ H2 x y v u Q I2 rx ry q (hs _ _))
noncomputable def Vg(K:aN):R2:=fun x y H Q=>∃p xs i v,x=.ref p/\y=.int i/\nF K H p xs/\lN xs i=some v/\Q v H
noncomputable def Ve(K:aN):R2:=fun x y H Q=>∃p xs i v,x=.ref p/\y=.int i/\rV K H p xs/\lN xs i=some v/\Q v H
noncomputable def Vf:R2:=fun x y H Q=>∃z i c,x=.str z/\y=.int i/\z.length<=aP/\lN z.cps.toList i=some c/\Q (.str ⟨#[c]⟩) H
theorem LN:Rq X (Vg X.K):=by
 intro value slice pins s σ H x y v u Q I rx ry h hs;obtain⟨p,xs,i,z,rfl,rfl,hq,he,q⟩:=h;cases rx;obtain⟨t,rfl⟩:=ry;obtain⟨its,r,pl,hz⟩:=I.list hq;obtain⟨j,h1,h2,h3,h4,h5⟩:=wU he;obtain⟨w,ew,rw'⟩:=r.get h2;have hl:=r.length;have hn:=oY;have fin:EP X pins σ Q w s:=⟨z,H,I,rw',q⟩
 by_cases h0:0<=i
 ·have hj:i.toNat=j:=by
   rw[JO h0 h5]at h1;exact bw h1
  exact item_listR pl.isList h0 (by omega) (by rw[hj];simpa using ew) fin hs
 ·have hj:(i+(its.toArray.size:Int)).toNat=j:=by
   rw[FJ (by omega) h4]at h1;rw[aH,<-hl];exact bw h1
  exact FQ (x:=w) pl.isList.typeIs slot_list_getitem.lookup
   (wpAny_getItem_list_neg (Q:=fun r s'=>r=w/\EP X pins σ Q r s') pl.isList (by omega) (by rw[aH]<;>omega) (by omega) (by rw[hj];simpa using ew) ⟨rfl,fin⟩) hs
theorem PR:Rq X (Ve X.K):=by
 intro value slice pins s σ H x y v u Q I rx ry h hs;obtain⟨p,xs,i,z,rfl,rfl,hq,he,q⟩:=h;cases rx;obtain⟨t,rfl⟩:=ry;obtain⟨its,r,pl,hz⟩:=I.tuple hq;obtain⟨j,h1,h2,h3,h4,h5⟩:=wU he;obtain⟨w,ew,rw'⟩:=r.get h2;have hl:=r.length;have hn:=oY;have fin:EP X pins σ Q w s:=⟨z,H,I,rw',q⟩
 exact FQ (x:=w) pl.typeIs slot_tuple_getitem.lookup
  (getItem_tuple (j:=j) (Q:=fun r s'=>r=w/\EP X pins σ Q r s') pl (by omega) (by omega) (by rw[aH,<-hl];exact h1) (by simpa using ew) ⟨rfl,fin⟩) hs
theorem PU:Rq X Vf:=by
 intro value slice pins s σ H x y v u Q I rx ry h hs;obtain⟨z,i,c,rfl,rfl,hz,he,q⟩:=h;obtain⟨t,rfl⟩:=rx;obtain⟨t',rfl⟩:=ry;obtain⟨j,h1,h2,h3,h4,h5⟩:=wU he;have hl:z.cps.toList.length=z.length:=by simp[Str.length]
 rw[hl]at h1 h4 h5;have hn:=oY
 exact tail_any (typeIs_str s z t) slot_str_getitem.lookup (getItem_str (c:=c) (by
  have e1:decide (i < -(2 ^ 63:Int))=false:=decide_eq_false (by omega);have e2:decide (i>=2 ^ 63)=false:=decide_eq_false (by omega)
  rw[e1,e2,Bool.or_false]) (by rw[h1];simpa using h2) ⟨.str ⟨#[c]⟩,H,I.tok _,⟨_,rfl⟩,q⟩) hs
theorem Bi(its:List ab)(n j:Nat)(u:ab):en (·.setIfInBounds j u) { cls:=.type "list",data:=.seq its.toArray n }={ cls:=.type "list",data:=.seq (its.set j u).toArray n }:=by
 simp[en]
theorem Inv.lst{pins:List (ag×fe)}{σ:St}{H:Hp}{s:ae}{p:ag}{xs:List V}(I:Inv X pins σ H s)(h:H p=some (.lst xs)) :
  ∃(its:List ab) (n:Nat),cL xs its/\s.heap.get? p=some { cls:=.type "list",data:=.seq its.toArray n }/\xs.length<=aP:=by
 obtain⟨z,its,n,r,e⟩:=I.hok p _ h;exact⟨its,n,r,e,z⟩
theorem Inv.Pz{pins:List (ag×fe)}{σ:St}{H:Hp}{s:ae}{p:ag}{xs ys:List V}{its its':List ab}{n n':Nat}{f:fe->fe}(I:Inv X pins σ H s)(h:H p=some (.lst xs))
  (ho:s.heap.get? p=some { cls:=.type "list",data:=.seq its.toArray n })(hf:f { cls:=.type "list",data:=.seq its.toArray n }={ cls:=.type "list",data:=.seq its'.toArray n' })(r:cL ys its')(hz:ys.length<=aP)(t:Nat) :
  Inv X pins σ (upd H p (.lst ys)) { s with heap:=s.heap.update p f,toks:=t }:=by
 have e:(s.heap.update p f).get? p=some { cls:=.type "list",data:=.seq its'.toArray n' }:=by
  rw[hX f ho (by rw[hf]<;>rfl),hf]
 refine I.write (x:=p) (e:=p) (by rw[h];trivial) (.inl rfl) (fun b u hb q=>(jC _ _ (fD hb)).trans q) ⟨_,e⟩ ?_;exact⟨hz,its',n',r,e⟩
def Nk:V->V->V->Hp->(Hp->Prop)->Prop:=fun o i v H Q=>∃p xs k j,o=.ref p/\i=.int k/\H p=some (.lst xs)/\JD xs.length k=some j/\Q (upd H p (.lst (xs.set j v)))
theorem set_list:TH X Nk:=by
 intro pins s σ H o i v ov iv u Q I ro ri rv h;obtain⟨p,xs,k,j,rfl,rfl,hp,hj,q⟩:=h;cases ro;obtain⟨t,rfl⟩:=ri;obtain⟨its,n,r,ho,hz⟩:=I.lst hp;obtain⟨h1,h2,h3,h4⟩:=wA hj;have hl:=r.length;have hn:=oY
 have I':Inv X pins σ (upd H p (.lst (xs.set j v))) { s with heap:=s.heap.update p (en (·.setIfInBounds j u)) }:=
  I.Pz hp ho (Bi its n j u) (r.set rv j) (by rw[List.length_set];exact hz) s.toks
 by_cases h0:0<=k
 ·have hk:k.toNat=j:=by
   rw[JO h0 h4]at h1;exact bw h1
  exact PySem.W.ki_setAt ho h0 (by omega) (by rw[aH,<-hl];exact h4) (by rw[hk];exact⟨_,I',q⟩)
 ·have hk:(k+(its.toArray.size:Int)).toNat=j:=by
   rw[FJ (by omega) h3]at h1;rw[aH,<-hl];exact bw h1
  exact PySem.W.ki_setBack ho (by omega) (by rw[aH,<-hl];exact h3) (by omega) (by rw[hk];exact⟨_,I',q⟩)
theorem v5(lo hi:Option Int)(n:Nat):(sliceBounds lo hi none n).1=((HT.gG n 0 lo:Nat):Int)/\(sliceBounds lo hi none n).2.1=((HT.gG n n hi:Nat):Int)/\(sliceBounds lo hi none n).2.2=1:=by
 refine⟨?_,?_,rfl⟩
 ·cases lo with
  | none=>simp[sliceBounds,HT.gG]
  | some i=>
    simp only[sliceBounds,HT.gG,Fv,show(1:Int) > 0 by decide,if_true];by_cases h:i<0
    ·simp only[h,if_true]<;>omega
    ·simp only[h,if_false]<;>omega
 ·cases hi with
  | none=>simp[sliceBounds,HT.gG]
  | some i=>
    simp only[sliceBounds,HT.gG,Fv,show(1:Int) > 0 by decide,if_true];by_cases h:i<0
    ·simp only[h,if_true]<;>omega
    ·simp only[h,if_false]<;>omega
theorem uC(its:List ab)(lo hi:Option Int):slicePick its.toArray lo hi none=((its.drop (HT.gG its.length 0 lo)).take (HT.gG its.length its.length hi - HT.gG its.length 0 lo)).toArray:=by
 obtain⟨h1,h2,h3⟩:=v5 lo hi its.toArray.size;unfold slicePick;rw[h1,h2,h3];simp only[sliceRange_one,pick_run,aH]<;>rfl
def Vd(K:aN):V->Option Int->Option Int->Hp->VK->Prop:=fun x lo hi H Q=>∃a xs,x=.ref a/\nF K H a xs/\∀p,H p=none->Q (.ref p) (upd H p (.lst (zk xs lo hi)))
theorem Ua:UQ X (Vd X.K):=by
 intro pins s σ H x v vl vu lo hi sl Q I rx hs pl pu h;obtain⟨a,xs,rfl,hx,q⟩:=h;cases rx;obtain⟨its,r,ht,hz⟩:=I.list hx;have hlen:=r.length;refine⟨"list",_,slot_list_getitem.lookup,ht.isList.typeIs,?_⟩;refine wpAny_getItem_list_slice ht.isList hs pl pu .none (by simp) ?_ (by rw[aH]<;>omega);rw[uC,<-hlen];refine⟨.ref s.heap.objs.size,_,I.laid (t':=s.toks) (o:=.lst (zk xs lo hi)) (fun b ob q=>hp9 _ q) (aK _) ?_,rfl,q _ (I.hok.fresh (aK _))⟩;exact⟨cP (qX xs lo hi) hz,_,0,(r.drop (HT.gG xs.length 0 lo)).take (HT.gG xs.length xs.length hi - HT.gG xs.length 0 lo),aQ _ rfl⟩
theorem qj:og X (.builtin "len") (fun xs H Q=>∃p ys,xs=[.ref p]/\(nF X.K H p ys\/rV X.K H p ys)/\Q (.int ys.length) H):=by
 intro pins s σ H xs us Q I r h;obtain⟨p,ys,rfl,hq,q⟩:=h;obtain⟨u,rfl,rx⟩:=vals1 r;cases rx;have hn:=oY
 rcases hq with hq|hq
 ·obtain⟨its,r',pl,hz⟩:=I.list hq;have hlen:=r'.length;exact Calls.call_len_list pl.isList (by simp only[aH]<;>omega) ⟨.int ys.length,H,I.tok _,⟨s.toks+1,by rw[aH,hlen]⟩,q⟩
 ·obtain⟨its,r',pl,hz⟩:=I.tuple hq;have hlen:=r'.length;exact len_tuple pl (by simp only[aH]<;>omega) ⟨.int ys.length,H,I.tok _,⟨s.toks+1,by rw[aH,hlen]⟩,q⟩
theorem wM:og X (.builtin "len") (fun xs H Q=>∃z,xs=[.str z]/\z.length<=aP/\Q (.int z.length) H):=by
 intro pins s σ H xs us Q I r h;obtain⟨z,rfl,hz,q⟩:=h;obtain⟨u,rfl,t,rfl⟩:=vals1 r;have hn:=oY;exact len_str (by omega) ⟨.int z.length,H,I.tok _,⟨_,rfl⟩,q⟩
theorem oQ:og X (.type "tuple") (fun xs H Q=>∃p ys,xs=[.ref p]/\((nF X.K H p ys/\∀l,H l=none->Q (.ref l) (upd H l (.tup ys)))\/(rV X.K H p ys/\Q (.ref p) H))):=by
 intro pins s σ H xs us Q I r h;obtain⟨p,ys,rfl,h⟩:=h;obtain⟨u,rfl,rx⟩:=vals1 r;cases rx
 rcases h with⟨hq,q⟩|⟨hq,q⟩
 ·obtain⟨its,r',pl,hz⟩:=I.list hq;have hlen:=r'.length;refine call_tuple_list pl.isList (fun h' kp=>?_) (by simp only[aH]<;>omega);have I1:Inv X pins σ H { s with heap:=h' }:=I.kept (t':=s.toks) kp
  have I2:Inv X pins σ (upd H h'.objs.size (.tup ys)) { s with heap:=h'.push { cls:=.type "tuple",data:=.seq its.toArray } }:=
   I1.laid (t':=s.toks) (fun b o e=>hp9 _ e) (aK _) (show iT X.prog X.w _ _ _ (.tup ys)from⟨hz,its,r',FR _ _⟩)
  exact⟨.ref h'.objs.size,_,I2,rfl,q _ (I1.hok.fresh (aK _))⟩
 ·obtain⟨its,r',pl,hz⟩:=I.tuple hq;exact call_tuple_same pl ⟨.ref p,H,I,rfl,q⟩
def UY(K:aN)(T:String)(x:V)(H:Hp):Prop:=match x with
 | .str _=>T="str"
 | .int _=>T="int"
 | .ref p=>(T="list"/\∃xs,nF K H p xs)\/(T="tuple"/\∃o,K.lookup p=some o/\o.cls=.type "tuple"/\o.dict=none)\/
   (T="dict"/\((∃kvs,H p=some (.dK kvs))\/∃kvs,H p=some (.dT kvs)))\/(T="set"/\∃S n,H p=some (.set S n))
 | _=>False
theorem Gb{pins:List (ag×fe)}{σ:St}{H:Hp}{s:ae}{T:String}{x:V}{v:ab}(I:Inv X pins σ H s)(r:RelV x v)(ty:UY X.K T x H) :
  s.TypeIs v T/\∀a,v=.ref a->∃ob,s.heap.get? a=some ob/\ob.dict=none:=by
 cases x with
 | str z=>
   obtain⟨t,rfl⟩:=r;cases(show T="str" from ty);exact⟨typeIs_str s z t,fun _ e=>nomatch e⟩
 | int i=>
   obtain⟨t,rfl⟩:=r;cases(show T="int" from ty);exact⟨typeIs_int s i t,fun _ e=>nomatch e⟩
 | ref p=>
   cases r
   rcases ty with⟨rfl,xs,hq⟩|⟨rfl,o,hk,hc,hd⟩|⟨rfl,hk⟩|⟨rfl,S,n,hk⟩
   ·obtain⟨its,_,pl,_⟩:=I.list hq;refine⟨pl.isList.typeIs,fun a e=>?_⟩;cases e;obtain⟨o,n,e,c,hd,_⟩:=pl;exact⟨o,e,hd⟩
   ·refine⟨⟨o,I.Bl p o hk,hc⟩,fun a e=>?_⟩;cases e;exact⟨o,I.Bl _ o hk,hd⟩
   ·have z:∃o,s.heap.get? p=some o/\o.ExactDict:=by
     rcases hk with⟨kvs,hk⟩|⟨kvs,hk⟩
     ·obtain⟨_,_,_,_,o,_,_,e,ex,_⟩:=I.hok p _ hk;exact⟨o,e,ex⟩
     ·obtain⟨_,_,_,_,o,_,_,e,ex,_⟩:=I.hok p _ hk;exact⟨o,e,ex⟩
    obtain⟨o,e,ex⟩:=z;refine⟨⟨o,e,ex.1⟩,fun a e2=>?_⟩;cases e2;exact⟨o,e,ex.2.1⟩
   ·obtain⟨o,_,_,_,e,ex,_⟩:=I.hok p _ hk;refine⟨⟨o,e,ex.1⟩,fun a e2=>?_⟩;cases e2;exact⟨o,e,ex.2.1⟩
 | _=>exact iA ty
noncomputable def RE(K:aN)(T:String)(r:V->List V->Hp->VK->Prop)(to:TE):TE:=fun σ H Q=>to σ H fun x H1=>UY K T x H1/\r x [] H1 Q
noncomputable def T9(K:aN)(T:String)(r:V->List V->Hp->VK->Prop)(to:TE)(t:TA):TE:=fun σ H Q=>to σ H fun x H1=>UY K T x H1/\t σ H1 fun xs H2=>r x xs H2 Q
variable{o e:aO}{es:List aO}{to:TE}{t:TA}{name:bh}{apos cpos:fS}{T id:String}{r:V->List V->Hp->VK->Prop}
theorem O1(pa:PlainAttrs T)(slot:Slot T name id)(hty:typeOf (.builtin id)=pure (.type "method_descriptor"))(hm:Ro X id r)(ho:PE X o to)
  (hbase:attributeBase o name X.env (eval o X.env)=eval o X.env:=by rfl)(hline:(apos.endLine == cpos.line)=true:=by rfl):PE X (.Call (.Attribute o name apos) [] [] cpos) (RE X.K T r to):=by
 intro pins s σ H Q I h;refine wpAny_Call_method0_late hbase hline (iL (ho pins s σ H _ I h) fun v s1 ⟨x,H1,I1,r1,ty,q1⟩=>?_);obtain⟨h1,h2⟩:=Gb I1 r1 ty;exact⟨T,id,pa,slot,hty,h1,h2,xD rfl (PySem.evalArgs_none (hm pins s1 σ H1 x [] v [] Q I1 r1 .nil q1))⟩
theorem CB(pa:PlainAttrs T)(slot:Slot T name id)(hty:typeOf (.builtin id)=pure (.type "method_descriptor"))(hm:Ro X id r)(ho:PE X o to)(ha:PA X (e::es) t)
  (hbase:attributeBase o name X.env (eval o X.env)=eval o X.env:=by rfl)
  (hfew:((backTo cpos (bp (e::es) X.env)).all (fun x=>!x.1) && (backToKw cpos (keywordEach [] X.env)).all (fun x=>x.1.isSome)
   && decide ((e::es).length+([]:List qO).length+(if([]:List qO).isEmpty then 0 else 1)<30))=true:=by rfl)
  (hline:(apos.endLine == cpos.line)=true:=by rfl)(hs:bp (e::es) X.env=(false,eval e X.env)::bp es X.env:=by rfl)(hplain:(backTo cpos (bp es X.env)).any (·.1)=false:=by rfl) :
  PE X (.Call (.Attribute o name apos) (e::es) [] cpos) (T9 X.K T r to t):=by
 intro pins s σ H Q I h;refine wpAny_Call_method_late hbase hfew hline rfl (iL (ho pins s σ H _ I h) fun v s1 ⟨x,H1,I1,r1,ty,q1⟩=>?_);obtain⟨h1,h2⟩:=Gb I1 r1 ty;refine⟨T,id,pa,slot,hty,h1,h2,?_⟩;have hA:=ha cpos pins s1 σ H1 _ I1 q1;rw[hs]at hA ⊢;refine xD (by show(false || (backTo cpos (bp es X.env)).any (·.1))=false;rw[hplain]<;>rfl) (Calls.evalArgs_plain ?_);exact iL hA fun us s2 ⟨vs,H2,I2,r2,q2⟩=>hm pins s2 σ H2 x vs v us Q I2 r1 r2 q2
end
def Wj(X:Cx)(id:String)(r:V->List V->Hp->VK->Prop):Prop:=
 ∀(pins:List (ag×fe)) (s:ae) (σ:St) (H:Hp) (x:V) (xs:List V) (v:ab) (us:List ab) (Q:VK),Inv X pins σ H s->RelV x v->cL xs us->r x xs H Q->
  aB (aI X.prog X.w) X.A (call (.builtin id) (v::us)) (EP X pins σ Q) X.xe s
theorem cL.one:∀{x:V} {us:List ab},cL [x] us->∃u,us=[u]/\RelV x u
 | _,_,.cons r .nil=>⟨_,rfl,r⟩
section
variable{X:Cx}{pins:List (ag×fe)}{σ:St}{H:Hp}{s:ae}{l b:ag}{xs ys zs:List V}
theorem Inv.PC{its its':List ab}{n:Nat}{f:Array ab->Array ab}{t':Nat}(I:Inv X pins σ H s)(hH:H l=some (.lst xs))
  (e:s.heap.get? l=some { cls:=.type "list",data:=.seq its.toArray n })(hf:f its.toArray=its'.toArray)(hv:cL ys its')(hz:ys.length<=aP) :
  Inv X pins σ (upd H l (.lst ys)) { s with heap:=s.heap.update l (en f),toks:=t' }:=by
 have q:=PySem.IsL.update e f;rw[hf]at q;refine I.write (x:=l) (e:=l) (by rw[hH];exact trivial) (.inl rfl) (fun b' u hb hu=>(jC s.heap (en f) (fD hb)).trans hu) ⟨_,q⟩ ?_;exact⟨hz,its',_,hv,q⟩
theorem Inv.VF{its:List ab}{t':Nat}(I:Inv X pins σ H s)(hv:cL ys its)(hz:ys.length<=aP) :
  Inv X pins σ (upd H s.heap.objs.size (.lst ys)) { s with heap:=s.heap.push { cls:=.type "list",data:=.seq its.toArray },toks:=t' }:=
 I.laid (fun _ _ q=>hp9 _ q) (aK _) ⟨hz,its,0,hv,aQ _ rfl⟩
theorem Inv.fresh(I:Inv X pins σ H s):H s.heap.objs.size=none:=I.hok.fresh (aK _)
theorem Inv.PB(I:Inv X pins σ H s)(hH:H l=some (.lst xs)):xs.length<=aP/\∃(its:List ab) (n:Nat),cL xs its/\xs.length=its.length/\s.heap.get? l=some { cls:=.type "list",data:=.seq its.toArray n }:=by
 obtain⟨z,its,n,r,e⟩:=I.hok l _ hH;exact⟨z,its,n,r,r.length,e⟩
theorem Hu{n:Nat}(h:n<=aP):fJ n=false:=by
 unfold fJ;exact decide_eq_false (by omega)
end
section
variable{X:Cx}
def Cr:V->List V->Hp->VK->Prop:=fun x vs H Q=>∃l xs y,x=.ref l/\vs=[y]/\H l=some (.lst xs)/\xs.length<aP/\Q .non (upd H l (.lst (xs++[y])))
theorem Er:Wj X "list.append" Cr:=by
 intro pins s σ H x vs v us Q I rx rv h;obtain⟨l,xs,y,rfl,rfl,hH,hz,q⟩:=h;cases rx;obtain⟨u,rfl,ru⟩:=rv.one;obtain⟨z,its,n,r,hl,e⟩:=I.PB hH;refine zU uo ⟨_,e,rfl⟩ F.entry_list_append (F.args_list_append_2 _ _) (PySem.list_append l its.toArray n u (by rw[aH];omega)) ⟨e,?_⟩;refine⟨.non,_,I.PC (its':=its++[u]) hH e (by simp) (r.append (.cons ru .nil)) ?_,rfl,q⟩;rw[ak,Ac];omega
end
section
variable{prog:aS}{w:bA}{A:bC}{E:ab->ae->Prop}{s:ae}
end
section
variable{X:Cx}
end
end L2
namespace Att
open PySem PySem.W PySem.Calls PyProof.Rows
theorem rq{P:Params}{h:bP}:∀(ns:List Int) (vs:List ab),WellAll P h vs (ns.map WData.int)->FT vs ns:=by
 intro ns
 induction ns with
 | nil=>
   intro vs w;rw[cF]at w;cases w;exact .nil
 | cons n ns ih=>
   intro vs w;rw[aq]at w
   cases w with
   | cons a b=>
     cases a;exact .cons _ _ (ih _ b)
theorem D9{l:iU}{n:Nat}(hn:l.most=some n){P:Params}{h:bP}{args:List WData}{vals:List ab}
  (hpre:l.row.toRowW.claim.pre args=true)(hwl:WellAll P h vals args) :
  ∃a vs ns,vals=[bZ a]/\args=[WData.list (ns.map WData.int)]/\h.get? a=some { cls:=.type "list",data:=.seq vs.toArray }/\FT vs ns/\ns.length<=n:=by
 have hsh:WShape.hasAll [] args [.list .int]=true:=(pre_splitW hpre).1;have hc:l.pre.holds [] { args:=args }=true:=(pre_splitW hpre).2;obtain⟨d,r,rfl,h1,h2⟩:=hasAllW_cons hsh;obtain rfl:=hasAllW_nil h2;obtain⟨xs,rfl,h3⟩:=hasW_list h1;obtain⟨ns,rfl⟩:=items_int h3
 have hlen:ns.length<=n:=by
  unfold OpenLaw.pre at hc
  have h4:(WTm.not (.lt (.lit (.int (n:Int))) (.len (.arg 0)))).holds [] { args:=[.list (ns.map .int)] }=true:=by
   have h4:=(holds_andW hc).1;rw[hn]at h4;exact h4
  have h5:=condW_of h4 (w_not (w_lt w_lit (w_len_list (w_arg rfl))));rw[aG]at h5;refine Nat.le_of_not_lt fun q=>?_;have q':(n:Int)<((ns.length:Nat):Int):=by omega
  first
   | (rw[decide_eq_true q']at h5;exact absurd h5 (by decide))
   | (simp at h5;omega)
 cases hwl with
 | cons w1 w2=>
   cases w2
   cases w1 with
   | list ho hall=>exact⟨_,_,ns,rfl,rfl,ho,rq ns _ hall,hlen⟩
theorem El(l:iU)(args:List WData):l.row.toRowW.claim.post args (.bool true) args=true:=
 postW_of (r:=l.row.toRowW) (X:=(true == true))
  (show WShape.has [] (.bool true) .bool=true by first|rfl|decide|simp[WShape.has,WShape.arms,WShape.armsAll])
  (show(WTm.eq .res (.lit (.bool true))).value [] { args:=args,res:=some (.bool true),after:=args }=some (.bool (true == true))from w_eq_bool (w_res rfl) w_lit) rfl
theorem zI{l:iU}{n:Nat}{q:aS}{loose:List bh}{XP:(bh->Option ab)->bP->Prop}{YP:bA->bP->Prop}{d:DefRec}
  (hn:l.most=some n)(hdf:d.params.defaults=[])
  (call:∀(w:bA) (s₀ s₁:ae) (mg mb:bh->Option ab) (fa:ag) (o:fe) (pm cd doc:ab) (a:ag) (vs:List ab) (ns:List Int),
   Ground q loose [] XP w s₀ mg mb s₁.heap->YP w s₁.heap->
   s₁.heap.get? fa=some o->o.data=.func (docDef d.name d.params d.body d.scope pm cd doc)->s₁.heap.CodeRec cd d.name->mg d.name=some (.ref fa)->
   s₁.heap.get? a=some { cls:=.type "list",data:=.seq vs.toArray }->FT vs ns->ns.length<=n->s₁.gens=#[]->
   codeAny (aI l.prog w) callerA (.call (.ref fa) ⟨[.ref a],[]⟩) (fun r s'=>r=.ok (.ret (.bool true))/\OldK s₁.heap s'.heap/\s'.os=s₁.os/\nK s'.gens) s₁) :
  ue q loose XP YP l.row.toRowW d [] (fun f vs=>DM f vs):=by
 intro w s₀ s₁ mg mb G Y fa o pm cd doc dV kV ho hd hcd hD hmg hg args vals as hpre hlay hrd hwl hlo;obtain rfl:dV=.none:=Dflts.none hD hdf;obtain rfl:kV=.none:=Dflts.noKw hD;obtain⟨a,vs,ns,rfl,rfl,hobj,hints,hlen⟩:=D9 hn hpre hwl;refine enter_call (ke (call w s₀ s₁ mg mb fa o pm cd doc a vs ns G Y ho (fd_plain hd) hcd hmg hobj hints hlen hg) fun r s' hq=>?_);obtain⟨rfl,h2,h3,h4⟩:=hq;exact⟨.inl ⟨.bool true,.bool true,[],rfl,fun _=>rfl,.bool true,El l _,fun _=>⟨uU,fun _ hm=>(nomatch hm)⟩⟩,h2,h3,h4⟩
section
variable{prog:aS}{w:bA}{A:bC}{E:ab->ae->Prop}{s:ae}{K:aN}
end
end Att
namespace L2
open PySem PySem.Spec PyProof.Rows
theorem uW:∀{vs:List ab} {ns:List Int},FT vs ns->cL (ns.map V.int) vs
 | _,_,.nil=>.nil
 | _,_,.cons n t h=>.cons ⟨t,rfl⟩ (uW h)
def QZ(H:Hp):Prop:=∀b,H b=none\/∃o xs,H b=some (.lL o (.lst xs))
theorem HN{P:aS}{w:bA}{K:aN}{mg mb:bh->Option ab}{CX:FI}{k:Nat}{fa a:ag}{fd:fj}{x:bh}{sp:Sp}{s₁:ae}{vs:List ab}{ns:List Int}
  (KX:K.In s₁.heap)(hns:s₁.heap.Ns mainGlobals mg)(hb:s₁.heap.Ns builtinsNs mb)(hbb:∀x:bh,x≠"__name__"->mb x=bootBuiltins x)(hlim:s₁.heap.NoLimit)(hg:s₁.gens=#[])
  (ha:s₁.heap.get? a=some { cls:=.type "list",data:=.seq vs.toArray })(hi:FT vs ns)(hl:ns.length<=aP)(hr:mI k callerA)
  (F:∀base:bP,K.In base->base.Ns mainGlobals mg->m8 P w K mg base CX k fa fd [x] sp)(hbind:∀(s:ae) (u:ab),uu s fd ⟨[u],[]⟩ [(x,u)])
  (hsp:∀H:Hp,QZ H->nF K H a (ns.map V.int)->sp [.ref a] H (fun v _=>v=.bl true) fun _ _ _=>False)
  (hCX:∀H e s',CX [] H s₁ (fun _ _ _=>False) e s'->False) :
  codeAny (aI P w) callerA (.call (.ref fa) ⟨[.ref a],[]⟩) (fun r s'=>r=.ok (.ret (.bool true))/\OldK s₁.heap s'.heap/\s'.os=s₁.os/\nK s'.gens) s₁:=by
 have rv:=uW hi;have lenV:=hi.length
 have core:∀H:Hp,QZ H->nF K H a (ns.map V.int)->qm P w H s₁.heap->(∀b,H b≠none->b=a)->(H a≠none->K.lookup a=none)->
   codeAny (aI P w) callerA (.call (.ref fa) ⟨[.ref a],[]⟩) (fun r s'=>r=.ok (.ret (.bool true))/\OldK s₁.heap s'.heap/\s'.os=s₁.os/\nK s'.gens) s₁:=by
  intro H hO hS hok hA hK;have base_of:∀{b:ag} {o:fe},s₁.heap.get? b=some o->H b=none->(wC s₁.heap H).get? b=some o:=fun e n=>Ie e n
  have noA:∀{b:ag} {o:fe} {es:Array DictEntry} {ep:Nat},s₁.heap.get? b=some o->o.data=.dict es ep->H b=none:=fun {b o es ep} e d=>by
   cases q:H b with
   | none=>rfl
   | some u=>
     have e':b=a:=hA b (by rw[q];simp);subst e';rw[ha]at e;cases e;have d':Data.seq vs.toArray _=Data.dict es ep:=d;cases d'
  have nsK:∀{b:ag} {m:bh->Option ab},s₁.heap.Ns b m->(wC s₁.heap H).Ns b m:=fun {b m} ⟨o,es,ep,e,d,r⟩=>⟨o,es,ep,base_of e (noA e d),d,r⟩
  have hKb:K.In (wC s₁.heap H):=fun b o e=>base_of (KX b o e) (by
   cases q:H b with
   | none=>rfl
   | some u=>
     have e':b=a:=hA b (by rw[q];simp);subst e'
     rw[hK (by rw[q];simp)]at e;cases e)
  have hM:Mod K mg (wC s₁.heap H):=⟨hKb,nsK hns,⟨mb,nsK hb,hbb⟩,let ⟨mc,h1,h2⟩:=hlim;⟨mc,nsK h1,h2⟩⟩
  have e0:gD P w K mg (wC s₁.heap H) callerA [] s₁ H:=⟨rfl,hM,fun b o e=>Lp e,Ab (EJ _ _),trivial,fun b hb=>absurd (show b∈([]:List ag)from hb) (by simp),hok,.of_eq hg⟩
  refine ke ((F _ hKb (nsK hns)).run callerA [] s₁ H ⟨[.ref a],[]⟩ [.ref a] [.ref a] _ _ hr e0 (hbind s₁ (.ref a)) (.cons rfl .nil) (hsp H hO hS)) fun r s' h=>?_
  cases r with
  | error e=>exact(hCX H e s' h).elim
  | ok fl=>
    cases fl with
    | next=>exact iA h
    | brk=>exact iA h
    | cont=>exact iA h
    | ret u=>
      obtain⟨v,H',os,bare,un,hok',r',q⟩:=h;have q':v=.bl true:=q;subst q';obtain rfl:u=uf true:=r';refine⟨rfl,OldK.of_keep fun b o e=>?_,os,bare⟩
      cases q:H b with
      | none=>exact un.keep b o e q (by intro z;exact absurd (show b∈([]:List ag)from z) (by simp)) (by simp)
      | some u=>
        rcases hO b with z|⟨ob,xs,z⟩
        ·rw[q]at z;cases z
        ·have z2:=un.frzs b ob _ z;obtain⟨e1,_⟩:=hok b _ z;obtain⟨e2,_⟩:=hok' b _ z2;rw[e]at e1;cases e1;exact e2
 cases hk:K.lookup a with
 | some o=>
   have e:=KX a o hk;rw[ha]at e;cases e;refine core (fun _=>none) (fun _=>.inl rfl) (.inr ⟨_,vs.toArray,_,hk,rfl,rfl,rfl,by rw[aH,lenV];exact hl,by simpa using rv⟩) (fun b u z=>by have z':(none:Option HO)=some u:=z;cases z') (fun b z=>absurd rfl z) fun z=>absurd rfl z
 | none=>
   refine core (fun b=>if b=a then some (.lL { cls:=.type "list",data:=.seq vs.toArray } (.lst (ns.map V.int)))else none) (fun b=>?_) (.inl (.inr ⟨{ cls:=.type "list",data:=.seq vs.toArray },if_pos rfl⟩)) (fun b u z=>?_) (fun b z=>?_) fun _=>hk
   ·by_cases hb:b=a
    ·exact .inr ⟨_,_,if_pos hb⟩
    ·exact .inl (if_neg hb)
   ·by_cases hb:b=a
    ·have z':=(if_pos hb).symm.trans z;cases z';subst hb;exact⟨ha,by rw[aG];exact hl,vs,_,rv,ha⟩
    ·have z':=(if_neg hb).symm.trans z;cases z'
   ·by_cases hb:b=a
    ·exact hb
    ·exact absurd (if_neg hb) z
noncomputable abbrev mf{K:aN}{h:bP}(_:K.In h):aN:=K
theorem J4{l:iU}{n k:Nat}{q:aS}{loose:List bh}{XP:(bh->Option ab)->bP->Prop}{YP:bA->bP->Prop}{d:DefRec}{K:Params->aN}{CX:bA->FI}{sp:bA->Sp}{x:bh}
  (hn:l.most=some n)(hn2:n<=aP)(hdf:d.params.defaults=[])(hr:mI k callerA)
  (hY:∀(w:bA) (h:bP),YP w h->(K w.params).In h)
  (F:∀(w:bA) (mg:bh->Option ab) (fa:ag) (h:bP),(K w.params).In h->h.Ns mainGlobals mg->mg d.name=some (.ref fa)->
   ∃fd:fj,(∀(s:ae) (u:ab),uu s fd ⟨[u],[]⟩ [(x,u)])/\
    ∀base:bP,(K w.params).In base->base.Ns mainGlobals mg->m8 l.prog w (K w.params) mg base (CX w) k fa fd [x] (sp w))
  (hsp:∀(w:bA) (H:Hp) (a:ag) (ns:List Int),ns.length<=n->QZ H->nF (K w.params) H a (ns.map V.int)->sp w [.ref a] H (fun v _=>v=.bl true) fun _ _ _=>False)
  (hCX:∀(w:bA) (H:Hp) (s:ae) (e:ab) (s':ae),CX w [] H s (fun _ _ _=>False) e s'->False) :
  ue q loose XP YP l.row.toRowW d [] (fun f vs=>DM f vs):=by
 refine Att.zI hn hdf fun w s₀ s₁ mg mb fa o pm cd doc a vs ns G Y ho hd hcd hmg hobj hints hlen hg=>?_;have KX:=hY w _ Y;obtain⟨fd,hb,hF⟩:=F w mg fa _ KX G.T.g hmg;exact HN KX G.T.g G.T.b G.T.builtins G.T.nolimit hg hobj hints (cP hlen hn2) hr hF hb (fun H hO hS=>hsp w H a ns hlen hO hS) fun H e s'=>hCX w H s₁ e s'
end L2
namespace L2
open PySem PySem.Spec PyProof.Rows
noncomputable def iF(s:jl):Arguments:=match s with
 | .FunctionDef _ a _ _ _ _ _ _ _ _=>a
 | _=>{ posonlyargs:=[],args:=[],vararg:=none,kwonlyargs:=[],kw_defaults:=[],kwarg:=none,defaults:=[] }
noncomputable def fZ(s:jl):List jl:=match s with
 | .FunctionDef _ _ b _ _ _ _ _ _ _=>b
 | _=>[]
noncomputable def dn(s:jl):fX:=match s with
 | .FunctionDef _ _ _ _ _ _ sc _ _ _=>sc
 | _=>{ kind:=.function,names:=[],isGenerator:=false,isCoroutine:=false }
noncomputable abbrev DH:FI:=fun _ _ _ _ _ _=>False
noncomputable abbrev E0:XK:=fun _ _ _=>False
theorem Nl{X:Cx}:wX DH X E0:=fun _ _ _ _ _ _ _ h=>h.elim
structure TV(K:aN)(x qual:bh)(st:jl)(f:ag)(fd:fj):Prop where
 ex:∃(oc:ab) (od:Option ag) (kV doc pm:ab) (an:Option ag) (cdv ct:ab) (osl:Array (Option ab)),
  fd=dz x qual (iF st) (fZ st) (dn st) .none kV doc pm an cdv ct/\K.lookup f=some ⟨oc,od,.func fd,osl⟩/\kP K cdv qual=true
 kp:eE K (.ref f)=true
section
variable{P:aS}{w:bA}{K:aN}{mg:bh->Option ab}{base:bP}
theorem TV.ok{x qual:bh}{st:jl}{f:ag}{fd:fj}{N ps:List bh}{k:Nat}{sp:Sp}(F:TV K x qual st f fd)(S:qk N ps (dn st))(len:∀vs H Q E,sp vs H Q E->vs.length=ps.length)
  (hbody:∀(cdv:ab) (A:bC) (outer:List uq) (s:ae) (H:Hp) (vs:List V) (Q:VK) (E:XK),mI k (A.deeper (envOfC qual (dn st) s.heap.objs.size f cdv))->sp vs H Q E->
   ∃t,zM (zj DH P w K mg base N qual (dn st) f cdv A outer s H E).Rb (fZ st) t/\t { nx:=fun _ H'=>Q .non H',rt:=Q } (start N vs) H):m8 P w K mg base DH (k+1) f fd ps sp:=by
 obtain⟨oc,od,kV,doc,pm,an,cdv,ct,osl,rfl,lk,hcd⟩:=F.ex;refine SN lk hcd S len fun A outer s H vs Q E hr hsp=>?_;obtain⟨t,h,q⟩:=hbody cdv A outer s H vs Q E hr hsp;exact⟨t,h.Rb,q⟩
theorem Qa{x qual:bh}{st:jl}{f:ag}{oc:ab}{od an:Option ag}{osl:Array (Option ab)}{kV doc pm cdv ct:ab}(l:K.lookup f=some ⟨oc,od,.func (dz x qual (iF st) (fZ st) (dn st) .none kV doc pm an cdv ct),osl⟩)
  (c:kP K cdv qual=true)(k:eE K (.ref f)=true):TV K x qual st f (dz x qual (iF st) (fZ st) (dn st) .none kV doc pm an cdv ct):=⟨⟨oc,od,kV,doc,pm,an,cdv,ct,osl,rfl,l,c⟩,k⟩
end
section
variable{X:Cx}
end
theorem EH{A B:Prop}(h:B):if false=true then A else B:=by
 rw[if_neg bI];exact h
theorem EG{A B:Prop}(h:A):if true=true then A else B:=by
 rw[if_pos rfl];exact h
def cu(H H':Hp):Prop:=∀b o,H b=some o->H' b=some o
theorem cu.refl(H:Hp):cu H H:=fun _ _ h=>h
theorem cu.trans{H H1 H2:Hp}(a:cu H H1)(b:cu H1 H2):cu H H2:=fun c o h=>b c o (a c o h)
theorem cu.free{H H':Hp}(e:cu H H'){l:ag}(h:H' l=Option.none):H l=Option.none:=by
 cases q:H l with
 | none=>rfl
 | some o=>
   rw[e l o q]at h;cases h
theorem cu.seq{K:aN}{H H':Hp}{a:ag}{xs:List V}(e:cu H H')(h:nF K H a xs):nF K H' a xs:=by
 rcases h with(h|⟨o,h⟩)|h
 ·exact .inl (.inl (e _ _ h))
 ·exact .inl (.inr ⟨o,e _ _ h⟩)
 ·exact .inr h
section
variable{κ:Type}[DecidableEq κ]
noncomputable def sr(kvs:List (κ×V))(k:κ):Option V:=(kvs.find? fun kv=>decide (kv.1=k)).map (·.2)
noncomputable def putK(kvs:List (κ×V))(k:κ)(v:V):List (κ×V):=
 if(kvs.any fun kv=>decide (kv.1=k))=true then kvs.map (fun kv=>if kv.1=k then(kv.1,v)else kv)else kvs++[(k,v)]
theorem sj{p:κ×V}{r:List (κ×V)}{k:κ}(e:p.1=k):sr (p::r) k=some p.2:=by simp[sr,je,e]
theorem sk{p:κ×V}{r:List (κ×V)}{k:κ}(e:¬p.1=k):sr (p::r) k=sr r k:=by simp[sr,je,e]
theorem yD(kvs:List (κ×V))(k:κ)(v:V):(putK kvs k v).length<=kvs.length+1:=by
 unfold putK;split
 ·rw[aG];omega
 ·rw[ak,bo,kF];omega
theorem KV.val{kvs:List (κ×V)}{vs:List (κ×ab)}(r:KV kvs vs)(k:κ):zL (sr kvs k) (valueAt vs k):=by
 unfold KV at r
 induction r with
 | nil=>exact j6
 | @cons p q ps qs h t ih=>
   obtain⟨h1,h2⟩:=h;by_cases e:p.1=k
   ·have e':q.1=k:=h1.symm.trans e;have b:valueAt (q::qs) k=some q.2:=by simp[valueAt,je,e']
    rw[sj e,b];exact h2
   ·have e':¬q.1=k:=fun z=>e (h1.trans z);have b:valueAt (q::qs) k=valueAt qs k:=by simp[valueAt,je,e']
    rw[sk e,b];exact ih
theorem KV.any{kvs:List (κ×V)}{vs:List (κ×ab)}(r:KV kvs vs)(k:κ):(kvs.any fun kv=>decide (kv.1=k))=vs.any fun kv=>decide (kv.1=k):=by
 unfold KV at r
 induction r with
 | nil=>rfl
 | cons h t ih=>rw[pO,pO,ih,h.1]
theorem KV.Vb{kvs:List (κ×V)}{vs:List (κ×ab)}(r:KV kvs vs)(k:κ){y:V}{u:ab}(ry:RelV y u) :
  KV (kvs.map fun kv=>if kv.1=k then(kv.1,y)else kv) (vs.map fun kv=>if kv.1=k then(kv.1,u)else kv):=by
 unfold KV at r ⊢
 induction r with
 | nil=>exact .nil
 | @cons p q ps qs h t ih=>
   rw[aq,aq];refine .cons ?_ ih;obtain⟨h1,h2⟩:=h;by_cases e:p.1=k
   ·rw[if_pos e,if_pos (h1.symm.trans e)];exact⟨h1,ry⟩
   ·rw[if_neg e,if_neg (fun z=>e (h1.trans z))];exact⟨h1,h2⟩
theorem KV.put{kvs:List (κ×V)}{vs:List (κ×ab)}(r:KV kvs vs)(k:κ){y:V}{u:ab}(ry:RelV y u):KV (putK kvs k y) (stored vs k u):=by
 unfold putK stored;rw[r.any k];by_cases e:(vs.any fun kv=>decide (kv.1=k))=true
 ·rw[if_pos e,if_pos e];exact r.Vb k ry
 ·rw[if_neg e,if_neg e];exact Paired.snoc r ⟨rfl,ry⟩
theorem KV.length{kvs:List (κ×V)}{vs:List (κ×ab)}(r:KV kvs vs):kvs.length=vs.length:=uL r
end
theorem C5{P:aS}{w:bA}{k:Key}{u:ab}(r:RelV (kV k) u):(cf P w).is k u=true:=by
 cases k with
 | inl i=>obtain⟨t,e⟩:=(show ∃t,u=FN i t from r);subst e;exact yv P w i t
 | inr x=>obtain⟨t,e⟩:=(show ∃t,u=FL x t from r);subst e;exact yu P w x t
theorem qH{P:aS}{w:bA}:∀{ks:List Key} {us:List ab},cL (ks.map kV) us->ItemsAre (cf P w) ks us
 | [],_,r=>by rw[cF]at r;cases r;exact .nil
 | k::ks,_,r=>by
   rw[aq]at r
   cases r with
   | cons h t=>exact .cons (C5 h) (qH t)
abbrev KT(H:Hp):List (List Key×V)->List (List Key×ag×ab)->Prop:=gR fun p q=>p.1=q.1/\H q.2.1=some (.tup (p.1.map kV))/\RelV p.2 q.2.2
theorem KT.val{H:Hp}{kvs:List (List Key×V)}{xs:List (List Key×ag×ab)}(r:KT H kvs xs)(k:List Key):zL (sr kvs k) ((atKey xs k).map (·.2)):=by
 induction r with
 | nil=>exact j6
 | @cons p q ps qs h t ih=>
   obtain⟨h1,_,h2⟩:=h;by_cases e:p.1=k
   ·have e':q.1=k:=h1.symm.trans e;have b:atKey (q::qs) k=some q.2:=by simp[atKey,je,e']
    rw[sj e,b];exact h2
   ·have e':¬q.1=k:=fun z=>e (h1.trans z);have b:atKey (q::qs) k=atKey qs k:=by simp[atKey,je,e']
    rw[sk e,b];exact ih
section
variable{P:aS}{w:bA}{H:Hp}{h:bP}{a:ag}
theorem Nj{u:HO}(ok:qm P w H h)(e:Rd H a u):iT P w H h a u:=e.ok ok
theorem Dp{kvs:List (Key×V)}(ok:qm P w H h)(e:Rd H a (.dK kvs)):kvs.length<=aP/\(a == sysModules)=false/\∃vs,KV kvs vs/\h.DictOf (cf P w) a vs:=
 show iT P w H h a (.dK kvs)from Nj ok e
theorem S0{kvs:List (Key×V)}(ok:qm P w H h)(e:H a=some (.dK kvs)):kvs.length<=aP/\(a == sysModules)=false/\∃vs,KV kvs vs/\h.DictOf (cf P w) a vs:=Dp ok (.inl e)
theorem HP{ks:List Key}(ok:qm P w H h)(e:H a=some (.tup (ks.map kV))):(tupleKind (cf P w)).is h ks a:=by
 obtain⟨_,its,r,o,h1,h2,n,h3⟩:=(show iT P w H h a (.tup (ks.map kV))from ok a _ e)
 exact⟨o,its.toArray,n,h1,h2,h3,by simpa using qH r⟩
theorem ND{kvs:List (List Key×V)}(ok:qm P w H h)(e:Rd H a (.dT kvs)):kvs.length<=aP/\(a == sysModules)=false/\
  ∃xs,KT H kvs xs/\h.DictOfH (tupleKind (cf P w)) a xs:=by
 obtain⟨z,y,xs,r,o,es,ep,h1,h2,h3,h4,h5⟩:=(show iT P w H h a (.dT kvs)from Nj ok e)
 refine⟨z,y,xs,r,o,es,ep,h1,h2,h3,h4,fun x hx=>?_,h5⟩
 have all:∀{l:List (List Key×V)} {m:List (List Key×ag×ab)},KT H l m->∀x∈m,(tupleKind (cf P w)).is h x.1 x.2.1:=by
  intro l m q
  induction q with
  | nil=>intro x hx;exact nomatch hx
  | @cons p q ps qs hq t ih=>
    intro x hx
    rcases ao.mp hx with e|hx
    ·subst e;exact HP ok (by rw[<-hq.1];exact hq.2.1)
    ·exact ih x hx
 exact all r x hx
end
def Fn(H:Hp)(a:ag)(y:V)(r:Option V):Prop:=
 (∃kvs k,Rd H a (.dK kvs)/\y=kV k/\r=sr kvs k)\/∃kvs k b,Rd H a (.dT kvs)/\y=.ref b/\H b=some (.tup (k.map kV))/\r=sr kvs k
theorem Fn.k{H:Hp}{a:ag}{kvs:List (Key×V)}{k:Key}(e:H a=some (.dK kvs)):Fn H a (kV k) (sr kvs k):=.inl ⟨kvs,k,.inl e,rfl,rfl⟩
section
variable{X:Cx}{pins:List (ag×fe)}{σ:St}{H:Hp}{s:ae}{a:ag}{y v:V}{u r:ab}{o:Option V}{A:bC}{E:ab->ae->Prop}
theorem Inv.UN(I:Inv X pins σ H s):sysModules<s.heap.objs.size:=by
 have h:mainGlobals<s.heap.objs.size:=(I.mod.glob.keeps I.bk).lt;exact jO (by decide) h
theorem EY{Q:ab->ae->Prop}(hu:A.units+1<dS)(I:Inv X pins σ H s)(g:Fn H a y (some v))(ry:RelV y u)(h:∀w' s',Inv X pins σ H s'->RelV v w'->Q w' s') :
  aB (aI X.prog X.w) A (getItem (.ref a) u) Q E s:=by
 rcases g with⟨kvs,k,e,ey,l⟩|⟨kvs,k,b,e,ey,eb,l⟩
 ·subst ey;obtain⟨z,hd,vs,rel,dd⟩:=Dp I.hok e;obtain⟨w',hw,rw'⟩:=zL.some_of (v:=v) (o:=valueAt vs k) (by rw[l];exact rel.val k);exact wpAny_getItem_of (C5 ry) dd.mapOf hw (h w' _ (I.tok _) rw')
 ·subst ey;cases(show u=bZ b from ry);obtain⟨z,hd,xs,rel,dd⟩:=ND I.hok e;obtain⟨w',hw,rw'⟩:=zL.some_of (v:=v) (o:=(atKey xs k).map (·.2)) (by rw[l];exact rel.val k);obtain⟨p,hp,hp2⟩:=fM hw;refine wpAny_getItem_heap (tupleKind_room_in1 hu) (HP I.hok eb) dd hp ?_;rw[hp2];exact h w' _ (I.tok _) rw'
theorem Mp{h':bP}{t':Nat}{ob:HO}(I:Inv X pins σ H s)(mu:TM (H a))(hs:cC a s.heap h')(he:∃q,h'.get? a=some q)(new:iT X.prog X.w (upd H a ob) h' a ob) :
  Inv X pins σ (upd H a ob) { s with heap:=h',toks:=t' }:=
 I.write (x:=a) (e:=a) mu (.inl rfl) (fun b q hb z=>(hs.2 b hb).trans z) he new
theorem Qo{P:aS}{w:bA}{H':Hp}{h':bP}{kvs:List (Key×V)}{vs:List (Key×ab)}(z:kvs.length<=aP)(hd:(a == sysModules)=false)(rel:KV kvs vs)(dd:h'.DictOf (cf P w) a vs) :
  iT P w H' h' a (.dK kvs):=⟨z,hd,vs,rel,dd⟩
end
section
variable{X:Cx}{pins:List (ag×fe)}{σ:St}{H:Hp}{s:ae}{a:ag}{kvs:List (Key×V)}{k:Key}{u:ab}{A:bC}{E:ab->ae->Prop}
theorem S6{Q:ab->ae->Prop}(I:Inv X pins σ H s)(e:Rd H a (.dK kvs))(h:∀t s',Inv X pins σ H s'->Q (.int kvs.length t) s'):aB (aI X.prog X.w) A (call (.builtin "len") [.ref a]) Q E s:=by
 obtain⟨z,hd,vs,rel,dd⟩:=Dp I.hok e;refine call_len_dict hd dd (by rw[<-rel.length];rw[cj]at z;omega) ?_;rw[<-rel.length];exact h _ _ (I.tok _)
end
theorem zi{X:Cx}{pins:List (ag×fe)}{σ:St}{H:Hp}{s:ae}{a:ag}{y:V}{o:Option V}(I:Inv X pins σ H s)(g:Fn H a y o):s.TypeIs (.ref a) "dict":=by
 rcases g with⟨kvs,k,e,_,_⟩|⟨kvs,k,b,e,_,_,_⟩
 ·obtain⟨_,_,vs,_,dd⟩:=Dp I.hok e;exact dd.typeIs
 ·obtain⟨_,_,xs,_,dd⟩:=ND I.hok e;exact dd.typeIs
section
variable{X:Cx}{o i e value:aO}{pos pos' tpos:fS}{td ty tv:TE}
end
theorem IH{P:aS}{w:bA}{H:Hp}(h:bP)(hb:sysModules<h.objs.size):iT P w H (h.push { cls:=.type "dict",data:=.dict #[] }) h.objs.size (.dK []):=
 ⟨dJ _,beq_eq_false_iff_ne.mpr (fD (bN hb)),[],.nil,Heap.DictOf.new h⟩
section
variable{X:Cx}{pos:fS}
end
noncomputable def sv:List (TE×TE)->St->Hp->(List (V×V)->Hp->Prop)->Prop
 | [],_,H,Q=>Q [] H
 | (tk,tv)::r,σ,H,Q=>tk σ H fun x H1=>tv σ H1 fun y H2=>sv r σ H2 fun ps H3=>Q ((x,y)::ps) H3
abbrev VV:List (V×V)->List (ab×ab)->Prop:=gR fun p q=>RelV p.1 q.1/\RelV p.2 q.2
def TJ(X:Cx)(pos:fS)(keys:List (Option aO))(values:List aO)(trs:List (TE×TE)):Prop:=
 ∀(pins:List (ag×fe)) (s:ae) (σ:St) (H:Hp) (Q:List (V×V)->Hp->Prop),Inv X pins σ H s->sv trs σ H Q->
  aB (aI X.prog X.w) X.A (evalPairs (pairTrees keys values X.env pos)) (fun vs s'=>∃ps H',Inv X pins σ H' s'/\VV ps vs/\Q ps H') X.xe s
theorem K4{X:Cx}{pos:fS}:TJ X pos [] [] []:=fun pins s σ H Q I h=>pairTrees_nil_walk ⟨[],H,I,.nil,h⟩
theorem G8{X:Cx}{pos:fS}{k v:aO}{ks:List (Option aO)}{vs:List aO}{tk tv:TE}{trs:List (TE×TE)}(hk:PE X k tk)(hv:PE X v tv)(hr:TJ X pos ks vs trs) :
  TJ X pos (some k::ks) (v::vs) ((tk,tv)::trs):=fun pins s σ H Q I h=>
 pairTrees_cons_walk (iL (hk pins s σ H _ I h) fun u s1 ⟨x,H1,I1,rx,q1⟩=>iL (hv pins s1 σ H1 _ I1 q1) fun w2 s2 ⟨y,H2,I2,ry,q2⟩=>
  iL (hr pins s2 σ H2 _ I2 q2) fun ws s3 ⟨ps,H3,I3,rel,q3⟩=>⟨(x,y)::ps,H3,I3,.cons ⟨rx,ry⟩ rel,q3⟩)
noncomputable def oW(kvs more:List (Key×V)):List (Key×V):=more.foldl (fun acc kv=>putK acc kv.1 kv.2) kvs
theorem KV.merge:∀{more:List (Key×V)} {rs:List (Key×ab)} {kvs:List (Key×V)} {vs:List (Key×ab)},KV more rs->KV kvs vs->KV (oW kvs more) (merged vs rs):=by
 intro more rs kvs vs r;unfold KV at r
 induction r generalizing kvs vs with
 | nil=>intro q;exact q
 | @cons p q ps qs h t ih=>
   intro r0
   have e:KV (putK kvs p.1 p.2) (stored vs q.1 q.2):=by
    have:=r0.put p.1 h.2;rw[<-h.1];exact this
   exact ih e
theorem oM:∀(more kvs:List (Key×V)),(oW kvs more).length<=kvs.length+more.length
 | [],kvs=>by show kvs.length<=kvs.length+0;omega
 | p::r,kvs=>by
   have h1:=oM r (putK kvs p.1 p.2);have h2:=yD kvs p.1 p.2;show(oW (putK kvs p.1 p.2) r).length<=_;rw[bo];omega
theorem tR{P:aS}{w:bA}:∀{kvs:List (Key×V)} {ws:List (ab×ab)},VV (kvs.map fun kv=>(kV kv.1,kv.2)) ws->∃rs,Carries (cf P w) ws rs/\KV kvs rs
 | [],_,r=>by rw[cF]at r;cases r;exact⟨[],j6,.nil⟩
 | p::kvs,_,r=>by
   rw[aq]at r
   cases r with
   | @cons a b as bs h t=>
     obtain⟨rs,c,q⟩:=tR (P:=P) (w:=w) t;obtain⟨b1,b2⟩:=b;exact⟨(p.1,b2)::rs,⟨C5 h.1,rfl,c⟩,.cons ⟨rfl,h.2⟩ q⟩
noncomputable def RC(trs:List (TE×TE)):TE:=fun σ H Q=>∀p,H p=none->sv trs σ (upd H p (.dK [])) fun ps H2=>H2 p=some (.dK [])/\∃kvs:List (Key×V),ps=kvs.map (fun kv=>(kV kv.1,kv.2))/\kvs.length<=15/\Q (.ref p) (upd H2 p (.dK (oW [] kvs)))
theorem Lb{X:Cx}{pos:fS}{keys:List (Option aO)}{values:List aO}{trs:List (TE×TE)}(h:TJ X pos keys values trs)(hall:keys.all (·.isSome)=true)(hl:keys.length=values.length)(h0:keys≠[])
  (h15:keys.length<=15):PE X (.Dict keys values pos) (RC trs):=by
 intro pins s σ H Q I q;have hn:=I.hok.fresh (aK s.heap.objs.size);have I1:=I.laid (a:=s.heap.objs.size) (o:=.dK []) (h':=s.heap.push { cls:=.type "dict",data:=.dict #[] }) (t':=s.toks) (fun _ _ q=>hp9 _ q) (aK _) (IH s.heap I.UN);refine wpAny_Dict_walk (knd:=cf X.prog X.w) hall hl h0 h15 (iL (h pins _ σ _ _ I1 (q _ hn)) fun ws s2 ⟨ps,H2,I2,rel,e,kvs,ep,lk,q2⟩=>?_);subst ep;obtain⟨rs,c,rk⟩:=tR (P:=X.prog) (w:=X.w) rel;obtain⟨z,hd,vs0,r0,dd⟩:=S0 I2.hok e;cases r0;refine⟨rs,c,dd,fun h' dd' hs=>⟨.ref s.heap.objs.size,_,?_,rfl,q2⟩⟩
 have hz:(oW [] kvs).length<=aP:=by
  have h1:=oM kvs [];rw[kF]at h1;rw[cj];omega
 have he:∃q,h'.get? s.heap.objs.size=some q:=let ⟨q,_,_,hq,_⟩:=dd';⟨q,hq⟩;exact Mp I2 (by rw[e];exact j6) hs he (Qo hz hd (rk.merge .nil) dd')
structure M1(X:Cx)(o:aO)(m:bh)(apos:fS)(e:aO)(cpos:fS):Prop where
 base:attributeBase o m X.env (eval o X.env)=eval o X.env
 few:((backTo cpos (bp [e] X.env)).all (fun x=>!x.1) && (backToKw cpos (keywordEach [] X.env)).all (fun x=>x.1.isSome)
  && decide (([e]:List aO).length+([]:List qO).length+(if([]:List qO).isEmpty then 0 else 1)<30))=true
 line:(apos.endLine == cpos.line)=true
 trees:backTo cpos (bp [e] X.env)=[(false,eval e X.env)]
structure M2(X:Cx)(o:aO)(m:bh)(apos:fS)(e f:aO)(cpos:fS):Prop where
 base:attributeBase o m X.env (eval o X.env)=eval o X.env
 few:((backTo cpos (bp [e,f] X.env)).all (fun x=>!x.1) && (backToKw cpos (keywordEach [] X.env)).all (fun x=>x.1.isSome)
  && decide (([e,f]:List aO).length+([]:List qO).length+(if([]:List qO).isEmpty then 0 else 1)<30))=true
 line:(apos.endLine == cpos.line)=true
 trees:backTo cpos (bp [e,f] X.env)=[(false,eval e X.env),(false,eval f X.env)]
section
variable{X:Cx}{pins:List (ag×fe)}{σ:St}{H:Hp}{s:ae}{a:ag}{y d:V}{u r:ab}{o:Option V}{A:bC}{E:ab->ae->Prop}
end
section
variable{X:Cx}{o e f:aO}{apos cpos:fS}{td ty tx:TE}
end
section
variable{X:Cx}{pins:List (ag×fe)}{σ:St}{H:Hp}{s:ae}{a:ag}{kvs:List (Key×V)}{A:bC}{E:ab->ae->Prop}
end
section
variable{X:Cx}{pins:List (ag×fe)}{σ:St}{H:Hp}{s:ae}{a:ag}{y:V}{u:ab}{A:bC}{E:ab->ae->Prop}
end
end L2
namespace M
open PySem PySem.Spec PyProof.Rows L2
inductive Dat where
 | non|bl (b:Bool)|int (i:Int)|str (x:bh)|tup (xs:List Dat)|lst (xs:List Dat)|dct (ks:List Key) (vs:List Dat)|dcn (ks:List (List NK))
 deriving Inhabited
noncomputable abbrev Fg:=aN
def Tq(K:Fg)(F:Hp)(a:ag)(vs:List V):Prop:=F a=some (.tup vs)\/∃(o:fe) (its:Array ab) (n:Nat),K.lookup a=some o/\o.cls=.type "tuple"/\o.data=.seq its n/\its.size<=aP/\cL vs its.toList
theorem Tq.sq{K:Fg}{F:Hp}{a:ag}{vs:List V}(h:Tq K F a vs):rV K F a vs:=by
 rcases h with h|h
 ·exact .inl (.inl h)
 ·exact .inr h
theorem Tq.mono{K:Fg}{F F':Hp}{a:ag}{vs:List V}(s:cu F F')(h:Tq K F a vs):Tq K F' a vs:=by
 rcases h with h|h
 ·exact .inl (s _ _ h)
 ·exact .inr h
noncomputable def JJ(K:Fg)(F:Hp):List NK->List V->Prop
 | [],vs=>vs=[]
 | .inl k::ks,vs=>∃r,vs=kV k::r/\JJ K F ks r
 | .inr q::ks,vs=>∃b r,vs=.ref b::r/\Tq K F b (q.map kV)/\JJ K F ks r
def UR(K:Fg)(F:Hp)(k:List NK)(a:ag):Prop:=∃vs,Tq K F a vs/\JJ K F k vs
def Jp(K:Fg)(F:Hp)(ks:List (List NK))(xs:List (List NK×ag)):Prop:=xs.map (·.1)=ks/\∀x∈xs,UR K F x.1 x.2
theorem JJ.imp{K:Fg}{F F':Hp}(f:∀b vs,Tq K F b vs->Tq K F' b vs):∀{ks:List NK} {vs:List V},JJ K F ks vs->JJ K F' ks vs
 | [],_,h=>h
 | .inl k::ks,_,⟨r,e,h⟩=>⟨r,e,JJ.imp f h⟩
 | .inr q::ks,_,⟨b,r,e,t,h⟩=>⟨b,r,e,f _ _ t,JJ.imp f h⟩
theorem Jp.imp{K:Fg}{F F':Hp}(f:∀b vs,Tq K F b vs->Tq K F' b vs){ks:List (List NK)}{xs:List (List NK×ag)}(h:Jp K F ks xs):Jp K F' ks xs:=
 ⟨h.1,fun x hx=>let ⟨vs,t,r⟩:=h.2 x hx;⟨vs,f _ _ t,r.imp f⟩⟩
mutual
noncomputable def Rep(K:Fg)(F:Hp):Dat->V->Prop
 | .non,v=>v=.non
 | .bl b,v=>v=.bl b
 | .int i,v=>v=.int i
 | .str x,v=>v=.str x
 | .tup ds,v=>∃a vs,v=.ref a/\Tq K F a vs/\cR K F ds vs
 | .lst ds,v=>∃a vs,v=.ref a/\nF K F a vs/\cR K F ds vs
 | .dct ks ds,v=>∃a kvs,v=.ref a/\F a=some (.dK kvs)/\kvs.map (·.1)=ks/\cR K F ds (kvs.map (·.2))
 | .dcn ks,v=>∃a xs,v=.ref a/\F a=some (.dN xs)/\Jp K F ks xs
noncomputable def cR(K:Fg)(F:Hp):List Dat->List V->Prop
 | [],vs=>vs=[]
 | d::ds,vs=>∃v r,vs=v::r/\Rep K F d v/\cR K F ds r
end
mutual
theorem Rep.mono{K:Fg}{F F':Hp}(s:cu F F'):∀(d:Dat) {v:V},Rep K F d v->Rep K F' d v
 | .non,_,h=>h
 | .bl _,_,h=>h
 | .int _,_,h=>h
 | .str _,_,h=>h
 | .tup ds,_,⟨a,vs,e,t,r⟩=>⟨a,vs,e,t.mono s,cR.mono s ds r⟩
 | .lst ds,_,⟨a,vs,e,t,r⟩=>⟨a,vs,e,s.seq t,cR.mono s ds r⟩
 | .dct _ ds,_,⟨a,kvs,e,t,k,r⟩=>⟨a,kvs,e,s _ _ t,k,cR.mono s ds r⟩
 | .dcn _,_,⟨a,xs,e,t,r⟩=>⟨a,xs,e,s _ _ t,r.imp fun _ _ q=>q.mono s⟩
theorem cR.mono{K:Fg}{F F':Hp}(s:cu F F'):∀(ds:List Dat) {vs:List V},cR K F ds vs->cR K F' ds vs
 | [],_,h=>h
 | d::ds,_,⟨v,r,e,h1,h2⟩=>⟨v,r,e,Rep.mono s d h1,cR.mono s ds h2⟩
end
theorem cR.length{K:Fg}{F:Hp}:∀{ds:List Dat} {vs:List V},cR K F ds vs->vs.length=ds.length
 | [],_,h=>by rw[show _=[]from h];rfl
 | d::ds,_,z2=>by obtain⟨v,r,e,_,h2⟩:=z2;rw[e,bo,bo,cR.length h2]
theorem cR.get{K:Fg}{F:Hp}:∀{ds:List Dat} {vs:List V} {i:Nat} {d:Dat},cR K F ds vs->ds[i]? = some d->∃v,vs[i]? = some v/\Rep K F d v
 | [],_,_,_,_,e=>by simp at e
 | d::ds,_,0,_,z4,z=>by obtain⟨v,r,e,h1,_⟩:=z4;simp at z;subst z;subst e;exact⟨v,rfl,h1⟩
 | d::ds,_,i+1,_,z4,z=>by
   obtain⟨v,r,e,_,h2⟩:=z4;subst e;obtain⟨w,q1,q2⟩:=cR.get (i:=i) h2 (by simpa using z);exact⟨w,by simpa using q1,q2⟩
theorem cR.append{K:Fg}{F:Hp}:∀{ds es:List Dat} {vs us:List V},cR K F ds vs->cR K F es us->cR K F (ds++es) (vs++us)
 | [],_,_,_,h,h'=>by rw[show _=[]from h];exact h'
 | d::ds,_,_,_,z4,h'=>by obtain⟨v,r,e,h1,h2⟩:=z4;subst e;exact⟨v,r++_,rfl,h1,cR.append h2 h'⟩
theorem cR.one{K:Fg}{F:Hp}{d:Dat}{v:V}(h:Rep K F d v):cR K F [d] [v]:=⟨v,[],rfl,h,rfl⟩
theorem cR.take{K:Fg}{F:Hp}:∀(n:Nat) {ds:List Dat} {vs:List V},cR K F ds vs->cR K F (ds.take n) (vs.take n)
 | 0,_,_,_=>by simp[cR]
 | n+1,[],_,h=>by rw[show _=[]from h];exact rfl
 | n+1,d::ds,_,z3=>by obtain⟨v,r,e,h1,h2⟩:=z3;subst e;exact⟨v,r.take n,rfl,h1,cR.take n h2⟩
theorem cR.drop{K:Fg}{F:Hp}:∀(n:Nat) {ds:List Dat} {vs:List V},cR K F ds vs->cR K F (ds.drop n) (vs.drop n)
 | 0,_,_,h=>h
 | n+1,[],_,h=>by rw[show _=[]from h];exact rfl
 | n+1,d::ds,_,z3=>by obtain⟨v,r,e,h1,h2⟩:=z3;subst e;exact cR.drop n h2
mutual
noncomputable def im:Dat->Bool
 | .lst _=>false
 | .dct _ _=>false
 | .dcn _=>false
 | .tup ds=>kd ds
 | _=>true
noncomputable def kd:List Dat->Bool
 | []=>true
 | d::ds=>im d && kd ds
end
structure Good(F H:Hp):Prop where
 sub:cu F H
 tup:∀a vs,H a=some (.tup vs)->F a=some (.tup vs)
structure Step(F H F' H':Hp):Prop where
 good:Good F' H'
 ff:cu F F'
 hh:cu H H'
 un:∀a o,H a=some o->F a=none->F' a=none
theorem Step.refl{F H:Hp}(g:Good F H):Step F H F H:=⟨g,cu.refl _,cu.refl _,fun _ _ _ n=>n⟩
theorem Step.trans{F H F1 H1 F2 H2:Hp}(a:Step F H F1 H1)(b:Step F1 H1 F2 H2):Step F H F2 H2:=
 ⟨b.good,a.ff.trans b.ff,a.hh.trans b.hh,fun x o h n=>b.un x o (a.hh x o h) (a.un x o h n)⟩
theorem cu.upd{H:Hp}{p:ag}{o:HO}(hp:H p=none):cu H (upd H p o):=fun b u e=>by rw[cm (eF e hp)];exact e
theorem Step.alloc{F H:Hp}{p:ag}{o:HO}(g:Good F H)(hp:H p=none):Step F H (upd F p o) (upd H p o):=by
 have hF:F p=none:=by
  cases q:F p with
  | none=>rfl
  | some u=>rw[g.sub p u q]at hp;cases hp
 refine⟨⟨fun b u e=>?_,fun a vs e=>?_⟩,cu.upd hF,cu.upd hp,fun a u h n=>?_⟩
 ·by_cases hb:b=p
  ·subst hb;rw[cJ]at e ⊢;exact e
  ·rw[cm hb]at e ⊢;exact g.sub b u e
 ·by_cases hb:a=p
  ·subst hb;rw[cJ]at e ⊢;exact e
  ·rw[cm hb]at e ⊢;exact g.tup a vs e
 ·rw[cm (eF h hp)];exact n
noncomputable def shr(F H F1:Hp):Hp:=fun a=>match F a,H a with
 | none,some _=>none
 | _,_=>F1 a
theorem Oq{F H F1:Hp}{a:ag}{o:HO}(h:shr F H F1 a=some o):F1 a=some o:=by
 unfold shr at h
 cases q:F a with
 | none=>
   cases q2:H a with
   | none=>rw[q,q2]at h;exact h
   | some u=>rw[q,q2]at h;cases h
 | some u=>rw[q]at h;exact h
theorem AA{F H F1:Hp}{a:ag}(h:F a≠none\/H a=none):shr F H F1 a=F1 a:=by
 unfold shr
 cases q:F a with
 | none=>
   cases q2:H a with
   | none=>rfl
   | some u=>rcases h with h|h
             ·exact absurd q h
             ·rw[q2]at h;cases h
 | some u=>rfl
theorem Step.shrink{F H Fp F1 H1:Hp}(g:Good F H)(s:cu F Fp)(st:Step Fp H F1 H1):Step F H (shr F H F1) H1:=by
 refine⟨⟨fun a o e=>st.good.sub a o (Oq e),fun a vs e=>?_⟩,fun a o e=>?_,st.hh,fun a o h n=>?_⟩
 ·have e1:=st.good.tup a vs e;rw[AA ?_]
  ·exact e1
  ·cases q:H a with
   | none=>exact .inr rfl
   | some u=>
     have:=st.hh a u q;rw[e]at this;cases this;exact .inl (by rw[g.tup a vs q];simp)
 ·rw[AA (.inl (by rw[e];simp))];exact st.ff a o (s a o e)
 ·unfold shr;rw[n,h]
theorem Tq.shrink{K:Fg}{F H Fp F1 H1:Hp}(g:Good F H)(st:Step Fp H F1 H1){a:ag}{vs:List V}(h:Tq K F1 a vs):Tq K (shr F H F1) a vs:=by
 rcases h with h|h
 ·refine .inl ?_;rw[AA ?_]
  ·exact h
  ·cases q:H a with
   | none=>exact .inr rfl
   | some u=>
     have:=st.hh a u q;rw[st.good.sub a _ h]at this;cases this;exact .inl (by rw[g.tup a vs q];simp)
 ·exact .inr h
mutual
theorem Rep.shrink{K:Fg}{F H Fp F1 H1:Hp}(g:Good F H)(st:Step Fp H F1 H1):∀(d:Dat) {v:V},im d=true->Rep K F1 d v->Rep K (shr F H F1) d v
 | .non,_,_,h=>h
 | .bl _,_,_,h=>h
 | .int _,_,_,h=>h
 | .str _,_,_,h=>h
 | .tup ds,_,m,⟨a,vs,e,t,r⟩=>⟨a,vs,e,t.shrink g st,cR.shrink g st ds m r⟩
 | .lst ds,_,m,_=>nomatch m
 | .dct _ _,_,m,_=>nomatch m
 | .dcn _,_,m,_=>nomatch m
theorem cR.shrink{K:Fg}{F H Fp F1 H1:Hp}(g:Good F H)(st:Step Fp H F1 H1):∀(ds:List Dat) {vs:List V},kd ds=true->cR K F1 ds vs->cR K (shr F H F1) ds vs
 | [],_,_,h=>h
 | d::ds,_,m,z3=>by
   obtain⟨v,r,e,h1,h2⟩:=z3;have m':im d=true/\kd ds=true:=by simpa [kd]using m
   exact⟨v,r,e,Rep.shrink g st d m'.1 h1,cR.shrink g st ds m'.2 h2⟩
end
mutual
noncomputable def oE(K:Fg)(H:Hp):Dat->V->List ag->Prop
 | .non,v,S=>v=.non/\S=[]
 | .bl b,v,S=>v=.bl b/\S=[]
 | .int i,v,S=>v=.int i/\S=[]
 | .str x,v,S=>v=.str x/\S=[]
 | .tup ds,v,S=>∃a vs,v=.ref a/\Tq K H a vs/\dH K H ds vs S
 | .lst ds,v,S=>∃a vs S',v=.ref a/\H a=some (.lst vs)/\dH K H ds vs S'/\S=a::S'
 | .dct ks ds,v,S=>∃a kvs S',v=.ref a/\H a=some (.dK kvs)/\kvs.map (·.1)=ks/\dH K H ds (kvs.map (·.2)) S'/\S=a::S'
 | .dcn ks,v,S=>∃a xs,v=.ref a/\H a=some (.dN xs)/\Jp K H ks xs/\S=[a]
noncomputable def dH(K:Fg)(H:Hp):List Dat->List V->List ag->Prop
 | [],vs,S=>vs=[]/\S=[]
 | d::ds,vs,S=>∃v r S1 S2,vs=v::r/\oE K H d v S1/\dH K H ds r S2/\S=S1++S2
end
mutual
theorem oE.mono{K:Fg}{H H':Hp}(s:cu H H'):∀(d:Dat) {v:V} {S:List ag},oE K H d v S->oE K H' d v S
 | .non,_,_,h=>h
 | .bl _,_,_,h=>h
 | .int _,_,_,h=>h
 | .str _,_,_,h=>h
 | .tup ds,_,_,⟨a,vs,e,t,r⟩=>⟨a,vs,e,t.mono s,dH.mono s ds r⟩
 | .lst ds,_,_,⟨a,vs,S',e,t,r,q⟩=>⟨a,vs,S',e,s _ _ t,dH.mono s ds r,q⟩
 | .dct _ ds,_,_,⟨a,kvs,S',e,t,k,r,q⟩=>⟨a,kvs,S',e,s _ _ t,k,dH.mono s ds r,q⟩
 | .dcn _,_,_,⟨a,xs,e,t,r,q⟩=>⟨a,xs,e,s _ _ t,r.imp fun _ _ z=>z.mono s,q⟩
theorem dH.mono{K:Fg}{H H':Hp}(s:cu H H'):∀(ds:List Dat) {vs:List V} {S:List ag},dH K H ds vs S->dH K H' ds vs S
 | [],_,_,h=>h
 | d::ds,_,_,⟨v,r,S1,S2,e,h1,h2,q⟩=>⟨v,r,S1,S2,e,oE.mono s d h1,dH.mono s ds h2,q⟩
end
noncomputable def MV:HO->Prop
 | .lst _=>True
 | .dK _=>True
 | .dN _=>True
 | _=>False
mutual
theorem oE.xu{K:Fg}{H:Hp}:∀(d:Dat) {v:V} {S:List ag},oE K H d v S->∀a∈S,∃o,H a=some o/\MV o
 | .non,_,_,h=>by rw[h.2];intro a m;cases m
 | .bl _,_,_,h=>by rw[h.2];intro a m;cases m
 | .int _,_,_,h=>by rw[h.2];intro a m;cases m
 | .str _,_,_,h=>by rw[h.2];intro a m;cases m
 | .tup ds,_,_,⟨a,vs,e,t,r⟩=>dH.xu ds r
 | .lst ds,_,_,z3=>by
   obtain⟨a,vs,S',e,t,r,q⟩:=z3;subst q;intro b m
   rcases ao.mp m with rfl|m
   ·exact⟨_,t,trivial⟩
   ·exact dH.xu ds r b m
 | .dct _ ds,_,_,z3=>by
   obtain⟨a,kvs,S',e,t,k,r,q⟩:=z3;subst q;intro b m
   rcases ao.mp m with rfl|m
   ·exact⟨_,t,trivial⟩
   ·exact dH.xu ds r b m
 | .dcn _,_,_,z3=>by
   obtain⟨a,xs,e,t,r,q⟩:=z3;subst q;intro b m;rw[au.mp m];exact⟨_,t,trivial⟩
theorem dH.xu{K:Fg}{H:Hp}:∀(ds:List Dat) {vs:List V} {S:List ag},dH K H ds vs S->∀a∈S,∃o,H a=some o/\MV o
 | [],_,_,h=>by rw[h.2];intro a m;cases m
 | d::ds,_,_,z3=>by
   obtain⟨v,r,S1,S2,e,h1,h2,q⟩:=z3;subst q;intro b m
   rcases aD.mp m with m|m
   ·exact oE.xu d h1 b m
   ·exact dH.xu ds h2 b m
end
noncomputable def fz(F H:Hp)(S:List ag):Hp:=fun a=>if a∈S then H a else F a
theorem yU{F H:Hp}{S:List ag}{a:ag}(h:a∈S):fz F H S a=H a:=if_pos h
theorem qL{F H:Hp}{S:List ag}{a:ag}(h:a∉S):fz F H S a=F a:=if_neg h
theorem P9{F H:Hp}{S:List ag}(g:cu F H):cu (fz F H S) H:=fun a o e=>by
 by_cases m:a∈S
 ·rw[yU m]at e;exact e
 ·rw[qL m]at e;exact g a o e
theorem qK{F H:Hp}{S:List ag}(g:cu F H):cu F (fz F H S):=fun a o e=>by
 by_cases m:a∈S
 ·rw[yU m];exact g a o e
 ·rw[qL m];exact e
theorem wH{F H:Hp}{S:List ag}(g:Good F H):Good (fz F H S) H:=⟨P9 g.sub,fun a vs e=>qK g.sub a _ (g.tup a vs e)⟩
mutual
theorem oE.lL{K:Fg}{F H:Hp}(g:Good F H):∀(d:Dat) {v:V} {S T:List ag},oE K H d v S->(∀a∈S,a∈T)->Rep K (fz F H T) d v
 | .non,_,_,_,h,_=>h.1
 | .bl _,_,_,_,h,_=>h.1
 | .int _,_,_,_,h,_=>h.1
 | .str _,_,_,_,h,_=>h.1
 | .tup ds,_,_,_,z4,m=>by
   obtain⟨a,vs,e,t,r⟩:=z4;refine⟨a,vs,e,?_,dH.lL g ds r m⟩
   rcases t with t|t
   ·exact .inl (qK g.sub _ _ (g.tup _ _ t))
   ·exact .inr t
 | .lst ds,_,_,_,z4,m=>by
   obtain⟨a,vs,S',e,t,r,q⟩:=z4;subst q;refine⟨a,vs,e,.inl (.inl ?_),dH.lL g ds r fun b hb=>m b (jt _ hb)⟩;rw[yU (m a ja)];exact t
 | .dct _ ds,_,_,_,z4,m=>by
   obtain⟨a,kvs,S',e,t,k,r,q⟩:=z4;subst q;refine⟨a,kvs,e,?_,k,dH.lL g ds r fun b hb=>m b (jt _ hb)⟩;rw[yU (m a ja)];exact t
 | .dcn _,_,_,_,z4,m=>by
   obtain⟨a,xs,e,t,r,q⟩:=z4;subst q;refine⟨a,xs,e,?_,r.imp fun b vs z=>?_⟩
   ·rw[yU (m a ja)];exact t
   ·rcases z with z|z
    ·exact .inl (qK g.sub _ _ (g.tup _ _ z))
    ·exact .inr z
theorem dH.lL{K:Fg}{F H:Hp}(g:Good F H):∀(ds:List Dat) {vs:List V} {S T:List ag},dH K H ds vs S->(∀a∈S,a∈T)->cR K (fz F H T) ds vs
 | [],_,_,_,h,_=>h.1
 | d::ds,_,_,_,z4,m=>by
   obtain⟨v,r,S1,S2,e,h1,h2,q⟩:=z4;subst q;exact⟨v,r,e,oE.lL g d h1 fun a ha=>m a (aY _ ha),dH.lL g ds h2 fun a ha=>m a (aA _ ha)⟩
end
mutual
theorem oE.lK{K:Fg}{F H:Hp}(g:cu F H):∀(d:Dat) {v:V},im d=true->Rep K F d v->oE K H d v []
 | .non,_,_,h=>⟨h,rfl⟩
 | .bl _,_,_,h=>⟨h,rfl⟩
 | .int _,_,_,h=>⟨h,rfl⟩
 | .str _,_,_,h=>⟨h,rfl⟩
 | .tup ds,_,m,⟨a,vs,e,t,r⟩=>⟨a,vs,e,t.mono g,dH.lK g ds m r⟩
 | .lst ds,_,m,_=>nomatch m
 | .dct _ _,_,m,_=>nomatch m
 | .dcn _,_,m,_=>nomatch m
theorem dH.lK{K:Fg}{F H:Hp}(g:cu F H):∀(ds:List Dat) {vs:List V},kd ds=true->cR K F ds vs->dH K H ds vs []
 | [],_,_,h=>⟨h,rfl⟩
 | d::ds,_,m,z3=>by
   obtain⟨v,r,e,h1,h2⟩:=z3;have m':im d=true/\kd ds=true:=by simpa [kd]using m
   exact⟨v,r,[],[],e,oE.lK g d m'.1 h1,dH.lK g ds m'.2 h2,rfl⟩
end
mutual
theorem oE.upd{K:Fg}{H:Hp}{p:ag}{o:HO}(hp:∀vs,H p≠some (.tup vs)):∀(d:Dat) {v:V} {S:List ag},oE K H d v S->p∉S->oE K (upd H p o) d v S
 | .non,_,_,h,_=>h
 | .bl _,_,_,h,_=>h
 | .int _,_,_,h,_=>h
 | .str _,_,_,h,_=>h
 | .tup ds,_,_,z3,n=>by
   obtain⟨a,vs,e,t,r⟩:=z3;refine⟨a,vs,e,?_,dH.upd hp ds r n⟩
   rcases t with t|t
   ·refine .inl ?_;rw[cm (fun z=>hp vs (by rw[<-z];exact t))];exact t
   ·exact .inr t
 | .lst ds,_,_,z3,n=>by
   obtain⟨a,vs,S',e,t,r,q⟩:=z3;subst q;have hne:a≠p:=fun z=>n (z▸ja);exact⟨a,vs,S',e,(cm hne).trans t,dH.upd hp ds r (fun m=>n (jt _ m)),rfl⟩
 | .dct _ ds,_,_,z3,n=>by
   obtain⟨a,kvs,S',e,t,k,r,q⟩:=z3;subst q;have hne:a≠p:=fun z=>n (z▸ja);exact⟨a,kvs,S',e,(cm hne).trans t,k,dH.upd hp ds r (fun m=>n (jt _ m)),rfl⟩
 | .dcn _,_,_,z3,n=>by
   obtain⟨a,xs,e,t,r,q⟩:=z3;subst q;have hne:a≠p:=fun z=>n (z▸ja);refine⟨a,xs,e,(cm hne).trans t,r.imp fun b vs z=>?_,rfl⟩
   rcases z with z|z
   ·refine .inl ?_;rw[cm (fun y=>hp vs (by rw[<-y];exact z))];exact z
   ·exact .inr z
theorem dH.upd{K:Fg}{H:Hp}{p:ag}{o:HO}(hp:∀vs,H p≠some (.tup vs)):∀(ds:List Dat) {vs:List V} {S:List ag},dH K H ds vs S->p∉S->dH K (upd H p o) ds vs S
 | [],_,_,h,_=>h
 | d::ds,_,_,z3,n=>by
   obtain⟨v,r,S1,S2,e,h1,h2,q⟩:=z3;subst q;exact⟨v,r,S1,S2,e,oE.upd hp d h1 (fun m=>n (aY _ m)),dH.upd hp ds h2 (fun m=>n (aA _ m)),rfl⟩
end
theorem dH.length{K:Fg}{H:Hp}:∀{ds:List Dat} {vs:List V} {S:List ag},dH K H ds vs S->vs.length=ds.length
 | [],_,_,h=>by rw[h.1];rfl
 | d::ds,_,_,z3=>by obtain⟨v,r,S1,S2,e,_,h2,_⟩:=z3;rw[e,bo,bo,dH.length h2]
theorem dH.append{K:Fg}{H:Hp}:∀{ds es:List Dat} {vs us:List V} {S T:List ag},dH K H ds vs S->dH K H es us T->dH K H (ds++es) (vs++us) (S++T)
 | [],_,_,_,_,_,h,h'=>by rw[h.1,h.2];exact h'
 | d::ds,_,_,_,_,_,z6,h'=>by obtain⟨v,r,S1,S2,e,h1,h2,q⟩:=z6;subst e q;exact⟨v,r++_,S1,S2++_,rfl,h1,dH.append h2 h',by rw[aC]⟩
theorem dH.one{K:Fg}{H:Hp}{d:Dat}{v:V}{S:List ag}(h:oE K H d v S):dH K H [d] [v] S:=⟨v,[],S,[],rfl,h,⟨rfl,rfl⟩,by simp⟩
noncomputable abbrev St:=L2.St
noncomputable abbrev gD:=List (Option Dat)
def me(K:Fg)(F:Hp)(σ:St)(ρ:gD):Prop:=∀(i:Nat) d,ρ[i]? = some (some d)->∃v,σ[i]? = some (some v)/\Rep K F d v
theorem me.mono{K:Fg}{F F':Hp}{σ:St}{ρ:gD}(s:cu F F')(h:me K F σ ρ):me K F' σ ρ:=fun i d e=>let ⟨v,q1,q2⟩:=h i d e;⟨v,q1,q2.mono s⟩
def iu(K:Fg)(H H':Hp)(d:Dat)(v:V):Prop:=∃S:List ag,S.Nodup/\(∀a∈S,H a=none)/\oE K H' d v S
def fm(K:Fg)(H H':Hp)(ds:List Dat)(vs:List V):Prop:=∃S:List ag,S.Nodup/\(∀a∈S,H a=none)/\dH K H' ds vs S
theorem iu.back{K:Fg}{F H0 H H':Hp}{d:Dat}{v:V}(s:cu H0 H)(h:iu K H H' d v):iu K H0 H' d v:=by
 obtain⟨S,n,e,r⟩:=h;exact⟨S,n,fun a m=>s.free (e a m),r⟩
theorem fm.back{K:Fg}{F H0 H H':Hp}{ds:List Dat}{vs:List V}(s:cu H0 H)(h:fm K H H' ds vs):fm K H0 H' ds vs:=by
 obtain⟨S,n,e,r⟩:=h;exact⟨S,n,fun a m=>s.free (e a m),r⟩
theorem iu.lK{K:Fg}{F H H':Hp}{d:Dat}{v:V}(g:Good F H')(m:im d=true)(r:Rep K F d v):iu K H H' d v:=⟨[],iH,(fun a z=>by cases z),oE.lK g.sub d m r⟩
theorem fm.lK{K:Fg}{F H H':Hp}{ds:List Dat}{vs:List V}(g:Good F H')(m:kd ds=true)(r:cR K F ds vs):fm K H H' ds vs:=⟨[],iH,(fun a z=>by cases z),dH.lK g.sub ds m r⟩
theorem fm.cons{K:Fg}{H H1 H2:Hp}{d:Dat}{ds:List Dat}{v:V}{vs:List V}(s:cu H H1)(s':cu H1 H2)(h:iu K H H1 d v)(hs:fm K H1 H2 ds vs):fm K H H2 (d::ds) (v::vs):=by
 obtain⟨S,n,e,r⟩:=h;obtain⟨T,n',e',r'⟩:=hs;refine⟨S++T,cV.mpr ⟨n,n',fun a ha b hb z=>?_⟩,fun a m=>?_,v,vs,S,T,rfl,r.mono s',r',rfl⟩
 ·subst z;obtain⟨o,ho,_⟩:=r.xu _ a ha;rw[e' a hb]at ho;cases ho
 ·rcases aD.mp m with m|m
  ·exact e a m
  ·exact s.free (e' a m)
theorem fm.snoc{K:Fg}{H H1 H2:Hp}{d:Dat}{ds:List Dat}{v:V}{vs:List V}(s:cu H H1)(s':cu H1 H2)(hs:fm K H H1 ds vs)(h:iu K H1 H2 d v):fm K H H2 (ds++[d]) (vs++[v]):=by
 obtain⟨S,n,e,r⟩:=hs;obtain⟨T,n',e',r'⟩:=h;refine⟨S++T,cV.mpr ⟨n,n',fun a ha b hb z=>?_⟩,fun a m=>?_,(r.mono s').append (.one r')⟩
 ·subst z;obtain⟨o,ho,_⟩:=r.xu _ a ha;rw[e' a hb]at ho;cases ho
 ·rcases aD.mp m with m|m
  ·exact e a m
  ·exact s.free (e' a m)
theorem fm.mono{K:Fg}{H H1 H':Hp}{ds:List Dat}{vs:List V}(s:cu H1 H')(h:fm K H H1 ds vs):fm K H H' ds vs:=by
 obtain⟨S,n,e,r⟩:=h;exact⟨S,n,e,r.mono s⟩
theorem fm.nil{K:Fg}{H H1:Hp}:fm K H H1 [] []:=⟨[],iH,(fun a z=>by cases z),rfl,rfl⟩
theorem iu.lst{K:Fg}{H H1:Hp}{ds:List Dat}{vs:List V}{p:ag}(s:cu H H1)(hp:H1 p=none)(h:fm K H H1 ds vs):iu K H (L2.upd H1 p (.lst vs)) (.lst ds) (.ref p):=by
 obtain⟨S,n,e,r⟩:=h;refine⟨p::S,bX.mpr ⟨fun m=>?_,n⟩,fun a m=>?_,p,vs,S,rfl,cJ,r.mono (cu.upd hp),rfl⟩
 ·obtain⟨o,ho,_⟩:=r.xu _ p m;rw[hp]at ho;cases ho
 ·rcases ao.mp m with rfl|m
  ·exact s.free hp
  ·exact e a m
theorem iu.tup{K:Fg}{H H1:Hp}{ds:List Dat}{vs:List V}{p:ag}(hp:H1 p=none)(h:fm K H H1 ds vs):iu K H (L2.upd H1 p (.tup vs)) (.tup ds) (.ref p):=by
 obtain⟨S,n,e,r⟩:=h;exact⟨S,n,e,p,vs,rfl,.inl cJ,r.mono (cu.upd hp)⟩
noncomputable def tE(K:Fg)(ρ:gD)(d:Dat)(fr:Bool):TE:=fun σ H Q=>∃F,Good F H/\me K F σ ρ/\∀v F' H',Step F H F' H'->Rep K F' d v->(fr=true->iu K H H' d v)->Q v H'
noncomputable def WE(K:Fg)(ρ:gD)(ds:List Dat):TA:=fun σ H Q=>∃F,Good F H/\me K F σ ρ/\∀vs F' H',Step F H F' H'->cR K F' ds vs->Q vs H'
noncomputable def tT(K:Fg)(ρ:gD)(b:Bool):TT:=fun σ H Q=>∃F,Good F H/\me K F σ ρ/\∀F' H',Step F H F' H'->Q b H'
noncomputable def WD(K:Fg)(ρ:gD)(ds:List Dat)(al:Bool):TA:=fun σ H Q=>∃F,Good F H/\me K F σ ρ/\∀vs F' H',Step F H F' H'->cR K F' ds vs->(al=true->fm K H H' ds vs)->Q vs H'
noncomputable def rD(K:Fg)(da db:Dat)(d:Dat)(fr:Bool):R2:=fun x y H Q=>∃F,Good F H/\Rep K F da x/\Rep K F db y/\∀v F' H',Step F H F' H'->Rep K F' d v->(fr=true->iu K H H' d v)->Q v H'
def WG(K:Fg)(ds:List Dat)(d:Dat)(fr:Bool):List V->Hp->VK->Prop:=fun xs H Q=>∃F,Good F H/\cR K F ds xs/\∀v F' H',Step F H F' H'->Rep K F' d v->(fr=true->iu K H H' d v)->Q v H'
section
variable{X:Cx}
theorem PE.imp{e:aO}{t t':TE}(h:PE X e t)(f:∀σ H Q,t' σ H Q->t σ H Q):PE X e t':=fun pins s σ H Q I q=>h pins s σ H Q I (f _ _ _ q)
theorem PT.imp{e:aO}{t t':TT}(h:PT X e t)(f:∀σ H Q,t' σ H Q->t σ H Q):PT X e t':=fun pins s σ H Q I q=>h pins s σ H Q I (f _ _ _ q)
theorem PA.imp{e:List aO}{t t':TA}(h:PA X e t)(f:∀σ H Q,t' σ H Q->t σ H Q):PA X e t':=fun p pins s σ H Q I q=>h p pins s σ H Q I (f _ _ _ q)
theorem PS.imp{e:jl}{t t':TS}(h:PS X e t)(f:∀D σ H,t' D σ H->t D σ H):PS X e t':=fun pins s σ H D I q=>h pins s σ H D I (f _ _ _ q)
theorem zM.imp{e:List jl}{t t':TS}(h:zM X e t)(f:∀D σ H,t' D σ H->t D σ H):zM X e t':=fun pins s σ H D I q=>h pins s σ H D I (f _ _ _ q)
theorem kM.imp{f:ab->ab->rl ab}{r r':R2}(h:kM X f r)(g:∀x y H Q,r' x y H Q->r x y H Q):kM X f r':=fun pins s σ H x y v u Q I rx ry q=>h pins s σ H x y v u Q I rx ry (g _ _ _ _ q)
end
end M
namespace L2
open PySem PySem.Spec PyProof.Rows
def BU(xs:Array Nat):Prop:=xs.toList.Pairwise (·< ·)
theorem BU.get{xs:Array Nat}(h:BU xs){i j:Nat}(hj:j<xs.size)(hij:i<j):xs[i]'(by omega)<xs[j]:=by
 have:=(eN.mp h) i j (by simpa using(by omega:i<xs.size)) (by simpa using hj) hij;simpa using this
theorem BH{xs:Array Nat}{j:Nat}(hs:BU xs):∀(fuel lo hi:Nat),lo<=hi->hi<=xs.size->hi - lo<=fuel->(∀i (h:i<xs.size),i<lo->xs[i]<j)->(∀i (h:i<xs.size),hi<=i->j<=xs[i])->
  kg xs j fuel lo hi<=xs.size/\(∀i (h:i<xs.size),i<kg xs j fuel lo hi->xs[i]<j)/\∀i (h:i<xs.size),kg xs j fuel lo hi<=i->j<=xs[i]
 | 0,lo,hi,h1,h2,h3,h4,h5=>by
   have e:lo=hi:=by omega
   subst e;exact⟨h2,h4,h5⟩
 | fuel+1,lo,hi,h1,h2,h3,h4,h5=>by
   simp only[kg];by_cases hl:lo<hi
   ·rw[if_pos hl];have hm:(lo+hi) / 2<xs.size:=by omega
    have hg:xs.getD ((lo+hi) / 2) j=xs[(lo+hi) / 2]:=by rw[eA,aW hm];rfl
    rw[hg];by_cases hx:xs[(lo+hi) / 2]<j
    ·rw[if_pos hx];refine BH hs fuel _ hi (by omega) h2 (by omega) (fun i h q=>?_) h5;by_cases hi2:i=(lo+hi) / 2
     ·subst hi2;exact hx
     ·exact jO (hs.get hm (by omega)) hx
    ·rw[if_neg hx];refine BH hs fuel lo _ (by omega) (by omega) (by omega) h4 (fun i h q=>?_);by_cases hi2:(lo+hi) / 2=i
     ·subst hi2;omega
     ·have:=hs.get h (show(lo+hi) / 2<i by omega);omega
   ·rw[if_neg hl];have e:lo=hi:=by omega
    subst e;exact⟨h2,h4,h5⟩
theorem Jg{xs:Array Nat}(hs:BU xs)(j:Nat):aM xs j<=xs.size/\(∀i (h:i<xs.size),i<aM xs j->xs[i]<j)/\∀i (h:i<xs.size),aM xs j<=i->j<=xs[i]:=
 BH hs xs.size 0 xs.size (dJ _) (aK _) (by omega) (fun i _ q=>absurd q (M7 _)) (fun i h q=>by omega)
theorem Je{xs:Array Nat}(hs:BU xs):aM xs 0=0:=by
 obtain⟨h1,h2,_⟩:=Jg hs 0
 cases q:aM xs 0 with
 | zero=>rfl
 | succ n=>exact absurd (h2 0 (by omega) (by omega)) (M7 _)
theorem Jf{xs:Array Nat}(hs:BU xs){i:Nat}(hi:i<xs.size):aM xs (xs[i]+1)=i+1:=by
 obtain⟨h1,h2,h3⟩:=Jg hs (xs[i]+1)
 rcases mL (aM xs (xs[i]+1)) (i+1)with h|h|h
 ·have:=h3 i hi (by omega);omega
 ·exact h
 ·have a:=h2 (i+1) (by omega) h;have b:=hs.get (i:=i) (j:=i+1) (by omega) (by omega);omega
theorem KP{xs:Array Nat}(hs:BU xs){j:Nat}(hn:xs[aM xs j]?≠some j):BU (cO xs (aM xs j) j):=by
 obtain⟨h1,h2,h3⟩:=Jg hs j;unfold BU;rw[eO];have hs':xs.toList.Pairwise (·< ·):=hs;refine eo.mpr ⟨hs'.sublist (ik _ _),eQ.mpr ⟨fun y hy=>?_,hs'.sublist (fh _ _)⟩,fun x hx y hy=>?_⟩
 ·obtain⟨k,hk,rfl⟩:=cD.mp hy;rw[FU];have hk':aM xs j+k<xs.size:=by simpa [Nat.add_comm]using(by simp at hk;omega:aM xs j+k<xs.size)
  have a:=h3 (aM xs j+k) hk' (by omega)
  have hne:xs[aM xs j+k]≠j:=by
   intro e
   cases k with
   | zero=>exact hn (by rw[aW (by simpa using hk')];simpa using e)
   | succ k=>
     have b:=hs.get hk' (show aM xs j<aM xs j+(k+1) by omega);have c:=h3 (aM xs j) (by omega) (aK _);omega
  have:j<xs[aM xs j+k]:=by omega
  simpa using this
 ·obtain⟨k,hk,rfl⟩:=cD.mp hx;rw[List.getElem_take];have hk2:k<aM xs j:=by simp at hk;omega
  have a:=h2 k (by omega) hk2;have a':xs.toList[k]'(by simp;omega)<j:=by simpa using a
  rcases ao.mp hy with rfl|hy
  ·exact a'
  ·obtain⟨m,hm,rfl⟩:=cD.mp hy;rw[FU];have hm':aM xs j+m<xs.size:=by simp at hm;omega
   have b:=h3 (aM xs j+m) hm' (by omega);have b':j<=xs.toList[aM xs j+m]'(by simp;omega):=by simpa using b
   omega
structure zJ(led:Bool)(t:aZ):Prop where
 d:t.dummies=#[]
 r:BU t.place
 l:t.led=led
theorem zJ.fresh(led:Bool):zJ led (.fresh 0 0 led):=⟨rfl,by show List.Pairwise _ _;exact uU,rfl⟩
theorem zJ.off{led:Bool}{t:aZ}(h:zJ led t):zJ led { t with plain:=false }:=⟨h.d,h.r,h.l⟩
theorem wD(j:Nat):uK #[] j=false:=by simp[uK]
theorem Ax{t:aZ}(hd:t.dummies=#[]){j:Nat}(h:t.slot j=.empty):t.place[aM t.place j]?≠some j:=by
 intro e;unfold lz at h;simp only[e,beq_self_eq_true,if_true]at h;cases h
theorem mS{t:aZ}(hd:t.dummies=#[]){j:Nat}(h:t.slot j=.dummy):False:=by
 unfold lz at h;rw[hd,wD]at h;dsimp only at h;split at h
 ·cases h
 ·simp at h
theorem vM{t:aZ}{p:bG}(h:p.dummy=none):(t.advance p).dummy=none:=by
 unfold dU;split
 ·exact h
 ·exact h
theorem zJ.put{led:Bool}{t:aZ}(h:zJ led t){j:Nat}(hn:t.place[aM t.place j]?≠some j):zJ led (t.put j).1:=by
 refine⟨?_,KP h.r hn,h.l⟩;show(if uK t.dummies j then _ else t.dummies)=_;rw[h.d,wD];rfl
theorem zJ.laid{led:Bool}{mask f m:Nat}{pl:Bool}{hs:Array Int}{t:aZ}{o:Array Nat}(h:lA mask f m led pl hs=some (t,o)):zJ led t:=by
 unfold lA at h;simp only[zZ,vV]at h;obtain⟨ow,h1,h⟩:=h
 injection h with h
 injection h with h2 h3
 subst h2;refine⟨rfl,?_,rfl⟩;show(List.map _ _).toArray.toList.Pairwise _;rw[DP,fV,xE];refine nS ?_ zQ;intro a b hab x hx y hy;obtain⟨c,_,rfl⟩:=fM hx;obtain⟨e,_,rfl⟩:=fM hy;exact hab
end L2
namespace L2
open PySem
noncomputable def rm(mask:Nat):Nat->Nat->Nat->Nat×Nat
 | 0,i,p=>(i,p)
 | n+1,i,p=>rm mask n (gH mask i p).1 (gH mask i p).2
theorem rO(mask:Nat):∀(a b i p:Nat),rm mask (a+b) i p=rm mask b (rm mask a i p).1 (rm mask a i p).2
 | 0,b,i,p=>by rw[lu];rfl
 | a+1,b,i,p=>by rw[show a+1+b=(a+b)+1 by omega];exact rO mask a b _ _
theorem tz(mask:Nat):∀(n i p:Nat),(rm mask n i p).2=p / 32 ^ n
 | 0,i,p=>by simp[rm]
 | n+1,i,p=>by
   rw[rm,tz mask n,gH,Nat.div_div_eq_div_mul,Nat.pow_succ,Nat.mul_comm]
theorem HF(mask:Nat):∀(n i p:Nat),i<mask+1->(rm mask n i p).1<mask+1
 | 0,i,p,h=>h
 | n+1,i,p,h=>HF mask n _ _ (jo _ (by omega))
noncomputable def Ub(mask:Nat):Nat->Nat->List Nat
 | 0,i=>[i]
 | n+1,i=>i::Ub mask n ((i * 5+1) % (mask+1))
theorem CG(mask:Nat):∀(n i j:Nat),j∈Ub mask n i->∃m,m<=n/\(rm mask m i 0).1=j
 | 0,i,j,h=>by
   simp[Ub]at h;exact⟨0,by omega,h.symm⟩
 | n+1,i,j,h=>by
   rcases ao.mp h with h|h
   ·exact⟨0,by omega,h.symm⟩
   ·obtain⟨m,hm,e⟩:=CG mask n _ j h;refine⟨m+1,by omega,?_⟩;rw[rm];simpa [gH]using e
noncomputable def IK(mask:Nat):Bool:=(aT (mask+1)).all fun j=>(Ub mask mask 0).any fun x=>Nat.beq x j
theorem VX:IK 7=true:=by decide +kernel
theorem S7:IK 31=true:=by decide +kernel
theorem Qt:IK 127=true:=by decide +kernel
theorem Qs:IK 511=true:=by decide +kernel
theorem Vk:(rm 7 8 0 0).1=0:=by decide +kernel
theorem RY:(rm 31 32 0 0).1=0:=by decide +kernel
theorem OU:(rm 127 128 0 0).1=0:=by decide +kernel
theorem OT:(rm 511 512 0 0).1=0:=by decide +kernel
theorem IJ{mask:Nat}(h:mask=7\/mask=31\/mask=127\/mask=511):IK mask=true/\(rm mask (mask+1) 0 0).1=0:=by
 rcases h with rfl|rfl|rfl|rfl
 ·exact⟨VX,Vk⟩
 ·exact⟨S7,RY⟩
 ·exact⟨Qt,OU⟩
 ·exact⟨Qs,OT⟩
theorem DU(mask n i:Nat):(rm mask n i 0).2=0:=by rw[tz,Nat.zero_div]
theorem tu(mask a b i:Nat):(rm mask (a+b) i 0).1=(rm mask b (rm mask a i 0).1 0).1:=by rw[rO,DU]
theorem Nz{mask:Nat}(h:mask=7\/mask=31\/mask=127\/mask=511){j:Nat}(hj:j<mask+1):∃n,n<=mask/\(rm mask n 0 0).1=j:=by
 have:=bQ.mp (IJ h).1 j (br.mpr hj);obtain⟨x,hx,e⟩:=rC.mp this;have e:=Nat.eq_of_beq_eq_true e;subst e;exact CG mask mask 0 x hx
theorem CT{mask:Nat}(h:mask=7\/mask=31\/mask=127\/mask=511){i p j:Nat}(hi:i<mask+1)(hp:p<2 ^ 64)(hj:j<mask+1):∃n,n<=mask+13/\(rm mask n i p).1=j:=by
 have h13:(rm mask 13 i p).2=0:=by
  rw[tz];exact Nat.div_eq_of_lt (by omega)
 have hl:=HF mask 13 i p hi;obtain⟨a,ha,ea⟩:=Nz h hl;obtain⟨b,hb,eb⟩:=Nz h hj;have hper:=(IJ h).2;by_cases hab:a<=b
 ·refine⟨13+(b - a),by omega,?_⟩;rw[rO,h13,<-ea,<-tu,show a+(b - a)=b by omega];exact eb
 ·refine⟨13+(mask+1 - a+b),by omega,?_⟩;rw[rO,h13,<-ea,<-tu,show a+(mask+1 - a+b)=(mask+1)+b by omega,tu,hper];exact eb
structure vO(t:aZ)(p:bG):Prop where
 j:p.j=p.i
 m:p.more=dI t.mask p.i - p.i
 d:p.dummy=none
theorem pU{t:aZ}{p:bG}(h:vO t p):p.more<=9:=by
 rw[h.m];unfold dI;split<;>omega
theorem wF{t:aZ}(hd:t.dummies=#[]){ha:Nat->Int}{hh:Int}:∀(k f:Nat) (p:bG),p.more=k->p.dummy=none->cw t ha hh (k+1+f) p=none->
  t.slot p.j≠.empty/\∃q:bG,cw t ha hh f q=none/\vO t q/\q.i=(gH t.mask p.i p.perturb).1/\q.perturb=(gH t.mask p.i p.perturb).2
 | 0,f,p,hk,hp,h=>by
   rw[show 0+1+f=f+1 by omega,cw]at h
   cases hs:t.slot p.j with
   | empty=>rw[hs]at h;cases h
   | dummy=>exact(mS hd hs).elim
   | live i=>
     rw[hs]at h;dsimp only at h;split at h
     ·cases h
     rename_i hne;refine⟨by simp,_,h,?_,?_,?_⟩
     ·unfold dU;rw[if_neg (by omega)];exact⟨rfl,rfl,hp⟩
     ·unfold dU;rw[if_neg (by omega)]
     ·unfold dU;rw[if_neg (by omega)]
 | k+1,f,p,hk,hp,h=>by
   rw[show k+1+1+f=(k+1+f)+1 by omega,cw]at h
   cases hs:t.slot p.j with
   | empty=>rw[hs]at h;cases h
   | dummy=>exact(mS hd hs).elim
   | live i=>
     rw[hs]at h;dsimp only at h;split at h
     ·cases h
     rename_i hne;have e:t.advance p={ p with j:=p.j+1,more:=p.more - 1 }:=by unfold dU;rw[if_pos (by omega)]
     rw[e]at h;obtain⟨_,q,h1,h2,h3,h4⟩:=wF hd k f { p with j:=p.j+1,more:=p.more - 1 } (by show p.more - 1=k;omega) hp h;exact⟨by simp,q,h1,h2,h3,h4⟩
theorem rQ{t:aZ}{ha:Nat->Int}{hh:Int}:∀(f g:Nat) (p:bG),cw t ha hh (f+g) p=none->cw t ha hh f p=none
 | 0,g,p,h=>rfl
 | f+1,g,p,h=>by
   rw[show f+1+g=(f+g)+1 by omega,cw]at h;rw[cw]
   cases hs:t.slot p.j with
   | empty=>rw[hs]at h;cases h
   | dummy=>rw[hs]at h;exact rQ f g _ h
   | live i=>
     rw[hs]at h;simp only at h ⊢;split
     ·rename_i q;rw[if_pos q]at h;cases h
     ·rename_i q;rw[if_neg q]at h;exact rQ f g _ h
theorem yQ{t:aZ}(hd:t.dummies=#[]){ha:Nat->Int}{hh:Int}:∀(m:Nat) (p:bG),vO t p->cw t ha hh (10 * (m+1)) p=none->∀n≤m,t.slot (rm t.mask n p.i p.perturb).1≠.empty
 | m,p,hp,h,0,_=>by
   have hm:=pU hp;obtain⟨h1,_⟩:=wF hd p.more (10 * (m+1) - (p.more+1)) p rfl hp.d (by rw[show p.more+1+(10 * (m+1) - (p.more+1))=10 * (m+1) by omega];exact h);rw[hp.j]at h1;exact h1
 | 0,p,hp,h,n+1,hn'=>by omega
 | m+1,p,hp,h,n+1,hn'=>by
   have hm:=pU hp;obtain⟨_,q,h1,h2,h3,h4⟩:=wF hd p.more (10 * (m+1+1) - (p.more+1)) p rfl hp.d (by rw[show p.more+1+(10 * (m+1+1) - (p.more+1))=10 * (m+1+1) by omega];exact h);have h5:=rQ (10 * (m+1)) (9 - p.more) q (by rw[show 10 * (m+1)+(9 - p.more)=10 * (m+1+1) - (p.more+1) by omega];exact h1);have:=yQ hd m q h2 h5 n (by omega);rw[h3,h4]at this;exact this
theorem u7(t:aZ)(h:Int):vO t (t.probeStart h):=⟨rfl,rfl,rfl⟩
structure rd(t:aZ)(p:bG):Prop where
 m:p.more<=9
 i:p.i<t.mask+1
 q:p.perturb<2 ^ 64
 d:p.dummy=none
theorem u6(t:aZ)(h:Int):rd t (t.probeStart h):=
 ⟨pU (u7 t h),jo _ (by omega),by show dD h<_;unfold dD;omega,rfl⟩
theorem rd.Wf{t:aZ}{p:bG}(h:rd t p):rd t (t.advance p):=by
 have hm:=h.m;have hq:=h.q;unfold dU;split
 ·exact⟨by show p.more - 1<=9;omega,h.i,h.q,h.d⟩
 ·refine⟨?_,jo _ (by omega),?_,h.d⟩
  ·show dI t.mask _ - _<=9;unfold dI;split<;>omega
  ·show p.perturb / 32<2 ^ 64;omega
theorem qT{t:aZ}(hm:t.mask=7\/t.mask=31\/t.mask=127\/t.mask=511)(hd:t.dummies=#[]){ha:Nat->Int}{hh:Int}{p:bG}(hp:rd t p){j:Nat}(hj:j<t.mask+1)(he:t.slot j=.empty) :
  ∃m,t.probe ha hh p=some m:=by
 cases q:t.probe ha hh p with
 | some m=>exact⟨m,rfl⟩
 | none=>
   exfalso;unfold SetTable.probe hV at q;have h9:=hp.m;have hq:=hp.q;obtain⟨_,r,h1,h2,h3,h4⟩:=wF hd p.more (10 * (t.mask+15) - (p.more+1)) p rfl hp.d (by rw[show p.more+1+(10 * (t.mask+15) - (p.more+1))=10 * (t.mask+15) by omega];exact q);have h5:=rQ (10 * (t.mask+14)) (9 - p.more) r (by rw[show 10 * (t.mask+14)+(9 - p.more)=10 * (t.mask+15) - (p.more+1) by omega];exact h1);obtain⟨n,e1,e2⟩:=CT hm (i:=r.i) (p:=r.perturb) (by rw[h3];exact jo _ (by omega)) (by rw[h4];show p.perturb / 32<2 ^ 64;omega) hj;have:=yQ hd (t.mask+13) r h2 h5 n e1;rw[e2]at this;exact this he
noncomputable def way(t:aZ):Nat->bG->bG
 | 0,p=>p
 | n+1,p=>way t n (t.advance p)
theorem kB(t:aZ):∀(a b:Nat) (p:bG),way t (a+b) p=way t b (way t a p)
 | 0,b,p=>by rw[lu];rfl
 | a+1,b,p=>by rw[show a+1+b=(a+b)+1 by omega];exact kB t a b _
theorem FY{t:aZ}:∀(n:Nat) {p:bG},rd t p->rd t (way t n p)
 | 0,p,h=>h
 | n+1,p,h=>FY n h.Wf
theorem vb{t:aZ}(hd:t.dummies=#[]){ha:Nat->Int}{hh:Int}:∀(fuel:Nat) (p:bG) {m:Js},p.dummy=none->cw t ha hh fuel p=some m->
  ∃n,(∀k<n,∃i,t.slot (way t k p).j=.live i/\ha i≠hh)/\((m=.empty (way t n p).j none/\t.slot (way t n p).j=.empty)\/∃i,m=.candidate (way t n p).j i (way t (n+1) p)/\t.slot (way t n p).j=.live i/\ha i=hh)
 | 0,p,m,_,h=>by cases h
 | fuel+1,p,m,hp,h=>by
   rw[cw]at h
   cases hs:t.slot p.j with
   | empty=>
     rw[hs]at h
     injection h with h
     exact⟨0,fun k hk=>by omega,.inl ⟨by rw[<-h,hp];rfl,hs⟩⟩
   | dummy=>exact(mS hd hs).elim
   | live i=>
     rw[hs]at h;dsimp only at h;split at h
     ·rename_i e
      injection h with h
      exact⟨0,fun k hk=>by omega,.inr ⟨i,h.symm,hs,by simpa using e⟩⟩
     ·rename_i e;obtain⟨n,h1,h2⟩:=vb hd fuel _ (vM hp) h;refine⟨n+1,fun k hk=>?_,h2⟩
      cases k with
      | zero=>exact⟨i,hs,by simpa using e⟩
      | succ k=>exact h1 k (by omega)
theorem Lq{xs:Array Nat}(hs:BU xs){j:Nat}(h:j∈xs.toList):xs[aM xs j]? = some j:=by
 obtain⟨i,hi,e⟩:=cD.mp h;have hi':i<xs.size:=by simpa using hi
 have e':xs[i]=j:=by simpa using e
 obtain⟨h1,h2,h3⟩:=Jg hs j
 have hb:aM xs j<=i:=by
  rcases gW i (aM xs j)with hl|hl
  ·have:=h2 i hi' hl;omega
  ·exact hl
 have hb2:aM xs j=i:=by
  rcases gW (aM xs j) i with hl|hl
  ·have a:=hs.get hi' hl;have b:=h3 (aM xs j) (by omega) (aK _);omega
  ·omega
 rw[hb2,aW hi',e']
theorem xM{t:aZ}(hr:BU t.place){j:Nat}(h:j∈t.place.toList):t.slot j=.live (aM t.place j):=by
 unfold lz;simp only[Lq hr h,beq_self_eq_true,if_true]
theorem Hs{t:aZ}(hd:t.dummies=#[]){j:Nat}(h:t.slot j≠.empty):j∈t.place.toList:=by
 unfold lz at h;dsimp only at h;split at h
 ·rename_i e;have e:t.place[aM t.place j]? = some j:=by simpa using e
  obtain⟨hi,e2⟩:=cQ.mp e;exact cD.mpr ⟨_,by simpa using hi,by simpa using e2⟩
 ·rw[hd,wD]at h;simp at h
theorem LK{t:aZ}{j i:Nat}(h:t.slot j=.live i):t.place[i]? = some j:=by
 unfold lz at h;dsimp only at h;split at h
 ·rename_i e
  injection h with h
  rw[<-h];simpa using e
 ·split at h<;>cases h
theorem Jm{t t':aZ}(h:t.mask=t'.mask)(p:bG):t.advance p=t'.advance p:=by
 unfold dU;rw[h]
theorem nU{t t':aZ}(h:t.mask=t'.mask):∀(n:Nat) (p:bG),way t n p=way t' n p
 | 0,p=>rfl
 | n+1,p=>by rw[way,way,Jm h,nU h n]
theorem mP{t t':aZ}(h:t.mask=t'.mask)(x:Int):t.probeStart x=t'.probeStart x:=by
 unfold SetTable.probeStart;rw[h]
def mH(t:aZ)(x:Int)(j:Nat):Prop:=∃n,(way t n (t.probeStart x)).j=j/\∀k<n,(way t k (t.probeStart x)).j∈t.place.toList
theorem mH.mono{t t':aZ}(h:t.mask=t'.mask)(hs:∀j∈t.place.toList,j∈t'.place.toList){x:Int}{j:Nat}(y:mH t x j):mH t' x j:=by
 obtain⟨n,h1,h2⟩:=y;refine⟨n,?_,fun k hk=>?_⟩
 ·rw[<-mP h,<-nU h];exact h1
 ·rw[<-mP h,<-nU h];exact hs _ (h2 k hk)
theorem CQ{t:aZ}{j a:Nat}:a∈(t.put j).1.place.toList↔a=j\/a∈t.place.toList:=by
 show a∈(cO t.place _ j).toList↔_;rw[eO];have e:=bu (aM t.place j) t.place.toList;constructor
 ·intro h
  rcases aD.mp h with h|h
  ·exact .inr (bY h)
  ·rcases ao.mp h with h|h
   ·exact .inl h
   ·exact .inr (dv h)
 ·rintro(h|h)
  ·rw[h];exact aD.mpr (.inr ja)
  ·rw[<-e]at h
   rcases aD.mp h with h|h
   ·exact aD.mpr (.inl h)
   ·exact aD.mpr (.inr (jt _ h))
theorem mH.new{t:aZ}{x:Int}{n:Nat}(h:∀k<n,(way t k (t.probeStart x)).j∈t.place.toList):mH (t.put (way t n (t.probeStart x)).j).1 x (way t n (t.probeStart x)).j:=by
 have y:mH t x (way t n (t.probeStart x)).j:=⟨n,rfl,h⟩
 exact mH.mono (t:=t) (t':=(t.put (way t n (t.probeStart x)).j).1) rfl (fun j hj=>CQ.mpr (.inr hj)) y
def JK(t:aZ)(p:bG):Prop:=p.j+p.more<=t.mask
theorem GO{mask i:Nat}(h:i<mask+1):i+(dI mask i - i)<=mask:=by
 unfold dI;split<;>omega
theorem JK.start(t:aZ)(x:Int):JK t (t.probeStart x):=GO (jo _ (by omega))
theorem JK.Wf{t:aZ}{p:bG}(h:JK t p):JK t (t.advance p):=by
 unfold JK at h ⊢;unfold dU;split
 ·show p.j+1+(p.more - 1)<=_;omega
 ·exact GO (jo _ (by omega))
theorem FZ{t:aZ}:∀(n:Nat) {p:bG},JK t p->JK t (way t n p)
 | 0,p,h=>h
 | n+1,p,h=>FZ n h.Wf
theorem Af{t:aZ}(n:Nat)(x:Int):(way t n (t.probeStart x)).j<=t.mask:=by
 have:=FZ n (JK.start t x);unfold JK at this;omega
theorem pT{t:aZ}:∀(k:Nat) (p:bG),k<=p.more->way t k p={ p with j:=p.j+k,more:=p.more - k }
 | 0,p,h=>rfl
 | k+1,p,h=>by
   rw[way];have e:t.advance p={ p with j:=p.j+1,more:=p.more - 1 }:=by unfold dU;rw[if_pos (by omega)]
   rw[e,pT k _ (by show k<=p.more - 1;omega)];show({ p with j:=p.j+1+k,more:=p.more - 1 - k }:bG)=_;rw[show p.j+1+k=p.j+(k+1) by omega,show p.more - 1 - k=p.more - (k+1) by omega]
noncomputable abbrev xr(ow:Array (Option Nat))(j:Nat):Bool:=(ow.getD j (some 0)).isSome
theorem yW{t:aZ}{ow:Array (Option Nat)}:∀(fuel:Nat) (p:bG) {j:Nat},vO t p->df t.mask ow fuel p.i p.perturb=some j->
  ∃n,(way t n p).j=j/\(∀k<n,xr ow (way t k p).j=true)/\ow.getD j (some 0)=none
 | 0,p,j,_,h=>by cases h
 | fuel+1,p,j,hp,h=>by
   have hm9:=pU hp;have hge:p.i<=dI t.mask p.i:=by unfold dI;split<;>omega
   have hmm:dI t.mask p.i+1 - p.i=p.more+1:=by rw[hp.m];omega
   rw[df,hmm]at h;split at h
   ·rename_i k hk
    injection h with h
    subst h;obtain⟨h1,h2,h3⟩:=List.find?_range_eq_some.mp hk;have h2:k<p.more+1:=br.mp h2;refine⟨k,?_,fun m hm=>?_,by simpa using h1⟩
    ·rw[pT k p (by omega)];show p.j+k=_;rw[hp.j]
    ·rw[pT m p (by omega)];show xr ow (p.j+m)=true;have:=h3 m hm;rw[hp.j];simpa [xr,iM,lG]using this
   ·rename_i hk;have hk:=xn.mp hk;have ew:way t (p.more+1) p=t.advance (way t p.more p):=by rw[kB];rfl
    have er:=pT (t:=t) p.more p (aK _)
    have ea:vO t (way t (p.more+1) p)/\(way t (p.more+1) p).i=(gH t.mask p.i p.perturb).1/\(way t (p.more+1) p).perturb=(gH t.mask p.i p.perturb).2:=by
     rw[ew,er];unfold dU;rw[if_neg (by show¬p.more - p.more > 0;omega)];exact⟨⟨rfl,rfl,hp.d⟩,rfl,rfl⟩
    obtain⟨a1,a2,a3⟩:=ea;dsimp only at h;rw[<-a2,<-a3]at h;obtain⟨n,g1,g2,g3⟩:=yW fuel _ a1 h;refine⟨p.more+1+n,by rw[kB];exact g1,fun k hkn=>?_,g3⟩
    rcases gW k (p.more+1)with hl|hl
    ·rw[pT k p (by omega)];show xr ow (p.j+k)=true;have:=hk k hl;rw[hp.j];simpa [xr,iM,lG]using this
    ·have:=g2 (k - (p.more+1)) (by omega);rw[<-kB,show p.more+1+(k - (p.more+1))=k by omega]at this;exact this
def Jo(t:aZ)(ow:Array (Option Nat))(x:Int)(j:Nat):Prop:=∃n,(way t n (t.probeStart x)).j=j/\∀k<n,xr ow (way t k (t.probeStart x)).j=true
structure Lay(t:aZ)(hs:List Int)(ow:Array (Option Nat))(c:Nat):Prop where
 sz:ow.size=t.mask+1
 st:∀j k:Nat,ow[j]? = some (some k)->k<c/\Jo t ow (hs.getD k 0) j
 ex:∀k<c,∃j:Nat,ow[j]? = some (some k)
 un:∀j j' k:Nat,ow[j]? = some (some k)->ow[j']? = some (some k)->j=j'
theorem getD_none{ow:Array (Option Nat)}{j:Nat}(h:ow.getD j (some 0)=none):ow[j]? = some none:=by
 unfold uA at h;split at h
 ·rename_i hl;rw[aW hl];exact congrArg some h
 ·cases h
theorem Pg{ow:Array (Option Nat)}{j c a:Nat}(h:xr ow a=true):xr (ow.setIfInBounds j (some c)) a=true:=by
 unfold xr uA at h ⊢;by_cases ha:a<ow.size
 ·rw[dif_pos ha]at h;rw[dif_pos (by simpa using ha)];by_cases e:j=a
  ·subst e;simp
  ·show((ow.setIfInBounds j (some c))[a]'(by simpa using ha)).isSome=true;rw[Array.getElem_setIfInBounds_ne ha e];exact h
 ·rw[dif_neg (by simpa using ha)];rfl
theorem Jo.set{t:aZ}{ow:Array (Option Nat)}{x:Int}{a j c:Nat}(h:Jo t ow x a):Jo t (ow.setIfInBounds j (some c)) x a:=
 let ⟨n,h1,h2⟩:=h
 ⟨n,h1,fun k hk=>Pg (h2 k hk)⟩
theorem get_set{ow:Array (Option Nat)}{j c a:Nat}(hj:j<ow.size):(ow.setIfInBounds j (some c))[a]? = if j=a then some (some c)else ow[a]? :=by
 rw[Array.getElem?_setIfInBounds];split
 ·rename_i e;subst e;first|rfl|rw[if_pos hj]
 ·rfl
theorem Lay.step{t:aZ}{hs:List Int}{ow:Array (Option Nat)}{c j:Nat}(y:Lay t hs ow c)(h:df t.mask ow (hV t.mask) (dD (hs.getD c 0) % (t.mask+1)) (dD (hs.getD c 0))=some j):Lay t hs (ow.setIfInBounds j (some c)) (c+1):=by
 obtain⟨n,h1,h2,h3⟩:=yW (t:=t) _ (t.probeStart (hs.getD c 0)) (u7 t _) h;have h3:=getD_none h3;have hj:j<ow.size:=(cQ.mp h3).1;refine⟨by simpa using y.sz,fun a k ha=>?_,fun k hk=>?_,fun a a' k ha ha'=>?_⟩
 ·rw[get_set hj]at ha;split at ha
  ·rename_i e;subst e
   injection ha with ha
   injection ha with ha
   subst ha;exact⟨by omega,Jo.set ⟨n,h1,h2⟩⟩
  ·obtain⟨q1,q2⟩:=y.st a k ha;exact⟨by omega,q2.set⟩
 ·rcases gW k c with hl|hl
  ·obtain⟨a,ha⟩:=y.ex k hl;refine⟨a,?_⟩;rw[get_set hj,if_neg (fun e=>by subst e;rw[h3]at ha;cases ha)];exact ha
  ·refine⟨j,?_⟩;rw[get_set hj,if_pos rfl,show k=c by omega]
 ·rw[get_set hj]at ha ha';split at ha<;>split at ha'
  ·rename_i e e';omega
  ·injection ha with ha
   injection ha with ha
   have:=(y.st a' k ha').1;omega
  ·injection ha' with ha'
   injection ha' with ha'
   have:=(y.st a k ha).1;omega
  ·exact y.un a a' k ha ha'
theorem vv{mask:Nat}{ow:Array (Option Nat)}:∀(fuel i p:Nat),df mask ow fuel i p=none->∀n<fuel,xr ow (rm mask n i p).1=true
 | 0,i,p,h,n,hn=>by omega
 | fuel+1,i,p,h,n,hn=>by
   have hge:i<=dI mask i:=by unfold dI;split<;>omega
   rw[df]at h;split at h
   ·cases h
   ·rename_i hk;have hk:=xn.mp hk
    cases n with
    | zero=>
      have:=hk 0 (by omega);show xr ow i=true;simpa [xr,iM,lG]using this
    | succ n=>exact vv fuel _ _ h n (by omega)
theorem Mh{mask:Nat}(hm:mask=7\/mask=31\/mask=127\/mask=511){ow:Array (Option Nat)}{x:Int}{j:Nat}(hj:j<mask+1)(he:xr ow j=false):∃a,df mask ow (hV mask) (dD x % (mask+1)) (dD x)=some a:=by
 cases q:df mask ow (hV mask) (dD x % (mask+1)) (dD x)with
 | some a=>exact⟨a,rfl⟩
 | none=>
   exfalso;obtain⟨n,h1,h2⟩:=CT hm (i:=dD x % (mask+1)) (p:=dD x) (jo _ (by omega)) (by unfold dD;omega) hj;have:=vv _ _ _ q n (by unfold hV;omega);rw[h2,he]at this;cases this
theorem Hv{l:List Nat}{c:Nat}(hn:l.Nodup)(h:∀x∈l,x<c):l.length<=c:=by
 have hl:((aT c).filter fun x=>decide (x∈l)).Nodup:=xp DS fF
 have hp:l.Perm ((aT c).filter fun x=>decide (x∈l)):=by
  rw[fK hn hl];intro x;rw[dX];simp only[decide_eq_true_eq,br];exact⟨fun q=>⟨h x q,q⟩,fun q=>q.2⟩
 rw[hp.length_eq];exact cP (oh _ _) (by rw[bW];exact aK _)
theorem CJ{ow:Array (Option Nat)}{j:Nat}(hj:j<ow.size)(h:xr ow j=true):∃k,ow[j]? = some (some k):=by
 unfold xr uA at h;rw[dif_pos hj]at h;obtain⟨k,hk⟩:=uO.mp h;exact⟨k,by rw[aW hj];exact congrArg some hk⟩
theorem Lay.room{t:aZ}{hs:List Int}{ow:Array (Option Nat)}{c:Nat}(y:Lay t hs ow c)(hc:c<t.mask+1):∃j,j<t.mask+1/\xr ow j=false:=by
 rcases FW (∃j,j<t.mask+1/\xr ow j=false)with h|h
 ·exact h
 ·exfalso
  have hall:∀j,j<t.mask+1->∃k:Nat,ow[j]? = some (some k):=fun j hj=>CJ (by rw[y.sz];exact hj) (by
   cases q:xr ow j with
   | true=>rfl
   | false=>exact absurd ⟨j,hj,q⟩ h)
  have hk:∀j,j<t.mask+1->ow[j]? = some (some ((ow.getD j none).getD 0)):=fun j hj=>by
   obtain⟨k,e⟩:=hall j hj;have:ow.getD j none=some k:=by rw[eA,e];rfl
   rw[this];exact e
  have hn:((aT (t.mask+1)).map fun j=>(ow.getD j none).getD 0).Nodup:=by
   refine uV _ (R:=fun a b=>a∈aT (t.mask+1)/\b∈aT (t.mask+1)/\a≠b) ?_ ?_
   ·rintro a b ⟨ha,hb,hne⟩ e;have ea:=hk a (br.mp ha);have eb:=hk b (br.mp hb);rw[e]at ea;exact hne (y.un _ _ _ ea eb)
   ·exact kA (fun ha hb hne=>⟨ha,hb,hne⟩) fF
  have:=Hv (c:=c) hn (fun x hx=>by
   obtain⟨j,hj,rfl⟩:=aX.mp hx
   exact(y.st j _ (hk j (br.mp hj))).1)
  rw[aG,bW]at this;omega
noncomputable def yB(mask:Nat)(acc:Option (Array (Option Nat)×Nat))(h:Int):Option (Array (Option Nat)×Nat):=do
 let (owner,k) <-acc;let j <-df mask owner (hV mask) (dD h % (mask+1)) (dD h)
 pure (owner.setIfInBounds j (some k),k+1)
theorem yF{t:aZ}(hm:t.mask=7\/t.mask=31\/t.mask=127\/t.mask=511){hs:List Int}(hl:hs.length<=t.mask):∀(rest pre:List Int) (ow:Array (Option Nat)),hs=pre++rest->Lay t hs ow pre.length->∃ow',rest.foldl (yB t.mask) (some (ow,pre.length))=some (ow',hs.length)/\Lay t hs ow' hs.length
 | [],pre,ow,e,y=>⟨ow,by rw[e,aL];rfl,by have:hs.length=pre.length:=by rw[e,aL]
                                         rw[this];exact y⟩
 | x::rest,pre,ow,e,y=>by
   have hlen:pre.length<hs.length:=by rw[e];simp
   obtain⟨j0,h1,h2⟩:=y.room (by omega);have hx:hs.getD pre.length 0=x:=by rw[e];simp
   obtain⟨a,ha⟩:=Mh hm (ow:=ow) (x:=x) h1 h2;have hstep:=y.step (j:=a) (by rw[hx];exact ha);obtain⟨ow',g1,g2⟩:=yF hm hl rest (pre++[x]) _ (by rw[e,aC];rfl) (by rw[ak];exact hstep);refine⟨ow',?_,g2⟩;rw[JU]
   have:yB t.mask (some (ow,pre.length)) x=some (ow.setIfInBounds a (some pre.length),(pre++[x]).length):=by
    unfold yB;simp only[zZ,ah,ha,ak,bo,kF];rfl
   rw[this];exact g1
theorem GV{n j k:Nat}(h:(nN n (none:Option Nat))[j]? = some (some k)):False:=by
 rw[Array.getElem?_replicate]at h;split at h
 ·injection h with h;cases h
 ·cases h
theorem Lay.nil(t:aZ)(hs:List Int):Lay t hs (nN (t.mask+1) none) 0:=
 ⟨by simp,fun j k h=>(GV h).elim,fun k hk=>by omega,fun j j' k h _=>(GV h).elim⟩
theorem LL{t:aZ}(hm:t.mask=7\/t.mask=31\/t.mask=127\/t.mask=511){hs:Array Int}(hl:hs.size<=t.mask):∃ow,px t.mask hs=some ow/\Lay t hs.toList ow hs.size:=by
 obtain⟨ow,h1,h2⟩:=yF hm (hs:=hs.toList) (by simpa using hl) hs.toList [] _ rfl (Lay.nil t _);refine⟨ow,?_,by simpa using h2⟩;unfold px;rw[<-Array.foldl_toList]
 have e:(hs.toList.foldl (yB t.mask) (some (nN (t.mask+1) none,0))).map (·.1)=some ow:=by
  have h1':hs.toList.foldl (yB t.mask) (some (nN (t.mask+1) none,0))=some (ow,hs.toList.length):=h1;rw[h1'];rfl
 exact e
theorem LM{mask f m:Nat}{led pl:Bool}{hs:Array Int}(hm:mask=7\/mask=31\/mask=127\/mask=511)(hl:hs.size<=mask) :
  ∃t o,lA mask f m led pl hs=some (t,o)/\t.mask=mask/\t.led=led/\o.toList.Perm (aT hs.size)/\t.place.size=o.size/\(∀j∈t.place.toList,j<=mask)/\∀(i:Nat) (h:i<o.size) (h':i<t.place.size),mH t (hs.toList.getD o[i] 0) t.place[i]:=by
 let t0:aZ:={ mask,place:=#[],dummies:=#[],finger:=f,led,moves:=m,plain:=pl }
 obtain⟨ow,h1,y⟩:=LL (t:=t0) hm hl;have h1:px mask hs=some ow:=h1;have hsz:ow.size=mask+1:=y.sz;let live:=(aT (mask+1)).filterMap fun j=>(ow.getD j none).map (j,·)
 have hmem:∀j k,(j,k)∈live↔ow[j]? = some (some k):=fun j k=>by
  simp only[live,ql,br,xk,uy];constructor
  ·rintro⟨a,ha,b,hb,rfl,rfl⟩;rw[eA]at hb;rw[aW (by omega)]at hb ⊢;exact congrArg some hb
  ·intro h;have hj:j<ow.size:=(cQ.mp h).1;exact⟨j,by omega,k,by rw[eA,h];rfl,rfl,rfl⟩
 let t:aZ:={ mask,place:=(live.map (·.1)).toArray,dummies:=#[],finger:=f,led,moves:=m,plain:=pl }
 refine⟨t,(live.map (·.2)).toArray,?_,rfl,rfl,?_,by simp[t],fun j hj=>?_,fun i hi hi'=>?_⟩
 ·unfold lA;rw[h1];rfl
 ·show(live.map (·.2)).Perm _
  have hnd:(live.map (·.2)).Nodup:=by
   have hp:live.Pairwise fun a b=>a.1≠b.1:=by
    refine xE.mpr (nS ?_ zQ);intro a b hab x hx z hz;obtain⟨_,_,rfl⟩:=fM hx;obtain⟨_,_,rfl⟩:=fM hz;show a≠b;omega
   refine fV.mpr (kA ?_ hp);intro a b ha hb hne e;have ea:=(hmem a.1 a.2).mp ha;have eb:=(hmem b.1 b.2).mp hb;rw[e]at ea;exact hne (y.un _ _ _ ea eb)
  rw[fK hnd fF];intro k;rw[aX,br];constructor
  ·rintro⟨a,ha,rfl⟩;exact(y.st _ _ ((hmem a.1 a.2).mp ha)).1
  ·intro hk;obtain⟨j,hj⟩:=y.ex k hk;exact⟨(j,k),(hmem j k).mpr hj,rfl⟩
 ·have hj:j∈live.map (·.1):=hj;obtain⟨a,ha,rfl⟩:=aX.mp hj;have:=(cQ.mp ((hmem a.1 a.2).mp ha)).1;omega
 ·have hi2:i<live.length:=by simpa using hi
  have e1:(live.map (·.2)).toArray[i]=live[i].2:=by simp
  have e2:t.place[i]=live[i].1:=by simp[t]
  rw[e1,e2];obtain⟨_,n,g1,g2⟩:=y.st _ _ ((hmem live[i].1 live[i].2).mp (bM hi2));refine⟨n,?_,fun k hk=>?_⟩
  ·rw[mP (t:=t) (t':=t0) rfl,nU (t:=t) (t':=t0) rfl];exact g1
  ·rw[mP (t:=t) (t':=t0) rfl,nU (t:=t) (t':=t0) rfl];have hle:(way t0 k (t0.probeStart (hs.toList.getD live[i].2 0))).j<=mask:=Af (t:=t0) k _;obtain⟨b,hb⟩:=CJ (ow:=ow) (by omega) (g2 k hk);exact aX.mpr ⟨(_,b),(hmem _ b).mpr hb,rfl⟩
theorem yR{t:aZ}(hd:t.dummies=#[]){ha:Nat->Int}{hh:Int}(hn:∀i,ha i≠hh):∀(fuel:Nat) (p:bG) {m:Js},p.dummy=none->cw t ha hh fuel p=some m->∃n,n<fuel/\t.slot (way t n p).j=.empty/\∀k<n,t.slot (way t k p).j≠.empty
 | 0,p,m,_,h=>by cases h
 | fuel+1,p,m,hp,h=>by
   rw[cw]at h
   cases hs:t.slot p.j with
   | empty=>exact⟨0,by omega,hs,fun k hk=>by omega⟩
   | dummy=>exact(mS hd hs).elim
   | live i=>
     rw[hs]at h;dsimp only at h;rw[if_neg (by simpa using hn i)]at h;obtain⟨n,h1,h2,h3⟩:=yR hd hn fuel _ (vM hp) h;refine⟨n+1,by omega,h2,fun k hk=>?_⟩
     cases k with
     | zero=>show t.slot p.j≠_;rw[hs];simp
     | succ k=>exact h3 k (by omega)
theorem Bt{t:aZ}(hm:t.mask=7\/t.mask=31\/t.mask=127\/t.mask=511)(hd:t.dummies=#[])(x:Int){j:Nat}(hj:j<t.mask+1)(he:t.slot j=.empty) :
  ∃N,N<6000/\t.slot (way t N (t.probeStart x)).j=.empty/\∀k<N,t.slot (way t k (t.probeStart x)).j≠.empty:=by
 obtain⟨m,h⟩:=qT hm hd (ha:=fun _=>x+1) (hh:=x) (u6 t x) hj he;obtain⟨n,h1,h2,h3⟩:=yR hd (fun _=>by omega) _ _ rfl h;refine⟨n,?_,h2,h3⟩;unfold hV at h1;omega
theorem AD{t:aZ}(hm:t.mask=7\/t.mask=31\/t.mask=127\/t.mask=511)(hd:t.dummies=#[]){ha:Nat->Int}{x:Int}{N a:Nat}(h1:t.slot (way t N (t.probeStart x)).j=.empty)(h2:∀k<N,t.slot (way t k (t.probeStart x)).j≠.empty)(haN:a<=N) :
  (t.probe ha x (way t a (t.probeStart x))=some (.empty (way t N (t.probeStart x)).j none)/\∀k,a<=k->k<N->∃i,t.slot (way t k (t.probeStart x)).j=.live i/\ha i≠x)\/
  ∃b i,a<=b/\b<N/\t.probe ha x (way t a (t.probeStart x))=some (.candidate (way t b (t.probeStart x)).j i (way t (b+1) (t.probeStart x)))/\t.slot (way t b (t.probeStart x)).j=.live i/\ha i=x/\∀k,a<=k->k<b->∃i,t.slot (way t k (t.probeStart x)).j=.live i/\ha i≠x:=by
 have hway:rd t (way t a (t.probeStart x)):=FY a (u6 t x);have hle:=Af (t:=t) N x;obtain⟨m,hmt⟩:=qT hm hd (ha:=ha) (hh:=x) hway (j:=(way t N (t.probeStart x)).j) (by omega) h1;obtain⟨c,g1,g2⟩:=vb hd _ _ hway.d hmt
 have hbetw:∀k,a<=k->k<a+c->∃i,t.slot (way t k (t.probeStart x)).j=.live i/\ha i≠x:=fun k k1 k2=>by
  have:=g1 (k - a) (by omega);rw[<-kB,show a+(k - a)=k by omega]at this;exact this
 have hcN:a+c<=N:=by
  rcases gW N (a+c)with hl|hl
  ·obtain⟨i,e,_⟩:=hbetw N haN hl;rw[h1]at e;cases e
  ·exact hl
 rcases g2 with⟨g2,g3⟩|⟨i,g2,g3,g4⟩
 ·rw[<-kB]at g2 g3
  have:a+c=N:=by
   rcases gW (a+c) N with hl|hl
   ·exact absurd g3 (h2 _ hl)
   ·omega
  refine .inl ⟨by rw[hmt,g2,this],fun k k1 k2=>hbetw k k1 (by omega)⟩
 ·rw[<-kB]at g3
  have hlt:a+c<N:=by
   rcases gW (a+c) N with hl|hl
   ·exact hl
   ·rw[show a+c=N by omega,h1]at g3;cases g3
  refine .inr ⟨a+c,i,by omega,hlt,?_,g3,g4,hbetw⟩;rw[hmt,g2,<-kB,<-kB];rfl
end L2
namespace L2
open PySem PySem.Spec PyProof.Rows
structure lZ(led:Bool)(h:bP)(S:ag)(es:Array (Int×ab))(ep:Nat)(t:aZ):Prop where
 obj:h.get? S=some { cls:=.type "set",dict:=none,data:=.set es ep t }
 fits:t.fits es.size=true
 ok:zJ led t
theorem lZ.keep{led:Bool}{h h':bP}{S:ag}{es:Array (Int×ab)}{ep:Nat}{t:aZ}(y:lZ led h S es ep t)(k:∀o,h.get? S=some o->h'.get? S=some o):lZ led h' S es ep t:=⟨k _ y.obj,y.fits,y.ok⟩
noncomputable abbrev qb(w:bA):Bool:=!w.params.followText "set-order"
theorem qV{α β:Type}{R:α->β->Prop}{l l':List α}(p:l'.Perm l):∀{ks:List β},gR R l ks->∃ks',gR R l' ks'/\ks'.Perm ks:=by
 induction p with
 | nil=>intro ks h;cases h;exact⟨[],.nil,.nil⟩
 | cons x p ih=>intro ks h;cases h with
   | cons a b=>obtain⟨ks',c,d⟩:=ih b;exact⟨_::ks',.cons a c,d.cons _⟩
 | swap x y l=>intro ks h;cases h with
   | cons a b=>cases b with
     | cons c d=>exact⟨_,.cons c (.cons a d),.swap _ _ _⟩
 | trans p q ih1 ih2=>
   intro ks h;obtain⟨k1,a,b⟩:=ih2 h;obtain⟨k2,c,d⟩:=ih1 a;exact⟨k2,c,d.trans b⟩
theorem qU{α β:Type}{R:α->β->Prop}{x:α}{y:β}(h:R x y):∀{l:List α} {ks:List β},gR R l ks->gR R (l++[x]) (ks++[y])
 | _,_,.nil=>.cons h .nil
 | _,_,.cons a b=>.cons a (qU h b)
theorem mU{α β:Type}{R:α->β->Prop}:∀{l:List α} {ks:List β},gR R l ks->l.length=ks.length
 | _,_,.nil=>rfl
 | _,_,.cons a b=>by rw[bo,bo,mU b]
theorem n4{α β:Type}{R:α->β->Prop}{x:α}:∀{l:List α} {ks:List β},gR R l ks->x∈l->∃y∈ks,R x y
 | _,_,.nil,h=>by cases h
 | _,_,.cons a b,h=>by
   rcases ao.mp h with rfl|h
   ·exact⟨_,.head _,a⟩
   ·obtain⟨y,c,d⟩:=n4 b h;exact⟨y,.tail _ c,d⟩
theorem pZ{α β:Type}{R:α->β->Prop}{y:β}:∀{l:List α} {ks:List β},gR R l ks->y∈ks->∃x∈l,R x y
 | _,_,.nil,h=>by cases h
 | _,_,.cons a b,h=>by
   rcases ao.mp h with rfl|h
   ·exact⟨_,.head _,a⟩
   ·obtain⟨x,c,d⟩:=pZ b h;exact⟨x,.tail _ c,d⟩
section
variable{prog:aS}{w:bA}{K:Type}[DecidableEq K]{knd:pz prog w K}{A:bC}{E:ab->ae->Prop}{s:ae}{led:Bool}{S:ag}{es:Array (Int×ab)}{ep:Nat}{t:aZ}
theorem xJ{es':Array (Int×ab)}{t':aZ}{Q:Unit->ae->Prop}(y:lZ led s.heap S es ep t)(f:t'.fits es'.size=true)(o:zJ led t')(hz:es'.size<=aP)
  (k:∀h',cC S s.heap h'->lZ led h' S es' (ep+1) t'->Q () { s with heap:=h' }):aB (aI prog w) A (storeSet S es' t') Q E s:=by
 refine wpAny_storeSet_of y.obj rfl (k _ (ng ..) ⟨?_,f,o⟩) hz;have e:=hX (Obj.putSet es' t') y.obj (by rw[putSet_of es' t' rfl];rfl);rw[putSet_of es' t' rfl]at e;exact e
end
section
variable{prog:aS}{w:bA}{K:Type}[DecidableEq K]{knd:pz prog w K}{A:bC}{R:Result->ae->Prop}{I:ag}{fp wr:List ag}{G:Array uk->Array uk->Prop}{n:Nat}{P:Nat->ab->Prop}{St:Nat->ae->Prop}{led:Bool}
end
section
variable{P:aS}{w:bA}{A:bC}{E:ab->ae->Prop}{z0:ae}
theorem zo{n:Nat}{v:ab}{Q:Bool->ae->Prop}(hv:carriedByValue v=true)(h:Q false z0):aB (aI P w) A (ofAClassStatement n v) Q E z0:=by
 cases v<;>first|(cases hv;done)|(unfold ofAClassStatement;exact wu9 h)|(cases n<;>(unfold ofAClassStatement;exact wu9 h))
theorem IT{n:Nat}{ks:List Key}{p:ag}{Q:Bool->ae->Prop}(gk:iW (cf P w) z0.heap ks p)(h:Q false z0):aB (aI P w) A (ofAClassStatement (n+1) (.ref p)) Q E z0:=by
 obtain⟨o,its0,m,go,gc,gd,gi⟩:=gk;unfold ofAClassStatement;refine wb9 (wpAny_typeOf_ref go ?_);rw[gc];dsimp only;refine wb9 (wu9 ?_);simp only[if_false,aJ,dA];refine wb9 (bO go gd ?_);refine wb9 ?_;show aB _ _ (forIn its0 _ _) _ _ z0;rw[<-fI];refine eH _ (fun tl r z1=>r.1=none/\z1=z0/\∀v∈tl,carriedByValue v=true) _ ?_ ?_ _ _ ⟨rfl,rfl,gi.byValue⟩
 ·rintro v tl r z1 ⟨ge,rfl,gall⟩;refine wb9 (zo (gall v ja) ?_);simp only[if_false,aJ];exact wu9 ⟨rfl,rfl,fun u hu'=>gall u (jt _ hu')⟩
 ·rintro⟨r1,r2⟩ z1 ⟨ge,rfl,_⟩;simp only at ge;subst ge;exact wu9 h
theorem Du{ks:List NK}{p:ag}{Q:Bool->ae->Prop}(gk:kz P w z0.heap ks p)(h:Q false z0):aB (aI P w) A (ofAClassStatement 8 (.ref p)) Q E z0:=by
 obtain⟨o,its0,m,go,gc,gd,gi⟩:=gk;unfold ofAClassStatement;refine wb9 (wpAny_typeOf_ref go ?_);rw[gc];dsimp only;refine wb9 (wu9 ?_);simp only[if_false,aJ,dA];refine wb9 (bO go gd ?_);refine wb9 ?_;show aB _ _ (forIn its0 _ _) _ _ z0;rw[<-fI];refine eH _ (fun tl r z1=>r.1=none/\z1=z0/\∃l,e8 P w z0.heap l tl) _ ?_ ?_ _ _ ⟨rfl,rfl,_,gi⟩
 ·rintro v tl r z1 ⟨ge,rfl,l,gl⟩
  cases gl with
  | @cons k _ ks' _ h1 gl'=>
    have step:∀{Q':Bool->ae->Prop},Q' false z1->aB (aI P w) A (ofAClassStatement 7 v) Q' E z1:=fun {Q'} q=>by
     cases k with
     | inl k=>exact zo ((cf P w).byValue _ _ h1) q
     | inr ks=>obtain⟨b,rfl,z⟩:=h1;exact IT (n:=6) z q
    refine wb9 (step ?_);simp only[if_false,aJ];exact wu9 ⟨rfl,rfl,ks',gl'⟩
 ·rintro⟨r1,r2⟩ z1 ⟨ge,rfl,_⟩;simp only at ge;subst ge;exact wu9 h
theorem IL{ks:List NK}{p:ag}{st:List ab}{Q:Bool->ae->Prop}(gk:kz P w z0.heap ks p)(hs:∀v∈st,∃l b,v=.ref b/\kz P w z0.heap l b)(h:Q false z0):aB (aI P w) A (searchCouldBeSeen (.ref p) st) Q E z0:=by
 unfold searchCouldBeSeen;refine wb9 ?_;refine eH _ (fun tl r z1=>r.1=none/\z1=z0/\∀v∈tl,∃l b,v=.ref b/\kz P w z0.heap l b) _ ?_ ?_ _ _ ⟨rfl,rfl,hs⟩
 ·rintro v tl r z1 ⟨ge,rfl,gall⟩;obtain⟨l,b,rfl,gb⟩:=gall v ja;dsimp only;split
  ·exact wu9 ⟨rfl,rfl,fun u hu'=>gall u (jt _ hu')⟩
  ·refine wb9 (wd gk ?_);simp only[if_false,aJ,dA];refine wb9 (wd gb ?_);simp only[if_false,aJ,dA];refine wb9 (Du gk ?_);simp only[if_false,aJ];refine wb9 (Du gb ?_);simp only[if_false,aJ];exact wu9 ⟨rfl,rfl,fun u hu'=>gall u (jt _ hu')⟩
 ·rintro⟨r1,r2⟩ z1 ⟨ge,rfl,_⟩;simp only at ge;subst ge;exact wu9 h
end
theorem below_at{xs:Array Nat}(hs:BU xs){i:Nat}(hi:i<xs.size):aM xs xs[i]=i:=by
 obtain⟨h1,h2,h3⟩:=Jg hs xs[i]
 rcases mL (aM xs xs[i]) i with hl|hl|hl
 ·have a:=hs.get hi hl;have b:=h3 (aM xs xs[i]) (by omega) (aK _);omega
 ·exact hl
 ·have:=h2 i hi hl;omega
theorem Ks{t:aZ}(hr:BU t.place){i:Nat}(hi:i<t.place.size):t.slot t.place[i]=.live i:=by
 rw[xM hr (by simp),below_at hr hi]
noncomputable abbrev VP(es:Array (Int×ab))(i:Nat):Int:=(es[i]?.map (·.1)).getD 0
section
variable{P:aS}{w:bA}{A:bC}{E:ab->ae->Prop}{s:ae}{led:Bool}{S:ag}{es:Array (Int×ab)}{ep:Nat}{t:aZ}
structure TF(P:aS)(w:bA)(h:bP)(es:Array (Int×ab))(t:aZ)(kf:Nat->List NK):Prop where
 mask:t.mask=7\/t.mask=31\/t.mask=127\/t.mask=511
 el:∀(i:Nat) (hi:i<es.size),∃b,es[i].2=.ref b/\kz P w h (kf i) b/\es[i].1=dB P w (kf i)
 std:∀(i:Nat) (hi:i<es.size) (hp:i<t.place.size),mH t es[i].1 t.place[i]
 le:∀j∈t.place.toList,j<=t.mask
theorem xR{kf:Nat->List NK}{ks:List NK}{p:ag}{Q:SetFound->ae->Prop}(room0:A.units+1<dS)(y:lZ led s.heap S es ep t)(z:TF P w s.heap es t kf)(gk:kz P w s.heap ks p){N:Nat}
  (h1:t.slot (way t N (t.probeStart (dB P w ks))).j=.empty)(h2:∀k<N,t.slot (way t k (t.probeStart (dB P w ks))).j≠.empty)
  (old:∀i,i<es.size->kf i=ks->Q (.there none) s)(new:(∀i,i<es.size->kf i≠ks)->Q (.free (way t N (t.probeStart (dB P w ks))).j false) s) :
  ∀(fuel a:Nat) (stand:Option bG),a<=N->N - a<fuel->stand.getD (t.probeStart (dB P w ks))=way t a (t.probeStart (dB P w ks))->(∀k<a,∀i,t.slot (way t k (t.probeStart (dB P w ks))).j=.live i->kf i≠ks)->
   aB (aI P w) A (setSearchFrom S (.ref p) (dB P w ks) true fuel stand) Q E s
 | 0,a,stand,ha,hf,_,_=>by omega
 | fuel+1,a,stand,ha,hf,hst,hps=>by
   have hsz:t.place.size=es.size:=by
    have:=y.fits;simp only[lD,aF,beq_iff_eq]at this;exact this.1
   have hmask:=z.mask
   have hg:t.gaveWay=false:=by
    unfold SetTable.gaveWay
    rcases hmask with e|e|e|e<;>rw[e]<;>rfl
   have hin:∀{j i:Nat},t.slot j=.live i->∃hi:i<es.size,VP es i=es[i].1:=fun {j i} e=>by
    have:=LK e;have hi:=(cQ.mp this).1;refine⟨by omega,?_⟩;unfold VP;simp[aW (show i<es.size by omega)]
   unfold setSearchFrom;refine wb9 (dR y.obj rfl y.fits ?_);dsimp only;rw[hg];simp only[if_false,aJ];rw[hst]
   rcases AD hmask y.ok.d (ha:=VP es) h1 h2 ha with⟨g1,g2⟩|⟨b,i,b1,b2,g1,g2,g3,g4⟩
   ·erw [g1]
    dsimp only;refine wu9 (new fun i hi e=>?_);obtain⟨n,n1,n2⟩:=z.std i hi (by omega);have hh:es[i].1=dB P w ks:=by obtain⟨_,_,_,q⟩:=z.el i hi;rw[q,e]
    rw[hh]at n1 n2;have hlive:t.slot (way t n (t.probeStart (dB P w ks))).j=.live i:=by rw[n1];exact Ks y.ok.r (by omega)
    have hnN:n<N:=by
     rcases mL n N with hl|hl|hl
     ·exact hl
     ·rw[hl,h1]at hlive;cases hlive
     ·have:=n2 N hl;rw[xM y.ok.r this]at h1;cases h1
    rcases gW n a with hl|hl
    ·exact hps n hl i hlive e
    ·obtain⟨i',e1,e2⟩:=g2 n hl hnN;rw[hlive]at e1
     injection e1 with e1
     subst e1;obtain⟨_,e3⟩:=hin hlive;exact e2 (by rw[e3,hh])
   ·erw [g1]
    dsimp only;obtain⟨hi,e3⟩:=hin g2;obtain⟨c,c1,c2,c3⟩:=z.el i hi
    have hgo:es[i]? = some (es[i].1,.ref c):=by
     rw[aW hi,<-c1]
    have next:aB (aI P w) A (do
      let some (_,v):=es[i]? | unsupported "internal:set-entry"
      let equal <-holding [v] (eqBool v (.ref p));let (es',_,t') <-setState S
      if(true && equal)=true then return .there none
      let some same:=t'.sameMemory t.moves t.mask|unsupported "set.changed-during-lookup:is-the-new-block-at-the-old-address"
      let still <-match(if same=true then t'.slot (way t b (t.probeStart (dB P w ks))).j else .empty)with
       | .live i'=>match es'[i']? with
         | some (_,y')=>do pure (if(<-isSame y' v)=true then some i' else none)
         | none=>pure none
       | _=>pure none
      match still with
      | none=>rule "set.search.anew";setSearchFrom S (.ref p) (dB P w ks) true fuel none
      | some i'=>if equal=true then return .there (some i')else setSearchFrom S (.ref p) (dB P w ks) true fuel (some (way t (b+1) (t.probeStart (dB P w ks))))) Q E s:=by
     rw[hgo];dsimp only;refine wb9 (eh (SX room0 c2 gk ?_));refine wb9 (dR y.obj rfl y.fits ?_);dsimp only;by_cases e:kf i=ks
     ·rw[decide_eq_true e];simp only[pQ,if_true];exact wu9 (old i hi e)
     ·rw[decide_eq_false e];simp only[lJ,if_false,aJ];have hsm:t.sameMemory t.moves t.mask=some true:=by unfold SetTable.sameMemory;simp
      rw[hsm];simp only[if_true];rw[g2];dsimp only;rw[hgo];dsimp only;refine wb9 (wpAny_isSame_ref_self (wb9 (wu9 ?_)));simp only[if_true];refine xR room0 y z gk h1 h2 old new fuel (b+1) _ (by omega) (by omega) rfl fun k hk i' e' e''=>?_
      rcases mL k b with hl|hl|hl
      ·rcases gW k a with hl2|hl2
       ·exact hps k hl2 i' e' e''
       ·obtain⟨i2,q1,q2⟩:=g4 k hl2 hl;rw[e']at q1
        injection q1 with q1
        subst q1;obtain⟨hi',q3⟩:=hin e';obtain⟨_,_,_,q4⟩:=z.el i' hi';exact q2 (by rw[q3,q4,e''])
      ·subst hl;rw[g2]at e'
       injection e' with e'
       subst e';exact e e''
      ·omega
    split
    ·refine wb9 (IL gk (fun v hv=>?_) ?_)
     ·obtain⟨x,hx,rfl⟩:=aX.mp hv;have hx:=Array.mem_toList_iff.mp hx;obtain⟨hx,_⟩:=Array.mem_filter.mp hx;obtain⟨k,hk,rfl⟩:=Array.mem_iff_getElem.mp hx;obtain⟨c',d1,d2,_⟩:=z.el k hk;exact⟨_,c',d1,d2⟩
     ·simp only[if_false,aJ];exact next
    ·exact next
end
section
variable{P:aS}{w:bA}{A:bC}{E:ab->ae->Prop}{z0:ae}
theorem Ig{n:Nat}{v:ab}{Q:Bool->ae->Prop}(hv:carriedByValue v=true)(h:∀b,Q b z0):aB (aI P w) A (hashByValue n v) Q E z0:=by
 cases v<;>first|(cases hv;done)|(unfold hashByValue;exact wu9 (h _))|(cases n<;>(unfold hashByValue;exact wu9 (h _)))
theorem P6{n:Nat}{ks:List Key}{p:ag}{Q:Bool->ae->Prop}(gk:iW (cf P w) z0.heap ks p)(h:∀b,Q b z0):aB (aI P w) A (hashByValue (n+1) (.ref p)) Q E z0:=by
 have gt:=gk.typeIs;obtain⟨o,its0,m,go,gc,gd,gi⟩:=gk;unfold hashByValue;refine wb9 (iy gt eW.lookup ?_);dsimp only;refine wb9 (bO go gd ?_);refine wb9 ?_;show aB _ _ (forIn its0 _ _) _ _ z0;rw[<-fI];refine eH _ (fun tl r z1=>r.1=none/\z1=z0/\∀v∈tl,carriedByValue v=true) _ ?_ ?_ _ _ ⟨rfl,rfl,gi.byValue⟩
 ·rintro v tl r z1 ⟨ge,rfl,gall⟩;refine wb9 (Ig (gall v ja) fun b=>?_);cases b
  ·exact wu9 (wu9 (h _))
  ·exact wu9 ⟨rfl,rfl,fun u hu'=>gall u (jt _ hu')⟩
 ·rintro⟨r1,r2⟩ z1 ⟨ge,rfl,_⟩;simp only at ge;subst ge;exact wu9 (h _)
theorem SJ{ks:List NK}{p:ag}{Q:Bool->ae->Prop}(gk:kz P w z0.heap ks p)(h:∀b,Q b z0):aB (aI P w) A (hashByValue 8 (.ref p)) Q E z0:=by
 have gt:=gk.typeIs;obtain⟨o,its0,m,go,gc,gd,gi⟩:=gk;unfold hashByValue;refine wb9 (iy gt eW.lookup ?_);dsimp only;refine wb9 (bO go gd ?_);refine wb9 ?_;show aB _ _ (forIn its0 _ _) _ _ z0;rw[<-fI];refine eH _ (fun tl r z1=>r.1=none/\z1=z0/\∃l,e8 P w z0.heap l tl) _ ?_ ?_ _ _ ⟨rfl,rfl,_,gi⟩
 ·rintro v tl r z1 ⟨ge,rfl,l,gl⟩
  cases gl with
  | @cons k _ ks' _ h1 gl'=>
    have step:∀{Q':Bool->ae->Prop},(∀b,Q' b z1)->aB (aI P w) A (hashByValue 7 v) Q' E z1:=fun {Q'} q=>by
     cases k with
     | inl k=>exact Ig ((cf P w).byValue _ _ h1) q
     | inr ks=>obtain⟨b,rfl,z⟩:=h1;exact P6 (n:=6) z q
    refine wb9 (step fun b=>?_);cases b
    ·exact wu9 (wu9 (h _))
    ·exact wu9 ⟨rfl,rfl,ks',gl'⟩
 ·rintro⟨r1,r2⟩ z1 ⟨ge,rfl,_⟩;simp only at ge;subst ge;exact wu9 (h _)
end
section
variable{P:aS}{w:bA}{A:bC}{E:ab->ae->Prop}{s:ae}{led:Bool}{S:ag}{es:Array (Int×ab)}{ep:Nat}{t:aZ}
theorem TK.keeps{h h':bP}{ks:List Key}{a d:ag}{o:fe}(x:iW (cf P w) h ks a)(go:h.get? d=some o)(gc:o.cls≠.type "tuple")(sb:cC d h h'):iW (cf P w) h' ks a:=by
 obtain⟨o',its,n,h1,h2,h3,h4⟩:=x
 have hne:a≠d:=by
  rintro rfl;obtain rfl:o'=o:=bw (h1.symm.trans go);exact gc h2
 exact⟨o',its,n,(sb.2 a hne).trans h1,h2,h3,h4⟩
theorem NI.keeps{h h':bP}{ks:List NK}{vs:List ab}{d:ag}{o:fe}(x:e8 P w h ks vs)(go:h.get? d=some o)(gc:o.cls≠.type "tuple")(sb:cC d h h'):e8 P w h' ks vs:=by
 induction x with
 | nil=>exact .nil
 | @cons k v ks vs h1 _ ih=>
   refine .cons ?_ ih
   cases k with
   | inl k=>exact h1
   | inr q=>obtain⟨b,e,z⟩:=h1;exact⟨b,e,TK.keeps z go gc sb⟩
theorem kz.Bk{h h':bP}{ks:List NK}{p d:ag}{o:fe}(x:kz P w h ks p)(go:h.get? d=some o)(gc:o.cls≠.type "tuple")(sb:cC d h h'):kz P w h' ks p:=by
 obtain⟨o',its,n,h1,h2,h3,h4⟩:=x
 have hne:p≠d:=by
  rintro rfl;obtain rfl:o'=o:=bw (h1.symm.trans go);exact gc h2
 exact⟨o',its,n,(sb.2 p hne).trans h1,h2,h3,NI.keeps h4 go gc sb⟩
structure BS(P:aS)(w:bA)(h:bP)(es:Array (Int×ab))(t:aZ):Prop where
 mask:t.mask=7\/t.mask=31\/t.mask=127\/t.mask=511
 el:∀e∈es.toList,∃l b,e.2=.ref b/\kz P w h l b/\e.1=dB P w l
 std:∀q∈es.toList.zip t.place.toList,mH t q.1.1 q.2
 le:∀j∈t.place.toList,j<=t.mask
 nf:t.place.size * 5<t.mask * 3
theorem BS.toN{h:bP}(z:BS P w h es t):∃kf,TF P w h es t kf:=by
 refine⟨fun i=>if hi:i<es.size then(z.el es[i] (by simp)).choose else [],z.mask,fun i hi=>?_,fun i hi hp=>?_,z.le⟩
 ·obtain⟨b,h1,h2,h3⟩:=(z.el es[i] (by simp)).choose_spec;refine⟨b,h1,?_,?_⟩
  ·rw[dif_pos hi];exact h2
  ·rw[dif_pos hi];exact h3
 ·refine z.std (es[i],t.place[i]) ?_;refine cD.mpr ⟨i,by simp;omega,by simp⟩
theorem qF{l l':List Nat}(hn:l.Nodup)(hn':l'.Nodup)(h:∀x∈l,x∈l'):l.length<=l'.length:=by
 have hl:(l'.filter fun x=>decide (x∈l)).Nodup:=xp DS hn'
 have hp:l.Perm (l'.filter fun x=>decide (x∈l)):=by
  rw[fK hn hl];intro x;rw[dX];simp only[decide_eq_true_eq];exact⟨fun q=>⟨h x q,q⟩,fun q=>q.2⟩
 rw[hp.length_eq];exact oh _ _
theorem Qc(hr:BU t.place)(hf:t.place.size<t.mask+1)(hd:t.dummies=#[]):∃j,j<t.mask+1/\t.slot j=.empty:=by
 rcases FW (∃j,j<t.mask+1/\t.slot j=.empty)with h|h
 ·exact h
 ·exfalso;have hn:t.place.toList.Nodup:=nS (fun h=>by omega) hr;have:=qF fF hn fun j (hj:j∈aT (t.mask+1))=>Hs hd fun e=>h ⟨j,br.mp hj,e⟩;rw[bW,bF]at this;omega
theorem AE{ks:List NK}{p:ag}{Q:SetFound->ae->Prop}(room0:A.units+1<dS)(y:lZ led s.heap S es ep t)(z:BS P w s.heap es t)(gk:kz P w s.heap ks p)
  (old:(∃e∈es.toList,∃b,e.2=.ref b/\kz P w s.heap ks b)->Q (.there none) s)
  (new:∀j,(¬ ∃e∈es.toList,∃b,e.2=.ref b/\kz P w s.heap ks b)->t.slot j=.empty->j<=t.mask->mH (t.put j).1 (dB P w ks) j->Q (.free j false) s) :
  aB (aI P w) A (setSearch S (.ref p) (dB P w ks) true) Q E s:=by
 obtain⟨kf,n⟩:=z.toN;have hnf:=z.nf;obtain⟨j,hj,he⟩:=Qc y.ok.r (by rcases z.mask with e|e|e|e<;>rw[e]at hnf ⊢<;>omega) y.ok.d;obtain⟨N,hN,h1,h2⟩:=Bt z.mask y.ok.d (dB P w ks) hj he;unfold setSearch;refine xR room0 y n gk h1 h2 (fun i hi e=>old ?_) (fun hno=>new _ ?_ h1 (Af N _) ?_) 100000 0 none (by omega) (by omega) rfl fun k hk=>by omega
 ·obtain⟨b,q1,q2,_⟩:=n.el i hi;exact⟨es[i],by simp,b,q1,e▸q2⟩
 ·rintro⟨e,he,b,q1,q2⟩;obtain⟨i,hi,rfl⟩:=cD.mp he;have hi':i<es.size:=by simpa using hi
  obtain⟨b',r1,r2,_⟩:=n.el i hi';rw[Ae]at q1;rw[r1]at q1;cases q1;exact hno i hi' (r2.inj q2)
 ·exact mH.new fun k hk=>Hs y.ok.d (h2 k hk)
end
section
variable{P:aS}{w:bA}{A:bC}{E:ab->ae->Prop}{s:ae}{led:Bool}{S:ag}{es:Array (Int×ab)}{ep:Nat}{t:aZ}
theorem KQ{wanted:Nat}{t':aZ}{o:Array Nat}{Q:Unit->ae->Prop}(y:lZ led s.heap S es ep t)(hw:dP wanted<=aP)(hl:t.relaid (es.map (·.1)) wanted=some (t',o))(hs:(o.filterMap (es[·]?)).size=es.size)
  (f:t'.fits (o.filterMap (es[·]?)).size=true)(ok:zJ led t')(hz:es.size<=aP)(k:∀h',cC S s.heap h'->lZ led h' S (o.filterMap (es[·]?)) (ep+1) t'->Q () { s with heap:=h' }) :
  aB (aI P w) A (setRelay S wanted) Q E s:=by
 unfold setRelay;refine wb9 (dR y.obj rfl y.fits ?_);dsimp only;rw[if_neg (by omega),hl];refine wb9 ?_;change aB _ _ (if((o.filterMap (es[·]?)).size != es.size)=true then(unsupported "internal:set-table-lost-an-element" >>= fun _=>pure (o.filterMap (es[·]?),t'))else pure (o.filterMap (es[·]?),t')) _ _ _;rw[if_neg (by simp[hs])];refine wu9 ?_;dsimp only;exact xJ y f ok (by rw[hs];exact hz) k
end
theorem filterMap_map{α β:Type}{f:α->Option β}{g:α->β}:∀{l:List α},(∀k∈l,f k=some (g k))->l.filterMap f=l.map g
 | [],_=>rfl
 | a::l,h=>by rw[kR,h a ja,aq,filterMap_map fun k hk=>h k (jt _ hk)]
theorem Ek(es:Array (Int×ab)):(aT es.size).map (fun k=>(es[k]?).getD (0,.none))=es.toList:=by
 apply nu
 ·simp
 ·intro i h1 h2;have:i<es.size:=by simpa using h2
  simp[this]
section
variable{P:aS}{w:bA}{A:bC}{E:ab->ae->Prop}{s:ae}{led:Bool}{S:ag}{es:Array (Int×ab)}{ep:Nat}{t:aZ}
theorem yj{o:Array Nat}(hp:o.toList.Perm (aT es.size)):(o.filterMap (es[·]?)).toList=o.toList.map (fun k=>(es[k]?).getD (0,.none)):=by
 rw[Array.toList_filterMap];refine filterMap_map fun k hk=>?_;have:k<es.size:=br.mp (hp.mem_iff.mp hk);rw[aW this];rfl
theorem sT{o:Array Nat}(hp:o.toList.Perm (aT es.size)):(o.filterMap (es[·]?)).toList.Perm es.toList:=by
 rw[yj hp];have:=hp.map (fun k=>(es[k]?).getD (0,de));rw[Ek]at this;exact this
theorem KR{mask:Nat}{h h':bP}(hm:mask=7\/mask=31\/mask=127\/mask=511)(hn:es.size<=mask)(hnf:es.size * 5<mask * 3)(el:∀e∈es.toList,∃l b,e.2=.ref b/\kz P w h' l b/\e.1=dB P w l){f m:Nat}{pl:Bool} :
  ∃t' o,lA mask f m led pl (es.map (·.1))=some (t',o)/\(o.filterMap (es[·]?)).size=es.size/\t'.fits (o.filterMap (es[·]?)).size=true/\zJ led t'/\(o.filterMap (es[·]?)).toList.Perm es.toList/\BS P w h' (o.filterMap (es[·]?)) t':=by
 obtain⟨t',o,h1,h2,h3,h4,h5,h6,h7⟩:=LM (f:=f) (m:=m) (led:=led) (pl:=pl) (hs:=es.map (·.1)) hm (by simpa using hn);have h4:o.toList.Perm (aT es.size):=by simpa using h4
 have hp:=sT h4;have hsz:(o.filterMap (es[·]?)).size=es.size:=by rw[<-bF,hp.length_eq,bF]
 have hos:o.size=es.size:=by rw[<-bF,h4.length_eq,bW]
 have ok:=zJ.laid h1;refine⟨t',o,h1,hsz,?_,ok,hp,?_⟩
 ·have hd:=ok.d;simp only[lD,oA,aF,beq_iff_eq,decide_eq_true_eq,hd];refine⟨by omega,?_⟩;show t'.place.size+0<=t'.mask;omega
 ·refine⟨by rw[h2];exact hm,fun e he=>el e (hp.mem_iff.mp he),fun q hq=>?_,fun j hj=>by rw[h2];exact h6 j hj,by omega⟩;obtain⟨i,hi,rfl⟩:=cD.mp hq;rw[g9]at hi;have hi1:i<o.size:=by simp at hi;omega
  have hi2:i<t'.place.size:=by omega
  have hk:o[i]<es.size:=br.mp (h4.mem_iff.mp (by simp))
  have e1:(o.filterMap (es[·]?)).toList[i]'(by simp at hi ⊢;omega)=es[o[i]]:=by
   simp only[yj h4,List.getElem_map,Ae,aW hk,jU]
  have h8:=h7 i hi1 hi2;have e2:(es.map (·.1)).toList.getD o[i] 0=es[o[i]].1:=by simp[hk]
  rw[e2]at h8;rw[rB];rw[e1];simpa using h8
end
theorem C8{α:Type}(xs:Array α){p:Nat}(hp:p<=xs.size)(x:α):(cO xs p x).size=xs.size+1:=by
 rw[<-bF,eO,ak,bo,gp,nr,bF];omega
theorem yL{α:Type}(xs:Array α)(p:Nat)(x:α):(cO xs p x).toList.Perm (xs.toList++[x]):=by
 rw[eO];refine Jx.trans ?_;rw[bu];exact dO (l₁:=[x])
theorem L7{α β:Type}(xs:Array α)(ys:Array β)(h:xs.size=ys.size){p:Nat}(hp:p<=xs.size)(x:α)(y:β){q:α×β}(hq:q∈(cO xs p x).toList.zip (cO ys p y).toList):q=(x,y)\/q∈xs.toList.zip ys.toList:=by
 rw[eO,eO,JT (by simp;omega),ji]at hq
 have hz:xs.toList.zip ys.toList=(xs.toList.take p).zip (ys.toList.take p)++(xs.toList.drop p).zip (ys.toList.drop p):=by
  rw[<-JT (by simp;omega),bu,bu]
 rw[hz]
 rcases aD.mp hq with hq|hq
 ·exact .inr (aD.mpr (.inl hq))
 ·rcases ao.mp hq with hq|hq
  ·exact .inl hq
  ·exact .inr (aD.mpr (.inr hq))
section
variable{P:aS}{w:bA}{A:bC}{E:ab->ae->Prop}{s:ae}{led:Bool}{S:ag}{es:Array (Int×ab)}{ep:Nat}{t:aZ}
theorem xG{c:Prop}[Decidable c]{m m':rl Bool}{k:Bool->rl Bool}{Q:Bool->ae->Prop}(h:∀b,aB (aI P w) A (k b) Q E s)(hm:∀{Q':Bool->ae->Prop},(∀b,Q' b s)->aB (aI P w) A m Q' E s)(hm':∀{Q':Bool->ae->Prop},(∀b,Q' b s)->aB (aI P w) A m' Q' E s) :
  aB (aI P w) A (if c then m >>= k else m' >>= k) Q E s:=by
 split
 ·exact wb9 (hm h)
 ·exact wb9 (hm' h)
theorem mH.plain{t:aZ}{x:Int}{j:Nat}{b:Bool}(h:mH t x j):mH { t with plain:=b } x j:=
 mH.mono (t:=t) (t':={ t with plain:=b }) rfl (fun _ h=>h) h
theorem Mb{n mask:Nat}(hm:mask=7\/mask=31\/mask=127\/mask=511)(h0:n * 5<mask * 3)(h1:(n+1) * 5>=mask * 3)(hr:n<300):(dP (fw (n+1)) - 1=31\/dP (fw (n+1)) - 1=127\/dP (fw (n+1)) - 1=511)/\n+1<=dP (fw (n+1)) - 1/\(n+1) * 5<(dP (fw (n+1)) - 1) * 3/\dP (fw (n+1))<=512:=by
 rcases hm with rfl|rfl|rfl|rfl
 ·obtain rfl:n=4:=by omega
  decide +kernel
 ·obtain rfl:n=18:=by omega
  decide +kernel
 ·obtain rfl:n=76:=by omega
  decide +kernel
 ·omega
end
section
variable{led:Bool}{S:ag}{es:Array (Int×ab)}{ep:Nat}{t:aZ}{P:aS}{w:bA}{s:ae}{A:bC}{E:ab->ae->Prop}
theorem add_n{ks:List NK}{p:ag}{Q:Bool->ae->Prop}(room0:A.units+1<dS)(y:lZ led s.heap S es ep t)(z:BS P w s.heap es t)(gk:kz P w s.heap ks p)(room:es.size<300)
  (old:∀b,(∃e∈es.toList,∃b,e.2=.ref b/\kz P w s.heap ks b)->Q b s)
  (new:∀b h' es' ep' t',(¬ ∃e∈es.toList,∃b,e.2=.ref b/\kz P w s.heap ks b)->cC S s.heap h'->lZ led h' S es' ep' t'->BS P w h' es' t'->es'.toList.Perm (es.toList++[(dB P w ks,.ref p)])->Q b { s with heap:=h' }) :
  aB (aI P w) A (setAddHashed S (.ref p) (dB P w ks)) Q E s:=by
 have hsz:t.place.size=es.size:=by
  have:=y.fits;simp only[lD,aF,beq_iff_eq]at this;exact this.1
 unfold setAddHashed;refine eh ?_;unfold setAddHashedIn;refine wb9 (dR y.obj rfl y.fits ?_);dsimp only;rw[show byScan (.ref p) es=false from rfl];simp only[if_false,aJ];refine wb9 (AE room0 y z gk (fun h=>?_) (fun j hno hs hle hst=>?_))
 ·exact wu9 (old _ h)
 ·dsimp only;refine wb9 (dR y.obj rfl y.fits ?_);dsimp only;refine xG (m:=hashByValue 8 (.ref p)) (m':=pure true) (fun b=>?_) (fun q=>SJ gk q) (fun q=>wu9 (q _));have hbel:aM t.place j<=t.place.size:=(Jg y.ok.r j).1
  have hcls:({ cls:=.type "set",dict:=none,data:=.set es ep t }:fe).cls≠.type "tuple":=by
   intro h
   injection h with h
   exact absurd h (by decide)
  generalize ht1:(if b=true then(t.put j).1 else { (t.put j).1 with plain:=false })=t1;have q1:t1.place=cO t.place (aM t.place j) j:=by rw[<-ht1];split<;>rfl
  have q2:t1.mask=t.mask:=by rw[<-ht1];split<;>rfl
  have q3:zJ led t1:=by
   have:=y.ok.put (Ax y.ok.d hs);rw[<-ht1];split
   ·exact this
   ·exact this.off
  have q4:∀x a,mH (t.put j).1 x a->mH t1 x a:=fun x a h=>by
   rw[<-ht1];split
   ·exact h
   ·exact h.plain
  have hps:t1.place.size=es.size+1:=by rw[q1,C8 _ hbel,hsz]
  have hes:(cO es (aM t.place j) (dB P w ks,bZ p)).size=es.size+1:=C8 _ (by omega) _;have hperm:=yL es (aM t.place j) (dB P w ks,bZ p)
  have hmem:∀e,e∈(cO es (aM t.place j) (dB P w ks,bZ p)).toList->e∈es.toList\/e=(dB P w ks,bZ p):=fun e he=>by
   rcases aD.mp (hperm.mem_iff.mp he)with h|h
   ·exact .inl h
   ·exact .inr (au.mp h)
  have hnf:=z.nf
  have hfit:t1.fits (cO es (aM t.place j) (dB P w ks,bZ p)).size=true:=by
   simp only[lD,oA,aF,beq_iff_eq,decide_eq_true_eq,q3.d];refine⟨by omega,?_⟩;show t1.place.size+0<=t1.mask;rw[q2]
   rcases z.mask with e|e|e|e<;>rw[e]at hnf ⊢<;>omega
  have hle1:∀a∈t1.place.toList,a<=t1.mask:=fun a ha=>by
   rw[q1]at ha;rw[q2]
   rcases aD.mp ((yL t.place (aM t.place j) j).mem_iff.mp ha)with h|h
   ·exact z.le a h
   ·rw[au.mp h];exact hle
  have hstd1:∀q∈(cO es (aM t.place j) (dB P w ks,bZ p)).toList.zip t1.place.toList,mH t1 q.1.1 q.2:=fun q hq=>by
   rw[q1]at hq
   rcases L7 es t.place hsz.symm (by omega) _ _ hq with h|h
   ·rw[h];exact q4 _ _ hst
   ·exact q4 _ _ (mH.mono (t:=t) (t':=(t.put j).1) rfl (fun a ha=>CQ.mpr (.inr ha)) (z.std q h))
  rw[show(t.put j).2=aM t.place j from rfl];generalize cO es (aM t.place j) (dB P w ks,bZ p)=es1 at hes hperm hmem hfit hstd1 ⊢;refine wb9 (xJ y hfit q3 (by rw[hes,cj];omega) fun h1 sb y1=>?_)
  have hel1:∀h',cC S s.heap h'->∀e∈es1.toList,∃l b,e.2=.ref b/\kz P w h' l b/\e.1=dB P w l:=fun h' sb' e he=>by
   rcases hmem e he with h|h
   ·obtain⟨l,b,r1,r2,r3⟩:=z.el e h;exact⟨l,b,r1,r2.Bk y.obj hcls sb',r3⟩
   ·rw[h];exact⟨ks,p,rfl,gk.Bk y.obj hcls sb',rfl⟩
  split
  ·rename_i htf
   have htf:(es.size+1) * 5>=t.mask * 3:=by
    simp only[iJ,pP,BY,oA,q3.d,decide_eq_true_eq]at htf;rw[q2]at htf;have:(#[]:Array Nat).size=0:=rfl;omega
   obtain⟨m1,m2,m3,m4⟩:=Mb z.mask (by rw[<-hsz];exact hnf) htf room;obtain⟨t',o,r1,r2,r3,r4,r5,r6⟩:=KR (P:=P) (w:=w) (es:=es1) (led:=led) (h:=s.heap) (h':=h1) (mask:=dP (fw (es.size+1)) - 1) (f:=t1.finger) (m:=t1.movedTo (dP (fw (es.size+1)) - 1)) (pl:=t1.plain) (.inr m1) (by omega) (by omega) (hel1 h1 sb)
   have hrl:t1.relaid (es1.map (·.1)) (fw (es.size+1))=some (t',o):=by
    unfold SetTable.relaid;rw[q3.l];exact r1
   refine wb9 (KQ y1 (by rw[cj];omega) hrl r2 r3 r4 (by rw[hes,cj];omega) fun h2 sb2 y2=>?_)
   have hcls2:({ cls:=.type "set",dict:=none,data:=.set es1 (ep+1) t1 }:fe).cls≠.type "tuple":=by
    intro h
    injection h with h
    exact absurd h (by decide)
   refine wu9 (new _ h2 _ _ _ hno (sb.trans sb2) y2 ⟨r6.mask,fun e he=>?_,r6.std,r6.le,r6.nf⟩ (r5.trans hperm));obtain⟨l,b,s1,s2,s3⟩:=r6.el e he;exact⟨l,b,s1,s2.Bk y1.obj hcls2 sb2,s3⟩
  ·rename_i htf
   have htf:(es.size+1) * 5<t.mask * 3:=by
    simp only[iJ,pP,BY,oA,q3.d,decide_eq_true_eq]at htf;rw[q2]at htf;have:(#[]:Array Nat).size=0:=rfl;omega
   exact wu9 (new _ h1 _ _ _ hno sb y1 ⟨by rw[q2];exact z.mask,hel1 h1 sb,hstd1,hle1,by rw[q2,hps];exact htf⟩ hperm)
end
section
variable{prog:aS}{w:bA}{A:bC}{E:ab->ae->Prop}{s:ae}
noncomputable abbrev sH(w:bA):fe:={ cls:=.type "set",dict:=none,data:=.set #[] 0 (.fresh 0 0 (qb w)) }
theorem KA(a:ab){Q:ab->ae->Prop}(k:Q (.ref s.heap.objs.size) { s with heap:=s.heap.push (sH w) }):codeAny (aI prog w) A (.call (.builtin "set.__new__") ⟨[.type "set",a],[]⟩) (wants Q E) s:=by
 refine JP PySem.F.plain_set_new PySem.F.entry_set_new (JN (PySem.F.newCall_set_1 a) ?_);unfold fO.«set.__new__» JR;have ss:=sub_set_self;obtain⟨hp,g,d,tk,os⟩:=s;dsimp only
 wp_walk
 refine vP ?_;refine wu9 ?_;dsimp only;simp only[newObj];exact wb9 (wpAny_alloc (wu9 (wu9 k)))
theorem wN{T nI iI:String}{B:fO}{args:List ab}{Q Q1:ab->ae->Prop}(ft:TypeCalled T nI iI)(ct:checkTypeCall T ⟨args,[]⟩=pure ())(eI:entryFor table iI=some B)
  (hn:codeAny (aI prog w) A.in1 (.call (.builtin nI) ⟨.type T::args,[]⟩) (wants Q1 E) s)
  (hx:∀ob s1,Q1 ob s1->s1.TypeIs ob T/\codeAny (aI prog w) A.in1 (.call (.builtin iI) ⟨ob::args,[]⟩) (wants (fun r s2=>r=.none/\Q ob s2) E) s1) :
  aB (aI prog w) A (call (.type T) args) Q E s:=by
 obtain⟨c,tl,e1⟩:=ft.mro;have e2:=ft.made;have e3:=ft.sub;refine wpAny_call (codeAny_of_tree ?_);show aB _ _ (callAny (.type T) _) _ _ _;refine wu9 (JX (Code.quiet_builtin _ (by decide +kernel)) (lQ PySem.F.entry_type_call ?_));rw[Around.under_plain (weight_type_call_type T args []) rfl];have e4:=ft.notType;have e5:=ft.canCreate
 repeat any_goals first|assumption|wp_step
 refine ke hn fun r s1 hr=>?_
 cases r with
 | error e=>exact hr
 | ok fl=>
   cases fl with
   | ret ob=>
     obtain⟨hT,hI⟩:=hx _ _ hr;have e6:=ft.init.lookup;have e7:=ft.init.bind ob
     repeat any_goals first|assumption|wp_step
     refine ke hI fun r2 s2 hr2=>?_
     cases r2 with
     | error e=>exact hr2
     | ok fl2=>
       cases fl2 with
       | ret r=>
         obtain⟨rfl,hq⟩:=hr2
         repeat any_goals first|assumption|wp_step
       | _=>exact hr2.elim
   | _=>exact hr.elim
theorem Fj{M:Model}{v:ab}{T:String}{Q:Bool->ae->Prop}(ty:s.TypeIs v T)(a:isSubtype (.type T) (.type "set")=pure false)(b:isSubtype (.type T) (.type "frozenset")=pure false)(k:Q false s):aB M A (oB v) Q E s:=by
 unfold oB;show aB M A (isInstance v (.type "set") >>= _) Q E s;refine wb9 (eG ty a ?_);exact eG ty b k
variable{K:Type}[DecidableEq K]{knd:pz prog w K}
def NW(prog:aS)(w:bA)(h:bP)(v:ab)(n:Nat)(P:Nat->ab->Prop):Prop:=
 ∀(A1:bC) (E1:ab->ae->Prop) (s1:ae) (Q1:ab->ae->Prop),h.objs.size<s1.heap.objs.size->(∀b o,h.get? b=some o->s1.heap.get? b=some o)->
  (∀(o:fe) (fp:List ag) (St:Nat->bP->Prop),(∀A',A'.handled=none->Walks prog w A' s1.heap.objs.size fp [s1.heap.objs.size] n P St)->(∀b∈fp,b=s1.heap.objs.size\/b<h.objs.size)->St 0 (s1.heap.push o)->
   Q1 (.ref s1.heap.objs.size) { s1 with heap:=s1.heap.push o })->aB (aI prog w) A1 (FK v) Q1 E1 s1
end
section
variable{P:aS}{w:bA}
theorem TK.mono{h h':bP}{ks:List Key}{a:ag}(x:iW (cf P w) h ks a)(k:∀b o,h.get? b=some o->h'.get? b=some o):iW (cf P w) h' ks a:=by
 obtain⟨o',its,n,h1,h2,h3,h4⟩:=x;exact⟨o',its,n,k _ _ h1,h2,h3,h4⟩
theorem NI.mono{h h':bP}{ks:List NK}{vs:List ab}(x:e8 P w h ks vs)(k:∀b o,h.get? b=some o->h'.get? b=some o):e8 P w h' ks vs:=by
 induction x with
 | nil=>exact .nil
 | @cons q v ks vs h1 _ ih=>
   refine .cons ?_ ih
   cases q with
   | inl q=>exact h1
   | inr q=>obtain⟨b,e,z⟩:=h1;exact⟨b,e,TK.mono z k⟩
theorem kz.mono{h h':bP}{ks:List NK}{p:ag}(x:kz P w h ks p)(k:∀b o,h.get? b=some o->h'.get? b=some o):kz P w h' ks p:=by
 obtain⟨o',its,n,h1,h2,h3,h4⟩:=x;exact⟨o',its,n,k _ _ h1,h2,h3,NI.mono h4 k⟩
def zN(P:aS)(w:bA)(led:Bool)(h:bP)(S:ag)(kf:Nat->List NK)(av:Nat->ag)(i:Nat):Prop:=
 ∃es ep t js,lZ led h S es ep t/\BS P w h es t/\gR (fun(e:Int×ab) j=>e.2=.ref (av j)) es.toList js/\(js.map kf).Nodup/\(∀j∈js,j<i)/\∀j,j<i->kf j∈js.map kf
variable{led:Bool}{S:ag}{kf:Nat->List NK}{av:Nat->ag}
theorem zN.keep{h h':bP}{i:Nat}(y:zN P w led h S kf av i)(k:∀o,h.get? S=some o->h'.get? S=some o)(a:∀j,j<i->kz P w h (kf j) (av j))(b:∀j,j<i->kz P w h' (kf j) (av j)):zN P w led h' S kf av i:=by
 obtain⟨es,ep,t,js,y1,y2,y3,y4,y5,y6⟩:=y;refine⟨es,ep,t,js,y1.keep k,⟨y2.mask,fun e he=>?_,y2.std,y2.le,y2.nf⟩,y3,y4,y5,y6⟩;obtain⟨l,b0,e1,e2,e3⟩:=y2.el e he;obtain⟨j,hj,e4⟩:=n4 y3 he;rw[e4]at e1;cases e1;rw[e2.inj (a j (y5 j hj))]at e3;exact⟨kf j,av j,e4,b j (y5 j hj),e3⟩
variable{A:bC}{R:Result->ae->Prop}{I:ag}{fp wr:List ag}{G:Array uk->Array uk->Prop}{n:Nat}{Pv:Nat->ab->Prop}{St:Nat->ae->Prop}
theorem Ma{h:bP}{es:Array (Int×ab)}{js:List Nat}{i m:Nat}(y3:gR (fun(e:Int×ab) j=>e.2=.ref (av j)) es.toList js)(y5:∀j∈js,j<i)(a:∀j,j<m->kz P w h (kf j) (av j))(hi:i<m) :
  (∃e∈es.toList,∃b,e.2=.ref b/\kz P w h (kf i) b)↔kf i∈js.map kf:=by
 constructor
 ·rintro⟨e,he,b,e1,e2⟩;obtain⟨j,hj,e4⟩:=n4 y3 he;rw[e4]at e1;cases e1;have hlt:=y5 j hj;rw[e2.inj (a j (by omega))];exact eK hj
 ·intro q;obtain⟨j,hj,e⟩:=aX.mp q;obtain⟨x,hx,e4⟩:=pZ y3 hj;have hlt:=y5 j hj;exact⟨x,hx,av j,e4,e▸a j (by omega)⟩
theorem DW(W:WalksS P w A.in1 I fp wr G n Pv St)(S:ag)(hS:S∉fp)(hv:∀i v,Pv i v->v=.ref (av i))(h0:bP)(hk:∀j,j<n->kz P w h0 (kf j) (av j))(h0S:h0.get? S=none)(h0w:∀b∈wr,h0.get? b=none)
  (hb:n<=300)(room0:A.in1.units+1<dS) :
  ∀(k i:Nat) (s:ae),n - i=k->i<=n->St i s->(∀b o,h0.get? b=some o->s.heap.get? b=some o)->zN P w led s.heap S kf av i->
   (∀s',Moved (S::wr) G s s'->zN P w led s'.heap S kf av n->R (.ok (.ret .none)) s')->
   codeAny (aI P w) A (.builtin "set.update.loop" ⟨[.ref S,.ref I],[]⟩) R s:=by
 have hSw:S∉wr:=fun h=>hS (W.sub _ h);have sub:∀b∈wr,b∈S::wr:=fun b m=>jt _ m;have kin:∀(h:bP),(∀b o,h0.get? b=some o->h.get? b=some o)->∀j,j<n->kz P w h (kf j) (av j):=fun h q j hj=>(hk j hj).mono q;intro k
 induction k with
 | zero=>
   intro i s hk' hi hst q0 y hR;obtain rfl:i=n:=by omega
   refine lQ mK ?_;rw[j8 g8];show aB _ A.in1 (pyNext (.ref I) >>= _) _ _ s;refine wb9 (W.done s _ _ hst fun s' m=>?_);have q1:∀b o,h0.get? b=some o->s'.heap.get? b=some o:=fun b o e=>m.heap b o (fun z=>by rw[h0w b z]at e;cases e) (q0 b o e);exact wu9 (hR s' (m.mono sub) (y.keep (fun o e=>m.heap S o hSw e) (kin _ q0) (kin _ q1)))
 | succ k ih=>
   intro i s hk' hi hst q0 y hR;refine lQ mK ?_;rw[j8 g8];show aB _ A.in1 (pyNext (.ref I) >>= _) _ _ s;refine wb9 (W.item i s _ _ (by omega) hst fun v s' hP hst' m=>?_);have q1:∀b o,h0.get? b=some o->s'.heap.get? b=some o:=fun b o e=>m.heap b o (fun z=>by rw[h0w b z]at e;cases e) (q0 b o e);obtain rfl:=hv i v hP;have hi':i<n:=by omega
   obtain⟨es,ep,t,js,ya,yb,yc,yd,ye,yf⟩:=y.keep (h':=s'.heap) (fun o e=>m.heap S o hSw e) (fun j hj=>kin _ q0 j (by omega)) (fun j hj=>kin _ q1 j (by omega));show aB _ A.in1 (holding [.ref (av i)] (setAdd S (.ref (av i))) >>= _) _ _ s';refine wb9 (eh ?_);unfold setAdd;refine eh (wb9 (Ij room0 (kin _ q1 i hi') ?_));have len:=mU yc;rw[bF]at len
   have hjl:js.length<=i:=by
    have hn:js.Nodup:=(fV.mp yd).imp fun h e=>h (congrArg kf e);have:=qF hn fF fun j hj=>br.mpr (ye j hj)
    rwa [bW]at this
   have has:=Ma (P:=P) (w:=w) (h:=s'.heap) (m:=n) yc ye (kin _ q1) hi'
   have go:∀h' tk,cC S s'.heap h'->s'.toks<=tk->zN P w led h' S kf av (i+1)->
     aB (aI P w) A.in1 (again (.builtin "set.update.loop" ⟨[.ref S,.ref I],[]⟩)) (fun fin s''=>match fin with | .done f=>R (.ok f) s'' | .again c'=>c'.quiet=true/\codeAny (aI P w) A c' R s'') (fun e s''=>R (.error e) s'') { s' with heap:=h',toks:=tk }:=by
    intro h' tk sb htk y';refine wu9 ⟨DL g8 _,ih (i+1) _ (by omega) (by omega) (W.frame _ s' _ _ hst' htk fun b hb o e=>?_) (fun b o e=>?_) y' fun s2 m2 y2=>?_⟩
    ·rw[sb.2 b fun z=>hS (z▸hb)];exact e
    ·show h'.get? b=some o;rw[sb.2 b fun z=>by rw[z,h0S]at e;cases e];exact q1 b o e
    ·refine hR s2 (Moved.trans W.gtrans ((m.mono sub).then_heap htk fun b o hb e=>?_) m2) y2;rw[sb.2 b fun z=>hb (z▸ja)];exact e
   refine add_n (led:=led) (s:={ s' with toks:=_ }) room0 ya yb (kin _ q1 i hi') (by omega) (fun b hq=>?_) (fun b h' es' ep' t' hq sb y' z' p=>?_)
   ·refine go s'.heap _ (Heap.SameBut.refl ..) (kj _ _) ⟨es,ep,t,js,ya,yb,yc,yd,fun j hj=>mM (ye j hj),fun j hj=>?_⟩;by_cases e:j=i
    ·subst e;exact has.mp hq
    ·exact yf j (by omega)
   ·obtain⟨js',c1,c2⟩:=qV p (qU (R:=fun(e:Int×ab) j=>e.2=.ref (av j)) (x:=(dB P w (kf i),bZ (av i))) (y:=i) rfl yc);have nk:kf i∉js.map kf:=fun z=>hq (has.mpr z)
    have c3:(js'.map kf).Perm (js.map kf++[kf i]):=by
     have:=c2.map kf
     rwa [dY]at this
    refine go h' _ sb (kj _ _) ⟨es',ep',t',js',y',z',c1,?_,fun j hj=>?_,fun j hj=>?_⟩
    ·refine c3.nodup_iff.mpr (cV.mpr ⟨yd,bX.mpr ⟨by simp,iH⟩,fun a ha b hb=>?_⟩);rw[au]at hb;subst hb;exact fun z=>nk (z▸ha)
    ·rcases aD.mp (c2.mem_iff.mp hj)with h|h
     ·exact mM (ye j h)
     ·rw[au.mp h];exact ki _
    ·rw[c3.mem_iff];by_cases e:j=i
     ·subst e;exact aA _ (au.mpr rfl)
     ·exact aY _ (yf j (by omega))
end
section
variable{P:aS}{w:bA}{A:bC}{E:ab->ae->Prop}{s:ae}
theorem D8{v:ab}{T:String}{n:Nat}{Pv:Nat->ab->Prop}{Q:ab->ae->Prop}{kf:Nat->List NK}{av:Nat->ag}(hh:A.handled=none)(ty:∀s1:ae,(∀b o,s.heap.get? b=some o->s1.heap.get? b=some o)->s1.TypeIs v T)
  (a:isSubtype (.type T) (.type "set")=pure false)(b:isSubtype (.type T) (.type "frozenset")=pure false)(nd:(lq T == lq "dict")=false)(itr:NW P w s.heap v n Pv)
  (hv:∀i v,Pv i v->v=.ref (av i))(hk:∀j,j<n->kz P w s.heap (kf j) (av j))(hb:n<=300)(room0:A.in1.in1.in1.units+1<dS)
  (k:∀h' tk,zN P w (qb w) h' s.heap.objs.size kf av n->(∀b o,s.heap.get? b=some o->h'.get? b=some o)->Q (.ref s.heap.objs.size) { s with heap:=h',toks:=tk }) :
  aB (aI P w) A (call (.type "set") [v]) Q E s:=by
 refine wN (Q1:=fun ob s1=>ob=.ref s.heap.objs.size/\s1={ s with heap:=s.heap.push (sH w) }) zY (PySem.F.typeCall_set_1 v) vU (KA v ⟨rfl,rfl⟩) ?_;rintro ob s1 ⟨rfl,rfl⟩;have gS:(s.heap.push (sH w)).get? s.heap.objs.size=some (sH w):=aQ _ rfl;have hT:uJ { s with heap:=s.heap.push (sH w) } (.ref s.heap.objs.size) "set":=⟨_,gS,rfl⟩
 refine⟨hT,JP zY.init.plain vU (check_set_init_1 hT ?_)⟩;have e1:∀b o,s.heap.get? b=some o->(s.heap.push (sH w)).get? b=some o:=fun b o e=>hp9 _ e;unfold fO.«set.__init__» noKeywords;generalize hU:nP=U
 wp_walk
 subst hU;unfold nP;refine wb9 (Fj (ty _ e1) a b ?_);simp only[aJ,if_false];refine wb9 (mo (ty _ e1) ?_);rw[nd];simp only[aJ,if_false];have sz:(s.heap.push (sH w)).objs.size=s.heap.objs.size+1:=cB ..;refine wb9 (itr _ _ _ _ (by show s.heap.objs.size<(s.heap.push (sH w)).objs.size;omega) e1 fun o fp St W hfp st=>?_);have h3:A.in1.in1.in1.handled=none:=by simp[hh]
 refine wb9 (wpAny_runValue ?_);refine DW (led:=qb w) (W _ h3).toS s.heap.objs.size (fun m=>?_) hv s.heap hk (oF (aK _)) (fun b hb=>?_) hb room0 n 0 _ rfl (dJ _) st (fun b o e=>hp9 _ (e1 b o e)) ?_ ?_
 ·rcases hfp _ m with q|q
  ·have q':s.heap.objs.size=(s.heap.push (sH w)).objs.size:=q;rw[sz]at q';exact absurd q' (bN (ki _))
  ·exact absurd q (bK _)
 ·have hb':b=(s.heap.push (sH w)).objs.size:=by simpa using hb
  rw[hb',sz];exact oF (DO _)
 ·refine⟨#[],0,_,[],⟨hp9 _ gS,by rfl,zJ.fresh _⟩,⟨.inl rfl,fun e he=>by simp at he,fun q hq=>by simp at hq,fun j hj=>?_,by show 0 * 5<7 * 3;omega⟩,.nil,iH,fun j hj=>by simp at hj,fun j hj=>by omega⟩;simp[SetTable.fresh]at hj
 ·intro s' m y;refine wu9 ?_;obtain⟨h',g',d',tk',os'⟩:=s';obtain rfl:g'=s.gens:=m.gens;obtain rfl:d'=s.drawn:=m.drawn;obtain rfl:os'=s.os:=m.os;refine wu9 ⟨rfl,k h' tk' y fun b o e=>m.heap b o (fun z=>?_) (hp9 _ (hp9 _ e))⟩;have lt:=hl9 e;simp only[ao,ba,or_false]at z
  rcases z with z|z
  ·rw[z]at lt;exact absurd lt (bK _)
  ·have z':b=(s.heap.push (sH w)).objs.size:=z;rw[z',sz]at lt;exact absurd (Jv lt) (bK _)
end
end L2
local macro_rules | `(tactic| walk_at $s:str) => if s.getString.startsWith "u " then do let n := Lean.mkIdent (Lean.mkPrivateNameCore `PySem.Builtin.List.W1All (`PySem.Builtin ++ (s.getString.drop 2).toString.toName)); `(tactic| delta $n:ident) else Lean.Macro.throwUnsupported
namespace L2
open PySem PySem.W PySem.Spec PyProof.Rows
structure Lt(lt:Nat->Nat->Bool):Prop where
 tr:∀i j k,lt i j=true->lt j k=true->lt i k=true
 co:∀i j,i≠j->lt i j=false->lt j i=true
 as:∀i j,lt i j=true->lt j i=false
noncomputable def wG:Bool->fk->Array fk->Nat->Nat->Nat->StateT bJ rl (Option Nat):=sortPriv% PySem.Builtin.gallop
noncomputable def sY:Array fk->Array fk->StateT bJ rl (Array fk):=sortPriv% PySem.Builtin.mergeLo
noncomputable def sZ:Array fk->Array fk->StateT bJ rl (Array fk):=sortPriv% PySem.Builtin.mergeHi
section
variable{P:aS}{w:bA}{A:bC}{E:ab->ae->Prop}{s:ae}{κ:gf}{it:Nat->fk}{lt:Nat->Nat->Bool}{N:Nat}
def Wt(P:aS)(w:bA)(A:bC)(E:ab->ae->Prop)(s:ae){α:Type}(m:StateT bJ rl α)(G:α->bJ->Prop)(st:bJ):Prop:=
 kasC (aI P w) A E m (fun r st' s'=>G r st'/\s'=s) st s
variable{α β:Type}{G:β->bJ->Prop}{st:bJ}
theorem Wt.pure{b:β}(h:G b st):Wt P w A E s (pure b) G st:=kasC_pure ⟨h,rfl⟩
theorem Wt.bind{m:StateT bJ rl α}{f:α->StateT bJ rl β}(h:Wt P w A E s m (fun a st'=>Wt P w A E s (f a) G st') st):Wt P w A E s (m >>= f) G st:=
 kasC_bind (dm h (fun _ _ z=>by obtain⟨z,rfl⟩:=z;exact z) fun _ _ e=>e)
theorem Wt.mono{G':β->bJ->Prop}{m:StateT bJ rl β}(h:Wt P w A E s m G' st)(f:∀b st',G' b st'->G b st'):Wt P w A E s m G st:=
 dm h (fun _ _ z=>⟨f _ _ z.1,z.2⟩) fun _ _ e=>e
theorem Wt.get{G:bJ->bJ->Prop}(h:G st st):Wt P w A E s (get:StateT bJ rl bJ) G st:=kasC_get ⟨h,rfl⟩
theorem Wt.modify{G:PUnit->bJ->Prop}{f:bJ->bJ}(h:G ⟨⟩ (f st)):Wt P w A E s (modify f:StateT bJ rl PUnit) G st:=kasC_modify ⟨h,rfl⟩
theorem Wt.set{G:PUnit->bJ->Prop}{st':bJ}(h:G ⟨⟩ st'):Wt P w A E s (MonadStateOf.set st':StateT bJ rl PUnit) G st:=by
 unfold Wt kasC;rw[StateT.run_set];exact wu9 ⟨h,rfl⟩
theorem Wt.rule{G:Unit->bJ->Prop}{n:String}(h:G () st):Wt P w A E s (liftM (rule n):StateT bJ rl Unit) G st:=kasC_lift (ic ⟨h,rfl⟩)
noncomputable abbrev UP(G I:β->bJ->Prop):ForInStep β->bJ->Prop
 | .done b,st=>G b st
 | .yield b,st=>I b st
theorem Wt.loop{l:List Nat}{b:β}{f:Nat->β->StateT bJ rl (ForInStep β)}(I:Nat->β->bJ->Prop)(h0:I 0 b st)
  (hb:∀j x b st,l[j]? = some x->I j b st->Wt P w A E s (f x b) (UP G (I (j+1))) st)(he:∀b st,I l.length b st->G b st):Wt P w A E s (forIn l b f) G st:=by
 have go:∀(r:List Nat) (j:Nat) (b:β) (st:bJ),j+r.length=l.length->(∀k,r[k]? = l[j+k]?)->I j b st->Wt P w A E s (forIn r b f) G st:=by
  intro r
  induction r with
  | nil=>
    intro j b st hj _ hi;exact kasC_nil ⟨he b st (by rw[<-hj];exact hi),rfl⟩
  | cons x r ih=>
    intro j b st hj hr hi;have hx:l[j]? = some x:=(hr 0).symm;refine kasC_cons (dm (hb j x b st hx hi) (fun r' s' z=>?_) fun _ _ e=>e);obtain⟨r',st'⟩:=r';obtain⟨z,rfl⟩:=z
    cases r' with
    | done b'=>exact⟨z,rfl⟩
    | yield b'=>
      exact ih (j+1) b' st' (by simp at hj;omega) (fun k=>by have:=hr (k+1);rw[bD]at this;rw[this];congr 1;omega) z
 exact go l 0 b st (by simp) (fun k=>by simp) h0
theorem Wt.range{a b:Nat}{c:β}{f:Nat->β->StateT bJ rl (ForInStep β)}(I:Nat->β->bJ->Prop)(h0:I 0 c st)
  (hb:∀j b' st,j<b - a->I j b' st->Wt P w A E s (f (a+j) b') (UP G (I (j+1))) st)(he:∀b' st,I (b - a) b' st->G b' st):Wt P w A E s (forIn [a:b] c f) G st:=
 kasC_range (Wt.loop I h0 (fun j x b' st hx hi=>by
  have hj:j<b - a:=by have:=(be.mp hx).1;simpa using this
  rw[List.getElem?_range' hj]at hx;cases hx;rw[Nat.one_mul]
  exact hb j b' st hj hi) fun b' st hi=>he b' st (by rw[List.length_range']at hi;exact hi))
def rA(P:aS)(w:bA)(A:bC)(s:ae)(κ:gf)(it:Nat->fk)(lt:Nat->Nat->Bool)(N:Nat):Prop:=
 ∀i j,i<N->j<N->∀C:Bool->ae->Prop,C (lt i j) s->aB (aI P w) A (keyLt' κ (it i).1 (it j).1) C (fun _ _=>False) s
theorem Wt.ask{G:Option Bool->bJ->Prop}{i j:Nat}(h:rA P w A s κ it lt N)(hk:kindOf st=κ)(hi:i<N)(hj:j<N)(g:G (some (lt i j)) st):Wt P w A E s (lt' (it i) (it j)) G st:=by
 rw[lt'_eq];refine kasC_bind (kasC_get ?_);refine kasC_bind (kasC_lift (jA ?_));rw[hk];exact dm (h i j hi hj (fun c s'=>c=lt i j/\s'=s) ⟨rfl,rfl⟩) (fun c s' ⟨e1,e2⟩=>by subst e1 e2;exact kasC_pure ⟨g,rfl⟩) fun _ _ z=>z.elim
noncomputable abbrev Ar(it:Nat->fk)(l:List Nat):Array fk:=(l.map it).toArray
theorem Wt.elem{G:fk->bJ->Prop}{l:List Nat}{i x:Nat}(h:l[i]? = some x)(g:G (it x) st):Wt P w A E s (elem' (Ar it l) i) G st:=by
 rw[elem'_eq];have:(Ar it l)[i]? = some (it x):=by simp[h]
 rw[this];exact .pure g
end
section
variable{P:aS}{w:bA}{A:bC}{E:ab->ae->Prop}{s:ae}{κ:gf}{it:Nat->fk}{lt:Nat->Nat->Bool}{N:Nat}{st:bJ}
noncomputable abbrev NX:=Option (Option Nat)×Nat×Nat
theorem Dc{n k lo hi:Nat}{f:Nat->NX->StateT bJ rl (ForInStep NX)}(h1:lo<=k)(h2:k<=hi)(h3:hi<=n)
  (hf:∀x lo hi (G':ForInStep NX->bJ->Prop),lo<=k->k<=hi->hi<=n->(lo>=hi->G' (.done (none,lo,hi)) st)->(lo<hi->lo+(hi - lo) / 2<k->G' (.yield (none,lo+(hi - lo) / 2+1,hi)) st)->
   (lo<hi->¬lo+(hi - lo) / 2<k->G' (.yield (none,lo,lo+(hi - lo) / 2)) st)->Wt P w A E s (f x (none,lo,hi)) G' st) :
  Wt P w A E s (forIn [0:n] ((none,lo,hi):NX) f) (fun b st'=>st'=st/\∃lo,b=(none,lo,k)) st:=by
 refine Wt.range (fun j b st'=>st'=st/\∃lo hi,b=(none,lo,hi)/\lo<=k/\k<=hi/\hi<=n/\hi - lo<=n - j) ⟨rfl,lo,hi,rfl,h1,h2,h3,by omega⟩ (fun j b st' hj z=>?_) fun b st' z=>by obtain⟨e,lo,hi,e1,a1,a2,a3,a4⟩:=z;exact⟨e,lo,by rw[e1];congr;omega⟩
 obtain⟨e,lo,hi,e1,a1,a2,a3,a4⟩:=z;subst e e1;refine hf _ lo hi _ a1 a2 a3 (fun q=>?_) (fun q1 q2=>?_) fun q1 q2=>?_
 ·exact⟨rfl,lo,by congr;omega⟩
 ·exact⟨rfl,_,_,rfl,by omega,a2,a3,by omega⟩
 ·exact⟨rfl,_,_,rfl,a1,by omega,by omega,by omega⟩
theorem EL{left:Bool}{x:Nat}{l:List Nat}{base n hint k:Nat}{g:Nat->Nat}{G:Option Nat->bJ->Prop}(as:rA P w A s κ it lt N)(hk:kindOf st=κ)(hx:x<N)(hl:∀i,i<n->l[base+i]? = some (g i)/\g i<N)
  (th:∀i,i<n->(if left=true then lt (g i) x else !(lt x (g i)))=decide (i<k))(hkn:k<=n)(hh:hint<n)(q:G (some k) st):Wt P w A E s (wG left (it x) (Ar it l) base n hint) G st:=by
 have hb:∀i,i<n->∀{G':Option Bool->bJ->Prop},G' (some (decide (i<k))) st->Wt P w A E s (do
   let y <-elem' (Ar it l) (base+i)
   if left=true then lt' y (it x)else do
    let b <-lt' (it x) y
    pure (b.map fun z=>!z)) G' st:=by
  intro i hi G' hG;obtain⟨e1,e2⟩:=hl i hi;have t:=th i hi;refine .bind (.elem e1 ?_)
  cases left with
  | true=>
    refine Wt.ask as hk e2 hx ?_;have t:lt (g i) x=decide (i<k):=t;rw[t];exact hG
  | false=>
    refine .bind (Wt.ask as hk hx e2 (.pure ?_));have t:(!lt x (g i))=decide (i<k):=t;show G' (some (!lt x (g i))) st;rw[t];exact hG
 unfold wG;walk_at "u gallop";refine .bind (hb hint hh ?_);by_cases c:hint<k
 ·rw[decide_eq_true c]
  refine .bind (Wt.mono (Wt.range (G:=fun b st'=>st'=st/\∃lo of:Nat,b=((none,lo,of):NX)/\hint+lo<k/\lo<of/\(k<=hint+of\/n - hint<=of)) (fun j b st'=>st'=st/\∃lo of:Nat,b=((none,lo,of):NX)/\hint+lo<k/\lo<of/\j+1<=of)
   ⟨rfl,0,1,rfl,by omega,by omega,by omega⟩ (fun j b st' hj z=>?_) fun b st' z=>by obtain⟨e,lo,of,e1,a1,a2,a3⟩:=z;exact⟨e,lo,of,e1,a1,a2,by omega⟩) fun b st' z=>?_)
  ·obtain⟨e,lo,of,e1,a1,a2,a3⟩:=z;subst e e1;by_cases d:of>=n - hint
   ·show Wt P w A E s (if of>=n - hint then _ else _) _ _;rw[if_pos d];exact .pure ⟨rfl,lo,of,rfl,a1,a2,.inr d⟩
   ·show Wt P w A E s (if of>=n - hint then _ else _) _ _;rw[if_neg d];refine .bind (hb (hint+of) (by omega) ?_);by_cases d':hint+of<k
    ·rw[decide_eq_true d'];exact .pure ⟨rfl,of,2 * of+1,rfl,d',by omega,by omega⟩
    ·rw[decide_eq_false d'];exact .pure ⟨rfl,lo,of,rfl,a1,a2,.inl (by omega)⟩
  ·obtain⟨e,lo,of,e1,a1,a2,a3⟩:=z;subst e e1;refine .bind (Wt.mono (Dc (k:=k) (n:=n) (lo:=hint+lo+1) (hi:=hint+min of (n - hint)) (by omega) (by omega) (by omega) fun y lo hi G' a1 a2 a3 k1 k2 k3=>?_) fun b st' z=>by obtain⟨e,lo,e1⟩:=z;subst e e1;exact .pure q);show Wt P w A E s (if lo>=hi then _ else _) _ _;by_cases c:lo>=hi
   ·rw[if_pos c];exact .pure (k1 c)
   ·rw[if_neg c];refine .bind (hb (lo+(hi - lo) / 2) (by omega) ?_);by_cases d:lo+(hi - lo) / 2<k
    ·rw[decide_eq_true d];exact .pure (k2 (by omega) d)
    ·rw[decide_eq_false d];exact .pure (k3 (by omega) d)
 ·rw[decide_eq_false c]
  refine .bind (Wt.mono (Wt.range (G:=fun b st'=>st'=st/\∃lo of:Nat,b=((none,lo,of):NX)/\k<=hint - lo/\lo<=hint/\lo<of/\(hint - of<k/\of<=hint\/hint+1<=of)) (fun j b st'=>st'=st/\∃lo of:Nat,b=((none,lo,of):NX)/\k<=hint - lo/\lo<=hint/\lo<of/\j+1<=of)
   ⟨rfl,0,1,rfl,by omega,by omega,by omega,by omega⟩ (fun j b st' hj z=>?_) fun b st' z=>by obtain⟨e,lo,of,e1,a0,a1,a2,a3⟩:=z;exact⟨e,lo,of,e1,a0,a1,a2,.inr (by omega)⟩) fun b st' z=>?_)
  ·obtain⟨e,lo,of,e1,a0,a1,a2,a3⟩:=z;subst e e1;by_cases d:of>=hint+1
   ·show Wt P w A E s (if of>=hint+1 then _ else _) _ _;rw[if_pos d];exact .pure ⟨rfl,lo,of,rfl,a0,a1,a2,.inr d⟩
   ·show Wt P w A E s (if of>=hint+1 then _ else _) _ _;rw[if_neg d];refine .bind (hb (hint - of) (by omega) ?_);by_cases d':hint - of<k
    ·rw[decide_eq_true d'];exact .pure ⟨rfl,lo,of,rfl,a0,a1,a2,.inl ⟨d',by omega⟩⟩
    ·rw[decide_eq_false d'];exact .pure ⟨rfl,of,2 * of+1,rfl,by omega,by omega,by omega,by omega⟩
  ·obtain⟨e,lo,of,e1,a0,a1,a2,a3⟩:=z;subst e e1;refine .bind (Wt.mono (Dc (k:=k) (n:=n) (lo:=hint+1 - min of (hint+1)) (hi:=hint - lo) (by omega) (by omega) (by omega) fun y lo hi G' a1 a2 a3 k1 k2 k3=>?_) fun b st' z=>by obtain⟨e,lo,e1⟩:=z;subst e e1;exact .pure q);show Wt P w A E s (if lo>=hi then _ else _) _ _;by_cases c:lo>=hi
   ·rw[if_pos c];exact .pure (k1 c)
   ·rw[if_neg c];refine .bind (hb (lo+(hi - lo) / 2) (by omega) ?_);by_cases d:lo+(hi - lo) / 2<k
    ·rw[decide_eq_true d];exact .pure (k2 (by omega) d)
    ·rw[decide_eq_false d];exact .pure (k3 (by omega) d)
end
noncomputable def Ni:Nat->StateT bJ rl Unit:=sortPriv% PySem.Builtin.setMinGallop
section
variable{P:aS}{w:bA}{A:bC}{E:ab->ae->Prop}{s:ae}{st:bJ}{β:Type}{G:β->bJ->Prop}
theorem Wt.Kz{G:Unit->bJ->Prop}{g:Nat}(h:G () (fB (kindOf st) (arrOf st) (pendingOf st) g (failedOf st))):Wt P w A E s (Ni g) G st:=by
 unfold Ni;walk_at "u setMinGallop";exact .modify h
theorem Wt.wy(Q:(StateT bJ rl β->Prop)->Prop){m:StateT bJ rl β}(h1:Q fun m=>Wt P w A E s m G st)(h2:(Q fun m=>Wt P w A E s m G st)->Wt P w A E s m G st):Wt P w A E s m G st:=h2 h1
theorem Wt.Sm{c:Prop}[Decidable c]{m m':StateT bJ rl β}(h:c)(x:Wt P w A E s m G st):Wt P w A E s (if c then m else m') G st:=by rw[if_pos h];exact x
theorem Wt.C6{c:Prop}[Decidable c]{m m':StateT bJ rl β}(h:¬c)(x:Wt P w A E s m' G st):Wt P w A E s (if c then m else m') G st:=by rw[if_neg h];exact x
theorem Wt.ite{c:Prop}[Decidable c]{m m':StateT bJ rl β}(x:c->Wt P w A E s m G st)(y:¬c->Wt P w A E s m' G st):Wt P w A E s (if c then m else m') G st:=by
 by_cases h:c
 ·exact .Sm h (x h)
 ·exact .C6 h (y h)
end
abbrev eM(lt:Nat->Nat->Bool)(l:List Nat):Prop:=l.Pairwise fun x y=>lt x y=true
section
variable{lt:Nat->Nat->Bool}{a b out:List Nat}{ia ib:Nat}
structure ML(lt:Nat->Nat->Bool)(a b out:List Nat)(ia ib:Nat):Prop where
 so:eM lt out
 Jg:∀x∈out,∀y,y∈a.drop ia\/y∈b.drop ib->lt x y=true
 pm:(out++(a.drop ia++b.drop ib)).Perm (a++b)
theorem ML.swap(h:ML lt a b out ia ib):ML lt b a out ib ia:=
 ⟨h.so,fun x hx y hy=>h.Jg x hx y hy.symm,((jx _ dO).trans h.pm).trans dO⟩
theorem ML.start:ML lt a b [] 0 0:=⟨.nil,fun x hx=>by simp at hx,by simp⟩
theorem ML.oJ(h:ML lt a b out ia ib)(sb:eM lt b)(k:Nat)(hc:∀y∈(b.drop ib).take k,∀x∈a.drop ia,lt y x=true):ML lt a b (out++(b.drop ib).take k) ia (ib+k):=by
 have e:b.drop ib=(b.drop ib).take k++b.drop (ib+k):=by rw[<-jJ];exact(bu k _).symm
 have sd:eM lt (b.drop ib):=sb.sublist (fh _ _);rw[e]at sd;obtain⟨s1,s2,s3⟩:=eo.mp sd;refine⟨eo.mpr ⟨h.so,s1,fun x hx y hy=>h.Jg x hx y (.inr (bY hy))⟩,fun x hx y hy=>?_,?_⟩
 ·rcases aD.mp hx with hx|hx
  ·refine h.Jg x hx y (hy.imp id fun hy=>?_);rw[e];exact aA _ hy
  ·rcases hy with hy|hy
   ·exact hc x hx y hy
   ·exact s3 x hx y hy
 ·refine B1 ?_ h.pm
  conv=>rhs;rw[e]
  rw[aC];refine jx _ ?_;rw[<-aC,<-aC];exact List.Perm.append_right _ dO
theorem ML.uZ(h:ML lt a b out ia ib)(sa:eM lt a)(k:Nat)(hc:∀y∈(a.drop ia).take k,∀x∈b.drop ib,lt y x=true):ML lt a b (out++(a.drop ia).take k) (ia+k) ib:=
 (h.swap.oJ sa k hc).swap
theorem ML.fin(h:ML lt a b out ia ib)(sa:eM lt a)(hb:b.length<=ib):eM lt (out++a.drop ia++b.drop ib)/\(out++a.drop ia++b.drop ib).Perm (a++b):=by
 have e:b.drop ib=[]:=jI hb;refine⟨?_,by rw[aC];exact h.pm⟩;rw[e,aL];exact eo.mpr ⟨h.so,sa.sublist (fh _ _),fun x hx y hy=>h.Jg x hx y (.inl hy)⟩
theorem jw{l:List Nat}{i x:Nat}(h:l[i]? = some x):l.drop i=x::l.drop (i+1):=by
 obtain⟨hi,e⟩:=be.mp h;rw[mj hi,e]
theorem take_one{l:List Nat}{i x:Nat}(h:l[i]? = some x):(l.drop i).take 1=[x]:=by rw[jw h];rfl
theorem qg(o:Lt lt){l:List Nat}(sl:eM lt l){i x y:Nat}(h:l[i]? = some x)(c:lt y x=true):∀z∈l.drop i,lt y z=true:=fun z hz=>by
 rw[jw h]at hz;have sd:=sl.sublist (fh i _);rw[jw h]at sd
 rcases ao.mp hz with rfl|hz
 ·exact c
 ·exact o.tr _ _ _ c ((eQ.mp sd).1 z hz)
theorem ML.qh(h:ML lt a b out ia ib)(sa:eM lt a)(sb:eM lt b)(hc:∀y∈b.drop ib,∀x∈a.drop ia,lt y x=true):eM lt (out++b.drop ib++a.drop ia)/\(out++b.drop ib++a.drop ia).Perm (a++b):=by
 have q:=(h.oJ sb b.length (fun y hy=>hc y (bY hy))).fin sa (by omega);rw[fx (by simp)]at q;have e:b.drop (ib+b.length)=[]:=jI (by omega);rw[e,aL]at q;exact q
theorem lO{it:Nat->fk}{l:List Nat}{x:Nat}:(Ar it l).push (it x)=Ar it (l++[x]):=by simp
theorem lY{it:Nat->fk}{l b:List Nat}{i j:Nat}:Ar it l++(Ar it b).extract i j=Ar it (l++(b.drop i).take (j - i)):=by
 simp[pN,xm]
theorem bR{it:Nat->fk}{l:List Nat}:(Ar it l).size=l.length:=by simp
theorem gJ{l:List Nat}{i:Nat}:(l.drop i).take (l.length - i)=l.drop i:=fx (by simp)
theorem CC(o:Lt lt){l:List Nat}(sl:eM lt l)(y:Nat):∃k,k<=l.length/\∀i x,l[i]? = some x->lt x y=decide (i<k):=by
 induction l with
 | nil=>exact⟨0,by simp,fun i x h=>by simp at h⟩
 | cons a l ih=>
   obtain⟨s1,s2⟩:=eQ.mp sl;obtain⟨k,h1,h2⟩:=ih s2
   cases c:lt a y with
   | true=>
     refine⟨k+1,by simpa using h1,fun i x h=>?_⟩
     cases i with
     | zero=>cases h;rw[c];simp
     | succ i=>rw[h2 i x (by simpa using h)];simp
   | false=>
     refine⟨0,by simp,fun i x h=>?_⟩
     cases i with
     | zero=>cases h;rw[c];simp
     | succ i=>
       have m:x∈l:=bq (by simpa using h)
       cases d:lt x y with
       | false=>simp
       | true=>rw[o.tr _ _ _ (s1 x m) d]at c;cases c
section
variable{P:aS}{w:bA}{A:bC}{E:ab->ae->Prop}{s:ae}{κ:gf}{it:Nat->fk}{N:Nat}
theorem qJ(o:Lt lt)(as:rA P w A s κ it lt N){l:List Nat}{base n y:Nat}(hn:base+n<=l.length)(sl:eM lt ((l.drop base).take n))(nl:∀x∈(l.drop base).take n,x<N/\x≠y)(hy:y<N) :
  ∃k,k<=n/\(∀z∈((l.drop base).take n).take k,lt z y=true)/\(∀z∈((l.drop base).take n).drop k,lt y z=true)/\
   ∀{E:ab->ae->Prop} (left:Bool) (hint:Nat) {G:Option Nat->bJ->Prop} {st:bJ},kindOf st=κ->hint<n->G (some k) st->Wt P w A E s (wG left (it y) (Ar it l) base n hint) G st:=by
 generalize hL:(l.drop base).take n=L at sl nl;have hLn:L.length=n:=by rw[<-hL];simp;omega
 have hget:∀i,i<n->L[i]? = l[base+i]? :=fun i hi=>by rw[<-hL,cX,if_pos hi,lI]
 obtain⟨k,k1,k2⟩:=CC o sl y;refine⟨k,by omega,fun z hz=>?_,fun z hz=>?_,fun left hint G st hk hh q=>?_⟩
 ·obtain⟨i,hi⟩:=fW hz;rw[cX]at hi;split at hi
  ·rename_i c;rw[k2 i z hi,decide_eq_true c]
  ·cases hi
 ·obtain⟨i,hi⟩:=fW hz;rw[lI]at hi;refine o.co _ _ (nl z (bq hi)).2 ?_;rw[k2 _ z hi,decide_eq_false (by omega)]
 ·refine EL (g:=fun i=>L.getD i 0) as hk hy (fun i hi=>?_) (fun i hi=>?_) (by omega) hh q
  ·have e:=af (show i<L.length by omega);refine⟨by rw[<-hget i hi,e];simp[e],?_⟩;have:=(nl _ (bq e)).1;simpa [e]using this
  ·have e:=af (show i<L.length by omega);have e2:=k2 i _ e;have hne:=(nl _ (bq e)).2;have e3:L.getD i 0=L[i]:=by simp[e]
   show(if left=true then lt (L.getD i 0) y else !lt y (L.getD i 0))=_;rw[e3]
   cases left with
   | true=>exact e2
   | false=>
     show(!lt y L[i])=_;rw[<-e2]
     cases c:lt L[i] y with
     | true=>rw[o.as _ _ c];rfl
     | false=>rw[o.co _ _ hne c];rfl
end
end
section
variable{P:aS}{w:bA}{A:bC}{E:ab->ae->Prop}{s:ae}{κ:gf}{it:Nat->fk}{lt:Nat->Nat->Bool}{N:Nat}
noncomputable abbrev B9(st:bJ)(g:Nat):bJ:=fB (kindOf st) (arrOf st) (pendingOf st) g (failedOf st)
def Res(it:Nat->fk)(lt:Nat->Nat->Bool)(l:List Nat)(r:Array fk):Prop:=∃R,r=Ar it R/\eM lt R/\R.Perm l
structure TQ(lt:Nat->Nat->Bool)(a b out:List Nat)(ia ib m:Nat):Prop where
 ml:ML lt a b out ia ib
 ha:ia+1<a.length
 hb:ib<b.length
 m:m<=ia+ib
theorem Bb{st:bJ}{a b:List Nat}{G:Array fk->bJ->Prop}(o:Lt lt)(as:rA P w A s κ it lt N)(hk:kindOf st=κ)(na:∀x∈a,x<N)(nb:∀x∈b,x<N)(sa:eM lt a)(sb:eM lt b)(xv:∀x∈a,x∉b)
  (h0:0<a.length){y0:Nat}(hy0:b[0]? = some y0)(hf:∀x∈a,lt y0 x=true)(hl:∀y∈b,∀x∈a.drop (a.length - 1),lt y x=true)
  (q:∀r g,Res it lt (a++b) r->G r (B9 st g)):Wt P w A E s (sY (Ar it a) (Ar it b)) G st:=by
 have hb0:0<b.length:=(be.mp hy0).1
 have fin1:∀{out:List Nat} {ia ib:Nat},ML lt a b out ia ib->b.length<=ib->Res it lt (a++b) (Ar it out++(Ar it a).extract ia (Ar it a).size++(Ar it b).extract ib (Ar it b).size):=fun h hb=>by
  obtain⟨z1,z2⟩:=h.fin sa hb;exact⟨_,by rw[lY,lY,bR,bR,gJ,gJ],z1,z2⟩
 have fin1':∀{out:List Nat} {ia ib:Nat},ML lt a b out ia ib->a.length<=ia->Res it lt (a++b) (Ar it out++(Ar it a).extract ia (Ar it a).size++(Ar it b).extract ib (Ar it b).size):=fun {out ia ib} h ha=>by
  obtain⟨z1,z2⟩:=h.swap.fin sb ha;have e:a.drop ia=[]:=jI ha;rw[e,aL]at z1 z2;refine⟨out++b.drop ib,by rw[lY,lY,bR,bR,gJ,gJ,e,aL],z1,z2.trans dO⟩
 have qh:∀{out:List Nat} {ia ib:Nat},ML lt a b out ia ib->ia+1=a.length->Res it lt (a++b) (Ar it out++(Ar it b).extract ib (Ar it b).size++(Ar it a).extract ia (Ar it a).size):=fun {out ia ib} h ha=>by
  obtain⟨z1,z2⟩:=h.qh sa sb fun y hy x hx=>hl y (dv hy) x (by rw[show a.length - 1=ia by omega];exact hx);exact⟨_,by rw[lY,lY,bR,bR,gJ,gJ],z1,z2⟩
 have getB:∀{ib:Nat},ib<b.length->∃y,b[ib]? = some y/\y<N/\y∉a:=fun {ib} h=>⟨b[ib],af h,nb _ (bM h),fun z=>xv _ z (bM h)⟩
 have getA:∀{ia:Nat},ia<a.length->∃x,a[ia]? = some x/\x<N/\x∉b:=fun {ia} h=>⟨a[ia],af h,na _ (bM h),fun z=>xv _ (bM h) z⟩
 have nex:∀{ia ib x y:Nat},a[ia]? = some x->b[ib]? = some y->x≠y:=fun h1 h2 e=>xv _ (bq h1) (e▸bq h2)
 have tB:∀{out:List Nat} {ia ib x y:Nat},ML lt a b out ia ib->a[ia]? = some x->b[ib]? = some y->lt y x=true->ML lt a b (out++[y]) ia (ib+1):=fun {out ia ib x y} h h1 h2 c=>by
  have:=h.oJ sb 1 (fun z hz=>by rw[take_one h2,au]at hz;subst hz;exact qg o sa h1 c);rw[take_one h2]at this;exact this
 have tA:∀{out:List Nat} {ia ib x y:Nat},ML lt a b out ia ib->a[ia]? = some x->b[ib]? = some y->lt x y=true->ML lt a b (out++[x]) (ia+1) ib:=fun {out ia ib x y} h h1 h2 c=>by
  have:=h.uZ sa 1 (fun z hz=>by rw[take_one h1,au]at hz;subst hz;exact qg o sb h2 c);rw[take_one h1]at this;exact this
 unfold sY;walk_at "u mergeLo";refine .bind (.rule (.bind (.elem hy0 ?_)))
 have m0:ML lt a b [y0] 0 1:=by
  have:=(ML.start (lt:=lt) (a:=a) (b:=b)).oJ sb 1 (fun z hz x hx=>by rw[take_one hy0,au]at hz;subst hz;exact hf x hx);rw[take_one hy0]at this;exact this
 refine .ite (fun c=>.pure (q _ (gallopOf st) (fin1 m0 (by have c:=beq_iff_eq.mp c;rw[bR]at c;omega)))) fun c1=>?_;refine .ite (fun c=>.pure (q _ (gallopOf st) (qh m0 (by have c:=beq_iff_eq.mp c;rw[bR]at c;omega)))) fun c2=>?_;refine .bind (.get ?_);have b1:1<b.length:=by have c:¬1=(Ar it b).size:=fun e=>c1 (beq_iff_eq.mpr e);rw[bR]at c;omega
 have b2:0+1<a.length:=by have c:¬0+1=(Ar it a).size:=fun e=>c2 (beq_iff_eq.mpr e);rw[bR]at c;omega
 refine .bind (Wt.mono (Wt.range (G:=fun z st'=>∃r x g,z=(some r,x)/\st'=B9 st g/\Res it lt (a++b) r)
  (fun j z st'=>∃out ia ib mg g,z=(none,Ar it out,ia,ib,mg)/\st'=B9 st g/\TQ lt a b out ia ib (j+1)) ⟨[y0],0,1,_,gallopOf st,rfl,rfl,m0,b2,b1,by omega⟩ (fun j z st' hj q1=>?_) fun z st' q1=>?_) fun z st' q1=>?_)
 rotate_left
 ·obtain⟨out,ia,ib,mg,g,e1,e2,mi⟩:=q1;have h1:=mi.m;have h2:=mi.ha;have h3:=mi.hb;rw[bR,bR]at h1;omega
 ·obtain⟨r,x,g,e1,e2,e3⟩:=q1;subst e1 e2;exact .pure (q r g e3)
 obtain⟨out,ia,ib,mg,g,e1,e2,mi⟩:=q1;subst e1 e2
 refine .bind (Wt.mono (Wt.range (G:=fun z st'=>st'=B9 st g/\((∃r x,z=(some r,x)/\Res it lt (a++b) r)\/∃out ia ib ac bc,z=(none,Ar it out,ia,ib,ac,bc)/\TQ lt a b out ia ib (j+1+1)))
  (fun i z st'=>st'=B9 st g/\∃out ia ib ac bc,z=(none,Ar it out,ia,ib,ac,bc)/\TQ lt a b out ia ib (j+1+i)) ⟨rfl,out,ia,ib,0,0,rfl,mi⟩ (fun i z st' hi q1=>?_) fun z st' q1=>?_) fun z st' q1=>?_)
 rotate_left
 ·obtain⟨e,out,ia,ib,ac,bc,e1,mi⟩:=q1;have h1:=mi.m;have h2:=mi.ha;have h3:=mi.hb;rw[bR,bR]at h1;omega
 rotate_left
 ·obtain⟨e,out,ia,ib,ac,bc,e1,mi⟩:=q1;subst e e1;obtain⟨y,y1,y2,y3⟩:=getB mi.hb;obtain⟨x,x1,x2,x3⟩:=getA (show ia<a.length by have:=mi.ha;omega);have hm:=mi.m;refine .bind (.elem y1 (.bind (.elem x1 (.bind (Wt.ask as hk y2 x2 ?_)))))
  cases c:lt y x with
  | true=>
    refine .bind (.elem y1 ?_);have m2:=tB mi.ml x1 y1 c;rw[lO];refine .ite (fun d=>.pure ⟨rfl,.inl ⟨_,_,rfl,fin1 m2 (by have d:=beq_iff_eq.mp d;rw[bR]at d;omega)⟩⟩) fun d=>?_;have d:ib+1<b.length:=by have c:¬ib+1=(Ar it b).size:=fun e=>d (beq_iff_eq.mpr e);rw[bR]at c;have:=mi.hb;omega
    exact .ite (fun _=>.pure ⟨rfl,.inr ⟨_,ia,ib+1,_,_,rfl,m2,mi.ha,d,by omega⟩⟩) fun _=>.pure ⟨rfl,_,ia,ib+1,_,_,rfl,m2,mi.ha,d,by omega⟩
  | false=>
    refine .bind (.elem x1 ?_);have m2:=tA mi.ml x1 y1 (o.co _ _ (nex x1 y1).symm c);rw[lO];refine .ite (fun d=>.pure ⟨rfl,.inl ⟨_,_,rfl,qh m2 (by have d:=beq_iff_eq.mp d;rw[bR]at d;omega)⟩⟩) fun d=>?_;have d:ia+1+1<a.length:=by have c:¬ia+1+1=(Ar it a).size:=fun e=>d (beq_iff_eq.mpr e);rw[bR]at c;have:=mi.ha;omega
    exact .ite (fun _=>.pure ⟨rfl,.inr ⟨_,ia+1,ib,_,_,rfl,m2,d,mi.hb,by omega⟩⟩) fun _=>.pure ⟨rfl,_,ia+1,ib,_,_,rfl,m2,d,mi.hb,by omega⟩
 obtain⟨e,h⟩:=q1
 rcases h with⟨r,x,e1,e3⟩|⟨out,ia,ib,ac,bc,e1,mi⟩
 ·subst e e1;exact .pure ⟨r,_,g,rfl,rfl,e3⟩
 subst e e1
 refine .bind (.rule (.bind (Wt.mono (Wt.range (G:=fun z st'=>∃g,st'=B9 st g/\((∃r x,z=(some r,x)/\Res it lt (a++b) r)\/∃out ia ib mg ac bc,z=(none,Ar it out,ia,ib,mg,ac,bc)/\TQ lt a b out ia ib (j+1+1)))
  (fun i z st'=>∃g,st'=B9 st g/\∃out ia ib mg ac bc,z=(none,Ar it out,ia,ib,mg,ac,bc)/\TQ lt a b out ia ib (j+1+1+i)) ⟨g,rfl,out,ia,ib,_,ac,bc,rfl,mi⟩ (fun i z st' hi q1=>?_) fun z st' q1=>?_) fun z st' q1=>?_)))
 rotate_left
 ·obtain⟨g,e,out,ia,ib,mg,ac,bc,e1,mi⟩:=q1;have h1:=mi.m;have h2:=mi.ha;have h3:=mi.hb;rw[bR,bR]at h1;omega
 ·obtain⟨g,e,h⟩:=q1
  rcases h with⟨r,x,e1,e3⟩|⟨out,ia,ib,mg,ac,bc,e1,mi⟩
  ·subst e e1;exact .pure ⟨r,_,g,rfl,rfl,e3⟩
  ·subst e e1;exact .bind (.Kz (.pure ⟨out,ia,ib,_,_,rfl,rfl,mi⟩))
 obtain⟨g,e,out,ia,ib,mg,ac,bc,e1,mi⟩:=q1;subst e e1
 extract_lets s1 o1 s2 ia1 s3 Ia s4 mg1 s5 ac1 bc1 ib2 jp mg2
 subst s1 o1 s2 ia1 s3 Ia s4 mg1 s5 ac1 bc1 ib2 mg2;refine Wt.wy (fun R=>∀mg,R (jp () mg)) ?_ fun h=>?_
 rotate_left
 ·exact .ite (fun _=>h _) fun _=>h _
 intro mg;have hm:=mi.m;obtain⟨y,y1,y2,y3⟩:=getB mi.hb;obtain⟨k,k1,k2,k3,k4⟩:=qJ o as (l:=a) (base:=ia) (n:=a.length - ia) (y:=y) (by have:=mi.ha;omega) (by rw[gJ];exact sa.sublist (fh _ _)) (fun x hx=>by rw[gJ]at hx;have:=dv hx;exact⟨na x this,fun e=>y3 (e▸this)⟩) y2;rw[gJ]at k2 k3;rw[<-bR (it:=it) (l:=a)]at k4;refine .bind (.Kz (.bind (.elem y1 (.bind (k4 false 0 hk (by rw[bR];have:=mi.ha;omega) ?_)))));have mA:ML lt a b (out++(a.drop ia).take k) (ia+k) ib:=mi.ml.uZ sa k fun z hz=>qg o sb y1 (k2 z hz);rw[jJ]at k3;dsimp -zeta -zetaHave only
 extract_lets +onlyGivenNames ac1 jp2
 subst ac1;refine Wt.wy (fun R=>∀out ia,ML lt a b out ia ib->ia+1<a.length->(∀z∈a.drop ia,lt y z=true)->j+1+1+i<=ia+ib->R (jp2 () (Ar it out) ia)) ?_ fun h=>?_
 rotate_left
 ·refine .ite (fun _=>?_) fun c=>?_
  ·rw[lY,show ia+k - ia=k by omega];refine .ite (fun d=>.pure ⟨_,rfl,.inl ⟨_,_,rfl,qh mA (by have d:=beq_iff_eq.mp d;rw[bR]at d;omega)⟩⟩) fun d=>?_;refine .ite (fun d=>.pure ⟨_,rfl,.inl ⟨_,_,rfl,fin1' mA (by have d:=beq_iff_eq.mp d;rw[bR]at d;omega)⟩⟩) fun d'=>?_;have c1:¬ia+k+1=(Ar it a).size:=fun e=>d (beq_iff_eq.mpr e);have c2:¬ia+k=(Ar it a).size:=fun e=>d' (beq_iff_eq.mpr e);rw[bR]at c1 c2;exact h (out++(a.drop ia).take k) (ia+k) mA (by omega) k3 (by omega)
  ·obtain rfl:k=0:=by omega
   rw[jE,aL,Nat.add_zero]at mA;exact h out ia mA mi.ha k3 hm
 clear mA k2 k4;intro out ia mA hia k3 hm;obtain⟨x,x1,x2,x3⟩:=getA (show ia<a.length by omega);have yx:lt y x=true:=k3 x (by rw[jw x1];exact ja);have m2:=tB mA x1 y1 yx;refine .bind (.elem y1 ?_);rw[lO];refine .ite (fun d=>.pure ⟨_,rfl,.inl ⟨_,_,rfl,fin1 m2 (by have d:=beq_iff_eq.mp d;rw[bR]at d;omega)⟩⟩) fun d=>?_;have d:ib+1<b.length:=by have c:¬ib+1=(Ar it b).size:=fun e=>d (beq_iff_eq.mpr e);rw[bR]at c;have:=mi.hb;omega
 obtain⟨k',l1,l2,l3,l4⟩:=qJ o as (l:=b) (base:=ib+1) (n:=b.length - (ib+1)) (y:=x) (by omega) (by rw[gJ];exact sb.sublist (fh _ _)) (fun z hz=>by rw[gJ]at hz;have:=dv hz;exact⟨nb z this,fun e=>x3 (e▸this)⟩) x2;rw[gJ]at l2 l3;rw[<-bR (it:=it) (l:=b)]at l4;refine .bind (.elem x1 (.bind (l4 true 0 hk (by rw[bR];omega) ?_)));have mB:ML lt a b (out++[y]++(b.drop (ib+1)).take k') ia (ib+1+k'):=m2.oJ sb k' fun z hz=>qg o sa x1 (l2 z hz);rw[jJ]at l3;dsimp -zeta -zetaHave only
 extract_lets +onlyGivenNames bc1 ia2 jp3
 subst bc1 ia2;refine Wt.wy (fun R=>∀out ib',ML lt a b out ia ib'->ib'<b.length->(∀z∈b.drop ib',lt x z=true)->j+1+1+i+1<=ia+ib'->R (jp3 () (Ar it out) ib')) ?_ fun h=>?_
 rotate_left
 ·refine .ite (fun _=>?_) fun c=>?_
  ·rw[lY,show ib+1+k' - (ib+1)=k' by omega];refine .ite (fun d=>.pure ⟨_,rfl,.inl ⟨_,_,rfl,fin1 mB (by have d:=beq_iff_eq.mp d;rw[bR]at d;omega)⟩⟩) fun d'=>?_;have c2:¬ib+1+k'=(Ar it b).size:=fun e=>d' (beq_iff_eq.mpr e);rw[bR]at c2;exact h (out++[y]++(b.drop (ib+1)).take k') (ib+1+k') mB (by omega) l3 (by omega)
  ·obtain rfl:k'=0:=by omega
   rw[jE,aL,Nat.add_zero]at mB;exact h (out++[y]) (ib+1) mB d l3 (by omega)
 intro out ib' mB hib l3 hm;obtain⟨z,z1,z2,z3⟩:=getB hib;have m3:=tA mB x1 z1 (l3 z (by rw[jw z1];exact ja));refine .bind (.elem x1 ?_);rw[lO];refine .ite (fun d=>.pure ⟨_,rfl,.inl ⟨_,_,rfl,qh m3 (by have d:=beq_iff_eq.mp d;rw[bR]at d;omega)⟩⟩) fun d=>?_;have d:ia+1+1<a.length:=by have c:¬ia+1+1=(Ar it a).size:=fun e=>d (beq_iff_eq.mpr e);rw[bR]at c;omega
 exact .ite (fun _=>.pure ⟨_,rfl,.inr ⟨_,ia+1,ib',_,_,_,rfl,m3,d,hib,by omega⟩⟩) fun _=>.pure ⟨_,rfl,_,ia+1,ib',_,_,_,rfl,m3,d,hib,by omega⟩
end
section
variable{lt:Nat->Nat->Bool}{a b out:List Nat}{na nb:Nat}
noncomputable abbrev P7(lt:Nat->Nat->Bool):Nat->Nat->Bool:=fun x y=>lt y x
theorem eM.rev(h:eM lt a):eM (P7 lt) a.reverse:=jX.mpr h
structure MH(lt:Nat->Nat->Bool)(a b out:List Nat)(na nb:Nat):Prop where
 ml:ML (P7 lt) a.reverse b.reverse out (a.length - na) (b.length - nb)
 la:na<=a.length
 lb:nb<=b.length
theorem MH.swap(h:MH lt a b out na nb):MH lt b a out nb na:=⟨h.ml.swap,h.lb,h.la⟩
theorem kW{l:List Nat}{n:Nat}:l.reverse.drop (l.length - n)=(l.take n).reverse:=by rw[List.reverse_take]
theorem MH.oJ(h:MH lt a b out na nb)(sb:eM lt b){at_:Nat}(ht:at_<=nb)(hc:∀y∈(b.drop at_).take (nb - at_),∀x∈a.take na,lt x y=true):MH lt a b (out++((b.drop at_).take (nb - at_)).reverse) na at_:=by
 have hb:=h.lb
 have e:(b.reverse.drop (b.length - nb)).take (nb - at_)=((b.drop at_).take (nb - at_)).reverse:=by
  rw[kW,List.take_reverse,gp,jh hb,show nb - (nb - at_)=at_ by omega,uS]
 have:=h.ml.oJ sb.rev (nb - at_) (fun y hy x hx=>by
  rw[e]at hy;rw[kW]at hx
  exact hc y (nj.mp hy) x (nj.mp hx))
 rw[e,show b.length - nb+(nb - at_)=b.length - at_ by omega]at this;exact⟨this,h.la,by omega⟩
theorem MH.uZ(h:MH lt a b out na nb)(sa:eM lt a){at_:Nat}(ht:at_<=na)(hc:∀y∈(a.drop at_).take (na - at_),∀x∈b.take nb,lt x y=true):MH lt a b (out++((a.drop at_).take (na - at_)).reverse) at_ nb:=
 (h.swap.oJ sa ht hc).swap
theorem MH.fin(h:MH lt a b out na nb)(sb:eM lt b)(hz:na=0):eM lt (a.take na++b.take nb++out.reverse)/\(a.take na++b.take nb++out.reverse).Perm (a++b):=by
 obtain⟨z1,z2⟩:=h.ml.swap.fin sb.rev (by rw[List.length_reverse];omega)
 have e:(a.take na++b.take nb++out.reverse)=(out++b.reverse.drop (b.length - nb)++a.reverse.drop (a.length - na)).reverse:=by
  rw[kW,kW];simp
 rw[e];refine⟨jX.mpr z1,((fU _).trans z2).trans ?_⟩;exact((fU b).append (fU a)).trans dO
theorem MH.qh(h:MH lt a b out na nb)(sa:eM lt a)(sb:eM lt b)(hc:∀y∈a.take na,∀x∈b.take nb,lt x y=true):eM lt (b.take nb++a.take na++out.reverse)/\(b.take nb++a.take na++out.reverse).Perm (a++b):=by
 obtain⟨z1,z2⟩:=h.ml.swap.qh sb.rev sa.rev (fun y hy x hx=>by
  rw[kW]at hy hx
  exact hc y (nj.mp hy) x (nj.mp hx))
 have e:(b.take nb++a.take na++out.reverse)=(out++a.reverse.drop (a.length - na)++b.reverse.drop (b.length - nb)).reverse:=by
  rw[kW,kW];simp
 rw[e];refine⟨jX.mpr z1,((fU _).trans z2).trans ?_⟩;exact((fU b).append (fU a)).trans dO
theorem qB{l:List Nat}{n x:Nat}(h:l[n]? = some x):(l.drop n).take (n+1 - n)=[x]:=by rw[show n+1 - n=1 by omega];exact take_one h
theorem qc(o:Lt lt){l:List Nat}(sl:eM lt l){n x y:Nat}(h:l[n]? = some x)(c:lt x y=true):∀z∈l.take (n+1),lt z y=true:=fun z hz=>by
 obtain⟨i,hi⟩:=fW hz;rw[cX]at hi;split at hi
 ·rename_i hin;by_cases e:i=n
  ·subst e;rw[h]at hi;cases hi;exact c
  ·obtain⟨p1,p2⟩:=be.mp hi;obtain⟨q1,q2⟩:=be.mp h;have:=eN.mp sl i n p1 q1 (by omega);rw[p2,q2]at this;exact o.tr _ _ _ this c
 ·cases hi
theorem BQ{it:Nat->fk}{l m n:List Nat}{i j:Nat}:(Ar it l).extract 0 i++(Ar it m).extract 0 j++(Ar it n).reverse=Ar it (l.take i++m.take j++n.reverse):=by
 simp[pN]
theorem DB{it:Nat->fk}{l b:List Nat}{i j:Nat}:Ar it l++((Ar it b).extract i j).reverse=Ar it (l++((b.drop i).take (j - i)).reverse):=by
 simp[pN,xm]
structure Jq(lt:Nat->Nat->Bool)(a b out:List Nat)(na nb m:Nat):Prop where
 mh:MH lt a b out na nb
 ha:0<na
 hb:1<nb
 m:m<=(a.length - na)+(b.length - nb)
end
section
variable{P:aS}{w:bA}{A:bC}{E:ab->ae->Prop}{s:ae}{κ:gf}{it:Nat->fk}{lt:Nat->Nat->Bool}{N:Nat}
theorem Bc{st:bJ}{a b:List Nat}{G:Array fk->bJ->Prop}(o:Lt lt)(as:rA P w A s κ it lt N)(hk:kindOf st=κ)(na:∀x∈a,x<N)(nb:∀x∈b,x<N)(sa:eM lt a)(sb:eM lt b)(xv:∀x∈a,x∉b)
  (hb0:0<b.length){n y0:Nat}(hn:a.length=n+1)(hy0:a[n]? = some y0)(hf:∀x∈b,lt x y0=true)(hl:∀y∈a,∀x∈b.take 1,lt x y=true)
  (q:∀r g,Res it lt (a++b) r->G r (B9 st g)):Wt P w A E s (sZ (Ar it a) (Ar it b)) G st:=by
 have fin1:∀{out:List Nat} {ia ib:Nat},MH lt a b out ia ib->ia=0->Res it lt (a++b) ((Ar it a).extract 0 ia++(Ar it b).extract 0 ib++(Ar it out).reverse):=fun h hz=>by
  obtain⟨z1,z2⟩:=h.fin sb hz;exact⟨_,BQ,z1,z2⟩
 have fin1':∀{out:List Nat} {ia ib:Nat},MH lt a b out ia ib->ib=0->Res it lt (a++b) ((Ar it a).extract 0 ia++(Ar it b).extract 0 ib++(Ar it out).reverse):=fun {out ia ib} h hz=>by
  obtain⟨z1,z2⟩:=h.swap.fin sa hz;subst hz;rw[jE,dW]at z1 z2;exact⟨a.take ia++out.reverse,by rw[BQ,jE,aL],z1,z2.trans dO⟩
 have qh:∀{out:List Nat} {ia ib:Nat},MH lt a b out ia ib->ib=1->Res it lt (a++b) ((Ar it b).extract 0 ib++(Ar it a).extract 0 ia++(Ar it out).reverse):=fun {out ia ib} h hz=>by
  subst hz;obtain⟨z1,z2⟩:=h.qh sa sb fun y hy x hx=>hl y (bY hy) x hx;exact⟨_,BQ,z1,z2⟩
 have getB:∀{ib:Nat},ib<b.length->∃y,b[ib]? = some y/\y<N/\y∉a:=fun {ib} h=>⟨b[ib],af h,nb _ (bM h),fun z=>xv _ z (bM h)⟩
 have getA:∀{ia:Nat},ia<a.length->∃x,a[ia]? = some x/\x<N/\x∉b:=fun {ia} h=>⟨a[ia],af h,na _ (bM h),fun z=>xv _ (bM h) z⟩
 have nex:∀{ia ib x y:Nat},a[ia]? = some x->b[ib]? = some y->x≠y:=fun h1 h2 e=>xv _ (bq h1) (e▸bq h2)
 have tB:∀{out:List Nat} {ia ib x y:Nat},MH lt a b out (ia+1) (ib+1)->a[ia]? = some x->b[ib]? = some y->lt x y=true->MH lt a b (out++[y]) (ia+1) ib:=fun {out ia ib x y} h h1 h2 c=>by
  have:=h.oJ sb (at_:=ib) (by omega) (fun z hz=>by rw[qB h2,au]at hz;subst hz;exact qc o sa h1 c);rw[qB h2]at this;exact this
 have tA:∀{out:List Nat} {ia ib x y:Nat},MH lt a b out (ia+1) (ib+1)->a[ia]? = some x->b[ib]? = some y->lt y x=true->MH lt a b (out++[x]) ia (ib+1):=fun {out ia ib x y} h h1 h2 c=>by
  have:=h.uZ sa (at_:=ia) (by omega) (fun z hz=>by rw[qB h1,au]at hz;subst hz;exact qc o sb h2 c);rw[qB h1]at this;exact this
 have m0:MH lt a b [y0] n b.length:=by
  have h:MH lt a b [] (n+1) b.length:=⟨by rw[hn,jN,jN];exact ML.start,by omega,by omega⟩
  have:=h.uZ sa (at_:=n) (by omega) (fun z hz x hx=>by rw[qB hy0,au]at hz;subst hz;exact hf x (bY hx));rw[qB hy0]at this;exact this
 have hsz:(Ar it a).size - 1=n:=by rw[bR];omega
 unfold sZ;walk_at "u mergeHi";rw[hsz];refine .bind (.rule (.bind (.elem hy0 ?_)));have m0':MH lt a b [y0] n (Ar it b).size:=by rw[bR];exact m0
 refine .ite (fun c=>.pure (q _ (gallopOf st) (fin1 m0' (beq_iff_eq.mp c)))) fun c1=>?_;refine .ite (fun c=>.pure (q _ (gallopOf st) (qh m0' (beq_iff_eq.mp c)))) fun c2=>?_;refine .bind (.get ?_);have b1:0<n:=by have c:¬n=0:=fun e=>c1 (beq_iff_eq.mpr e);omega
 have b2:1<(Ar it b).size:=by have c:¬(Ar it b).size=1:=fun e=>c2 (beq_iff_eq.mpr e);rw[bR]at c ⊢;omega
 refine .bind (Wt.mono (Wt.range (G:=fun z st'=>∃r x g,z=(some r,x)/\st'=B9 st g/\Res it lt (a++b) r)
  (fun j z st'=>∃ia ib out mg g,z=(none,ia,ib,Ar it out,mg)/\st'=B9 st g/\Jq lt a b out ia ib (j+1)) ⟨n,(Ar it b).size,[y0],_,gallopOf st,rfl,rfl,m0',b1,b2,by omega⟩ (fun j z st' hj q1=>?_) fun z st' q1=>?_) fun z st' q1=>?_)
 rotate_left
 ·obtain⟨ia,ib,out,mg,g,e1,e2,mi⟩:=q1;have h1:=mi.m;have h2:=mi.ha;have h3:=mi.hb;rw[bR,bR]at h1;omega
 ·obtain⟨r,x,g,e1,e2,e3⟩:=q1;subst e1 e2;exact .pure (q r g e3)
 obtain⟨ia,ib,out,mg,g,e1,e2,mi⟩:=q1;subst e1 e2
 refine .bind (Wt.mono (Wt.range (G:=fun z st'=>st'=B9 st g/\((∃r x,z=(some r,x)/\Res it lt (a++b) r)\/∃ia ib out ac bc,z=(none,ia,ib,Ar it out,ac,bc)/\Jq lt a b out ia ib (j+1+1)))
  (fun i z st'=>st'=B9 st g/\∃ia ib out ac bc,z=(none,ia,ib,Ar it out,ac,bc)/\Jq lt a b out ia ib (j+1+i)) ⟨rfl,ia,ib,out,0,0,rfl,mi⟩ (fun i z st' hi q1=>?_) fun z st' q1=>?_) fun z st' q1=>?_)
 rotate_left
 ·obtain⟨e,ia,ib,out,ac,bc,e1,mi⟩:=q1;have h1:=mi.m;have h2:=mi.ha;have h3:=mi.hb;rw[bR,bR]at h1;omega
 rotate_left
 ·obtain⟨e,ia,ib,out,ac,bc,e1,mi⟩:=q1;subst e e1;have hm:=mi.m;have la:=mi.mh.la;have lb:=mi.mh.lb;obtain⟨ia,rfl⟩:∃k,ia=k+1:=⟨ia - 1,by have:=mi.ha;omega⟩
  obtain⟨ib,rfl⟩:∃k,ib=k+1:=⟨ib - 1,by have:=mi.hb;omega⟩
  obtain⟨y,y1,y2,y3⟩:=getB (show ib<b.length by omega);obtain⟨x,x1,x2,x3⟩:=getA (show ia<a.length by omega);have hib:=mi.hb;refine .bind (.elem y1 (.bind (.elem x1 (.bind (Wt.ask as hk y2 x2 ?_)))))
  cases c:lt y x with
  | true=>
    refine .bind (.elem x1 ?_);have m2:=tA mi.mh x1 y1 c;rw[lO];refine .ite (fun d=>.pure ⟨rfl,.inl ⟨_,_,rfl,fin1 m2 (beq_iff_eq.mp d)⟩⟩) fun d=>?_;have d:0<ia:=by have c:¬ia=0:=fun e=>d (beq_iff_eq.mpr e);omega
    exact .ite (fun _=>.pure ⟨rfl,.inr ⟨ia,ib+1,_,_,_,rfl,m2,d,mi.hb,by omega⟩⟩) fun _=>.pure ⟨rfl,ia,ib+1,_,_,_,rfl,m2,d,mi.hb,by omega⟩
  | false=>
    refine .bind (.elem y1 ?_);have m2:=tB mi.mh x1 y1 (o.co _ _ (nex x1 y1).symm c);rw[lO];refine .ite (fun d=>.pure ⟨rfl,.inl ⟨_,_,rfl,qh m2 (beq_iff_eq.mp d)⟩⟩) fun d=>?_;have d:1<ib:=by have c:¬ib=1:=fun e=>d (beq_iff_eq.mpr e);omega
    exact .ite (fun _=>.pure ⟨rfl,.inr ⟨ia+1,ib,_,_,_,rfl,m2,mi.ha,d,by omega⟩⟩) fun _=>.pure ⟨rfl,ia+1,ib,_,_,_,rfl,m2,mi.ha,d,by omega⟩
 obtain⟨e,h⟩:=q1
 rcases h with⟨r,x,e1,e3⟩|⟨ia,ib,out,ac,bc,e1,mi⟩
 ·subst e e1;exact .pure ⟨r,_,g,rfl,rfl,e3⟩
 subst e e1
 refine .bind (.rule (.bind (Wt.mono (Wt.range (G:=fun z st'=>∃g,st'=B9 st g/\((∃r x,z=(some r,x)/\Res it lt (a++b) r)\/∃ia ib out mg ac bc,z=(none,ia,ib,Ar it out,mg,ac,bc)/\Jq lt a b out ia ib (j+1+1)))
  (fun i z st'=>∃g,st'=B9 st g/\∃ia ib out mg ac bc,z=(none,ia,ib,Ar it out,mg,ac,bc)/\Jq lt a b out ia ib (j+1+1+i)) ⟨g,rfl,ia,ib,out,_,ac,bc,rfl,mi⟩ (fun i z st' hi q1=>?_) fun z st' q1=>?_) fun z st' q1=>?_)))
 rotate_left
 ·obtain⟨g,e,ia,ib,out,mg,ac,bc,e1,mi⟩:=q1;have h1:=mi.m;have h2:=mi.ha;have h3:=mi.hb;rw[bR,bR]at h1;omega
 ·obtain⟨g,e,h⟩:=q1
  rcases h with⟨r,x,e1,e3⟩|⟨ia,ib,out,mg,ac,bc,e1,mi⟩
  ·subst e e1;exact .pure ⟨r,_,g,rfl,rfl,e3⟩
  ·subst e e1;exact .bind (.Kz (.pure ⟨ia,ib,out,_,_,rfl,rfl,mi⟩))
 obtain⟨g,e,ia,ib,out,mg,ac,bc,e1,mi⟩:=q1;subst e e1
 extract_lets s1 o1 s2 ia1 s3 Ia s4 mg1 s5 ac1 bc1 ib2 jp mg2
 subst s1 o1 s2 ia1 s3 Ia s4 mg1 s5 ac1 bc1 ib2 mg2;refine Wt.wy (fun R=>∀mg,R (jp () mg)) ?_ fun h=>?_
 rotate_left
 ·exact .ite (fun _=>h _) fun _=>h _
 intro mg;have hm:=mi.m;have la:=mi.mh.la;have lb:=mi.mh.lb;have hia:=mi.ha;obtain⟨ib,rfl⟩:∃k,ib=k+1:=⟨ib - 1,by have:=mi.hb;omega⟩
 have hib:=mi.hb;obtain⟨y,y1,y2,y3⟩:=getB (show ib<b.length by omega);obtain⟨k,k1,k2,k3,k4⟩:=qJ o as (l:=a) (base:=0) (n:=ia) (y:=y) (by omega) (by rw[fL];exact sa.sublist (ik _ _)) (fun x hx=>by rw[fL]at hx;have:=bY hx;exact⟨na x this,fun e=>y3 (e▸this)⟩) y2;rw[fL]at k2 k3;rw[uS]at k3;rw[jF,jh k1]at k2;refine .bind (.Kz (.bind (.elem y1 (.bind (k4 false (ia - 1) hk (by omega) ?_)))));have mA:MH lt a b (out++((a.drop k).take (ia - k)).reverse) k (ib+1):=mi.mh.uZ sa k1 fun z hz=>qc o sb y1 (k3 z hz);dsimp -zeta -zetaHave only
 extract_lets +onlyGivenNames ka ac1 jp2
 subst ac1 ka;refine Wt.wy (fun R=>∀out ia,MH lt a b out ia (ib+1)->0<ia->(∀z∈a.take ia,lt z y=true)->j+1+1+i<=(a.length - ia)+(b.length - (ib+1))->R (jp2 () ia (Ar it out))) ?_ fun h=>?_
 rotate_left
 ·refine .ite (fun _=>?_) fun c=>?_
  ·rw[DB];refine .ite (fun d=>.pure ⟨_,rfl,.inl ⟨_,_,rfl,fin1 mA (beq_iff_eq.mp d)⟩⟩) fun d=>?_;have c1:¬k=0:=fun e=>d (beq_iff_eq.mpr e);exact h (out++((a.drop k).take (ia - k)).reverse) k mA (by omega) k2 (by omega)
  ·obtain rfl:k=ia:=by have c:¬ia - k > 0:=c;omega
   rw[jN,jE,Jw,aL]at mA;exact h out k mA mi.ha k2 hm
 clear mA k3 k4;intro out ia mA hia k2 hm;have la:=mA.la;obtain⟨ia,rfl⟩:∃k,ia=k+1:=⟨ia - 1,by omega⟩
 obtain⟨x,x1,x2,x3⟩:=getA (show ia<a.length by omega);have xy:lt x y=true:=k2 x (bq (i:=ia) (by rw[cX,if_pos (by omega)];exact x1));have m2:=tB mA x1 y1 xy;refine .bind (.elem y1 ?_);rw[lO];refine .ite (fun d=>.pure ⟨_,rfl,.inl ⟨_,_,rfl,qh m2 (beq_iff_eq.mp d)⟩⟩) fun d=>?_;have d:1<ib:=by have c:¬ib=1:=fun e=>d (beq_iff_eq.mpr e);omega
 obtain⟨k',l1,l2,l3,l4⟩:=qJ o as (l:=b) (base:=0) (n:=ib) (y:=x) (by omega) (by rw[fL];exact sb.sublist (ik _ _)) (fun z hz=>by rw[fL]at hz;have:=bY hz;exact⟨nb z this,fun e=>x3 (e▸this)⟩) x2;rw[fL]at l2 l3;rw[uS]at l3;rw[jF,jh l1]at l2;refine .bind (.elem x1 (.bind (l4 true (ib - 1) hk (by omega) ?_)));have mB:MH lt a b (out++[y]++((b.drop k').take (ib - k')).reverse) (ia+1) k':=m2.oJ sb l1 fun z hz=>qc o sa x1 (l3 z hz);dsimp -zeta -zetaHave only
 extract_lets +onlyGivenNames kb bc1 ia2 jp3
 subst bc1 ia2 kb;refine Wt.wy (fun R=>∀out ib',MH lt a b out (ia+1) ib'->1<ib'->(∀z∈b.take ib',lt z x=true)->j+1+1+i+1<=(a.length - (ia+1))+(b.length - ib')->R (jp3 () ib' (Ar it out))) ?_ fun h=>?_
 rotate_left
 ·refine .ite (fun _=>?_) fun c=>?_
  ·rw[DB];refine .ite (fun d=>.pure ⟨_,rfl,.inl ⟨_,_,rfl,qh mB (beq_iff_eq.mp d)⟩⟩) fun d=>?_;refine .ite (fun d=>.pure ⟨_,rfl,.inl ⟨_,_,rfl,fin1' mB (beq_iff_eq.mp d)⟩⟩) fun d'=>?_;have c1:¬k'=1:=fun e=>d (beq_iff_eq.mpr e);have c2:¬k'=0:=fun e=>d' (beq_iff_eq.mpr e);exact h (out++[y]++((b.drop k').take (ib - k')).reverse) k' mB (by omega) l2 (by omega)
  ·obtain rfl:k'=ib:=by have c:¬ib - k' > 0:=c;omega
   rw[jN,jE,Jw,aL]at mB;exact h (out++[y]) k' mB d l2 (by omega)
 intro out ib' mB hib' l2 hm;have lb:=mB.lb;obtain⟨ib',rfl⟩:∃k,ib'=k+1:=⟨ib' - 1,by omega⟩
 obtain⟨z,z1,z2,z3⟩:=getB (show ib'<b.length by omega);have m3:=tA mB x1 z1 (l2 z (bq (i:=ib') (by rw[cX,if_pos (by omega)];exact z1)));refine .bind (.elem x1 ?_);rw[lO];refine .ite (fun d=>.pure ⟨_,rfl,.inl ⟨_,_,rfl,fin1 m3 (beq_iff_eq.mp d)⟩⟩) fun d=>?_;have d:0<ia:=by have c:¬ia=0:=fun e=>d (beq_iff_eq.mpr e);omega
 exact .ite (fun _=>.pure ⟨_,rfl,.inr ⟨ia,ib'+1,_,_,_,_,rfl,m3,d,hib',by omega⟩⟩) fun _=>.pure ⟨_,rfl,ia,ib'+1,_,_,_,_,rfl,m3,d,hib',by omega⟩
end
noncomputable abbrev nO(κ:gf)(it:Nat->fk)(l:List Nat)(pd:List (Nat×Nat×Nat))(g:Nat):bJ:=fB κ (Ar it l) pd.toArray g none
section
variable{P:aS}{w:bA}{A:bC}{E:ab->ae->Prop}{s:ae}{κ:gf}{it:Nat->fk}{lt:Nat->Nat->Bool}{N:Nat}
theorem xX:∀(R old u v:List Nat) (c n:Nat),old.length=R.length->c+n=u.length->((R.map it).zipIdx n).foldl (fun(a:Array fk) (x:fk×Nat)=>a.setIfInBounds (c+x.2) x.1) (Ar it (u++old++v))=Ar it (u++R++v)
 | [],[],u,v,c,n,_,_=>rfl
 | r::R,p::old,u,v,c,n,hl,hc=>by
   rw[aq,j9,JU]
   have e:(Ar it (u++(p::old)++v)).setIfInBounds (c+n) (it r)=Ar it ((u++[r])++old++v):=by
    simp only[uQ,hc]
    congr 1
    simp
   show((R.map it).zipIdx (n+1)).foldl _ ((Ar it (u++(p::old)++v)).setIfInBounds (c+n) (it r))=_;rw[e,xX R old (u++[r]) v c (n+1) (by simpa using hl) (by simp;omega)];simp
theorem mD{a b:List Nat}(ha:eM lt a)(hb:eM lt b)(h:∀x∈a,∀y∈b,lt x y=true):eM lt (a++b):=eo.mpr ⟨ha,hb,h⟩
theorem Be{pre B C post:List Nat}{p1 p2:List (Nat×Nat×Nat)}{pw pw' g:Nat}{G:Bool->bJ->Prop}(o:Lt lt)(as:rA P w A s κ it lt N)(sB:eM lt B)(sC:eM lt C)(nB:0<B.length)(nC:0<C.length)(lB:∀x∈B,x<N)(lC:∀x∈C,x<N)(xv:∀x∈B,x∉C)
  (q:∀M g,eM lt M->M.Perm (B++C)->G true (nO κ it (pre++M++post) (p1++(pre.length,B.length+C.length,pw)::p2) g)) :
  Wt P w A E s (mergeAt' p1.length) G (nO κ it (pre++(B++C)++post) (p1++(pre.length,B.length,pw)::(pre.length+B.length,C.length,pw')::p2) g):=by
 generalize hL:pre++(B++C)++post=L;have hy:∃y,C[0]? = some y:=⟨C[0],af nC⟩
 obtain⟨y,hy⟩:=hy;have hx:∃x,B[B.length - 1]? = some x:=⟨_,af (by omega)⟩
 obtain⟨x,hx⟩:=hx;have yC:=bq hy;have xB:=bq hx;have sl1:(L.drop pre.length).take B.length=B:=by rw[<-hL,aC,jH,aC,uP]
 have uD:(L.drop (pre.length+B.length)).take C.length=C:=by
  rw[<-hL,<-jJ,aC,jH,aC,jH,uP]
 have lenL:pre.length+B.length+C.length<=L.length:=by rw[<-hL];simp;omega
 have gy:L[pre.length+B.length]? = some y:=by
  rw[<-hL,aC,aR (by omega),aC,aR (by omega),bf (by omega)];rw[show pre.length+B.length - pre.length - B.length=0 by omega];exact hy
 have gx:L[pre.length+B.length - 1]? = some x:=by
  rw[<-hL,aC,aR (by omega),aC,bf (by omega)];rw[show pre.length+B.length - 1 - pre.length=B.length - 1 by omega];exact hx
 obtain⟨k,k1,k2,k3,k4⟩:=qJ o as (l:=L) (base:=pre.length) (n:=B.length) (y:=y) (by omega) (by rw[sl1];exact sB) (fun z hz=>by rw[sl1]at hz;exact⟨lB z hz,fun e=>xv z hz (e▸yC)⟩) (lC y yC);obtain⟨m,m1,m2,m3,m4⟩:=qJ o as (l:=L) (base:=pre.length+B.length) (n:=C.length) (y:=x) (by omega) (by rw[uD];exact sC) (fun z hz=>by rw[uD]at hz;exact⟨lC z hz,fun e=>xv x xB (e▸hz)⟩) (lB x xB);rw[sl1]at k2 k3;rw[uD]at m2 m3
 have yall:∀z∈C,z=y\/lt y z=true:=fun z hz=>by
  have e:=jw hy;rw[fL]at e;rw[e]at hz sC
  rcases ao.mp hz with h|h
  ·exact .inl h
  ·exact .inr ((eQ.mp sC).1 z h)
 have xall:∀z∈B,z=x\/lt z x=true:=fun z hz=>by
  obtain⟨i,hi⟩:=fW hz;obtain⟨p1,p2⟩:=be.mp hi;obtain⟨q1,q2⟩:=be.mp hx;by_cases e:i=B.length - 1
  ·subst e;rw[hx]at hi;cases hi;exact .inl rfl
  ·have:=eN.mp sB i (B.length - 1) p1 q1 (by omega);rw[p2,q2]at this;exact .inr this
 have low:∀u,(∀z∈C,z=y\/lt y z=true)->lt u y=true->∀z∈C,lt u z=true:=fun u _ h z hz=>by
  rcases yall z hz with rfl|h'
  ·exact h
  ·exact o.tr _ _ _ h h'
 have high:∀u,lt x u=true->∀z∈B,lt z u=true:=fun u h z hz=>by
  rcases xall z hz with rfl|h'
  ·exact h
  ·exact o.tr _ _ _ h' h
 unfold mergeAt';walk_at "u mergeAt";refine .bind (.get ?_)
 have e1:(pendingOf (nO κ it L (p1++(pre.length,B.length,pw)::(pre.length+B.length,C.length,pw')::p2) g))[p1.length]? = some (pre.length,B.length,pw):=by
  show((p1++(pre.length,B.length,pw)::(pre.length+B.length,C.length,pw')::p2).toArray)[p1.length]? = _;rw[hZ,aR (aK _),jN];rfl
 have e2:(pendingOf (nO κ it L (p1++(pre.length,B.length,pw)::(pre.length+B.length,C.length,pw')::p2) g))[p1.length+1]? = some (pre.length+B.length,C.length,pw'):=by
  show((p1++(pre.length,B.length,pw)::(pre.length+B.length,C.length,pw')::p2).toArray)[p1.length+1]? = _;rw[hZ,aR (by omega),show p1.length+1 - p1.length=1 by omega];rfl
 rw[e1,e2]
 have e3:((pendingOf (nO κ it L (p1++(pre.length,B.length,pw)::(pre.length+B.length,C.length,pw')::p2) g)).setIfInBounds p1.length (pre.length,B.length+C.length,pw)).eraseIdxIfInBounds (p1.length+1)=(p1++(pre.length,B.length+C.length,pw)::p2).toArray:=by
  show(((p1++(pre.length,B.length,pw)::(pre.length+B.length,C.length,pw')::p2).toArray).setIfInBounds p1.length (pre.length,B.length+C.length,pw)).eraseIdxIfInBounds (p1.length+1)=_;rw[uQ,List.set_append_right (h:=aK _),jN,du];unfold Array.eraseIdxIfInBounds;rw[dif_pos (by simp)];rw[List.eraseIdx_toArray,List.eraseIdx_append_of_length_le (by omega),show p1.length+1 - p1.length=1 by omega];rfl
 refine .bind (.set ?_);rw[e3];refine .bind (.elem gy (.bind (k4 false 0 rfl nB ?_)));refine .ite (fun c=>?_) fun c=>?_
 ·have c:B.length - k=0:=beq_iff_eq.mp c;refine .pure ?_;rw[<-hL];refine q (B++C) g (mD sB sC fun u hu=>low u yall (k2 u ?_)) (.refl _);rw[fx (by omega)];exact hu
 have c:¬B.length - k=0:=fun e=>c (beq_iff_eq.mpr e);refine .bind (.elem (x:=x) (by rw[show pre.length+k+(B.length - k) - 1=pre.length+B.length - 1 by omega];exact gx) (.bind (m4 true (C.length - 1) rfl (by omega) ?_)));refine .ite (fun c=>?_) fun c'=>?_
 ·have c:m=0:=beq_iff_eq.mp c;subst c;refine .pure ?_;rw[<-hL];exact q (B++C) g (mD sB sC fun u hu z hz=>high z (m3 z hz) u hu) (.refl _)
 have c':0<m:=by have:¬m=0:=fun e=>c' (beq_iff_eq.mpr e);omega
 have ex:(Ar it L).extract (pre.length+k) (pre.length+B.length)=Ar it (B.drop k):=by
  have:(L.drop (pre.length+k)).take (pre.length+B.length - (pre.length+k))=B.drop k:=by
   rw[<-hL,<-jJ,aC,jH,aC,List.drop_append_of_le_length k1,show pre.length+B.length - (pre.length+k)=(B.drop k).length by simp;omega,uP]
  have h:=lY (it:=it) (l:=[]) (b:=L) (i:=pre.length+k) (j:=pre.length+B.length);rw[this]at h;simpa using h
 have ey:(Ar it L).extract (pre.length+B.length) (pre.length+B.length+m)=Ar it (C.take m):=by
  have:(L.drop (pre.length+B.length)).take (pre.length+B.length+m - (pre.length+B.length))=C.take m:=by
   rw[<-hL,<-jJ,aC,jH,aC,jH,show pre.length+B.length+m - (pre.length+B.length)=m by omega,kr m1]
  have h:=lY (it:=it) (l:=[]) (b:=L) (i:=pre.length+B.length) (j:=pre.length+B.length+m);rw[this]at h;simpa using h
 have sB':eM lt (B.drop k):=sB.sublist (fh _ _);have sC':eM lt (C.take m):=sC.sublist (ik _ _)
 have fin:∀r g',Res it lt (B.drop k++C.take m) r->G true (fB κ (r.toList.zipIdx.foldl (fun(a:Array fk) (x:fk×Nat)=>a.setIfInBounds (pre.length+k+x.2) x.1) (Ar it L)) (p1++(pre.length,B.length+C.length,pw)::p2).toArray g' none):=by
  rintro r g' ⟨R,rfl,sR,pR⟩
  have hLs:L=(pre++B.take k)++(B.drop k++C.take m)++(C.drop m++post):=by
   rw[<-hL]
   conv=>lhs;rw[<-bu k B,<-bu m C]
   simp only[aC]
  have hb:=xX (it:=it) R (B.drop k++C.take m) (pre++B.take k) (C.drop m++post) (pre.length+k) 0 pR.length_eq.symm (by simp;omega);rw[show(Ar it R).toList=R.map it by simp,hLs,hb];have:=q (B.take k++R++C.drop m) g' ?_ ?_
  ·simpa only[aC]using this
  ·refine mD (mD (sB.sublist (ik _ _)) sR fun u hu z hz=>?_) (sC.sublist (fh _ _)) fun u hu z hz=>?_
   ·rcases aD.mp (pR.mem_iff.mp hz)with h|h
    ·have:=sB;rw[<-bu k B]at this;exact(eo.mp this).2.2 u hu z h
    ·exact low u yall (k2 u hu) z (bY h)
   ·have hzx:=m3 z hz
    rcases aD.mp hu with h|h
    ·exact high z hzx u (bY h)
    ·rcases aD.mp (pR.mem_iff.mp h)with h|h
     ·exact high z hzx u (dv h)
     ·have:=sC;rw[<-bu m C]at this;exact(eo.mp this).2.2 u h z hz
  ·conv=>rhs;rw[<-bu k B,<-bu m C]
   have:=(pR.append_left (B.take k)).append_right (C.drop m);simpa only[aC]using this
 have nB':∀x∈B.drop k,x<N:=fun z h=>lB z (dv h);have nC':∀x∈C.take m,x<N:=fun z h=>lC z (bY h);have dis':∀x∈B.drop k,x∉C.take m:=fun z h h'=>xv z (dv h) (bY h');have hlB:(B.drop k).length=B.length - k:=by simp
 have hlC:(C.take m).length=m:=by simp;omega
 have lastB:(B.drop k)[B.length - k - 1]? = some x:=by rw[lI,show k+(B.length - k - 1)=B.length - 1 by omega];exact hx
 have firstC:(C.take m)[0]? = some y:=by rw[cX,if_pos c'];exact hy
 dsimp -zeta -zetaHave only
 extract_lets +onlyGivenNames lx ly jp
 subst lx ly
 have h:∀r g',Res it lt (B.drop k++C.take m) r->Wt P w A E s (jp r) G (fB κ (Ar it L) (p1++(pre.length,B.length+C.length,pw)::p2).toArray g' none):=by
  intro r g' hr;refine .bind (.modify (.bind (.get (.pure ?_))));exact fin r g' hr
 refine .ite (fun _=>?_) fun _=>?_
 ·refine .bind ?_;show Wt P w A E s (sY ((Ar it L).extract (pre.length+k) (pre.length+B.length)) ((Ar it L).extract (pre.length+B.length) (pre.length+B.length+m))) _ _;rw[ex,ey];refine Bb o as rfl nB' nC' sB' sC' dis' (by omega) firstC k3 (fun z hz u hu=>?_) fun r g' hr=>h r g' hr;rw[hlB,jw lastB]at hu;have:(B.drop k).drop (B.length - k - 1+1)=[]:=jI (by omega);rw[this,au]at hu;subst hu;exact m2 z hz
 ·refine .bind ?_;show Wt P w A E s (sZ ((Ar it L).extract (pre.length+k) (pre.length+B.length)) ((Ar it L).extract (pre.length+B.length) (pre.length+B.length+m))) _ _;rw[ex,ey];refine Bc (n:=B.length - k - 1) o as rfl nB' nC' sB' sC' dis' (by omega) (by omega) lastB m2 (fun z hz u hu=>?_) fun r g' hr=>h r g' hr;have e:=take_one firstC;rw[fL]at e;rw[e,au]at hu;subst hu;exact k3 z hz
end
section
variable{P:aS}{w:bA}{A:bC}{E:ab->ae->Prop}{s:ae}{κ:gf}{it:Nat->fk}{lt:Nat->Nat->Bool}{N:Nat}
theorem Wt.Si{l:List Nat}{pd:List (Nat×Nat×Nat)}{g i j x y:Nat}{G:Option Bool->bJ->Prop}(as:rA P w A s κ it lt N)(hx:l[i]? = some x)(hy:l[j]? = some y)(nx:x<N)(ny:y<N)(h:G (some (lt x y)) (nO κ it l pd g)):Wt P w A E s (ltAt' i j) G (nO κ it l pd g):=by
 rw[ltAt'_eq];exact .bind (.get (.bind (.elem hx (.bind (.elem hy (Wt.ask as rfl nx ny h))))))
theorem yw(pre X Y:List Nat):mirror (Ar it (pre++X++Y)) pre.length (pre.length+X.length) ((pre.length+X.length - pre.length) / 2)=Ar it (pre++X.reverse++Y):=by
 apply DT;intro k;rw[getElem?_mirror_all (by rw[bR];simp)];simp only[hZ,bx];split
 ·rename_i h;rw[aC,aC,aR (by omega),bf (by omega),aR (by omega),bf (by simp;omega),List.getElem?_reverse (by omega)]
  congr 2;omega
 ·rename_i h;by_cases c:k<pre.length
  ·rw[aC,aC,bf c,bf c]
  ·rw[aR (by simp;omega),aR (by simp;omega)]
   congr 2;simp
theorem zA(p V Y:List Nat)(x:Nat):bubble (Ar it (p++(V++x::Y))) (p.length+V.length) V.length=Ar it (p++(x::V++Y)):=by
 apply DT;intro k;rw[getElem?_bubble (by rw[bR];simp) _ (by omega)];simp only[hZ,bx];by_cases c:k<p.length
 ·rw[if_neg (by omega),if_neg (by omega),bf c,bf c]
 ·obtain⟨m,rfl⟩:∃m,k=p.length+m:=⟨k - p.length,by omega⟩
  clear c;have ap:∀(Z:List Nat) (i:Nat),(p++Z)[p.length+i]? = Z[i]? :=fun Z i=>by rw[aR (kj _ _),Nat.add_sub_cancel_left]
  rw[ap (V++x::Y) m,ap,ap];split
  ·rename_i h;obtain rfl:m=0:=by omega
   rw[aR (aK _),jN];rfl
  cases m with
  | zero=>rename_i h;exact absurd (by omega) h
  | succ m=>
    split
    ·rename_i h h';have hm:m<V.length:=by omega
     clear h h';rw[show p.length+(m+1) - 1=p.length+m from rfl,ap,bf hm,fG,bD,bf hm]
    ·rename_i h h';have hm:V.length<=m:=by omega
     clear h h';rw[aR (Nat.le_succ_of_le hm),fG,bD,aR hm,Nat.succ_sub hm,bD]
theorem qx(o:Lt lt){l:List Nat}{n u v:Nat}(h:eM lt (l.take (n+1)))(hu:l[n]? = some u)(hv:l[n+1]? = some v)(c:lt u v=true):eM lt (l.take (n+1+1)):=by
 rw[List.take_succ,hv];refine mD h (ni _ _) fun z hz y hy=>?_;have hy:y=v:=by simpa using hy
 subst hy;have:=qc o (l:=l.take (n+1)) h (n:=n) (x:=u) (by rw[cX,if_pos (by omega)];exact hu) c z;rw[jF,Aa]at this;exact this hz
noncomputable abbrev UT:=Option (Option Nat)×Nat
theorem Co{rest:List Nat}{a:Nat}{st:bJ}{f:Nat->UT->StateT bJ rl (ForInStep UT)}(o:Lt lt)(nd:rest.Nodup)(ha:1<=a)(hb:a<=rest.length)(h:eM lt (rest.take a))
  (hf:∀x n u v (G':ForInStep UT->bJ->Prop),rest[n]? = some u->rest[n+1]? = some v->(lt v u=true->G' (.done (none,n+1)) st)->(lt v u=false->G' (.yield (none,n+1+1)) st)->Wt P w A E s (f x (none,n+1)) G' st) :
  Wt P w A E s (forIn [a:rest.length] ((none,a):UT) f) (fun b st'=>st'=st/\∃n,b=(none,n)/\a<=n/\n<=rest.length/\eM lt (rest.take n)/\∀k u v,n=k+1->rest[k]? = some u->rest[k+1]? = some v->lt v u=true) st:=by
 refine Wt.range (fun j b st'=>st'=st/\b=(none,a+j)/\eM lt (rest.take (a+j))) ⟨rfl,rfl,h⟩ (fun j b st' hj z=>?_) fun b st' z=>⟨z.1,_,z.2.1,by omega,by omega,z.2.2,fun k u v hk _ hv=>by have:=(be.mp hv).1;omega⟩
 obtain⟨e,e1,hr⟩:=z;subst e e1;obtain⟨n,hn⟩:∃n,a+j=n+1:=⟨a+j - 1,by omega⟩
 rw[hn]at hr ⊢;have hu:=af (show n<rest.length by omega);have hv:=af (show n+1<rest.length by omega)
 refine hf _ n _ _ _ hu hv (fun c=>⟨rfl,n+1,rfl,by omega,by omega,hr,fun k u v hk hu' hv'=>by
  obtain rfl:n=k:=by omega
  rw[hu]at hu';rw[hv]at hv';cases hu';cases hv';exact c⟩) fun c=>⟨rfl,by rw[show a+(j+1)=n+1+1 by omega],?_⟩
 rw[show a+(j+1)=n+1+1 by omega];refine qx o hr hu hv (o.co _ _ (fun e=>?_) c);have:=(jG (show n+1<rest.length by omega) nd).mp (hv.trans (by rw[e];exact hu.symm));omega
theorem rK{pre rest:List Nat}{n:Nat}:(pre++rest)[pre.length+n]? = rest[n]? :=by rw[aR (by omega)];congr 1;omega
theorem zl{pre rest:List Nat}{pd:List (Nat×Nat×Nat)}{g:Nat}{G:Option Nat->bJ->Prop}(o:Lt lt)(as:rA P w A s κ it lt N)(hn:0<rest.length)(nl:∀x∈rest,x<N)(nd:rest.Nodup)
  (q:∀n rest',1<=n->n<=rest.length->rest'.Perm rest->eM lt (rest'.take n)->G (some n) (nO κ it (pre++rest') pd g)):Wt P w A E s (countRun' pre.length rest.length) G (nO κ it (pre++rest) pd g):=by
 have ask:∀{rest':List Nat} {i j x y:Nat} {G':Option Bool->bJ->Prop},rest'.Perm rest->rest'[i]? = some x->rest'[j]? = some y->G' (some (lt x y)) (nO κ it (pre++rest') pd g)->Wt P w A E s (ltAt' (pre.length+i) (pre.length+j)) G' (nO κ it (pre++rest') pd g):=fun hp hx hy h=>
  Wt.Si as (rK.trans hx) (rK.trans hy) (nl _ (hp.mem_iff.mp (bq hx))) (nl _ (hp.mem_iff.mp (bq hy))) h
 unfold countRun';walk_at "u countRun"
 refine .bind (Wt.mono (Co (st:=nO κ it (pre++rest) pd g) o nd (aK 1) hn (by
  cases rest with
  | nil=>exact .nil
  | cons z r=>exact ni _ _) fun x n u v G' hu hv k1 k2=>?_) fun b st' z=>?_)
 ·refine .bind (ask (.refl _) hv (j:=n) hu ?_)
  cases c:lt v u with
  | true=>exact .pure (k1 c)
  | false=>exact .pure (k2 c)
 obtain⟨e,n,e1,h1,h2,hr,hs⟩:=z;subst e e1;refine .ite (fun c=>.pure (q n rest h1 h2 (.refl _) hr)) fun c=>?_;have c:n<rest.length:=by have:¬n=rest.length:=fun e=>c (beq_iff_eq.mpr e);omega
 dsimp -zeta -zetaHave only
 extract_lets +onlyGivenNames n1 q1 jp
 subst n1 q1;refine Wt.wy (fun R=>n=1->R (jp ())) ?_ fun h=>?_
 rotate_left
 ·refine .ite (fun c1=>?_) fun c1=>h (by have c1:¬n > 1:=c1;omega);have c1:n > 1:=c1;obtain⟨k,rfl⟩:∃k,n=k+1:=⟨n - 1,by omega⟩
  have hu:=af (show 0<rest.length by omega);have hv:=af (show k<rest.length by omega);refine .bind (ask (i:=0) (j:=k) (.refl _) hu hv ?_)
  have:lt rest[0] rest[k]=true:=by
   have:=eN.mp hr 0 k (by simp;omega) (by simp;omega) (by omega);simpa using this
  rw[this];exact .pure (q (k+1) rest h1 h2 (.refl _) hr)
 rintro rfl;have hv:=af (show 1<rest.length by omega);have hu:=af (show 0<rest.length by omega);have c0:=hs 0 _ _ rfl hu hv;have o':Lt (P7 lt):=⟨fun i j k a b=>o.tr _ _ _ b a,fun i j a b=>o.co _ _ (fD a) b,fun i j a=>o.as _ _ a⟩
 have f2:eM (P7 lt) (rest.take 2):=by
  refine qx (n:=0) o' ?_ hu hv c0
  cases rest with
  | nil=>exact .nil
  | cons z r=>exact ni _ _
 refine .bind (.rule (.bind (Wt.mono (Wt.range (G:=fun(b:Option (Option Nat)×Nat×Nat) st'=>st'=nO κ it (pre++rest) pd g/\∃m,b=(none,m,0)/\2<=m/\m<=rest.length/\eM (P7 lt) (rest.take m))
  (fun j b st'=>st'=nO κ it (pre++rest) pd g/\b=(none,j+2,0)/\eM (P7 lt) (rest.take (j+2))) ⟨rfl,rfl,f2⟩ (fun j b st' hj z=>?_) fun b st' z=>⟨z.1,_,z.2.1,by omega,by omega,z.2.2⟩) fun b st' z=>?_)))
 ·obtain⟨e,e1,hd⟩:=z;subst e e1;have hu:=af (show j+1<rest.length by omega);have hv:=af (show j+2<rest.length by omega);refine .bind (ask (i:=j+2) (j:=j+1) (.refl _) hv hu ?_)
  cases c:lt rest[j+2] rest[j+1]with
  | true=>
    refine .pure ⟨rfl,rfl,?_⟩;have hd':eM (P7 lt) (rest.take (j+1+1)):=by exact hd
    have:=qx o' hd' hu (v:=rest[j+2]) (by exact hv) c;exact this
  | false=>
    have hne:rest[j+2]≠rest[j+1]:=fun e=>by
     have:=(jG (show j+2<rest.length by omega) nd).mp (hv.trans (by rw[e];exact hu.symm));omega
    refine .bind (ask (i:=j+1) (j:=j+2) (.refl _) hu hv ?_);rw[o.co _ _ hne c];exact .pure ⟨rfl,j+2,rfl,by omega,by omega,hd⟩
 obtain⟨e,m,e1,m1,m2,hd⟩:=z;subst e e1;have hlen:(rest.take m).length=m:=by simp;omega
 have hpr:((rest.take m).reverse++rest.drop m).Perm rest:=by
  conv=>rhs;rw[<-bu m rest]
  exact(fU _).append_right _
 refine .bind ?_;show Wt P w A E s (reverseSlice' pre.length (pre.length+m)) _ _;rw[reverseSlice'_eq];refine .modify ?_
 have em:mirror (Ar it (pre++rest)) pre.length (pre.length+m) ((pre.length+m - pre.length) / 2)=Ar it (pre++((rest.take m).reverse++rest.drop m)):=by
  have:=yw (it:=it) pre (rest.take m) (rest.drop m);rw[hlen,aC,bu,aC]at this;exact this
 show Wt P w A E s _ _ (fB κ (mirror (Ar it (pre++rest)) pre.length (pre.length+m) ((pre.length+m - pre.length) / 2)) pd.toArray g none);rw[em];have hl':((rest.take m).reverse++rest.drop m).length=rest.length:=hpr.length_eq;generalize hr':(rest.take m).reverse++rest.drop m=rest' at hpr hl';have ht:rest'.take m=(rest.take m).reverse:=by rw[<-hr'];rw[kr (by simp;omega),fx (by simp;omega)]
 rw[<-hl'];refine .bind (Wt.mono (Co (a:=m) (st:=nO κ it (pre++rest') pd g) o (hpr.nodup_iff.mpr nd) (show 1<=m by omega) (by omega) (by rw[ht];exact jX.mpr hd) fun x n u v G' hu hv k1 k2=>?_) fun b st' z=>?_)
 ·refine .bind (ask hpr hv (j:=n) hu ?_)
  cases c:lt v u with
  | true=>exact .pure (k1 c)
  | false=>exact .pure (k2 c)
 ·obtain⟨e,n,e1,h1,h2,hr,_⟩:=z;subst e e1;exact .pure (q n rest' (by omega) (by omega) hpr hr)
end
section
variable{P:aS}{w:bA}{A:bC}{E:ab->ae->Prop}{s:ae}{κ:gf}{it:Nat->fk}{lt:Nat->Nat->Bool}{N:Nat}
theorem uG{pre rest:List Nat}{pd:List (Nat×Nat×Nat)}{g n ok:Nat}{G:Bool->bJ->Prop}(o:Lt lt)(as:rA P w A s κ it lt N)(h1:1<=ok)(h2:ok<=n)(hn:n<=rest.length)(nl:∀x∈rest,x<N)(nd:rest.Nodup)(hr:eM lt (rest.take ok))
  (q:∀rest',rest'.Perm rest->eM lt (rest'.take n)->G true (nO κ it (pre++rest') pd g)):Wt P w A E s (binarySort' pre.length n ok) G (nO κ it (pre++rest) pd g):=by
 unfold binarySort';walk_at "u binarySort";rw[Nat.max_eq_left h1]
 refine .bind (Wt.mono (Wt.range (G:=fun(b:Option Bool×Unit) st'=>b=(none,())/\∃rest',st'=nO κ it (pre++rest') pd g/\rest'.Perm rest/\eM lt (rest'.take n))
  (fun j b st'=>b=(none,())/\∃rest',st'=nO κ it (pre++rest') pd g/\rest'.Perm rest/\eM lt (rest'.take (ok+j))) ⟨rfl,rest,rfl,.refl _,hr⟩ (fun j b st' hj z=>?_) fun b st' z=>by obtain⟨e1,rest',e,hp,hr'⟩:=z;exact⟨e1,rest',e,hp,by rw[show n=ok+(n - ok) by omega];exact hr'⟩) fun b st' z=>by obtain⟨e1,rest',e,hp,hr'⟩:=z;subst e e1;exact .pure (q rest' hp hr'))
 obtain⟨e1,rest',e,hp,hr'⟩:=z;subst e e1;have hl:=hp.length_eq;generalize hk:ok+j=k at hr';have hkn:k<rest'.length:=by omega
 have hx:=af hkn;generalize rest'[k]=x at hx;have mem:∀{i z:Nat},rest'[i]? = some z->z<N:=fun h=>nl _ (hp.mem_iff.mp (bq h));obtain⟨t,t1,t2⟩:=CC o hr' x;have t1:t<=k:=by simp at t1;omega
 have less:∀m,m<k->∃z,rest'[m]? = some z/\lt x z=decide (¬m<t):=fun m hm=>by
  have hz:=af (show m<rest'.length by omega);refine⟨_,hz,?_⟩;have e:=t2 m _ (by rw[cX,if_pos hm];exact hz)
  have hne:rest'[m]≠x:=fun e=>by
   have:=(jG (show m<rest'.length by omega) (hp.nodup_iff.mpr nd)).mp (hz.trans (by rw[e];exact hx.symm));omega
  by_cases c:m<t
  ·rw[decide_eq_true c]at e;rw[decide_eq_false (by omega)];exact o.as _ _ e
  ·rw[decide_eq_false c]at e;rw[decide_eq_true c];exact o.co _ _ hne e
 refine .bind (Wt.mono (Wt.range (G:=fun(b:Option Bool×Nat×Nat) st'=>st'=nO κ it (pre++rest') pd g/\∃r,b=(none,t,r))
  (fun i b st'=>st'=nO κ it (pre++rest') pd g/\∃l r,b=(none,l,r)/\l<=t/\t<=r/\r<=k/\r - l<=k - i) ⟨rfl,0,k,rfl,by omega,t1,by omega,by omega⟩ (fun i b st' hi z=>?_) fun b st' z=>by obtain⟨e,l,r,e1,a1,a2,a3,a4⟩:=z;exact⟨e,r,by rw[e1];congr;omega⟩) fun b st' z=>?_)
 ·obtain⟨e,l,r,e1,a1,a2,a3,a4⟩:=z;subst e e1;refine .ite (fun c=>.pure ⟨rfl,r,by have c:l>=r:=c;rw[show t=l by omega]⟩) fun c=>?_;have c:¬l>=r:=c;obtain⟨z,z1,z2⟩:=less ((l+r) / 2) (by omega);refine .bind (Wt.Si as (x:=x) (y:=z) (rK.trans hx) (rK.trans z1) (mem hx) (mem z1) ?_);rw[z2];by_cases d:(l+r) / 2<t
  ·rw[decide_eq_false (by omega)];exact .pure ⟨rfl,(l+r) / 2+1,r,rfl,by omega,a2,a3,by omega⟩
  ·rw[decide_eq_true d];exact .pure ⟨rfl,l,(l+r) / 2,rfl,a1,by omega,by omega,by omega⟩
 obtain⟨e,r,e1⟩:=z;subst e e1;refine .bind ?_;show Wt P w A E s (moveDown' (pre.length+k) (pre.length+t)) _ _;rw[moveDown'_eq];refine .modify (.pure ⟨rfl,rest'.take t++(x::(rest'.take k).drop t++rest'.drop (k+1)),?_,?_,?_⟩)
 ·have hb:=zA (it:=it) (pre++rest'.take t) ((rest'.take k).drop t) (rest'.drop (k+1)) x
  have e1:rest'.take t++(rest'.take k).drop t=rest'.take k:=by
   conv=>rhs;rw[<-bu t (rest'.take k)]
   rw[jF,jh t1]
  have e2:rest'=rest'.take k++x::rest'.drop (k+1):=by rw[<-jw hx,bu]
  have e3:pre++rest'.take t++((rest'.take k).drop t++x::rest'.drop (k+1))=pre++rest':=by
   rw[aC,<-aC (rest'.take t),e1,<-e2]
  have e4:(pre++rest'.take t).length+((rest'.take k).drop t).length=pre.length+k:=by simp;omega
  have e5:((rest'.take k).drop t).length=pre.length+k - (pre.length+t):=by simp;omega
  rw[e3,e4,e5,aC]at hb;show fB κ (bubble (Ar it (pre++rest')) (pre.length+k) (pre.length+k - (pre.length+t))) pd.toArray g none=_;rw[hb]
 ·refine B1 ?_ hp
  have e2:rest'=rest'.take t++((rest'.take k).drop t++x::rest'.drop (k+1)):=by
   rw[<-aC]
   have e1:rest'.take t++(rest'.take k).drop t=rest'.take k:=by
    conv=>rhs;rw[<-bu t (rest'.take k)]
    rw[jF,jh t1]
   rw[e1,<-jw hx,bu]
  conv=>rhs;rw[e2]
  exact jx _ Jx.symm
 ·have e1:rest'.take t++(rest'.take k).drop t=rest'.take k:=by
   conv=>rhs;rw[<-bu t (rest'.take k)]
   rw[jF,jh t1]
  have e2:(rest'.take t++(x::(rest'.take k).drop t++rest'.drop (k+1))).take (ok+(j+1))=rest'.take t++(x::(rest'.take k).drop t):=by
   rw[<-aC,kr (by simp;omega),fx (by simp;omega)]
  rw[e2];have hr2:=hr';rw[<-e1]at hr2;obtain⟨s1,s2,s3⟩:=eo.mp hr2
  have lo:∀z∈rest'.take t,lt z x=true:=fun z hz=>by
   obtain⟨i,hi⟩:=fW hz;rw[cX]at hi;split at hi
   ·rename_i c;rw[t2 i z (by rw[cX,if_pos (by omega)];exact hi),decide_eq_true c]
   ·cases hi
  have hi:∀z∈(rest'.take k).drop t,lt x z=true:=fun z hz=>by
   obtain⟨i,hi⟩:=fW hz;rw[lI,cX]at hi;split at hi
   ·rename_i c;obtain⟨z',z1,z2⟩:=less (t+i) c;rw[hi]at z1;cases z1;rw[z2,decide_eq_true (by omega)]
   ·cases hi
  refine mD s1 (eQ.mpr ⟨hi,s2⟩) fun z hz y hy=>?_
  rcases ao.mp hy with rfl|hy
  ·exact lo z hz
  ·exact s3 z hz y hy
end
inductive kD (lt:Nat->Nat->Bool):Nat->List (Nat×Nat×Nat)->List (List Nat)->Prop
 | nil {o:Nat}:kD lt o [] []
 | cons {o pw:Nat} {R:List Nat} {ps:List (Nat×Nat×Nat)} {Rs:List (List Nat)}:0<R.length->eM lt R->kD lt (o+R.length) ps Rs->kD lt o ((o,R.length,pw)::ps) (R::Rs)
section
variable{lt:Nat->Nat->Bool}
theorem kD.split{Rs:List (List Nat)}{pd:List (Nat×Nat×Nat)}{o:Nat}(h:kD lt o pd Rs):∀{i:Nat},i+1<pd.length->∃p1 pw pw' p2 R1 B C R2,pd=p1++(o+(R1.flatten:List Nat).length,B.length,pw)::(o+R1.flatten.length+B.length,C.length,pw')::p2/\Rs=R1++B::C::R2/\p1.length=i/\
  0<B.length/\0<C.length/\eM lt B/\eM lt C/\∀M:List Nat,M.length=B.length+C.length->eM lt M->kD lt o (p1++(o+R1.flatten.length,B.length+C.length,pw)::p2) (R1++M::R2):=by
 induction h with
 | nil=>intro i hi;simp at hi
 | @cons o pw R ps Rs h1 h2 h3 ih=>
   intro i hi
   cases i with
   | zero=>
     cases h3 with
     | nil=>simp at hi
     | @cons _ pw' C ps Rs k1 k2 k3=>
       refine⟨[],pw,pw',ps,[],R,C,Rs,rfl,rfl,rfl,h1,k1,h2,k2,fun M hM sM=>?_⟩;have:=kD.cons (pw:=pw) (o:=o) (R:=M) (by omega) sM (ps:=ps) (Rs:=Rs) (by rw[hM,<-mO];exact k3);rw[hM]at this;exact this
   | succ i=>
     obtain⟨p1,pa,pb,p2,R1,B,C,R2,e1,e2,e3,b1,b2,b3,b4,b5⟩:=ih (i:=i) (by simpa using hi);have e:o+(R::R1).flatten.length=o+R.length+R1.flatten.length:=by simp;omega
     refine⟨(o,R.length,pw)::p1,pa,pb,p2,R::R1,B,C,R2,by rw[e,e1];rfl,by rw[e2];rfl,by simp[e3],b1,b2,b3,b4,fun M hM sM=>?_⟩;rw[e];exact .cons h1 h2 (b5 M hM sM)
theorem kD.push{Rs:List (List Nat)}{pd:List (Nat×Nat×Nat)}{o x:Nat}{R:List Nat}(h:kD lt o pd Rs)(h1:0<R.length)(h2:eM lt R):kD lt o (pd++[(o+Rs.flatten.length,R.length,x)]) (Rs++[R]):=by
 induction h with
 | nil=>exact .cons h1 h2 .nil
 | @cons o pw R' ps Rs k1 k2 k3 ih=>
   refine .cons k1 k2 ?_;rw[show o+(R'::Rs).flatten.length=o+R'.length+Rs.flatten.length by simp;omega];exact ih
theorem kD.mod{Rs:List (List Nat)}{pd:List (Nat×Nat×Nat)}{o:Nat}{f:Nat×Nat×Nat->Nat×Nat×Nat}(hf:∀a b c,∃d,f (a,b,c)=(a,b,d))(h:kD lt o pd Rs):∀k,kD lt o (pd.modify k f) Rs:=by
 induction h with
 | nil=>intro k;simp;exact .nil
 | @cons o pw' R' ps Rs k1 k2 k3 ih=>
   intro k
   cases k with
   | zero=>
     obtain⟨d,e⟩:=hf o R'.length pw';rw[List.modify_zero_cons,e];exact .cons k1 k2 k3
   | succ k=>rw[List.modify_succ_cons];exact .cons k1 k2 (ih k)
theorem kD.len{Rs:List (List Nat)}{pd:List (Nat×Nat×Nat)}{o:Nat}(h:kD lt o pd Rs):pd.length<=Rs.flatten.length:=by
 induction h with
 | nil=>exact aK _
 | cons k1 k2 k3 ih=>simp at ih ⊢;omega
end
section
variable{P:aS}{w:bA}{A:bC}{E:ab->ae->Prop}{s:ae}{κ:gf}{it:Nat->fk}{lt:Nat->Nat->Bool}{N:Nat}
theorem sX{l:List Nat}{pd:List (Nat×Nat×Nat)}{g i:Nat}{Rs:List (List Nat)}{rest:List Nat}{G:Bool->bJ->Prop}(o:Lt lt)(as:rA P w A s κ it lt N)(nl:∀x∈l,x<N)(nd:l.Nodup)(hl:l=Rs.flatten++rest)(hp:kD lt 0 pd Rs)(hi:i+1<pd.length)
  (q:∀l' pd' g' Rs',l'=Rs'.flatten++rest->kD lt 0 pd' Rs'->l'.Perm l->Rs'.flatten.length=Rs.flatten.length->pd'.length+1=pd.length->G true (nO κ it l' pd' g')):Wt P w A E s (mergeAt' i) G (nO κ it l pd g):=by
 obtain⟨p1,pw,pw',p2,R1,B,C,R2,e1,e2,e3,b1,b2,b3,b4,b5⟩:=hp.split hi;rw[lu]at e1 b5;have el:l=R1.flatten++(B++C)++(R2.flatten++rest):=by rw[hl,e2];simp
 have mB:∀x∈B,x∈l:=fun x hx=>by rw[el];simp[hx]
 have mC:∀x∈C,x∈l:=fun x hx=>by rw[el];simp[hx]
 have xv:∀x∈B,x∉C:=fun x hB hC=>by
  rw[el]at nd;have:=(cV.mp (cV.mp nd).1).2.1;exact(cV.mp this).2.2 x hB x hC rfl
 subst e3;rw[e1,el];refine Be o as b3 b4 b1 b2 (fun x hx=>nl x (mB x hx)) (fun x hx=>nl x (mC x hx)) xv fun M g' sM pM=>?_;have hM:M.length=B.length+C.length:=by rw[pM.length_eq];simp
 refine q _ _ g' (R1++M::R2) (by simp) (b5 M hM sM) ?_ (by rw[e2];simp;omega) (by rw[e1];simp;omega);rw[el];exact(pM.append_left _).append_right _
abbrev Q3(κ:gf)(it:Nat->fk)(lt:Nat->Nat->Bool)(l0:List Nat)(n:Nat)(b:Option Unit×Nat)(st':bJ):Prop:=∃l pd g Rs,b=(none,n)/\st'=nO κ it l pd g/\l=(Rs:List (List Nat)).flatten/\kD lt 0 pd Rs/\l.Perm l0
abbrev Q2(κ:gf)(it:Nat->fk)(lt:Nat->Nat->Bool)(l0:List Nat)(j:Nat)(b:Option Unit×Nat)(st':bJ):Prop:=∃l pd g Rs rest,b=(none,(Rs.flatten:List Nat).length)/\st'=nO κ it l pd g/\l=Rs.flatten++rest/\kD lt 0 pd Rs/\l.Perm l0/\(rest=[]\/j<=Rs.flatten.length)
theorem ite_le{c:Prop}[Decidable c]{a:Nat}:(if c then a - 1 else a)<=a:=by split<;>omega
theorem xK{l0:List Nat}{g0:Nat}{G:Unit->bJ->Prop}(o:Lt lt)(as:rA P w A s κ it lt N)(nl0:∀x∈l0,x<N)(nd0:l0.Nodup)(q:∀l pd g,l.Perm l0->eM lt l->G () (nO κ it l pd g)):Wt P w A E s sortRuns' G (nO κ it l0 [] g0):=by
 have nl:∀{l:List Nat},l.Perm l0->∀x∈l,x<N:=fun h x hx=>nl0 x (h.mem_iff.mp hx);have nd:∀{l:List Nat},l.Perm l0->l.Nodup:=fun h=>h.nodup_iff.mpr nd0;unfold sortRuns';walk_at "u sortRuns";refine .bind (.get ?_);have hsz:(arrOf (nO κ it l0 [] g0)).size=l0.length:=bR;rw[hsz];generalize hmr:l0.length=n
 refine .bind (Wt.mono (Wt.range (G:=Q3 κ it lt l0 n) (Q2 κ it lt l0) ⟨l0,[],g0,[],l0,rfl,rfl,rfl,.nil,.refl _,.inr (aK _)⟩
  (fun j b st' hj z=>?_) fun b st' z=>?_) fun b st' z=>?_)
 rotate_left
 ·obtain⟨l,pd,g,Rs,rest,e1,e2,hl,hp,hpm,hg⟩:=z;have h1:=hpm.length_eq
  have hr:rest=[]:=by
   rcases hg with h|h
   ·exact h
   ·rw[hl,ak]at h1;exact gr.mp (by omega)
  subst hr;rw[aL]at hl;refine⟨l,pd,g,Rs,?_,e2,hl,hp,hpm⟩;rw[e1,<-hl,h1,hmr]
 ·obtain⟨l,pd,g,Rs,e1,e2,hl,hp,hpm⟩:=z;subst e1 e2
  refine .bind (Wt.mono (Wt.range (G:=fun(b:Option Unit×Unit) st'=>∃l pd g Rs,b=(none,())/\st'=nO κ it l pd g/\l=(Rs:List (List Nat)).flatten/\kD lt 0 pd Rs/\l.Perm l0/\pd.length<=1)
   (fun j b st'=>∃l pd g Rs,b=(none,())/\st'=nO κ it l pd g/\l=(Rs:List (List Nat)).flatten/\kD lt 0 pd Rs/\l.Perm l0/\(pd.length<=1\/pd.length+j<=n)) ⟨l,pd,g,Rs,rfl,rfl,hl,hp,hpm,.inr (by have:=hp.len;rw[<-hl,hpm.length_eq]at this;omega)⟩
   (fun j b st' hj z=>?_) fun b st' z=>by obtain⟨l,pd,g,Rs,e1,e2,hl,hp,hpm,hg⟩:=z;exact⟨l,pd,g,Rs,e1,e2,hl,hp,hpm,by omega⟩) fun b st' z=>?_)
  ·obtain⟨l,pd,g,Rs,e1,e2,hl,hp,hpm,hg⟩:=z;subst e1 e2;refine .bind (.get ?_);have hps:(pendingOf (nO κ it l pd g)).size=pd.length:=aH;refine .ite (fun c=>.pure ⟨l,pd,g,Rs,rfl,rfl,hl,hp,hpm,by rw[hps]at c;exact c⟩) fun c=>?_;have c:¬pd.length<=1:=by rw[hps]at c;exact c
   refine .bind (sX (rest:=[]) o as (nl hpm) (nd hpm) (by rw[aL];exact hl) hp (Nat.lt_of_le_of_lt (Nat.succ_le_succ (ite_le (a:=pd.length - 2))) (by omega)) fun l' pd' g' Rs' k1 k2 k3 k4 k5=>?_)
   ·refine .C6 (by simp) (.pure ⟨l',pd',g',Rs',rfl,rfl,by rw[k1,aL],k2,k3.trans hpm,.inr (by omega)⟩)
  ·obtain⟨l,pd,g,Rs,e1,e2,hl,hp,hpm,hg⟩:=z;subst e1 e2;refine .pure (q l pd g hpm ?_);rw[hl]
   match pd,Rs,hp,hg with
   | _,_,.nil,_=>exact .nil
   | _,_,.cons h1 h2 .nil,_=>simpa using h2
   | _,_,.cons h1 h2 (.cons _ _ _),hg=>simp at hg
 obtain⟨l,pd,g,Rs,rest,e1,e2,hl,hp,hpm,hg⟩:=z;subst e1 e2;have hlen:=hpm.length_eq;have hlen2:Rs.flatten.length+rest.length=n:=by rw[<-hmr,<-hlen,hl,ak]
 refine .ite (fun c=>?_) fun c=>?_
 ·have c:Rs.flatten.length>=n:=c;have hr:rest=[]:=gr.mp (by omega);subst hr;rw[aL]at hl;refine .pure ⟨l,pd,g,Rs,?_,rfl,hl,hp,hpm⟩;rw[<-hl,hlen,hmr]
 have c:¬Rs.flatten.length>=n:=c;have nlr:∀x∈rest,x<N:=fun x hx=>nl hpm x (by rw[hl];exact aA _ hx);have ndr:rest.Nodup:=(cV.mp (hl▸nd hpm)).2.1;refine .bind ?_;rw[show n - Rs.flatten.length=rest.length by omega,hl];refine zl o as (by omega) nlr ndr fun m rest1 m1 m2 p1 r1=>?_;have hpm1:(Rs.flatten++rest1).Perm l0:=(p1.append_left _).trans (hl▸hpm);have len1:=p1.length_eq;dsimp -zeta -zetaHave only
 extract_lets +onlyGivenNames n1 jp
 subst n1
 suffices h:∀m rest1 g,1<=m->m<=rest.length->(rest1:List Nat).Perm rest->eM lt (rest1.take m)->Wt P w A E s (jp () m) (UP (Q3 κ it lt l0 n) (Q2 κ it lt l0 (j+1))) (nO κ it (Rs.flatten++rest1) pd g) by
  refine .ite (fun c1=>?_) fun _=>h m rest1 g m1 m2 p1 r1;refine .bind (.rule (.bind (uG o as m1 ?_ (by omega) (fun x hx=>nlr x (p1.mem_iff.mp hx)) (p1.nodup_iff.mpr ndr) r1 fun rest2 p2 r2=>?_)))
  ·have c1:m<_:=c1;omega
  ·exact .C6 (by simp) (h _ rest2 g (by have c1:m<_:=c1;omega) (by omega) (p2.trans p1) r2)
 clear r1 m2 m1 hpm1 len1 p1;intro m rest1 g m1 m2 p1 r1;have len1:=p1.length_eq;refine .bind (.get ?_);dsimp -zeta -zetaHave only
 extract_lets +onlyGivenNames lo jp2
 subst lo
 have h:∀l pd g (Rs':List (List Nat)),l=Rs'.flatten++rest1->kD lt 0 pd Rs'->l.Perm l0->Rs'.flatten.length=Rs.flatten.length->Wt P w A E s (jp2 ()) (UP (Q3 κ it lt l0 n) (Q2 κ it lt l0 (j+1))) (nO κ it l pd g):=by
  intro l pd g Rs' hl' hp' hpm' hfl;refine .bind (.modify (.pure ⟨l,pd++[(Rs.flatten.length,m,0)],g,Rs'++[rest1.take m],rest1.drop m,?_,?_,?_,?_,hpm',?_⟩))
  ·have:(rest1.take m).length=m:=by simp;omega
   simp only[DR,ak,hfl,qR,Jz,aL,this]
  ·show fB κ (Ar it l) (pd.toArray.push (Rs.flatten.length,m,0)) g none=fB κ (Ar it l) (pd++[(Rs.flatten.length,m,0)]).toArray g none;rw[List.push_toArray]
  ·rw[hl'];simp
  ·have:=hp'.push (R:=rest1.take m) (x:=0) (by simp;omega) r1;rw[lu,hfl,show(rest1.take m).length=m by simp;omega]at this;exact this
  ·refine .inr ?_
   rcases hg with h|h
   ·subst h;simp at m2;omega
   ·simp only[DR,ak,hfl,qR,Jz,aL];have:(rest1.take m).length=m:=by simp;omega
    omega
 have hpm1:(Rs.flatten++rest1).Perm l0:=(p1.append_left _).trans (hl▸hpm)
 cases hb:pd.toArray.back? with
 | none=>exact h _ _ _ Rs rfl hp hpm1 rfl
 | some z=>
   obtain⟨s1,n1,z3⟩:=z
   refine .bind (Wt.mono (Wt.range (G:=fun(b:Option Unit×Unit) st'=>∃l pd g Rs',b=(none,())/\st'=nO κ it l pd g/\l=(Rs':List (List Nat)).flatten++rest1/\kD lt 0 pd Rs'/\l.Perm l0/\Rs'.flatten.length=Rs.flatten.length)
    (fun j b st'=>∃l pd g Rs',b=(none,())/\st'=nO κ it l pd g/\l=(Rs':List (List Nat)).flatten++rest1/\kD lt 0 pd Rs'/\l.Perm l0/\Rs'.flatten.length=Rs.flatten.length) ⟨_,pd,g,Rs,rfl,rfl,rfl,hp,hpm1,rfl⟩
    (fun j b st' hj z=>?_) fun b st' h=>h) fun b st' z=>?_)
   ·obtain⟨l,pd,g,Rs',e1,e2,hl',hp',hpm',hfl⟩:=z;subst e1 e2;refine .bind (.get ?_);dsimp only;rw[aH];by_cases c2:pd.length > 1
    ·rw[if_pos c2]
     have hz:pd.toArray[pd.length - 2]? = some pd[pd.length - 2]:=by
      rw[hZ];exact af _
     rw[hz];generalize pd[pd.length - 2]=z;obtain⟨za,zb,zc⟩:=z;refine .ite (fun _=>.pure ⟨l,pd,g,Rs',rfl,rfl,hl',hp',hpm',hfl⟩) fun _=>?_;refine .bind (sX o as (nl hpm') (nd hpm') hl' hp' (by omega) fun l2 pd2 g2 Rs2 k1 k2 k3 k4 k5=>?_);exact .C6 (by simp) (.pure ⟨l2,pd2,g2,Rs2,rfl,rfl,k1,k2,k3.trans hpm',k4.trans hfl⟩)
    ·rw[if_neg c2];exact .pure ⟨l,pd,g,Rs',rfl,rfl,hl',hp',hpm',hfl⟩
   ·obtain⟨l,pd,g,Rs',e1,e2,hl',hp',hpm',hfl⟩:=z;subst e1 e2;refine .bind (.modify ?_);show Wt P w A E s (jp2 ()) _ (fB κ (Ar it l) (pd.toArray.modify (pd.toArray.size - 1) _) g none);rw[aH,List.modify_toArray];exact h l _ g Rs' hl' (hp'.mod (fun a b c=>⟨_,rfl⟩) _) hpm' hfl
end
section
variable{lt:Nat->Nat->Bool}{n:Nat}
structure MT(lt:Nat->Nat->Bool)(n:Nat):Prop where
 tr:∀i j k,i<n->j<n->k<n->lt i j=true->lt j k=true->lt i k=true
 co:∀i j,i<n->j<n->i≠j->lt i j=false->lt j i=true
 as:∀i j,i<n->j<n->lt i j=true->lt j i=false
noncomputable abbrev pg(p:Array Nat)(k:Nat):Nat:=p.getD k 0
structure Pm(p:Array Nat)(n:Nat):Prop where
 sz:p.size=n
 lt:∀k,k<n->pg p k<n
 inj:∀i j,i<n->j<n->pg p i=pg p j->i=j
 pm:p.toList.Perm (aT n)
theorem CA{p:Array Nat}{k:Nat}(h:k<p.size):p[k]? = some (pg p k):=by
 simp[pg,uA,h]
theorem Pm.of{p:Array Nat}(h:p.toList.Perm (aT n)):Pm p n:=by
 have sz:p.size=n:=by rw[<-bF,h.length_eq,bW]
 refine⟨sz,fun k hk=>?_,fun i j hi hj e=>?_,h⟩
 ·have:pg p k∈p.toList:=by
   have:=CA (p:=p) (k:=k) (by omega);rw[<-dM]at this;exact bq this
  exact br.mp (h.mem_iff.mp this)
 ·have hn:p.toList.Nodup:=h.nodup_iff.mpr fF;have a:=CA (p:=p) (k:=i) (by omega);have b:=CA (p:=p) (k:=j) (by omega);rw[<-dM]at a b;rw[e]at a;exact(jG (by rw[bF];omega) hn).mp (a.trans b.symm)
def Up(lt:Nat->Nat->Bool)(p:Array Nat)(m:Nat):Prop:=∀i j,i<j->j<m->lt (pg p i) (pg p j)=true
noncomputable def Py(lt:Nat->Nat->Bool)(n i j:Nat):Bool:=if i<n then(if j<n then lt i j else true)else if j<n then false else decide (i<j)
theorem HE{i j:Nat}(hi:i<n)(hj:j<n):Py lt n i j=lt i j:=by unfold Py;rw[if_pos hi,if_pos hj]
theorem Px(o:MT lt n):Lt (Py lt n):=by
 refine⟨fun i j k a b=>?_,fun i j ne a=>?_,fun i j a=>?_⟩
 ·unfold Py at a b ⊢;by_cases hi:i<n<;>by_cases hj:j<n<;>by_cases hk:k<n<;>simp only[hi,hj,hk,if_true,if_false,aJ,decide_eq_true_eq]at a b ⊢
  ·exact o.tr i j k hi hj hk a b
  ·omega
 ·unfold Py at a ⊢;by_cases hi:i<n<;>by_cases hj:j<n<;>simp only[hi,hj,if_true,if_false,Bool.true_eq_false,decide_eq_false_iff_not,decide_eq_true_eq]at a ⊢
  ·exact o.co i j hi hj ne a
  ·omega
 ·unfold Py at a ⊢;by_cases hi:i<n<;>by_cases hj:j<n<;>simp only[hi,hj,if_true,if_false,aJ,decide_eq_false_iff_not,decide_eq_true_eq]at a ⊢
  ·exact o.as i j hi hj a
  ·omega
end
section
variable{P:aS}{w:bA}{A:bC}{E:ab->ae->Prop}{s:ae}{κ:gf}{lt:Nat->Nat->Bool}
theorem GC{vs:List ab}(o:MT lt vs.length)(hc:∀i j,i<vs.length->j<vs.length->∀C:Bool->ae->Prop,C (lt i j) s->aB (aI P w) A (keyLt' κ (vs.getD i .none) (vs.getD j .none)) C (fun _ _=>False) s) :
  aB (aI P w) A ((sortRuns').run (fB κ (vs.toArray.zip vs.toArray) #[] 7 none)) (fun r s'=>s'=s/\∃p:Array Nat,Pm p vs.length/\Up lt p vs.length/\arrOf r.2=p.map (zV (vs.toArray.zip vs.toArray))/\failedOf r.2=none) E s:=by
 have as:rA P w A s κ (zV (vs.toArray.zip vs.toArray)) (Py lt vs.length) vs.length:=fun i j hi hj C hC=>by
  rw[HE hi hj]at hC;have e:=kas_item_eq vs;unfold pairsOf at e;rw[e i,e j];exact hc i j hi hj C hC
 have est:fB κ (vs.toArray.zip vs.toArray) #[] 7 none=nO κ (zV (vs.toArray.zip vs.toArray)) (aT vs.length) [] 7:=by
  have e:=kas_range (vs.toArray.zip vs.toArray);rw[show(vs.toArray.zip vs.toArray).size=vs.length by simp]at e;show _=fB κ (((aT vs.length).map (zV (vs.toArray.zip vs.toArray))).toArray) #[] 7 none;rw[Jy]at e;rw[e]
 rw[est]
 have run:=xK (P:=P) (w:=w) (A:=A) (E:=E) (s:=s) (l0:=aT vs.length) (g0:=7) (G:=fun _ st'=>∃p:Array Nat,Pm p vs.length/\Up lt p vs.length/\arrOf st'=p.map (zV (vs.toArray.zip vs.toArray))/\failedOf st'=none)
  (Px o) as (fun x hx=>br.mp hx) fF fun l pd g hp hr=>by
   have pm:Pm l.toArray vs.length:=.of hp;refine⟨l.toArray,pm,fun i j hij hj=>?_,by show(l.map _).toArray=_;rw[Jy],rfl⟩;have hl:l.length=vs.length:=by simpa using hp.length_eq
   have:=eN.mp hr i j (by omega) (by omega) hij;have e1:pg l.toArray i=l[i]:=by simp[pg,show i<l.length by omega]
   have e2:pg l.toArray j=l[j]:=by simp[pg,show j<l.length by omega]
   rw[e1,e2,<-HE (lt:=lt) (e1▸pm.lt i (by omega)) (e2▸pm.lt j (by omega))];exact this
 exact dm run (fun r s' z=>⟨z.2,z.1⟩) fun _ _ e=>e
end
noncomputable def rn{α:Type}[DecidableEq α](f:α->α->Bool):List α->List α->Bool
 | [],[]=>false
 | [],_::_=>true
 | _::_,[]=>false
 | x::xs,y::ys=>if x=y then rn f xs ys else f x y
structure LO{α:Type}(f:α->α->Bool):Prop where
 tr:∀a b c,f a b=true->f b c=true->f a c=true
 co:∀a b,a≠b->f a b=false->f b a=true
 ir:∀a,f a a=false
theorem LO.as{α:Type}{f:α->α->Bool}(h:LO f){a b:α}(x:f a b=true):f b a=false:=by
 cases q:f b a with
 | false=>rfl
 | true=>have:=h.tr _ _ _ x q;rw[h.ir]at this;cases this
theorem LO.int:LO (fun i j:Int=>decide (i<j)):=
 ⟨fun a b c x y=>by simp only[decide_eq_true_eq]at *;omega,fun a b n x=>by simp only[decide_eq_false_iff_not,decide_eq_true_eq]at *;omega,fun a=>by simp⟩
section
variable{α:Type}[DecidableEq α]{f:α->α->Bool}
theorem n5{x y:α}{xs ys:List α}:rn f (x::xs) (y::ys)=if x=y then rn f xs ys else f x y:=rfl
theorem LO.lex(h:LO f):LO (rn f):=by
 refine⟨fun a=>?_,fun a=>?_,fun a=>?_⟩
 ·induction a with
  | nil=>
    intro b c x y
    cases b with
    | nil=>cases x
    | cons _ _=>cases c with
      | nil=>cases y
      | cons _ _=>rfl
  | cons p a ih=>
    intro b c x y
    cases b with
    | nil=>cases x
    | cons q b=>
      cases c with
      | nil=>cases y
      | cons r c=>
        rw[n5]at x y ⊢;by_cases e1:p=q
        ·subst e1;rw[if_pos rfl]at x;by_cases e2:p=r
         ·subst e2;rw[if_pos rfl]at y ⊢;exact ih b c x y
         ·rw[if_neg e2]at y ⊢;exact y
        ·rw[if_neg e1]at x;by_cases e2:q=r
         ·subst e2;rw[if_neg e1];exact x
         ·rw[if_neg e2]at y;have z:=h.tr _ _ _ x y;rw[if_neg fun e=>by rw[<-e]at z;rw[h.ir]at z;cases z];exact z
 ·induction a with
  | nil=>
    intro b n x
    cases b with
    | nil=>exact absurd rfl n
    | cons _ _=>cases x
  | cons p a ih=>
    intro b n x
    cases b with
    | nil=>rfl
    | cons q b=>
      rw[n5]at x ⊢;by_cases e:p=q
      ·subst e;rw[if_pos rfl]at x ⊢;exact ih b (fun z=>n (by rw[z])) x
      ·rw[if_neg e]at x;rw[if_neg fun z=>e z.symm];exact h.co _ _ e x
 ·induction a with
  | nil=>rfl
  | cons p a ih=>rw[n5,if_pos rfl];exact ih
end
noncomputable abbrev yA:List Int->List Int->Bool:=rn fun i j=>decide (i<j)
noncomputable abbrev ua:List (List Int)->List (List Int)->Bool:=rn yA
theorem mY:LO ua:=LO.int.lex.lex
theorem LJ{i j:Int}:yA [i] [j]=decide (i<j):=by
 show(if i=j then false else decide (i<j))=decide (i<j);by_cases e:i=j
 ·rw[if_pos e,e];simp
 ·rw[if_neg e]
theorem wo:∀l l':List Nat,yA (l.map fH) (l'.map fH)=decide (l<l')
 | [],[]=>by simp[yA,rn]
 | [],_::_=>by simp[yA,rn]
 | _::_,[]=>by simp[yA,rn]
 | a::l,b::l'=>by
   have ih:=wo l l';show(if fH a=fH b then yA (l.map fH) (l'.map fH)else decide (fH a<fH b))=_;by_cases e:a=b
   ·subst e;rw[if_pos rfl,ih]
    exact decide_eq_decide.mpr (by rw[Ad];constructor
                                   ·exact fun h=>.inr ⟨rfl,h⟩
                                   ·rintro(h|h)
                                    ·exact absurd h (bK _)
                                    ·exact h.2)
   ·rw[if_neg fun z=>e (Fy z)];refine decide_eq_decide.mpr ?_;rw[Ad];constructor
    ·exact fun h=>.inl (Int.ofNat_lt.mp h)
    ·rintro(h|h)
     ·exact Int.ofNat_lt.mpr h
     ·exact absurd h.1 e
noncomputable def cK:Key->List Int
 | .inl i=>[i]
 | .inr x=>x.cps.toList.map fH
noncomputable def iK:Key->Int
 | .inl i=>i
 | .inr _=>0
noncomputable def cN:NK->List Int
 | .inl k=>cK k
 | .inr ks=>ks.map iK
noncomputable def sK:Key->Bool
 | .inl _=>true
 | .inr _=>false
noncomputable def sN:NK->Nat
 | .inl (.inl _)=>0
 | .inl (.inr _)=>1
 | .inr ks=>if ks.all sK=true then 2 else 3
theorem Ib:∀{x y:List Key},x.all sK=true->y.all sK=true->x.map iK=y.map iK->x=y
 | [],[],_,_,_=>rfl
 | [],_::_,_,_,h=>by cases h
 | _::_,[],_,_,h=>by cases h
 | .inl i::x,.inl j::y,hx,hy,h=>by
   simp only[aq,iP,iK]at h;simp only[dQ,aF]at hx hy;rw[h.1,Ib hx.2 hy.2 h.2]
 | .inr _::_,_::_,hx,_,_=>by simp[sK]at hx
 | _::_,.inr _::_,_,hy,_=>by simp[sK]at hy
theorem IX{x y:NK}(hs:sN x=sN y)(h3:sN x<3)(h:cN x=cN y):x=y:=by
 match x,y with
 | .inl (.inl i),.inl (.inl j)=>simp only[cN,cK,iP,and_true]at h;rw[h]
 | .inl (.inr a),.inl (.inr b)=>
   simp only[cN,cK]at h;have:=(List.map_inj_right (fun _ _ z=>Fy z)).mp h;cases a;cases b;simp only at this;rw[Array.toList_inj.mp this]
 | .inr ks,.inr ks'=>
   simp only[sN]at hs h3;by_cases c1:ks.all sK=true
   ·rw[if_pos c1]at hs;by_cases c2:ks'.all sK=true
    ·rw[Ib c1 c2 h]
    ·rw[if_neg c2]at hs;cases hs
   ·rw[if_neg c1]at h3;omega
 | .inl (.inl _),.inl (.inr _)=>cases hs
 | .inl (.inr _),.inl (.inl _)=>cases hs
 | .inl (.inl _),.inr ks=>simp only[sN]at hs;split at hs<;>cases hs
 | .inl (.inr _),.inr ks=>simp only[sN]at hs;split at hs<;>cases hs
 | .inr ks,.inl (.inl _)=>simp only[sN]at hs;split at hs<;>cases hs
 | .inr ks,.inl (.inr _)=>simp only[sN]at hs;split at hs<;>cases hs
section
variable{P:aS}{w:bA}{A:bC}{E:ab->ae->Prop}{z0:ae}
theorem rN{k:Key}{v:ab}(h:(cf P w).is k v=true)(hs:sK k=true):∃t,v=.int (iK k) t:=by
 cases k with
 | inl i=>
   rcases cW (k:=.inl i) (v:=v) h with⟨i',t,e,rfl⟩|⟨x,t,e,_⟩
   ·cases e;exact⟨t,rfl⟩
   ·cases e
 | inr x=>cases hs
theorem LH{x y:List Key}{p b:ag}{R:Fin->ae->Prop}(ex:iW (cf P w) z0.heap x p)(ey:iW (cf P w) z0.heap y b)(ax:x.all sK=true)(ay:y.all sK=true)
  (h:R (.done (.ret (.bool (yA (x.map iK) (y.map iK))))) z0):aB (aI P w) A (fO.«tuple.__lt__» ⟨[.ref p,.ref b],[]⟩) R E z0:=by
 have gtb:=ey.typeIs;obtain⟨oa,xs,na,goa,_,gda,gia⟩:=ex;obtain⟨ob,ys,nb,gob,_,gdb,gib⟩:=ey;show aB _ _ (isInstance (.ref b) (.type "tuple") >>= _) _ _ z0;refine wb9 (eG gtb kE ?_);simp only[if_false,aJ,dA];refine wb9 (jL goa gda ?_);refine wb9 (jL gob gdb ?_);refine wb9 ?_
 refine eH _
  (fun tl r z1=>r.1=none/\z1=z0/\∃x' y' xs' ys',tl=List.zip xs' ys'/\ItemsAre (cf P w) x' xs'/\ItemsAre (cf P w) y' ys'/\x'.all sK=true/\y'.all sK=true/\
   yA (x'.map iK) (y'.map iK)=yA (x.map iK) (y.map iK)/\decide (xs'.length<ys'.length)=decide (xs.size<ys.size))
  _ ?_ ?_ _ _ ⟨rfl,rfl,x,y,xs.toList,ys.toList,rfl,gia,gib,ax,ay,rfl,by simp⟩
 ·rintro⟨u,v⟩ tl r z1 ⟨ge,rfl,x',y',xs',ys',gz,hx',hy',ax',ay',gdec,glen⟩
  cases hx' with
  | nil=>simp at gz
  | @cons k1 u' x'' xs'' h1 hx''=>
    cases hy' with
    | nil=>simp at gz
    | @cons k2 v' y'' ys'' h2 hy''=>
      simp only[uy,iP,ji]at gz;obtain⟨⟨rfl,rfl⟩,rfl⟩:=gz;simp only[dQ,aF]at ax' ay';refine wb9 ((cf P w).eqBool (a:=k1) (b:=k2) h1 h2 ?_);by_cases gk:k1=k2
      ·subst gk;rw[decide_eq_true rfl];simp only[if_false,aJ,dA];refine wu9 ⟨rfl,rfl,x'',y'',xs'',ys'',rfl,hx'',hy'',ax'.2,ay'.2,?_,by simpa using glen⟩;rw[<-gdec,aq,aq];show _=(if iK k1=iK k1 then _ else _)
       rw[if_pos rfl]
      ·rw[decide_eq_false gk];simp only[iJ,if_true];obtain⟨t1,rfl⟩:=rN h1 ax'.1;obtain⟨t2,rfl⟩:=rN h2 ay'.1
       have ne:iK k1≠iK k2:=fun e=>gk (by
        match k1,k2,ax'.1,ay'.1,e with
        | .inl i,.inl j,_,_,e=>exact congrArg _ e)
       have ff:decide (iK k1<iK k2)=yA (x.map iK) (y.map iK):=by
        rw[<-gdec,aq,aq];show _=(if iK k1=iK k2 then _ else _)
        rw[if_neg ne]
       rw[<-ff]at h;refine wb9 (ic (wb9 (show aB (aI P w) A (compareOp .Lt (.int (iK k1) t1) (.int (iK k2) t2)) _ _ _ from ux ?_)));exact wb9 (wu9 (wu9 (wu9 h)))
 ·rintro⟨r1,r2⟩ z1 ⟨ge,rfl,x',y',xs',ys',gz,hx',hy',ax',ay',gdec,glen⟩;simp only at ge;subst ge;refine wu9 ?_
  have ffin:decide (xs.size<ys.size)=yA (x.map iK) (y.map iK):=by
   rw[<-gdec,<-glen]
   cases hx' with
   | nil=>
     cases hy' with
     | nil=>simp[yA,rn]
     | cons _ _=>simp[yA,rn]
   | cons _ _=>
     cases hy' with
     | nil=>simp[yA,rn]
     | cons _ _=>simp at gz
  show R (.done (.ret (.bool (decide (xs.size<ys.size))))) z1;rw[ffin];exact h
theorem LI{x y:NK}{u v:ab}{Q:ab->ae->Prop}(room0:A.units+1<dS)(ex:JB P w z0.heap x u)(ey:JB P w z0.heap y v)(hs:sN x=sN y)(h3:sN x<3)(h:Q (.bool (yA (cN x) (cN y))) z0) :
  aB (aI P w) A (compareOp .Lt u v) Q E z0:=by
 match x,y,ex,ey,hs,h3,h with
 | .inl (.inl i),.inl (.inl j),ex,ey,_,_,h=>
   obtain⟨t1,rfl⟩:=rN (P:=P) (w:=w) ex rfl;obtain⟨t2,rfl⟩:=rN (P:=P) (w:=w) ey rfl;refine ux ?_;rw[show cN (.inl (.inl i))=[i]from rfl,show cN (.inl (.inl j))=[j]from rfl,LJ]at h;exact h
 | .inl (.inr a),.inl (.inr c),ex,ey,_,_,h=>
   rcases cW (k:=.inr a) (v:=u) ex with⟨i',t,e,_⟩|⟨x1,t1,e1,rfl⟩
   ·cases e
   ·rcases cW (k:=.inr c) (v:=v) ey with⟨i',t,e,_⟩|⟨x2,t2,e2,rfl⟩
    ·cases e
    ·cases e1;cases e2;refine PyProof.Rows.lt_str ?_;have:=wo a.cps.toList c.cps.toList;rw[show cN (.inl (.inr a))=a.cps.toList.map fH from rfl,show cN (.inl (.inr c))=c.cps.toList.map fH from rfl,this]at h;exact h
 | .inr ks,.inr ks',ex,ey,hs,h3,h=>
   obtain⟨p,rfl,q⟩:=ex;obtain⟨b,rfl,q'⟩:=ey;simp only[sN]at hs h3;by_cases c1:ks.all sK=true
   ·rw[if_pos c1]at hs;by_cases c2:ks'.all sK=true
    ·show aB _ _ (richCompare .Lt (.ref p) (.ref b)) _ _ _
     exact zO (op:=.Lt) q.typeIs q'.typeIs w5
      (cg w5 q.typeIs PySem.F.entry_tuple_lt (LH q q' c1 c2 ⟨_,rfl,(fun e=>nomatch e),h⟩) (PySem.F.args_tuple_lt_2 _ _)) (by omega)
    ·rw[if_neg c2]at hs;cases hs
   ·rw[if_neg c1]at h3;omega
 | .inl (.inl _),.inl (.inr _),_,_,hs,_,_=>cases hs
 | .inl (.inr _),.inl (.inl _),_,_,hs,_,_=>cases hs
 | .inl (.inl _),.inr ks,_,_,hs,_,_=>simp only[sN]at hs;split at hs<;>cases hs
 | .inl (.inr _),.inr ks,_,_,hs,_,_=>simp only[sN]at hs;split at hs<;>cases hs
 | .inr ks,.inl (.inl _),_,_,hs,_,_=>simp only[sN]at hs;split at hs<;>cases hs
 | .inr ks,.inl (.inr _),_,_,hs,_,_=>simp only[sN]at hs;split at hs<;>cases hs
end
end L2
namespace L2
open PySem PySem.Spec PyProof.Rows
theorem zh:entryFor table "set.__iter__"=some fO.«frozenset.__iter__» :=entryFor_alias (id':="frozenset.__iter__") (by kernel_rfl) rfl (by decide +kernel) (by kernel_rfl)
theorem oO:entryFor table "set_iterator.__next__"=some fO.«set_iterator.__next__» :=entryFor_of_tree (by kernel_rfl)
theorem fq:Slot "set_iterator" "__next__" "set_iterator.__next__":=.of (owner:="set_iterator") (n:="__next__") (by rw[typeLookup_type,Jr];kernel_rfl) (by decide +kernel) (by decide +kernel) (by decide +kernel) (.inl (by decide +kernel)) (by rw[isSubtype_type];kernel_rfl)
theorem yi:Manifest.owners.lookup (String.ofList ['r','o','t','a','r','e','t','i','_','t','e','s'].reverse)=some Manifest.sig_set_iterator:=by kernel_rfl
theorem oR(a:ab):argsOk "set_iterator.__next__" ⟨[a],[]⟩:=by
 unfold argsOk;rw[signature?_of (id:="set_iterator.__next__") (n:=['_','_','t','x','e','n','_','_']) (o:=['r','o','t','a','r','e','t','i','_','t','e','s']) (by kernel_rfl) yi];kernel_rfl
theorem o3{α:Type}:∀{xs:List α} {i:Nat} (h:i<xs.length),(xs[i]::xs.eraseIdx i).Perm xs
 | x::r,0,_=>by simp
 | x::r,i+1,h=>by
   have:=o3 (xs:=r) (i:=i) (by simpa using h);simp only[List.getElem_cons_succ,List.eraseIdx_cons_succ];exact(List.Perm.swap _ _ _).trans (this.cons x)
theorem Cv{α:Type}(nx:Nat->Nat):∀(fuel k:Nat) (left:List α) (out:Array α),left.length<=fuel->(ub nx fuel k left out).toList.Perm (out.toList++left)
 | 0,k,left,out,h=>by
   obtain rfl:left=[]:=gr.mp (by omega);simp only[ub,aL];exact .refl _
 | fuel+1,k,left,out,h=>by
   simp only[ub]
   cases q:left[nx k % left.length]? with
   | none=>
     have:left=[]:=by
      cases left with
      | nil=>rfl
      | cons x r=>
        have hlt:nx k % (x::r).length<(x::r).length:=jo _ (by simp);rw[af hlt]at q;cases q
     subst this;simp
   | some x=>
     obtain⟨hlt,e⟩:=be.mp q;have ih:=Cv nx fuel (k+1) (left.eraseIdx (nx k % left.length)) (out.push x) (by rw[uR hlt];omega);refine ih.trans ?_;rw[Array.toList_push,aC];refine jx _ ?_;rw[<-e];exact o3 hlt
theorem qA{α:Type}(nx:Nat->Nat)(xs:Array α):(pickOrder nx xs).toList.Perm xs.toList:=by
 have:=Cv nx xs.size 0 xs.toList #[] (by simp);simpa [pickOrder]using this
section
variable{prog:aS}{w:bA}{A:bC}{E:ab->ae->Prop}{s:ae}
theorem Fb{src:Source}{n:Nat}{Q:Nat->ae->Prop}(hn:n≠0)(k:∀i d,i<n->Q i { s with drawn:=d }):aB (aI prog w) A (choose src n) Q E s:=fun Γ p _=>by
 unfold choose;rw[Sem.wp_choose];exact⟨hn,k _ _ (jo _ (by omega))⟩
theorem Dn{α:Type}:∀(n:Nat) (xs:List α) (s:ae) {Q:List α->ae->Prop},xs.length<=n->(∀ys d,ys.Perm xs->Q ys { s with drawn:=d })->aB (aI prog w) A (drawOrder n xs) Q E s
 | 0,xs,s,Q,h,k=>by
   obtain rfl:xs=[]:=gr.mp (by omega);exact wu9 (k [] s.drawn (.refl _))
 | n+1,[],s,Q,h,k=>wu9 (k [] s.drawn (.refl _))
 | n+1,x::r,s,Q,h,k=>by
   simp only[drawOrder];refine wb9 (Fb (by simp) fun i d hlt=>?_);rw[af hlt];refine wb9 (Dn n ((x::r).eraseIdx i) _ (by rw[uR hlt];omega) fun ys d pm=>wu9 (k _ d ?_));exact(pm.cons _).trans (o3 hlt)
end
inductive Mode where
 | tx|dr (T:ag) (ps:List Nat)|pl
noncomputable def slotAt(t:aZ):Nat->Nat
 | 0=>0
 | i+1=>t.place.getD i 0+1
noncomputable def Mode.first(t:aZ)(i:Nat):Mode->ab
 | .tx=>rawInt 0
 | .dr T _=>.ref T
 | .pl=>rawInt (slotAt t i)
noncomputable def Mode.Ok(w:bA)(es:Array (Int×ab))(t:aZ)(h:bP)(I:ag):Mode->Prop
 | .tx=>w.params.followText "set-order"=true
 | .dr T ps=>T≠I/\ps.Perm (aT es.size)/\h.get? T=some { cls:=.type "tuple",data:=.seq (ps.map fun(p:Nat)=>rawInt p).toArray }
 | .pl=>w.params.followText "set-order"=false/\(!t.plain && decide (es.size > 1))=false
noncomputable def Mode.ord(w:bA)(S:ag)(es:Array (Int×ab))(ep:Nat):Mode->List ab
 | .tx=>(pickOrder (w.params.setOrder S ep) es).toList.map (·.2)
 | .dr _ ps=>ps.map fun p=>(es[p]?.map (·.2)).getD .none
 | .pl=>es.toList.map (·.2)
theorem Mode.sT{w:bA}{S:ag}{es:Array (Int×ab)}{ep:Nat}{t:aZ}{h:bP}{I:ag}:∀{m:Mode},m.Ok w es t h I->(m.ord w S es ep).Perm (es.toList.map (·.2))
 | .tx,_=>(qA _ _).map _
 | .dr T ps,h=>by
   refine(h.2.1.map _).trans ?_;rw[show(aT es.size).map (fun p=>(es[p]?.map (·.2)).getD de)=es.toList.map (·.2)from ?_];apply nu (by simp);intro n h1 h2;simp at h1 h2;simp[h1]
 | .pl,_=>.refl _
structure zK(w:bA)(h:bP)(I S:ag)(es:Array (Int×ab))(ep:Nat)(t:aZ)(m:Mode)(i:Nat):Prop where
 it:h.get? I=some { cls:=.type "set_iterator",data:=.fields #[m.first t i,rawInt i,.ref S,rawInt es.size,rawInt ep] }
 st:lZ (qb w) h S es ep t
 md:m.Ok w es t h I
 ne:S≠I
section
variable{prog:aS}{w:bA}{A:bC}{E:ab->ae->Prop}{s:ae}{I S:ag}{es:Array (Int×ab)}{ep:Nat}{t:aZ}{m:Mode}{i:Nat}
theorem Mode.Ok.keep{h h':bP}(y:m.Ok w es t h I)(k:∀b o,b≠I->h.get? b=some o->h'.get? b=some o):m.Ok w es t h' I:=by
 cases m with
 | dr T ps=>exact⟨y.1,y.2.1,k _ _ y.1 y.2.2⟩
 | _=>exact y
theorem ox{Q:Bool->ae->Prop}(k:Q (w.params.followText "set-order") s):aB (aI prog w) A setsByText Q E s:=by
 unfold setsByText;exact wb9 (vP (wu9 k))
theorem J3{Q:Array (Int×ab)->ae->Prop}(y:lZ (qb w) s.heap S es ep t)(h:w.params.followText "set-order"=true)(k:Q (pickOrder (w.params.setOrder S ep) es) s):aB (aI prog w) A (setWalk S) Q E s:=by
 unfold setWalk;refine wb9 (dR y.obj rfl y.fits ?_);dsimp only;refine wb9 (ox ?_);rw[h,if_pos rfl];exact wb9 (vP (wu9 k))
theorem oV(y:lZ (qb w) s.heap S es ep t):t.place.size=es.size:=by
 have:=y.fits;simp only[lD,aF,beq_iff_eq]at this;exact this.1
theorem CO{Q:Option (ab×Nat)->ae->Prop}{g e:Nat}(y:lZ (qb w) s.heap S es ep t)(h:w.params.followText "set-order"=false)(hd:(!t.plain && decide (es.size > 1))=false)(hi:i<=es.size)
  (k:Q (match es[i]? with|some x=>some (x.2,slotAt t (i+1))|none=>none) s):aB (aI prog w) A (setNext S (slotAt t i) g e) Q E s:=by
 unfold setNext;refine wb9 (dR y.obj rfl y.fits ?_);dsimp only;refine wb9 (ox ?_);rw[h,if_neg bI];show aB (aI prog w) A (if(!t.plain && decide (es.size > 1))=true then _ else _) Q E s;rw[hd,if_neg bI];show aB (aI prog w) A ((if(!t.led && !es.isEmpty)=true then _ else pure ()) >>= _) Q E s;rw[y.ok.l,qb,h];rw[if_neg (by simp)];refine wb9 (wu9 (wu9 ?_))
 have hb:aM t.place (slotAt t i)=i:=by
  cases i with
  | zero=>exact Je y.ok.r
  | succ j=>
    have hj:j<t.place.size:=by rw[oV y];omega
    show aM t.place (t.place.getD j 0+1)=j+1;rw[show t.place.getD j 0=t.place[j] by rw[eA,aW hj];rfl];exact Jf y.ok.r hj
 rw[hb]
 cases q:es[i]? with
 | none=>rw[q]at k;exact k
 | some x=>
   rw[q]at k
   have hlt:i<es.size:=by
    rcases cQ.mp q with⟨a,_⟩;exact a
   have hp:t.place[i]? = some (t.place[i]'(by rw[oV y];exact hlt)):=aW _;rw[hp];simp only[slotAt]at k;rw[show t.place.getD i 0=t.place[i]'(by rw[oV y];exact hlt) by rw[eA,hp];rfl]at k;exact k
theorem CM{Q:Option (ab×Nat)->ae->Prop}{sl:Nat}(y:lZ (qb w) s.heap S es ep t)(h:w.params.followText "set-order"=true)(k:Q (((pickOrder (w.params.setOrder S ep) es)[i]?).map fun e=>(e.2,sl)) s):aB (aI prog w) A (setNext S sl i ep) Q E s:=by
 unfold setNext;refine wb9 (dR y.obj rfl y.fits ?_);dsimp only;refine wb9 (ox ?_);rw[h,if_pos rfl];simp only[bne_self_eq_false,aJ,if_false];exact wb9 (J3 y h (wu9 k))
theorem Lv{Q:ab->ae->Prop}{p:Nat}{x:Int×ab}(y:lZ (qb w) s.heap S es ep t)(hx:es[p]? = some x)(k:Q x.2 s):aB (aI prog w) A (setNextDrawn S p ep) Q E s:=by
 unfold setNextDrawn;refine wb9 (dR y.obj rfl y.fits ?_);dsimp only;simp only[bne_self_eq_false,aJ,if_false];rw[hx];exact wu9 k
theorem HW{a b c:ab}{Q:Fin->ae->Prop}{r:ab}(y:zK w s.heap I S es ep t m i)(k:∀h',zK w h' I S es ep t m (i+1)->cC I s.heap h'->Q (.done (.ret r)) { s with heap:=h' })(hf:a=m.first t (i+1))(hb:b=rawInt ((i:Int)+1)) :
  aB (aI prog w) A (do setField (.ref I) 0 a;setField (.ref I) 1 b;ret r) Q E s:=by
 subst hf;subst hb;refine wb9 (bH y.it (by simp) fun h1 g1 s1=>wb9 (bH g1 (by simp) fun h2 g2 s2=>wu9 ?_));have kp:∀b o,b≠I->s.heap.get? b=some o->h2.get? b=some o:=fun b o n e=>s2.extBut _ _ n (s1.extBut _ _ n e);refine k h2 ⟨?_,y.st.keep fun o e=>kp _ _ y.ne e,y.md.keep kp,y.ne⟩ (s1.trans s2);rw[g2];simp
end
section
variable{prog:aS}{w:bA}{A:bC}{E:ab->ae->Prop}{s:ae}{I S:ag}{es:Array (Int×ab)}{ep:Nat}{t:aZ}{m:Mode}{i:Nat}
theorem Cg{Q:Fin->ae->Prop}(y:zK w s.heap I S es ep t m i)
  (k:aB (aI prog w) A (if let .int slot _:=m.first t i then do
    match <-setNext S slot.toNat (i:Int).toNat (ep:Int).toNat with
    | some (x,next)=>do setField (.ref I) 0 (rawInt next);setField (.ref I) 1 (rawInt ((i:Int)+1));ret x
    | none=>do setField (.ref I) 2 .none;raiseNew (<-newExc (.type "StopIteration") [])
   else do
    let some places <-seqItems? (m.first t i)|unsupported "internal:set_iterator"
    match places[(i:Int).toNat]? with
    | some (.int place _)=>do let x <-setNextDrawn S place.toNat (ep:Int).toNat;setField (.ref I) 1 (rawInt ((i:Int)+1));ret x
    | some _=>unsupported "internal:set_iterator"
    | none=>do setField (.ref I) 0 (rawInt 0);setField (.ref I) 2 .none;raiseNew (<-newExc (.type "StopIteration") [])) Q E s) :
  aB (aI prog w) A (fO.«set_iterator.__next__» ⟨[.ref I],[]⟩) Q E s:=by
 show aB (aI prog w) A (fieldsOf (.ref I) >>= _) Q E s;refine wb9 (wpAny_fieldsOf y.it rfl ?_);dsimp only[rawInt];refine wb9 (M4 y.st.obj rfl y.st.fits ?_);simp only[bne_self_eq_false,aJ,if_false];exact k
theorem vZ{α:Type}{Q:α->ae->Prop}(nh:A.handled=none)(k:∀h' e,(∀b o,s.heap.get? b=some o->h'.get? b=some o)->(∃o,h'.get? e=some o/\o.cls=.type "StopIteration")->E (.ref e) { s with heap:=h' }) :
  aB (aI prog w) A (do raiseNew (<-newExc (.type "StopIteration") []):rl α) Q E s:=by
 refine wb9 ?_;simp only[newExc,newTuple];refine wb9 (dq (wb9 (m:=firstArgMember _ _) (JN (a:=de) (by first|rfl|(simp only[firstArgMember];rfl)) (dq ?_ (by size_fits)))) (by size_fits));simp only[raiseNew];refine wb9 (wpAny_handled ?_);rw[nh];exact wb9 (wu9 (wpAny_throw (k _ _ (fun b o e=>hp9 _ (hp9 _ e)) ⟨_,aQ _ rfl,rfl⟩)))
theorem Kr{Q:ab->ae->Prop}(y:zK w s.heap I S es ep t m i)(hi:i<es.size)(k:∀h' v,(m.ord w S es ep)[i]? = some v->zK w h' I S es ep t m (i+1)->cC I s.heap h'->Q v { s with heap:=h' }) :
  aB (aI prog w) A (fO.«set_iterator.__next__» ⟨[.ref I],[]⟩) (fun f s'=>∃v,f=.done (.ret v)/\Q v s') E s:=by
 refine Cg y ?_
 cases m with
 | tx=>
   show aB (aI prog w) A (setNext S 0 i ep >>= _) _ E s;refine wb9 (CM y.st y.md ?_)
   have hz:(pickOrder (w.params.setOrder S ep) es).size=es.size:=by
    have:=(qA (w.params.setOrder S ep) es).length_eq;simpa using this
   have hl:i<(pickOrder (w.params.setOrder S ep) es).size:=by rw[hz];exact hi
   rw[aW hl];dsimp only[jT];refine HW (c:=.none) y (fun h' y' sb=>⟨_,rfl,k h' _ ?_ y' sb⟩) rfl rfl;simp only[Mode.ord,bx,dM];rw[aW hl];rfl
 | dr T ps=>
   obtain⟨y1,y2,y3⟩:=id y.md;show aB (aI prog w) A (seqItems? (.ref T) >>= _) _ E s;refine wb9 (bO y3 rfl ?_);have hl:ps.length=es.size:=by rw[y2.length_eq,bW]
   have hps:i<ps.length:=by omega
   have hp:ps[i]<es.size:=br.mp (y2.mem_iff.mp (bM hps));have hg:((ps.map fun(p:Nat)=>rawInt p).toArray)[(i:Int).toNat]? = some (rawInt (ps[i]:Nat)):=by simp[hps]
   dsimp only;rw[hg];dsimp only[rawInt];refine wb9 (Lv (p:=ps[i]) y.st (aW hp) ?_);refine wb9 (bH y.it (by simp) fun h1 g1 s1=>wu9 ⟨_,rfl,k h1 _ ?_ ⟨?_,y.st.keep fun o e=>s1.extBut _ _ y.ne e,y.md.keep fun b o n e=>s1.extBut _ _ n e,y.ne⟩ s1⟩)
   ·simp only[Mode.ord,bx];rw[af hps];simp[aW hp]
   ·rw[g1];simp[Mode.first,rawInt]
 | pl=>
   show aB (aI prog w) A (setNext S (slotAt t i) i ep >>= _) _ E s;refine wb9 (CO y.st y.md.1 y.md.2 (nQ hi) ?_);rw[aW hi];dsimp only;refine HW (c:=.none) y (fun h' y' sb=>⟨_,rfl,k h' _ ?_ y' sb⟩) rfl rfl;simp[Mode.ord,hi]
theorem Oj{Q:Fin->ae->Prop}(nh:A.handled=none)(y:zK w s.heap I S es ep t m es.size)(k:∀h' e,(∀b o,b≠I->s.heap.get? b=some o->h'.get? b=some o)->(∃o,h'.get? e=some o/\o.cls=.type "StopIteration")->E (.ref e) { s with heap:=h' }) :
  aB (aI prog w) A (fO.«set_iterator.__next__» ⟨[.ref I],[]⟩) Q E s:=by
 refine Cg y ?_
 cases m with
 | tx=>
   show aB (aI prog w) A (setNext S 0 es.size ep >>= _) _ E s;refine wb9 (CM y.st y.md ?_)
   have hz:(pickOrder (w.params.setOrder S ep) es).size=es.size:=by
    have:=(qA (w.params.setOrder S ep) es).length_eq;simpa using this
   rw[fu (by omega)];dsimp only[jT];refine wb9 (bH y.it (by simp) fun h1 g1 s1=>?_);exact vZ nh fun h' e kp he=>k h' e (fun b o n q=>kp _ _ (s1.extBut _ _ n q)) he
 | dr T ps=>
   obtain⟨y1,y2,y3⟩:=id y.md;show aB (aI prog w) A (seqItems? (.ref T) >>= _) _ E s;refine wb9 (bO y3 rfl ?_);have hl:ps.length=es.size:=by rw[y2.length_eq,bW]
   dsimp only;rw[fu (by simp[hl])];dsimp only;refine wb9 (bH y.it (by simp) fun h1 g1 s1=>wb9 (bH g1 (by simp) fun h2 g2 s2=>?_));exact vZ nh fun h' e kp he=>k h' e (fun b o n q=>kp _ _ (s2.extBut _ _ n (s1.extBut _ _ n q))) he
 | pl=>
   show aB (aI prog w) A (setNext S (slotAt t es.size) es.size ep >>= _) _ E s;refine wb9 (CO y.st y.md.1 y.md.2 (aK _) ?_);rw[fu (by omega)];dsimp only;refine wb9 (bH y.it (by simp) fun h1 g1 s1=>?_);exact vZ nh fun h' e kp he=>k h' e (fun b o n q=>kp _ _ (s1.extBut _ _ n q)) he
theorem zK.ty(y:zK w s.heap I S es ep t m i):s.TypeIs (.ref I) "set_iterator":=⟨_,y.it,rfl⟩
theorem Ko{Q:Option ab->ae->Prop}(y:zK w s.heap I S es ep t m i)(hi:i<es.size)(k:∀h' v,(m.ord w S es ep)[i]? = some v->zK w h' I S es ep t m (i+1)->cC I s.heap h'->Q (some v) { s with heap:=h' }) :
  aB (aI prog w) A (pyNext (.ref I)) Q E s:=by
 unfold pyNext;exact wb9 (jA (cy (name:=aa "__next__") y.ty fq (cg fq y.ty oO (Kr y hi fun h' v a b c=>wu9 (k h' v a b c)) (oR _))))
theorem Oi{Q:Option ab->ae->Prop}(nh:A.handled=none)(y:zK w s.heap I S es ep t m es.size)(k:∀h',(∀b o,b≠I->s.heap.get? b=some o->h'.get? b=some o)->Q none { s with heap:=h' }) :
  aB (aI prog w) A (pyNext (.ref I)) Q E s:=by
 unfold pyNext;refine wb9 (jA (cy (name:=aa "__next__") y.ty fq (cg fq y.ty oO (Oj nh y fun h' e kp he=>?_) (oR _))));obtain⟨o,ho,hc⟩:=he;exact wb9 (eG (T:="StopIteration") (b:=true) ⟨o,ho,hc⟩ zT (wu9 (k _ kp)))
end
theorem uF:entryFor table "set_iterator.__iter__"=some fO.«dict_keyiterator.__iter__» :=entryFor_alias (id':="dict_keyiterator.__iter__") (by kernel_rfl) rfl (by decide +kernel) (by kernel_rfl)
theorem oK:Slot "set_iterator" "__iter__" "set_iterator.__iter__":=.of (owner:="set_iterator") (n:="__iter__") (by rw[typeLookup_type,Jr];kernel_rfl) (by decide +kernel) (by decide +kernel) (by decide +kernel) (.inl (by decide +kernel)) (by rw[isSubtype_type];kernel_rfl)
theorem uH(a:ab):argsOk "set_iterator.__iter__" ⟨[a],[]⟩:=by
 unfold argsOk;rw[signature?_of (id:="set_iterator.__iter__") (n:=['_','_','r','e','t','i','_','_']) (o:=['r','o','t','a','r','e','t','i','_','t','e','s']) (by kernel_rfl) yi];kernel_rfl
noncomputable def Mode.fp:Mode->List ag
 | .dr T _=>[T]
 | _=>[]
section
variable{prog:aS}{w:bA}{A:bC}{E:ab->ae->Prop}{s:ae}{I S:ag}{es:Array (Int×ab)}{ep:Nat}{t:aZ}{m:Mode}{i:Nat}
theorem zK.frame{h h':bP}(y:zK w h I S es ep t m i)(k:∀b∈I::S::m.fp,∀o,h.get? b=some o->h'.get? b=some o):zK w h' I S es ep t m i:=by
 refine⟨k I (.head _) _ y.it,y.st.keep fun o e=>k S (.tail _ (.head _)) o e,?_,y.ne⟩
 cases m with
 | dr T ps=>exact⟨y.md.1,y.md.2.1,k T (.tail _ (.tail _ (.head _))) _ y.md.2.2⟩
 | tx=>exact y.md
 | pl=>exact y.md
theorem xO(hh:A.handled=none):Walks prog w A I (I::S::m.fp) [I] es.size (fun i v=>(m.ord w S es ep)[i]? = some v) (fun i h=>zK w h I S es ep t m i) where
 sub:=fun b hb=>by rw[au.mp hb];exact .head _
 frame:=fun i h h' st k=>st.frame k
 item:=fun i s Q E hi st k=>Ko st hi fun h' v a b c=>k v h' s.toks a b fun b o hb e=>c.extBut _ _ (fun z=>hb (z▸au.mpr rfl)) e
 done:=fun s Q E st k=>Oi hh st fun h' kp=>k h' s.toks fun b o hb e=>kp b o (fun z=>hb (z▸au.mpr rfl)) e
 self:=fun i s Q E st k=>by
  refine wpAny_pyIter_slot st.ty oK (cg oK st.ty uF ?_ (uH _));show aB _ _ (ret (.ref I)) _ _ s;exact wu9 ⟨_,rfl,"set_iterator",_,st.ty,fq.lookup,k⟩
theorem AH{Q:ab->ae->Prop}(y:lZ (qb w) s.heap S es ep t)(hz:es.size<=aP)
  (k:∀(h1:bP) d I m,s.heap.objs.size<=I->(∀b∈m.fp,s.heap.objs.size<=b)->(∀b o,s.heap.get? b=some o->h1.get? b=some o)->zK w h1 I S es ep t m 0->Q (.ref I) { s with heap:=h1,drawn:=d }) :
  aB (aI prog w) A (FK (.ref S)) Q E s:=by
 have ty:s.TypeIs (.ref S) "set":=⟨_,y.obj,rfl⟩
 have lt:=hl9 y.obj;refine wpAny_pyIter_slot ty w6 (cg w6 ty zh ?_ (PySem.F.args_set_iter_1 _));show aB (aI prog w) _ (oU S >>= _) _ _ s;unfold oU;refine wb9 (wb9 (M4 y.obj rfl y.fits (wu9 ?_)))
 have dr:∀{A1:bC} {E1:ab->ae->Prop} {Q1:Bool->ae->Prop},Q1 (!w.params.followText "set-order" && (!t.plain && decide (es.size > 1))) s->aB (aI prog w) A1 (setDrawn S) Q1 E1 s:=by
  intro A1 E1 Q1 h;unfold setDrawn;refine wb9 (dR y.obj rfl y.fits ?_);dsimp only;exact wb9 (ox (wu9 h))
 have one:∀{A1:bC} {E1:ab->ae->Prop} {Q1:Fin->ae->Prop} {m:Mode} (s1:ae) (f:ab),f=m.first t 0->m.Ok w es t s1.heap s1.heap.objs.size->s.heap.objs.size<=s1.heap.objs.size->(∀b o,s.heap.get? b=some o->s1.heap.get? b=some o)->
   (∀h1,h1=s1.heap.push { cls:=.type "set_iterator",data:=.fields #[m.first t 0,rawInt (0:Nat),.ref S,rawInt es.size,rawInt ep] }->zK w h1 s1.heap.objs.size S es ep t m 0->Q1 (.done (.ret (.ref s1.heap.objs.size))) { s1 with heap:=h1 })->
   aB (aI prog w) A1 (do ret (<-newFields "set_iterator" [f,rawInt 0,.ref S,rawInt es.size,rawInt (<-setEpoch S)])) Q1 E1 s1:=by
  intro A1 E1 Q1 m s1 f hf ok le ex h;have y1:=y.keep (h':=s1.heap) fun o e=>ex _ _ e;refine wb9 (wpAny_setEpoch_of y1.obj rfl y1.fits ?_);refine wb9 ?_;unfold newFields;refine dq ?_ (by size_fits);subst hf;exact wu9 (h _ rfl ⟨aQ _ rfl,y1.keep fun o e=>hp9 _ e,ok.keep fun b o n e=>hp9 _ e,by have:=bB lt le;exact bN this⟩)
 refine wb9 (dr ?_)
 cases hb:w.params.followText "set-order" with
 | true=>
   simp only[dA,oI,aJ,if_false];refine wb9 (wu9 ?_);refine one (m:=.tx) s _ rfl hb (aK _) (fun b o e=>e) fun h1 e1 y1=>⟨_,rfl,"set_iterator",_,y1.ty (s:={ s with heap:=h1 }),fq.lookup,?_⟩
   subst e1;exact k _ s.drawn _ .tx (aK _) (fun b h=>by cases h) (fun b o e=>hp9 _ e) y1
 | false=>
   cases hd:(!t.plain && decide (es.size > 1))with
   | false=>
     simp only[iJ,lJ,aJ,if_false];refine wb9 (wu9 ?_);refine one (m:=.pl) s _ rfl ⟨hb,hd⟩ (aK _) (fun b o e=>e) fun h1 e1 y1=>⟨_,rfl,"set_iterator",_,y1.ty (s:={ s with heap:=h1 }),fq.lookup,?_⟩
     subst e1;exact k _ s.drawn _ .pl (aK _) (fun b h=>by cases h) (fun b o e=>hp9 _ e) y1
   | true=>
     simp only[iJ,eV,if_true];refine wb9 (Dn es.size (aT es.size) s (by simp) fun ps d pm=>?_);have hl:ps.length=es.size:=by rw[pm.length_eq,bW]
     refine wb9 (qo ?_ (by rw[aG,hl];exact hz));refine one (m:=.dr s.heap.objs.size ps) _ _ rfl ⟨?_,pm,?_⟩ ?_ ?_ ?_
     ·show s.heap.objs.size≠(s.heap.push _).objs.size;rw[cB];exact bN (ki _)
     ·exact aQ _ rfl
     ·show s.heap.objs.size<=(s.heap.push _).objs.size;rw[cB];exact DO _
     ·exact fun b o e=>hp9 _ e
     ·intro h1 e1 y1;refine⟨_,rfl,"set_iterator",_,y1.ty (s:={ s with heap:=h1,drawn:=d }),fq.lookup,?_⟩;subst e1;refine k _ d _ _ ?_ ?_ ?_ y1
      ·show s.heap.objs.size<=(s.heap.push _).objs.size;rw[cB];exact DO _
      ·intro b hb;rw[au.mp hb];exact aK _
      ·exact fun b o e=>hp9 _ (hp9 _ e)
end
section
variable{prog:aS}{w:bA}{A:bC}{E:ab->ae->Prop}{s:ae}
theorem Aw:splitId "set.__len__"=some ("set","__len__"):=by decide +kernel
theorem Ic{M:Model}{v:ab}{Q:Bool->ae->Prop}(ty:s.TypeIs v "set")(k:Q false s):aB M A (pJ v) Q E s:=by
 unfold pJ;refine wb9 (iy ty PySem.F.slot_set_len.lookup ?_);dsimp only;rw[Aw];dsimp only;refine wb9 (eG ty sub_set_self ?_);simp only[dA,aJ,if_false];rw[if_pos (by decide +kernel)];refine wb9 (mo ty ?_);exact wu9 k
theorem Bm{ord:List ab}{acc:Array ab}(h:ItemsOf (fun i v=>ord[i]? = some v) acc ord.length):acc.toList=ord:=by
 obtain⟨h1,h2⟩:=h;apply qS;intro i;by_cases hi:i<acc.size
 ·have:=h2 i acc[i] (aW hi);rw[this,dM,aW hi]
 ·rw[jZ (by simpa using hi),jZ (by omega)]
theorem zm{Q:List ab->ae->Prop}{S:ag}{es:Array (Int×ab)}{ep:Nat}{t:aZ}(hh:A.handled=none)(y:lZ (qb w) s.heap S es ep t)(hz:es.size<=aP)
  (k:∀h1 d tk vs,(∀b o,s.heap.get? b=some o->h1.get? b=some o)->s.heap.objs.size<=h1.objs.size->vs.Perm (es.toList.map (·.2))->Q vs { s with heap:=h1,drawn:=d,toks:=tk }):aB (aI prog w) A (collect (.ref S)) Q E s:=by
 unfold collect;refine wb9 (wpAny_runValue (lQ PySem.F.entry_proto_collect ?_));rw[j8 PySem.F.plain_proto_collect];show aB _ A.in1 (newList [] >>= fun l=>again (.builtin "list.__iadd__" ⟨[l,.ref S],[]⟩)) _ _ s;refine wb9 (dq ?_);refine wu9 (JX (DL uM _) (lQ PySem.F.entry_list_iadd ?_));rw[j8 uM];have lt:=hl9 y.obj;generalize hL:s.heap.objs.size=L;generalize hlo:({ cls:=.type "list",data:=.seq ([]:List ab).toArray }:fe)=lo;have y1:lZ (qb w) (s.heap.push lo) S es ep t:=y.keep fun o e=>hp9 _ e;have gL:(s.heap.push lo).get? L=some { cls:=.type "list",data:=.seq (#[]:Array ab) }:=by rw[<-hL];exact(aQ _ (by rw[<-hlo];rfl)).trans (by rw[<-hlo])
 have szL:(s.heap.push lo).objs.size=L+1:=by rw[cB,hL]
 have ne:L≠S:=by rw[<-hL];exact iR lt
 have ty:uJ { s with heap:=s.heap.push lo } (.ref S) "set":=⟨_,y1.obj,rfl⟩
 show aB _ A.in1 (pK (.ref L) (.ref S) (.ref L)) _ _ { s with heap:=s.heap.push lo };unfold pK;refine wb9 (mo ty ?_);have b1:qP (.ref L) (.ref S)=false:=by simp[qP,ne]
 have b2:(lq "set" == lq "list")=false:=by decide
 have b3:(lq "set" == lq "tuple")=false:=by decide
 simp only[b1,b2,b3,Bool.or_false,aJ,if_false];refine wb9 (AH y1 hz fun h1 d I m hI hm ex it=>?_);have ty2:uJ { s with heap:=h1,drawn:=d } (.ref S) "set":=⟨_,it.st.obj,rfl⟩
 refine wb9 (eh (Ic ty2 ?_));rw[if_pos (by decide +kernel)];refine wb9 (ic ?_);have g1:=ex _ _ gL;refine wb9 ?_;show aB _ A.in1 (updateSeq L (·.push .none) >>= fun _=>updateSeq L (·.pop)) _ _ _;refine wb9 (ph g1 rfl ?_);have g2:=hX (en (·.push de)) g1 rfl;refine ph g2 rfl ?_;have g3:=hX (en (·.pop)) g2 rfl
 have oth:∀b o,b≠L->h1.get? b=some o->((h1.update L (en (·.push de))).update L (en (·.pop))).get? b=some o:=
  fun b o n e=>(jC _ _ (fD n)).trans ((jC _ _ (fD n)).trans e)
 have hI':L<I:=by have:(s.heap.push lo).objs.size<=I:=hI;rw[szL]at this;exact this
 have nf:L∉I::S::m.fp:=by
  intro z
  rcases ao.mp z with z|z
  ·rw[z]at hI';exact absurd hI' (bK _)
  ·rcases ao.mp z with z|z
   ·exact ne z
   ·have:=hm _ z;have this':(s.heap.push lo).objs.size<=L:=this;rw[szL]at this';exact absurd this' (Nat.not_succ_le_self _)
 have W:=(xO (prog:=prog) (w:=w) (A:=A.in1) (I:=I) (S:=S) (es:=es) (ep:=ep) (t:=t) (m:=m) (by simp[hh])).toS;refine wu9 (JX (DL PySem.F.plain_extend_loop _) (codeAny_extend_loopS W hz _ nf _ es.size 0 _ _ _ rfl (dJ _) (it.frame fun b hb o e=>oth b o (fun z=>nf (z▸hb)) e) g3 (ItemsOf.nil _) fun s' acc c mv gS hacc=>?_));show aB _ A (load L >>= _) _ _ s';refine wb9 (wpAny_load gS ?_);have hp:=Mode.sT (S:=S) (ep:=ep) it.md;have hl:(m.ord w S es ep).length=es.size:=by rw[hp.length_eq,aG,bF]
 rw[<-hl]at hacc;have e:=Bm hacc;show aB _ A (pure acc.toList) _ _ s';rw[e];obtain⟨h',g',d',tk',os'⟩:=s';obtain rfl:g'=s.gens:=mv.gens;obtain rfl:d'=d:=mv.drawn;obtain rfl:os'=s.os:=mv.os;refine wu9 (k h' _ tk' _ (fun b o q=>mv.heap b o (fun z=>?_) (oth b o (fun z=>?_) (ex _ _ (hp9 _ q)))) (by rw[hL];exact nQ (hl9 gS)) hp)
 ·have lb:=hl9 q
  rcases ao.mp z with z|z
  ·rw[z,<-hL]at lb;exact absurd lb (bK _)
  ·rw[au.mp z,hL]at lb;exact absurd (jO lb hI') (bK _)
 ·have lb:=hl9 q;rw[z,<-hL]at lb;exact absurd lb (bK _)
end
section
variable{prog:aS}{w:bA}{A:bC}{E:ab->ae->Prop}{s:ae}
def TZ(prog:aS)(w:bA)(A:bC)(s:ae)(v:ab)(Gd:List ab->Prop):Prop:=
 ∀(A':bC) (E':ab->ae->Prop) (Q':List ab->ae->Prop),A'.handled=A.handled->(∀vs h1 d tk,(∀b o,s.heap.get? b=some o->h1.get? b=some o)->s.heap.objs.size<=h1.objs.size->Gd vs->Q' vs { s with heap:=h1,drawn:=d,toks:=tk })->
  aB (aI prog w) A' (collect v) Q' E' s
end
end L2
namespace L2
open PySem PySem.W PySem.Spec PyProof.Rows
section
variable{P:aS}{w:bA}{A:bC}{E:ab->ae->Prop}{s:ae}
theorem EE{fin:Bool}{Q:Bool->ae->Prop}(room0:A.units+1<dS){kx:List NK}{xs:List ab}(hx:e8 P w s.heap kx xs):∀{ky:List NK} {ys:List ab} (i:Nat),e8 P w s.heap ky ys->kx.map sN=ky.map sN->(∀k∈kx,sN k<3)->
  (i=0->∀k,kx.head? = some k->sN k=1)->Q (if kx=ky then fin else ua (kx.map cN) (ky.map cN)) s->KatLex P w A true fin Q (xs.zip ys) i s:=by
 induction hx with
 | nil=>
   intro ky ys i hy hs _ _ h
   cases hy with
   | nil=>exact kat_nil (by simpa using h)
   | cons _ _=>cases hs
 | @cons k1 u kx xs h1 hx ih=>
   intro ky ys i hy hs h3 h0 h
   cases hy with
   | nil=>cases hs
   | @cons k2 v ky ys h2 hy=>
     simp only[aq,iP]at hs;rw[ji];refine kat_cons (IE (by omega) h1 h2 ?_);by_cases e:k1=k2
     ·subst e;rw[decide_eq_true rfl];refine kat_yes (ih (i+1) hy hs.2 (fun k hk=>h3 k (jt _ hk)) (fun z=>by omega) ?_);by_cases e2:kx=ky
      ·subst e2;rw[if_pos rfl]at h ⊢;exact h
      ·rw[if_neg e2];rw[if_neg fun z=>e2 (Fx z).2,aq,aq]at h;rw[show ua (cN k1::kx.map cN) (cN k1::ky.map cN)=ua (kx.map cN) (ky.map cN) by rw[ua,n5,if_pos rfl]]at h;exact h
     ·rw[decide_eq_false e];have hne:cN k1≠cN k2:=fun z=>e (IX hs.1 (h3 _ ja) z);rw[if_neg fun z=>e (Fx z).1,aq,aq]at h;rw[show ua (cN k1::kx.map cN) (cN k2::ky.map cN)=yA (cN k1) (cN k2) by rw[ua,n5,if_neg hne]]at h;refine kat_no ?_;by_cases i0:i=0
      ·subst i0;have g:=h0 rfl k1 rfl
       match k1,k2,h1,h2,g,hs.1,h with
       | .inl (.inr a),.inl (.inr c),h1,h2,_,_,h=>
         rcases cW (k:=.inr a) (v:=u) h1 with⟨_,_,e1,_⟩|⟨x1,t1,e1,rfl⟩
         ·cases e1
         ·rcases cW (k:=.inr c) (v:=v) h2 with⟨_,_,e2,_⟩|⟨x2,t2,e2,rfl⟩
          ·cases e2
          ·cases e1;cases e2;refine oneLt_str ?_;have:=wo a.cps.toList c.cps.toList;rw[show cN (.inl (.inr a))=a.cps.toList.map fH from rfl,show cN (.inl (.inr c))=c.cps.toList.map fH from rfl,this]at h;exact h
       | .inl (.inl _),_,_,_,g,_,_=>cases g
       | .inr ks,_,_,_,g,_,_=>simp only[sN]at g;split at g<;>cases g
       | .inl (.inr a),.inl (.inl c),_,_,_,g,_=>cases g
       | .inl (.inr a),.inr ks,_,_,_,g,_=>simp only[sN]at g;split at g<;>cases g
      ·have hb:(true && i == 0)=false:=by simp[i0]
       rw[hb];refine kat_one _ _ (LI room0 h1 h2 hs.1 (h3 _ ja) ?_);exact h
theorem e8.length{h:bP}{ks:List NK}{vs:List ab}(x:e8 P w h ks vs):vs.length=ks.length:=by
 induction x with
 | nil=>rfl
 | cons _ _ ih=>simp[ih]
theorem VD{x y:List NK}{p b:ag}{Q:Bool->ae->Prop}(room0:A.units+1<dS)(ex:kz P w s.heap x p)(ey:kz P w s.heap y b)(hs:x.map sN=y.map sN)(h3:∀k∈x,sN k<3)(h1:∀k,x.head? = some k->sN k=1)
  (h:Q (ua (x.map cN) (y.map cN)) s):aB (aI P w) A (keyLt' (tuples' true) (.ref p) (.ref b)) Q E s:=by
 obtain⟨oa,xs,na,goa,_,gda,gia⟩:=ex;obtain⟨ob,ys,nb,gob,_,gdb,gib⟩:=ey;refine kat_lt goa gda gob gdb (EE room0 gia 0 gib hs h3 (fun _=>h1) ?_)
 have hl:xs.size=ys.size:=by
  have e:=congrArg rZ hs;simp only[aG]at e;rw[<-bF,<-bF,gia.length,gib.length,e]
 by_cases e:x=y
 ·rw[if_pos e,hl];rw[e,mY.ir]at h;simpa using h
 ·rw[if_neg e];exact h
theorem PJ{js:List Nat}{kf:Nat->List NK}{av:Nat->ag}{Q:gf->ae->Prop}(hk:∀j∈js,kz P w s.heap (kf j) (av j))(h1:∀j∈js,∃k,(kf j).head? = some k/\sN k=1)(hne:0<js.length)(h:Q (tuples' true) s) :
  aB (aI P w) A (keyKind' (js.map fun j=>bZ (av j)).toArray) Q E s:=by
 have fs:∃fs,KatTups s.heap (js.map fun j=>bZ (av j)) fs/\fs.length=js.length/\∀v∈fs,∃x t,v=.str x t:=by
  clear h hne
  induction js with
  | nil=>exact⟨[],KatTups.nil,rfl,fun v hv=>by cases hv⟩
  | cons j js ih=>
    obtain⟨fs,r1,r2,r3⟩:=ih (fun j hj=>hk j (jt _ hj)) (fun j hj=>h1 j (jt _ hj));obtain⟨o,its,n,e1,e2,e3,e4⟩:=hk j ja;obtain⟨k,g1,g2⟩:=h1 j ja;generalize hkk:kf j=kk at e4 g1;generalize hl:its.toList=l at e4
    cases e4 with
    | nil=>cases g1
    | @cons k0 v0 ks0 vs0 q1 q2=>
      obtain rfl:k0=k:=bw g1;have hf:its[0]? = some v0:=by rw[<-dM,hl];rfl
      refine⟨v0::fs,KatTups.cons e1 e2 e3 hf r1,by simp[r2],fun v hv=>?_⟩
      rcases ao.mp hv with rfl|hv
      ·match k0,q1,g2 with
       | .inl (.inr a),q1,_=>
         rcases cW (k:=.inr a) (v:=v) q1 with⟨_,_,z,_⟩|⟨x1,t1,_,z⟩
         ·cases z
         ·exact⟨x1,t1,z⟩
       | .inl (.inl _),_,g=>cases g
       | .inr ks,_,g=>simp only[sN]at g;split at g<;>cases g
      ·exact r3 v hv
 obtain⟨fs,r1,r2,r3⟩:=fs;exact kat_kind (T:=.type "str") r1 (by omega) (fun v hv=>by obtain⟨x,t,rfl⟩:=r3 v hv;exact Looks.of_pure rfl) (by decide) h
end
section
variable{P:aS}{w:bA}{A:bC}{E:ab->ae->Prop}{s:ae}
theorem Bj{a:ag}{vs:List ab}{n:Nat}{R:PySem.Fin->ae->Prop}{lt:Nat->Nat->Bool}(ho:s.heap.get? a=some (seqObj "list" vs.toArray n))(h2:2<=vs.length)(h64:vs.length<=1000000)(o:MT lt vs.length)
  (hkk:∀(h':bP) (E':ab->ae->Prop) (Q:gf->ae->Prop),(∀b o,b≠a->s.heap.get? b=some o->h'.get? b=some o)->Q (tuples' true) { s with heap:=h' }->aB (aI P w) A (keyKind' vs.toArray) Q E' { s with heap:=h' })
  (hlt:∀(h':bP) (E':ab->ae->Prop) (Q:Bool->ae->Prop) i j,i<vs.length->j<vs.length->(∀b o,b≠a->s.heap.get? b=some o->h'.get? b=some o)->Q (lt i j) { s with heap:=h' }->
   aB (aI P w) A (keyLt' (tuples' true) (vs.getD i .none) (vs.getD j .none)) Q E' { s with heap:=h' })
  (h:∀p:Array Nat,Pm p vs.length->Up lt p vs.length->R (.done (.ret .none)) { s with heap:=sortedHeap s.heap a vs (p.toList.map fun i=>vs.getD i .none).toArray }) :
  aB (aI P w) A (fO.«list.sort» ⟨[.ref a],[]⟩) R E s:=by
 have la:a<s.heap.objs.size:=hl9 ho;rw[list_sort_plain];refine wb9 (listItems_at ho rfl (wb9 (listUpdate_at ho rfl ?_ (by rw[aH,cj];omega) (dJ _))));obtain⟨e1,g1⟩:∃e1,(s.heap.update a (en fun _=>(#[]:Array ab))).get? a=some (seqObj "list" #[] e1):=⟨_,get?_update_seq ho fun _=>#[]⟩
 refine wb9 (seqEpoch_at g1 rfl (wb9 (qo ?_ (by show vs.length<=_;rw[cj];omega))));refine wb9 (wpAny_newList ?_ (dJ _));refine eh ?_;have g6:(((s.heap.update a (en fun _=>(#[]:Array ab))).push (seqObj "tuple" vs.toArray 0)).push (seqObj "list" #[] 0)).get? a=some (seqObj "list" #[] e1):=hp9 _ (hp9 _ g1)
 have kp:∀b o,b≠a->s.heap.get? b=some o->(((s.heap.update a (en fun _=>(#[]:Array ab))).push (seqObj "tuple" vs.toArray 0)).push (seqObj "list" #[] 0)).get? b=some o:=fun b o nb e=>
  hp9 _ (hp9 _ ((Heap.get?_update_ne _ _ _ _ nb).trans e))
 show aB (aI P w) A _ R E { s with heap:=((s.heap.update a (en fun _=>(#[]:Array ab))).push (seqObj "tuple" vs.toArray 0)).push (seqObj "list" #[] 0) };generalize hH:((s.heap.update a (en fun _=>(#[]:Array ab))).push (seqObj "tuple" vs.toArray 0)).push (seqObj "list" #[] 0)=h6 at g6 kp ⊢;dsimp only;have hn2:¬vs.toArray.size<2:=by rw[aH];omega
 rw[if_neg hn2,if_neg hn2];refine wb9 (hkk h6 _ _ kp ?_);have run:=GC (P:=P) (w:=w) (A:=A) (E:=E) (s:={ s with heap:=h6 }) (κ:=tuples' true) o fun i j hi hj C hC=>hlt h6 _ C i j hi hj kp hC;refine wb9 (dm run ?_ fun _ _ e=>e);rintro⟨⟨⟩,st'⟩ s' ⟨rfl,p,p1,p2,har,hf⟩;dsimp only at har hf ⊢;have hout:=kat_snds (ks:=vs) (vs:=vs) rfl har;have hsz:(p.toList.map fun i=>vs.getD i de).length=vs.length:=by rw[aG,bF,p1.sz]
 refine wb9 (seqEpoch_at g6 rfl (wb9 (listUpdate_at g6 rfl ?_ (dJ _) (by rw[hout];show(p.toList.map fun i=>vs.getD i de).length<=_;rw[hsz,cj];omega))));rw[hf];simp only[bne_self_eq_false,aJ,if_false];have:=h p p1 p2;unfold sortedHeap at this;rw[hH]at this;rw[hout];exact wu9 this
end
section
variable{P:aS}{w:bA}{A:bC}{E:ab->ae->Prop}{s:ae}{kf:Nat->List NK}{av:Nat->ag}{n:Nat}
theorem AQ{js:List Nat}:∀{vs:List ab},gR (fun v j=>v=bZ (av j)) vs js->vs=js.map fun j=>bZ (av j):=by
 induction js with
 | nil=>intro vs h;cases h;rfl
 | cons j js ih=>intro vs h;cases h with
   | cons a b=>rw[a,ih b];rfl
theorem AO{js:List Nat}:∀{es:List (Int×ab)},gR (fun(e:Int×ab) j=>e.2=bZ (av j)) es js->gR (fun v j=>v=bZ (av j)) (es.map (·.2)) js:=by
 induction js with
 | nil=>intro es h;cases h;exact .nil
 | cons j js ih=>intro es h;cases h with
   | cons a b=>exact .cons a (ih b)
structure Sel(kf:Nat->List NK)(n:Nat)(js:List Nat):Prop where
 nd:(js.map kf).Nodup
 lt:∀j∈js,j<n
 all:∀j,j<n->kf j∈js.map kf
theorem Sel.perm{js js':List Nat}(h:Sel kf n js)(p:js'.Perm js):Sel kf n js':=
 ⟨(p.map kf).nodup_iff.mpr h.nd,fun j hj=>h.lt j (p.mem_iff.mp hj),fun j hj=>(p.map kf).mem_iff.mpr (h.all j hj)⟩
theorem Sel.len{js:List Nat}(h:Sel kf n js):js.length<=n:=by
 have hn:js.Nodup:=(fV.mp h.nd).imp fun x e=>x (congrArg kf e);have:=qF hn fF fun j hj=>br.mpr (h.lt j hj)
 rwa [bW]at this
theorem EZ{S:ag}(hh:A.handled=none)(y:zN P w (qb w) s.heap S kf av n)(hn:n<=300) :
  TZ P w A s (.ref S) (fun vs=>∃js,vs=js.map (fun j=>bZ (av j))/\Sel kf n js):=by
 obtain⟨es,ep,t,js,y1,y2,y3,y4,y5,y6⟩:=y;have sl:Sel kf n js:=⟨y4,y5,y6⟩
 have len:=mU y3;rw[bF]at len;have:=sl.len;intro A' E' Q' e k;refine zm (e.trans hh) y1 (by rw[cj];omega) fun h1 d tk vs ex sz pm=>k vs h1 d tk ex sz ?_;obtain⟨js',p1,p2⟩:=qV pm (AO y3);exact⟨js',AQ p1,sl.perm p2⟩
noncomputable abbrev codeN(k:List NK):List (List Int):=k.map cN
theorem code_inj:∀{x y:List NK},x.map sN=y.map sN->(∀k∈x,sN k<3)->codeN x=codeN y->x=y
 | [],[],_,_,_=>rfl
 | [],_::_,h,_,_=>by cases h
 | _::_,[],h,_,_=>by cases h
 | a::x,b::y,h,h3,e=>by
   simp only[aq,iP]at h e;rw[IX h.1 (h3 _ ja) e.1,code_inj h.2 (fun k hk=>h3 k (jt _ hk)) e.2]
theorem sorted_N{v:ab}{sh:List Nat}{Q:ab->ae->Prop}(room0:A.in1.in1.units+1<dS)(hk:∀j,j<n->kz P w s.heap (kf j) (av j))(hsh:∀j,j<n->(kf j).map sN=sh)(h3:∀x∈sh,x<3)(h1:sh.head? = some 1)
  (hc:TZ P w A s v (fun vs=>∃js,vs=js.map (fun j=>bZ (av j))/\Sel kf n js/\2<=js.length/\js.length<=300))
  (k:∀h' d tk l js e,(∀b o,s.heap.get? b=some o->h'.get? b=some o)->s.heap.objs.size<=l->h'.get? l=some (seqObj "list" (js.map fun j=>bZ (av j)).toArray e)->Sel kf n js->
   (js.map fun j=>codeN (kf j)).Pairwise (fun a b=>ua a b=true)->Q (.ref l) { s with heap:=h',drawn:=d,toks:=tk }) :
  aB (aI P w) A (call (.builtin "sorted") [v]) Q E s:=by
 have h3':∀j,j<n->∀k∈kf j,sN k<3:=fun j hj k hk=>h3 _ (by rw[<-hsh j hj];exact eK hk)
 have h1':∀j,j<n->∃k,(kf j).head? = some k/\sN k=1:=fun j hj=>by
  have:=hsh j hj
  cases q:kf j with
  | nil=>rw[q]at this;rw[<-this]at h1;cases h1
  | cons x r=>rw[q]at this;rw[<-this]at h1;exact⟨x,rfl,bw h1⟩
 refine Calls.call_function_entry kind_sorted plain_sorted entry_sorted (args_sorted1 _) ?_;unfold fO.«sorted»;refine wb9 (m:=checkCount "sorted" 1 1 _) (wu9 ?_);refine wb9 (hc _ _ _ (by rfl) fun vs hh1 d tk ex sz ⟨js,hvs,sl,l2,l64⟩=>?_);have hl:vs.length=js.length:=by rw[hvs,aG]
 refine wb9 (wpAny_newList ?_ (by rw[cj];omega));have g1:(hh1.push (seqObj "list" vs.toArray 0)).get? hh1.objs.size=some (seqObj "list" vs.toArray 0):=aQ _ rfl
 have at_:∀i,i<vs.length->vs.getD i de=.ref (av (js.getD i 0))/\js.getD i 0<n:=fun i hi=>by
  have hi':i<js.length:=by omega
  constructor
  ·rw[hvs];simp[hi']
  ·rw[show js.getD i 0=js[i] by simp[hi']];exact sl.lt _ (bM hi')
 have inK:∀h',(∀b o,b≠hh1.objs.size->(hh1.push (seqObj "list" vs.toArray 0)).get? b=some o->h'.get? b=some o)->∀j,j<n->kz P w h' (kf j) (av j):=fun h' q j hj=>
  (hk j hj).mono fun b o e=>by
   have e1:=ex b o e;exact q b o (bN (hl9 e1)) (hp9 _ e1)
 have inj0:∀i j,i<vs.length->j<vs.length->codeN (kf (js.getD i 0))=codeN (kf (js.getD j 0))->i=j:=fun i j hi hj e=>by
  have a:=at_ i hi
  have b:=at_ j hj
  have ek:=code_inj ((hsh _ a.2).trans (hsh _ b.2).symm) (h3' _ a.2) e;have hi':i<js.length:=by omega
  have hj':j<js.length:=by omega
  have e1:(js.map kf)[i]? = some (kf (js.getD i 0)):=by simp[hi']
  have e2:(js.map kf)[j]? = some (kf (js.getD j 0)):=by simp[hj']
  rw[ek]at e1;exact(jG (by rw[aG];exact hi') sl.nd).mp (e1.trans e2.symm)
 have o0:MT (fun i j=>ua (codeN (kf (js.getD i 0))) (codeN (kf (js.getD j 0)))) vs.length:=
  ⟨fun i j k _ _ _ x y=>mY.tr _ _ _ x y,fun i j hi hj ne x=>mY.co _ _ (fun z=>ne (inj0 i j hi hj z)) x,fun i j _ _ x=>mY.as x⟩
 refine wb9 (eh (cg slot_list_sort ⟨_,g1,rfl⟩ entry_list_sort (Bj (s:={ s with heap:=hh1.push (seqObj "list" vs.toArray 0),drawn:=d,toks:=tk }) g1 (by omega) (by omega) o0 (fun h' E' Q' q hq=>?_) (fun h' E' Q' i j hi hj q hq=>?_) fun p p1 p2=>⟨_,rfl,?_⟩) (args_list_sort _)))
 ·rw[hvs];exact PJ (s:={ s with heap:=h',drawn:=d,toks:=tk }) (kf:=kf) (fun j hj=>inK h' q j (sl.lt j hj)) (fun j hj=>h1' j (sl.lt j hj)) (by omega) hq
 ·obtain⟨a1,a2⟩:=at_ i hi
  obtain⟨b1,b2⟩:=at_ j hj
  rw[a1,b1];refine VD (s:={ s with heap:=h',drawn:=d,toks:=tk }) room0 (inK h' q _ a2) (inK h' q _ b2) ((hsh _ a2).trans (hsh _ b2).symm) (h3' _ a2) (fun k hk=>?_) hq;obtain⟨k',z1,z2⟩:=h1' _ a2;rw[z1]at hk;cases hk;exact z2
 ·obtain⟨e,he⟩:=sortedHeap_at (out:=(p.toList.map fun i=>vs.getD i de).toArray) g1
  have ej:(p.toList.map fun i=>vs.getD i de)=(p.toList.map fun i=>js.getD i 0).map fun j=>bZ (av j):=by
   rw[cx];exact gh fun i hi=>(at_ i (by have:=br.mp (p1.pm.mem_iff.mp hi);exact this)).1
  rw[ej]at he
  have pj:(p.toList.map fun i=>js.getD i 0).Perm js:=by
   have:=p1.pm.map fun i=>js.getD i 0;refine this.trans ?_;rw[hl];refine List.Perm.of_eq ?_;apply qS;intro i;by_cases hi:i<js.length
   ·simp[hi]
   ·simp[hi]
  refine wu9 ⟨_,rfl,k _ d tk _ (p.toList.map fun i=>js.getD i 0) e (fun b o q=>?_) sz ?_ (sl.perm pj) ?_⟩
  ·have lb:=hl9 (ex b o q);exact(sortedHeap_old (bN lb) (by rw[size_push'];exact mM lb)).trans (hp9 _ (ex b o q))
  ·rw[ej];exact he
  ·rw[cx,fV,eN];intro i j hi hj hij;have hj':j<vs.length:=by rw[bF,p1.sz]at hj;exact hj
   have:=p2 i j hij hj'
   have e1:∀x (hx:x<p.toList.length),p.toList[x]=pg p x:=fun x hx=>by
    have:=CA (p:=p) (k:=x) (by simpa using hx);rw[<-dM,af hx]at this;exact bw this
   rw[e1 i hi,e1 j hj];exact this
end
end L2
namespace M
open PySem PySem.Spec PyProof.Rows L2
inductive NZ|add|sub|mul|fdiv|mod|shr|shl|band|bor|pow|mn|mx
inductive JL|eq|ne|lt|le|gt|ge|isin|nin|isn|nisn
inductive Ty|int|bool|str|tuple|list
inductive JM|len|list|tuple|all|any|isi (t:Ty)|listrev|int|str|min|max|sorted|sset|abs|sum
inductive MU|join|split|upper|lower|find|index|count|get|startswith|isalpha|tindex
inductive FH|app|ext|ins|pop|clr|seti|dput
mutual
noncomputable def nA:Dat->Dat->Bool
 | .non,y9=>match y9 with
   | .non=>true
   | _=>false
 | .bl a,y9=>match y9 with
   | .bl b=>a == b
   | .int j=>(if a then 1 else 0) == j
   | _=>false
 | .int i,y9=>match y9 with
   | .bl b=>i == (if b then 1 else 0)
   | .int j=>i == j
   | _=>false
 | .str x,y9=>match y9 with
   | .str y=>x == y
   | _=>false
 | .tup xs,y9=>match y9 with
   | .tup ys=>n8 xs ys
   | _=>false
 | .lst xs,y9=>match y9 with
   | .lst ys=>n8 xs ys
   | _=>false
 | _,_=>false
noncomputable def n8:List Dat->List Dat->Bool
 | [],[]=>true
 | x::xs,y::ys=>nA x y && n8 xs ys
 | _,_=>false
end
mutual
noncomputable def iC:Nat->Dat->Bool
 | _,.dct _ _=>false
 | _,.dcn _=>false
 | 0,.tup _=>false
 | 0,.lst _=>false
 | n+1,.tup xs=>fR n xs
 | n+1,.lst xs=>fR n xs
 | _,_=>true
noncomputable def fR:Nat->List Dat->Bool
 | _,[]=>true
 | n,x::xs=>iC n x && fR n xs
end
noncomputable def km:Dat->Option Bool
 | .non=>some false
 | .bl b=>some b
 | .int i=>some (i != 0)
 | .str x=>if x.length<=aP then some ((x.length:Int) != 0)else none
 | .tup xs=>some (!xs.isEmpty)
 | .lst xs=>some (!xs.isEmpty)
 | .dct ks _=>some (!ks.isEmpty)
 | .dcn _=>none
noncomputable instance (i j:Int):Decidable (Fo i j):=by unfold Fo;infer_instance
noncomputable instance (i j:Int):Decidable (MX i j):=by unfold MX;infer_instance
noncomputable instance (i j:Int):Decidable (MW i j):=by unfold MW;infer_instance
noncomputable instance (x:bh) (j:Int):Decidable (zW x j):=by unfold zW;infer_instance
noncomputable def zS(f:Int->Int->Option (Dat×Bool)):Dat->Dat->Option (Dat×Bool)
 | .int i,.int j=>f i j
 | _,_=>none
noncomputable def BP:Dat->Dat->Option (Dat×Bool)
 | .int i,y9=>match y9 with
   | .int j=>some (.int (i+j),false)
   | _=>none
 | .str x,y9=>match y9 with
   | .str y=>if x.length+y.length<=aP then some (.str (x++y),false)else none
   | _=>none
 | .lst xs,y9=>match y9 with
   | .lst ys=>if xs.length+ys.length<=aP then some (.lst (xs++ys),kd (xs++ys))else none
   | _=>none
 | .tup xs,y9=>match y9 with
   | .tup ys=>if xs.length+ys.length<=aP then some (.tup (xs++ys),false)else none
   | _=>none
 | _,_=>none
noncomputable def BM:Dat->Dat->Option (Dat×Bool)
 | .int i,y9=>match y9 with
   | .int j=>if Fo i j then some (.int (i * j),false)else none
   | _=>none
 | .str x,y9=>match y9 with
   | .int j=>if zW x j then some (.str (PySem.Txt.mul x j),false)else none
   | _=>none
 | _,_=>none
noncomputable def gm:NZ->Dat->Dat->Option (Dat×Bool)
 | .add,a,b=>BP a b
 | .sub,a,b=>zS (fun i j=>some (.int (i - j),false)) a b
 | .mul,a,b=>BM a b
 | .mn,a,b=>zS (fun i j=>some (.int (if j<i then j else i),false)) a b
 | .mx,a,b=>zS (fun i j=>some (.int (if i<j then j else i),false)) a b
 | .fdiv,a,b=>zS (fun i j=>if MX i j then some (.int (i / j),false)else none) a b
 | .mod,a,b=>zS (fun i j=>if 0<j then some (.int (i % j),false)else none) a b
 | .shr,a,b=>zS (fun i j=>if 0<=j then some (.int (i / 2 ^ j.toNat),false)else none) a b
 | .shl,a,b=>zS (fun i j=>if MW i j then some (.int (i * 2 ^ j.toNat),false)else none) a b
 | .band,a,b=>zS (fun i j=>some (.int (rY i j),false)) a b
 | .bor,a,b=>zS (fun i j=>some (.int (Ju i j),false)) a b
 | .pow,a,b=>zS (fun i j=>if MW i j then some (.int (i ^ j.toNat),false)else none) a b
noncomputable def EC:Dat->Option Key
 | .int i=>some (.inl i)
 | .str x=>some (.inr x)
 | _=>none
noncomputable instance Wp (k:List NK) (ks:List (List NK)):Decidable (k∈ks):=@List.instDecidableMemOfLawfulBEq _ instBEqOfDecidableEq inferInstance k ks
noncomputable def qd:List Dat->Option (List Key)
 | []=>some []
 | d::ds=>(EC d).bind fun k=>(qd ds).map fun r=>k::r
noncomputable def Rc:Dat->Option NK
 | .int i=>some (.inl (.inl i))
 | .str x=>some (.inl (.inr x))
 | .tup ds=>(qd ds).map .inr
 | _=>none
noncomputable def Ls:List Dat->Option (List NK)
 | []=>some []
 | d::ds=>(Rc d).bind fun k=>(Ls ds).map fun r=>k::r
noncomputable def Pk:Dat->Option (List NK)
 | .tup ds=>Ls ds
 | _=>none
noncomputable def yo:List Dat->Option (List (List NK))
 | []=>some []
 | d::ds=>(Pk d).bind fun k=>(yo ds).map fun r=>k::r
noncomputable def CH:List Key->Bool
 | []=>true
 | k::ks=>!(ks.any fun j=>decide (j=k)) && CH ks
noncomputable def vi(k:Key):List Key->List Dat->Option Dat
 | j::ks,v::vs=>if j=k then some v else vi k ks vs
 | _,_=>none
noncomputable def IZ(f:Int->Int->Bool):Dat->Dat->Option Bool
 | .int i,.int j=>some (f i j)
 | _,_=>none
noncomputable def NL(a:Dat):Dat->Option Bool
 | .str y=>match a with
   | .str x=>some (!(lr y x 0 y.length 1).isEmpty)
   | _=>none
 | _=>none
noncomputable def zu(a:Dat):Dat->Option Bool
 | .lst ys=>if iC 20 a && fR 20 ys then some (!(ys.any fun y=>nA y a))else none
 | _=>none
noncomputable def ME(b:Bool)(a:Dat):Dat->Option Bool
 | .non=>some (match a with | .non=>b|_=>!b)
 | _=>none
noncomputable def dt:JL->Dat->Dat->Option Bool
 | .eq,a,b=>if iC 20 a && iC 20 b then some (nA a b)else none
 | .ne,a,b=>if iC 20 a && iC 20 b then some (!nA a b)else none
 | .lt,a,b=>IZ (fun i j=>decide (i<j)) a b
 | .le,a,b=>IZ (fun i j=>decide (i<=j)) a b
 | .gt,a,b=>IZ (fun i j=>decide (j<i)) a b
 | .ge,a,b=>IZ (fun i j=>decide (j<=i)) a b
 | .isin,a,b=>NL a b
 | .nin,a,b=>zu a b
 | .isn,a,b=>ME true a b
 | .nisn,a,b=>ME false a b
noncomputable def JE:Dat->Dat->Option Dat
 | .lst xs,y9=>match y9 with
   | .int i=>lN xs i
   | _=>none
 | .tup xs,y9=>match y9 with
   | .int i=>lN xs i
   | _=>none
 | .str z,y9=>match y9 with
   | .int i=>if z.length<=aP then(lN z.cps.toList i).map fun c=>.str ⟨#[c]⟩else none
   | _=>none
 | .dct ks vs,k=>(EC k).bind fun k=>vi k ks vs
 | _,_=>none
noncomputable def Hl(r:Option (Dat×Bool)):Option (Option Int):=r.bind fun x=>match x.1 with
 | .int i=>some (some i)
 | _=>none
noncomputable def cutD{α:Type}(xs:List α)(lo hi:Option Int):List α:=(xs.drop (HT.gG xs.length 0 lo)).take (HT.gG xs.length xs.length hi - HT.gG xs.length 0 lo)
noncomputable def Kt:Dat->Option Int->Option Int->Option (Dat×Bool)
 | .str x,lo,hi=>if x.length<=aP then some (.str (iO x lo hi),false)else none
 | .tup xs,lo,hi=>some (.tup (cutD xs lo hi),false)
 | _,_,_=>none
noncomputable def iq:Ty->Dat->Bool
 | .int,.int _=>true
 | .int,.bl _=>true
 | .bool,.bl _=>true
 | .str,.str _=>true
 | .tuple,.tup _=>true
 | .list,.lst _=>true
 | _,_=>false
noncomputable def o7:List Dat->Option (List Bool)
 | []=>some []
 | .bl b::ds=>(o7 ds).map fun r=>b::r
 | _::_=>none
noncomputable def sx:List Dat->Option (List bh)
 | []=>some []
 | .str x::ds=>(sx ds).map fun r=>x::r
 | _::_=>none
noncomputable def C7:List Dat->Option (List Int)
 | []=>some []
 | .int x::ds=>(C7 ds).map fun r=>x::r
 | _::_=>none
noncomputable def yM{α:Type}(lt:α->α->Bool)(x:α):List α->List α
 | []=>[x]
 | y::ys=>if lt x y=true then x::y::ys else if lt y x=true then y::yM lt x ys else y::ys
noncomputable def kT{α:Type}(lt:α->α->Bool):List α->List α
 | []=>[]
 | x::xs=>yM lt x (kT lt xs)
noncomputable def Sw{α:Type}(lt:α->α->Bool)(x:α):List α->List α
 | []=>[x]
 | y::ys=>if lt y x=true then y::Sw lt x ys else x::y::ys
noncomputable def FX{α:Type}(lt:α->α->Bool):List α->List α
 | []=>[]
 | x::xs=>Sw lt x (FX lt xs)
noncomputable def ltI(i j:Int):Bool:=decide (i<j)
noncomputable def Nq(x y:bh):Bool:=decide (x.cps.toList<y.cps.toList)
noncomputable def kU(x:bh):List bh:=x.cps.toList.map fun c=>⟨#[c]⟩
noncomputable def Qr:Nat->List Int->Dat
 | 0,l=>.int (l.headD 0)
 | 1,l=>.str ⟨(l.map JV).toArray⟩
 | _,l=>.tup (l.map .int)
noncomputable def EX(sh:List Nat)(c:List (List Int)):Dat:=.tup (List.zipWith Qr sh c)
noncomputable def D6(kk:List (List NK)):List Nat:=(kk.headD []).map sN
noncomputable def u9(kk:List (List NK)):Option (Dat×Bool):=
 if kk.length<=300/\(D6 kk).head? = some 1/\((D6 kk).all fun x=>decide (x<3))=true/\(kk.all fun k=>decide (k.map sN=D6 kk))=true/\2<=(kT ua (kk.map codeN)).length then
  some (.lst ((kT ua (kk.map codeN)).map (EX (D6 kk))),true)else none
noncomputable def Nh(ss:List bh):Option (Dat×Bool):=if ss.length<64 then some (.lst ((FX Nq ss).map .str),true)else none
noncomputable def sortI(is:List Int):Option (Dat×Bool):=if is.length<64 then some (.lst ((FX ltI is).map .int),true)else none
noncomputable def Wq:Int->List Int->Int
 | i,[]=>i
 | i,j::r=>Wq (if i<j then j else i) r
noncomputable def b1(f:Dat->Option (Dat×Bool)):List Dat->Option (Dat×Bool)
 | [d]=>f d
 | _=>none
noncomputable def BN:Dat->Option (Dat×Bool)
 | .lst xs=>some (.int xs.length,false)
 | .tup xs=>some (.int xs.length,false)
 | .str x=>if x.length<=aP then some (.int x.length,false)else none
 | .dct ks _=>some (.int ks.length,false)
 | _=>none
noncomputable def t4:Dat->Option (Dat×Bool)
 | .lst xs=>some (.lst xs,kd xs)
 | .tup xs=>some (.lst xs,kd xs)
 | _=>none
noncomputable def BK:Dat->Option (Dat×Bool)
 | .lst xs=>some (.lst xs.reverse,kd xs.reverse)
 | .tup xs=>if xs.length<=1000000 then some (.lst xs.reverse,kd xs.reverse)else none
 | .str x=>if x.length<=1000000 then some (.lst ((kU x).reverse.map .str),true)else none
 | _=>none
noncomputable def BI:Dat->Option (Dat×Bool)
 | .lst xs=>some (.tup xs,false)
 | .tup xs=>some (.tup xs,false)
 | _=>none
noncomputable def bL(f:List Dat->Option (Dat×Bool)):Dat->Option (Dat×Bool)
 | .lst xs=>f xs
 | _=>none
noncomputable def NR(f:List Dat->Option (Dat×Bool))(g:bh->Option (Dat×Bool)):Dat->Option (Dat×Bool)
 | .lst xs=>f xs
 | .str x=>g x
 | _=>none
noncomputable def BO:Dat->Option (Dat×Bool)
 | .int i=>some (.int i,false)
 | .bl b=>some (.int (if b then 1 else 0),false)
 | .str x=>if x.length<=640 then(PySem.intText? x).map fun i=>(.int i,false)else none
 | _=>none
noncomputable def BJ:Dat->Option (Dat×Bool)
 | .int i=>if i.natAbs.log2<1920 then some (.str (toString i),false)else none
 | _=>none
noncomputable def gY:JM->List Dat->Option (Dat×Bool)
 | .len,l=>b1 BN l
 | .list,l=>b1 t4 l
 | .listrev,l=>b1 BK l
 | .tuple,l=>b1 BI l
 | .all,l=>b1 (bL fun xs=>(o7 xs).map fun bs=>(.bl (bs.all id),false)) l
 | .any,l=>b1 (bL fun xs=>(o7 xs).map fun bs=>(.bl (bs.any id),false)) l
 | .isi t,l=>b1 (fun d=>some (.bl (iq t d),false)) l
 | .sset,l=>b1 (NR (fun ds=>(yo ds).bind u9) fun _=>none) l
 | .sorted,l=>b1 (NR (fun ds=>match C7 ds,sx ds with
   | some is,_=>sortI is
   | none,some ss=>Nh ss
   | none,none=>none) fun x=>Nh (kU x)) l
 | .int,l=>b1 BO l
 | .sum,l=>b1 (bL fun ds=>(C7 ds).map fun is=>(.int is.sum,false)) l
 | .max,l=>b1 (bL fun ds=>(C7 ds).bind fun is=>match is with
   | []=>none
   | i::r=>some (.int (Wq i r),false)) l
 | .str,l=>b1 BJ l
 | .min,_=>none
 | .abs,_=>none
noncomputable def gw:Dat->Option (List Dat)
 | .lst xs=>some xs
 | .tup xs=>some xs
 | .str x=>some (x.cps.toList.map fun c=>Dat.str ⟨#[c]⟩)
 | _=>none
noncomputable def Va:Dat->Option (List Dat)
 | .lst xs=>some xs
 | .tup xs=>some xs
 | _=>none
noncomputable def GS:List Dat->Option (List Dat)
 | [.int j]=>if j<=1000000/\-1000000<=j then some ((aT j.toNat).map fun k:Nat=>Dat.int k)else none
 | [.int i,.int j]=>if -1000000<=i/\i<=1000000/\-1000000<=j/\j<=1000000 then some ((aT (j - i).toNat).map fun k:Nat=>Dat.int (i+k))else none
 | _=>none
noncomputable def jf:List Dat->List Dat->List Dat
 | x::xs,y::ys=>.tup [x,y]::jf xs ys
 | _,_=>[]
noncomputable def SY:Nat->List Dat->List Dat
 | _,[]=>[]
 | k,x::xs=>.tup [.int k,x]::SY (k+1) xs
noncomputable def oX(f:Dat->Option (Option (Dat×Bool))):List Dat->Option (List Dat×Bool)
 | []=>some ([],true)
 | d::ds=>(f d).bind fun o=>(oX f ds).map fun r=>match o with
   | some y=>(y.1::r.1,(y.2 || im y.1) && r.2)
   | none=>r
noncomputable def v9:Nat->List Dat->gD->gD
 | _,[],ρ=>ρ
 | k,d::ds,ρ=>v9 (k+1) ds (ρ.set k (some d))
noncomputable def Dy(nt:Nat)(one:Bool)(d:Dat)(ρ:gD):Option gD:=match one with
 | true=>some (ρ.set 0 (some d))
 | false=>match d with
   | .tup ds=>if ds.length=nt then some (v9 0 ds ρ)else none
   | _=>none
noncomputable def gP(nt:Nat)(caps:List Nat)(ρ:gD):gD:=cT nt none++caps.map fun j=>(ρ[j]?).join
noncomputable def findD(d:Dat):List Dat->Nat->Option Nat
 | [],_=>none
 | x::xs,k=>if nA x d=true then some k else findD d xs (k+1)
noncomputable def Rf(f:bh->Option (Dat×Bool)):Dat->List Dat->Option (Dat×Bool)
 | .str x,y9=>match y9 with
   | []=>f x
   | _=>none
 | _,_=>none
noncomputable def Np(f:bh->bh->Option (Dat×Bool)):Dat->List Dat->Option (Dat×Bool)
 | .str x,y9=>match y9 with
   | [.str y]=>f x y
   | _=>none
 | _,_=>none
noncomputable def Ue(f:bh->List Dat->Option (Dat×Bool)):Dat->List Dat->Option (Dat×Bool)
 | .str x,y9=>match y9 with
   | [.lst ds]=>f x ds
   | _=>none
 | _,_=>none
noncomputable def LF:Dat->List Dat->Option (Dat×Bool)
 | .tup ds,y9=>match y9 with
   | [d]=>if iC 20 d && fR 20 ds then(findD d ds 0).map fun k=>(.int k,false)else none
   | _=>none
 | _,_=>none
noncomputable def LG:Dat->List Dat->Option (Dat×Bool)
 | .dct ks vs,[k]=>(EC k).bind fun k=>match vi k ks vs with
   | some d=>some (d,false)
   | none=>some (.non,false)
 | _,_=>none
noncomputable def kY:MU->Dat->List Dat->Option (Dat×Bool)
 | .join,a,l=>Ue (fun x ds=>(sx ds).bind fun ys=>if(ys.map (·.length)).sum+ys.length * x.length<=1000000 then some (.str (rj x ys),false)else none) a l
 | .split,a,l=>Np (fun x y=>if 0<y.length/\x.length<=1000000 then some (.lst ((PySem.Txt.split x y).map Dat.str),true)else none) a l
 | .upper,a,l=>Rf (fun x=>if x.length<=1000000 then some (.str (qp x),false)else none) a l
 | .lower,a,l=>Rf (fun x=>if x.length<=1000000 then some (.str (PySem.Txt.lower x),false)else none) a l
 | .find,a,l=>Np (fun x y=>some (.int (PySem.Txt.find x y),false)) a l
 | .index,a,l=>Np (fun x y=>match lr x y 0 x.length 1 with
   | i::_=>some (.int i,false)
   | []=>none) a l
 | .count,a,l=>Np (fun x y=>some (.int (PySem.Txt.count x y),false)) a l
 | .startswith,a,l=>Np (fun x y=>some (.bl (PySem.Txt.startswith x y),false)) a l
 | .tindex,a,l=>LF a l
 | .isalpha,a,l=>Rf (fun x=>some (.bl (PySem.Txt.isalpha x),false)) a l
 | .get,a,l=>LG a l
noncomputable def insI{α:Type}(x:α)(i:Int)(xs:List α):List α:=xs.take (HT.gG xs.length 0 (some i))++x::xs.drop (HT.gG xs.length 0 (some i))
noncomputable def GD{α:Type}(x:α)(i:Int)(xs:List α):Option (List α):=(JD xs.length i).map fun k=>xs.set k x
noncomputable def Al:Dat->List Dat->Option Dat
 | .lst ds,[d]=>if ds.length<aP then some (.lst (ds++[d]))else none
 | _,_=>none
noncomputable def Ak:Dat->List Dat->Option Dat
 | .lst ds,l=>match l with
   | [.lst es]=>if ds.length+es.length<=aP then some (.lst (ds++es))else none
   | [.tup es]=>if ds.length+es.length<=aP then some (.lst (ds++es))else none
   | _=>none
 | _,_=>none
noncomputable def Aj:Dat->List Dat->Option Dat
 | .lst ds,l=>match l with
   | [.int i,d]=>if ds.length<aP/\-1000000<=i/\i<=1000000 then some (.lst (insI d i ds))else none
   | _=>none
 | _,_=>none
noncomputable def Ai:Dat->List Dat->Option Dat
 | .lst ds,l=>match l with
   | [d,.int i]=>if -1000000<=i/\i<=1000000 then(GD d i ds).map .lst else none
   | _=>none
 | _,_=>none
noncomputable def ip:FH->Dat->List Dat->Option Dat
 | .app,a,l=>Al a l
 | .ext,a,l=>Ak a l
 | .ins,a,l=>Aj a l
 | .seti,a,l=>Ai a l
 | _,_,_=>none
noncomputable abbrev Fs:=Nat->List Dat->Option (Dat×Bool)
structure Ex where
 fv:List Nat
 ev:Fs->gD->Option (Dat×Bool)
noncomputable def eP(C:Fs)(e:Ex)(ρ:gD):Option (Dat×Bool):=e.ev C ρ
noncomputable def jR(C:Fs):List Ex->gD->Option (List Dat)
 | [],_=>some []
 | e::es,ρ=>(eP C e ρ).bind fun x=>(jR C es ρ).map fun r=>x.1::r
noncomputable def oD(C:Fs):List Ex->gD->Option (List Dat×Bool)
 | [],_=>some ([],true)
 | e::es,ρ=>(eP C e ρ).bind fun x=>(oD C es ρ).map fun r=>(x.1::r.1,(x.2 || im x.1) && r.2)
noncomputable def vx(C:Fs):List Ex->gD->Option Bool
 | [],_=>some true
 | e::es,ρ=>(eP C e ρ).bind fun x=>(km x.1).bind fun z=>if z=true then vx C es ρ else some false
noncomputable def Mf(es:List Ex):List Nat:=es.flatMap (·.fv)
inductive Iw where
 | itv (a:Ex)|rng (es:List Ex)|zip (es:List Ex)|enu (a:Ex)
noncomputable def WU:Iw->List Nat
 | .itv a=>a.fv
 | .rng _=>[]
 | .zip es=>Mf es
 | .enu a=>a.fv
noncomputable def zip2(a b:Dat):Option (List Dat):=match a with
 | .lst xs=>match b with
   | .lst ys=>some (jf xs ys)
   | _=>none
 | .tup xs=>match b with
   | .tup ys=>some (jf xs ys)
   | _=>none
 | .str x=>match b with
   | .tup ys=>some (jf ((kU x).map .str) ys)
   | _=>none
 | _=>none
noncomputable def Nc(ds:List Dat):Option (List Dat):=match ds with
 | [a,b]=>zip2 a b
 | _=>none
noncomputable def Bw(C:Fs)(it:Iw)(ρ:gD):Option (List Dat):=match it with
 | .itv a=>(eP C a ρ).bind fun x=>gw x.1
 | .rng es=>(jR C es ρ).bind GS
 | .zip es=>(jR C es ρ).bind Nc
 | .enu a=>(eP C a ρ).bind fun x=>(Va x.1).map fun xs=>SY 0 xs
noncomputable def QM(C:Fs)(ρ:gD):Option Ex->Option (Option Int)
 | none=>some none
 | some e=>Hl (eP C e ρ)
noncomputable def WS:Dat->Option (Dat×Bool)
 | .int i=>some (.int (-i),false)
 | _=>none
noncomputable def QT(k:Option (Dat×Bool)):Dat->Option (Dat×Bool)
 | .bl b=>if b=true then k else some (.bl false,false)
 | _=>none
noncomputable def Vl(k:Option (Dat×Bool)):Dat->Option (Dat×Bool)
 | .bl b=>if b=true then some (.bl true,false)else k
 | _=>none
noncomputable def jK(C:Fs)(nt:Nat)(one:Bool)(ρ0:gD)(ifs:List Ex)(elt:Ex)(d:Dat):Option (Option (Dat×Bool)):=
 (Dy nt one d ρ0).bind fun ρ1=>(vx C ifs ρ1).bind fun b=>if b=true then(eP C elt ρ1).map some else some none
namespace Ex
noncomputable def con(d:Dat):Ex:=⟨[],fun _ _=>some (d,false)⟩
noncomputable def var(i:Nat):Ex:=⟨[i],fun _ ρ=>((ρ[i]?).join).map fun d=>(d,false)⟩
noncomputable def bin(o:NZ)(a b:Ex):Ex:=⟨a.fv++b.fv,fun C ρ=>(eP C a ρ).bind fun x=>(eP C b ρ).bind fun y=>gm o x.1 y.1⟩
noncomputable def cmp(o:JL)(a b:Ex):Ex:=⟨[],fun C ρ=>(eP C a ρ).bind fun x=>(eP C b ρ).bind fun y=>(dt o x.1 y.1).map fun r=>(.bl r,false)⟩
noncomputable def and(a b:Ex):Ex:=⟨a.fv++b.fv,fun C ρ=>(eP C a ρ).bind fun x=>QT (eP C b ρ) x.1⟩
noncomputable def or(a b:Ex):Ex:=⟨a.fv++b.fv,fun C ρ=>(eP C a ρ).bind fun x=>Vl (eP C b ρ) x.1⟩
noncomputable def not(a:Ex):Ex:=⟨[],fun C ρ=>(eP C a ρ).bind fun x=>(km x.1).map fun b=>(.bl (!b),false)⟩
noncomputable def ite(c a b:Ex):Ex:=⟨c.fv++a.fv++b.fv,fun C ρ=>(eP C c ρ).bind fun x=>(km x.1).bind fun z=>if z=true then eP C a ρ else eP C b ρ⟩
noncomputable def tup(es:List Ex):Ex:=⟨Mf es,fun C ρ=>(oD C es ρ).bind fun x=>if x.1.length<=1000000 then some (.tup x.1,x.2)else none⟩
noncomputable def lst(es:List Ex):Ex:=⟨Mf es,fun C ρ=>(oD C es ρ).bind fun x=>if x.1.length<=1000000 then some (.lst x.1,x.2)else none⟩
noncomputable def ix(a b:Ex):Ex:=⟨a.fv++b.fv,fun C ρ=>(eP C a ρ).bind fun x=>(eP C b ρ).bind fun y=>(JE x.1 y.1).map fun d=>(d,false)⟩
noncomputable def Wo(o:Option Ex):List Nat:=match o with
 | none=>[]
 | some e=>e.fv
noncomputable def sl(a:Ex)(lo hi:Option Ex):Ex:=⟨a.fv++Wo lo++Wo hi,fun C ρ=>(eP C a ρ).bind fun x=>(QM C ρ lo).bind fun l=>(QM C ρ hi).bind fun h=>Kt x.1 l h⟩
noncomputable def call(f:Nat)(es:List Ex):Ex:=⟨Mf es,fun C ρ=>(jR C es ρ).bind fun ds=>C f ds⟩
noncomputable def blt(b:JM)(es:List Ex):Ex:=⟨Mf es,fun C ρ=>(jR C es ρ).bind fun ds=>gY b ds⟩
noncomputable def lW(m:MU)(o:Ex)(es:List Ex):Ex:=⟨o.fv++Mf es,fun C ρ=>(eP C o ρ).bind fun x=>(jR C es ρ).bind fun ds=>kY m x.1 ds⟩
noncomputable def xv(ks:List Key)(es:List Ex):Ex:=⟨Mf es,fun C ρ=>(jR C es ρ).bind fun ds=>if ks.length=ds.length/\CH ks=true/\ks.length<=15 then some (.dct ks ds,false)else none⟩
noncomputable def comp(nt:Nat)(one:Bool)(caps:List Nat)(it:Iw)(ifs:List Ex)(elt:Ex):Ex:=⟨caps++WU it,fun C ρ=>(Bw C it ρ).bind fun items=>if items.length<=1000000 then
 (oX (jK C nt one (gP nt caps ρ) ifs elt) items).map fun ys=>(.lst ys.1,ys.2)else none⟩
end Ex
noncomputable abbrev dk:=List (Option (Dat×Bool))
inductive Out where
 | nx (ρ:dk)|rt (d:Dat) (fr:Bool)|bk (ρ:dk)|ct (ρ:dk)
noncomputable def xq(ρ:dk):gD:=ρ.map fun o=>match o with
 | some (d,false)=>some d
 | _=>none
noncomputable def full(ρ:dk):gD:=ρ.map fun o=>o.map (·.1)
noncomputable def qM(ρ:dk):dk:=ρ.map fun o=>o.map fun s=>(s.1,false)
theorem Ag(ρ:dk):xq (qM ρ)=full ρ:=by
 unfold xq qM full;rw[cx];exact gh fun o _=>by cases o<;>rfl
noncomputable def lL(is:List Nat)(ρ:dk):dk:=is.foldl (fun ρ i=>ρ.modify i fun o=>o.map fun s=>(s.1,false)) ρ
noncomputable def Bv(C:Fs)(e:Ex)(ρ:dk):Option (Dat×Bool×dk):=(eP C e (full ρ)).bind fun x=>if(im x.1 || x.2)=true then some (x.1,x.2,ρ)
 else(eP C e (xq (lL e.fv ρ))).map fun y=>(y.1,y.2,lL e.fv ρ)
noncomputable def Qk(C:Fs)(it:Iw)(ρ:dk):Option (List Dat×dk):=match it with
 | .itv a=>(Bv C a ρ).bind fun x=>(gw x.1).map fun ds=>(ds,x.2.2)
 | .rng es=>(Bw C (.rng es) (full ρ)).map fun ds=>(ds,ρ)
 | .zip es=>(Bw C (.zip es) (xq (lL (Mf es) ρ))).map fun ds=>(ds,lL (Mf es) ρ)
 | .enu a=>(Bw C (.enu a) (xq (lL a.fv ρ))).map fun ds=>(ds,lL a.fv ρ)
noncomputable def oo:List Nat->List Dat->dk->dk
 | i::is,d::ds,ρ=>oo is ds (ρ.set i (some (d,false)))
 | _,_,ρ=>ρ
noncomputable def eU(one:Bool)(ts:List Nat)(d:Dat)(ρ:dk):Option dk:=match one with
 | true=>match ts with
   | [i]=>some (ρ.set i (some (d,false)))
   | _=>none
 | false=>match d with
   | .tup ds=>if ds.length=ts.length then some (oo ts ds ρ)else none
   | _=>none
noncomputable def Gg(k:dk->Option Out):Out->Option Out
 | .nx ρ=>k ρ
 | .ct ρ=>k ρ
 | .bk ρ=>some (.nx ρ)
 | .rt d fr=>some (.rt d fr)
noncomputable def eJ(bnd:Dat->dk->Option dk)(body:dk->Option Out):List Dat->dk->Option Out
 | [],ρ=>some (.nx ρ)
 | d::ds,ρ=>(bnd d ρ).bind fun ρ1=>(body ρ1).bind (Gg (eJ bnd body ds))
structure Sx where
 ex:Fs->dk->Option Out
noncomputable def ko(C:Fs)(s:Sx)(ρ:dk):Option Out:=s.ex C ρ
noncomputable def KD(k:dk->Option Out):Out->Option Out
 | .nx ρ=>k ρ
 | o=>some o
noncomputable def cY(C:Fs):List Sx->dk->Option Out
 | [],ρ=>some (.nx ρ)
 | s::ss,ρ=>(ko C s ρ).bind (KD (cY C ss))
noncomputable def UW(ts:List Nat)(ρ:dk):Dat->Option Out
 | .tup ds=>if ds.length=ts.length then some (.nx (oo ts ds ρ))else none
 | _=>none
noncomputable def LA(op:FH)(i:Nat)(ρ:dk)(ds:List Dat):Option (Dat×Bool)->Option Out
 | some (d,true)=>(ip op d ds).map fun d'=>.nx (ρ.set i (some (d',true)))
 | _=>none
namespace Sx
noncomputable def set(i:Nat)(e:Ex):Sx:={ ex:=fun C ρ=>(Bv C e ρ).map fun x=>.nx (x.2.2.set i (some (x.1,x.2.1 && !im x.1))) }
noncomputable def DX(ts:List Nat)(e:Ex):Sx:={ ex:=fun C ρ=>(Bv C e ρ).bind fun x=>UW ts x.2.2 x.1 }
noncomputable def ret(e:Ex):Sx:={ ex:=fun C ρ=>(eP C e (full ρ)).map fun x=>.rt x.1 x.2 }
noncomputable def nY(i:Nat):Sx:={ ex:=fun _ ρ=>((ρ[i]?).join).map fun x=>.rt x.1 x.2 }
noncomputable def pass:Sx:={ ex:=fun _ ρ=>some (.nx ρ) }
noncomputable def Nf:Sx:={ ex:=fun _ _=>none }
noncomputable def brk:Sx:={ ex:=fun _ ρ=>some (.bk ρ) }
noncomputable def ifs(c:Ex)(a b:List Sx):Sx:={ ex:=fun C ρ=>(eP C c (full ρ)).bind fun x=>(km x.1).bind fun z=>if z=true then cY C a ρ else cY C b ρ }
noncomputable def loop(one:Bool)(ts:List Nat)(it:Iw)(body:List Sx):Sx:={ ex:=fun C ρ=>(Qk C it ρ).bind fun x=>eJ (eU one ts) (cY C body) x.1 x.2 }
noncomputable def «mut» (op:FH)(i:Nat)(es:List Ex):Sx:={ ex:=fun C ρ=>(oD C es (full ρ)).bind fun x=>if x.2=true then LA op i ρ x.1 (ρ[i]?).join else none }
end Sx
noncomputable def VW:Out->Option (Dat×Bool)
 | .nx _=>some (.non,false)
 | .rt d fr=>some (d,fr)
 | _=>none
noncomputable def FE(C:Fs)(np nl:Nat)(body:List Sx)(ds:List Dat):Option (Dat×Bool):=
 if ds.length=np then(cY C body (ds.map (fun d=>some (d,false))++cT (nl - np) none)).bind VW else none
noncomputable def gE(K:Fg)(C:Fs)(x:Ex):TE:=fun σ H Q=>∃ρ d fr,eP C x ρ=some (d,fr)/\tE K ρ d fr σ H Q
noncomputable def gA(K:Fg)(C:Fs)(xs:List Ex):TA:=fun σ H Q=>∃ρ ds,jR C xs ρ=some ds/\WE K ρ ds σ H Q
noncomputable def gF(K:Fg)(C:Fs)(xs:List Ex):TA:=fun σ H Q=>∃ρ ds al,oD C xs ρ=some (ds,al)/\WD K ρ ds al σ H Q
noncomputable def gT(K:Fg)(C:Fs)(x:Ex):TT:=fun σ H Q=>∃ρ d fr b,eP C x ρ=some (d,fr)/\km d=some b/\tT K ρ b σ H Q
abbrev SE(X:Cx)(C:Fs)(e:aO)(x:Ex):Prop:=PE X e (gE X.K C x)
abbrev SA(X:Cx)(C:Fs)(es:List aO)(xs:List Ex):Prop:=PA X es (gA X.K C xs)
abbrev SF(X:Cx)(C:Fs)(es:List aO)(xs:List Ex):Prop:=PA X es (gF X.K C xs)
abbrev ST(X:Cx)(C:Fs)(e:aO)(x:Ex):Prop:=PT X e (gT X.K C x)
noncomputable def gB(K:Fg)(f:Dat->Dat->Option (Dat×Bool)):R2:=fun x y H Q=>∃da db d fr,f da db=some (d,fr)/\rD K da db d fr x y H Q
def gL(K:Fg)(f:List Dat->Option (Dat×Bool)):List V->Hp->VK->Prop:=fun xs H Q=>∃ds d fr,f ds=some (d,fr)/\WG K ds d fr xs H Q
section
variable{X:Cx}{C:Fs}{a b c e:aO}{xa xb xc:Ex}{pos:fS}{es:List aO}{xs:List Ex}
theorem bV{K:Fg}{H H':Hp}{d:Dat}{v:V}:(false=true->iu K H H' d v):=fun h=>nomatch h
theorem Ov(i:Nat){x:bh}(hN:X.N[i]? = some x:=by rfl)(hv:NU X.env.scope x:=by first|exact Or.inl rfl|exact Or.inr (Or.inl rfl)|exact Or.inr (Or.inr rfl))(hd:(x == ("__debug__":bh))=false:=by decide)
  (hcd:(x == ("__classdict__":bh))=false:=by decide):SE X C (.Name x pos) (.var i):=
 PE.imp (wj hN hv hd hcd) fun σ H Q z3=>by
  obtain⟨ρ,d,fr,h,F,g,R,k⟩:=z3;obtain⟨d',h1,h2⟩:=fM h;cases h2
  have h1':ρ[i]? = some (some d):=by
   cases q:ρ[i]? with
   | none=>rw[q]at h1;cases h1
   | some z=>rw[q]at h1;exact congrArg some h1
  obtain⟨v,e1,r⟩:=R i d h1';exact⟨v,e1,k v F H (Step.refl g) r bV⟩
theorem sI{d:Dat}{v:V}(h:PE X e (tC v))(hd:∀F,Rep X.K F d v):SE X C e (.con d):=
 PE.imp h fun σ H Q z3=>by
  obtain⟨ρ,d',fr,h,F,g,R,k⟩:=z3;cases h;exact k v F H (Step.refl g) (hd _) bV
theorem OD{i:Int}{j}:SE X C (.Constant (.int i) j pos) (.con (.int i)):=sI Hi fun _=>rfl
theorem RO{b:Bool}{j}:SE X C (.Constant (.bool b) j pos) (.con (.bl b)):=sI R6 fun _=>rfl
theorem Oz{j}:SE X C (.Constant .none j pos) (.con .non):=sI OX fun _=>rfl
theorem Oy{x:bh}{j}:SE X C (.Constant (.str x) j pos) (.con (.str x)):=sI Hg fun _=>rfl
theorem KG{x:bh}{d:Dat}{v:V}{u:ab}(hg:Gl X x)(hm:X.mg x=some u)(r:RelV v u)(hd':∀F,Rep X.K F d v)(hd:(x == ("__debug__":bh))=false:=by decide):SE X C (.Name x pos) (.con d):=sI (La hg hm r hd) hd'
theorem zD{α β γ:Type}{o:Option α}{o':Option β}{f:α->β->Option γ}{z:γ}(h:(o.bind fun x=>o'.bind fun y=>f x y)=some z):∃x y,o=some x/\o'=some y/\f x y=some z:=by
 obtain⟨x,h1,h⟩:=eD h;obtain⟨y,h2,h⟩:=eD h;exact⟨x,y,h1,h2,h⟩
theorem vY{f:Dat->Dat->Option (Dat×Bool)}{x:Ex}(hev:∀ρ d fr,eP C x ρ=some (d,fr)->∃p q,eP C xa ρ=some p/\eP C xb ρ=some q/\f p.1 q.1=some (d,fr)) :
  ∀σ H Q,gE X.K C x σ H Q->Rz (gB X.K f) (gE X.K C xa) (gE X.K C xb) σ H Q:=fun σ H Q z3=>by
 obtain⟨ρ,d,fr,h,F,g,R,k⟩:=z3;obtain⟨⟨da,fa⟩,⟨db,fb⟩,h1,h2,h3⟩:=hev ρ d fr h;refine⟨ρ,da,fa,h1,F,g,R,fun v F1 H1 eZ r1 _=>⟨ρ,db,fb,h2,F1,eZ.good,R.mono eZ.ff,fun w F2 H2 iB r2 _=>?_⟩⟩;exact⟨da,db,d,fr,h3,F2,iB.good,r1.mono iB.ff,r2,fun u F3 H3 qu r3 f3=>k u F3 H3 ((eZ.trans iB).trans qu) r3 fun z=>(f3 z).back (F:=F) (eZ.hh.trans iB.hh)⟩
theorem OG{op:uh}{o:NZ}(ho:kM X (binaryOp op) (gB X.K (gm o)))(ha:SE X C a xa)(hb:SE X C b xb):SE X C (.BinOp a op b pos) (.bin o xa xb):=
 PE.imp (R0 ho ha hb) (vY fun ρ d fr h=>by
  exact zD h)
noncomputable def rz(o:JL)(x y:Dat):Option (Dat×Bool):=(dt o x y).map fun r=>(.bl r,false)
theorem OF{op:xj}{o:JL}(ho:kM X (compareOp op) (gB X.K (rz o)))(ha:SE X C a xa)(hb:SE X C b xb)(hm:behindInMarks op b=false):SE X C (.Compare a [op] [b] pos) (.cmp o xa xb):=
 PE.imp (Ld ho ha hb hm) (vY fun ρ d fr h=>by
  exact zD h)
theorem Od{op:xj}{o:JL}(ho:kM X (compareOp op) (gB X.K (rz o)))(ha:SE X C a xa)(hb:SE X C b xb)(hm:behindInMarks op b=false):ST X C (.Compare a [op] [b] pos) (.cmp o xa xb):=
 PT.imp (K2 ho ha hb hm) fun σ H Q z3=>by
  obtain⟨ρ,d,fr,b,h,hb,F,g,R,k⟩:=z3
  refine vY (X:=X) (x:=.cmp o xa xb) (f:=rz o) (fun ρ d fr h=>by
   exact zD h) σ H _ ⟨ρ,d,fr,h,F,g,R,fun v F1 H1 st r _=>?_⟩
  obtain⟨p,q,_,_,h3⟩:=zD h;obtain⟨z,_,h4⟩:=fM h3;cases h4;cases hb;exact⟨_,r,k F1 H1 st⟩
theorem RN(hr:Rq X (gB X.K fun x y=>(JE x y).map fun d=>(d,false)))(ha:SE X C a xa)(hb:SE X C b xb)(hs:wW b):SE X C (.Subscript a b pos) (.ix xa xb):=
 PE.imp (R3 hr ha hb hs) (vY fun ρ d fr h=>by
  exact zD h)
theorem J8{K:Fg}{F H:Hp}{d:Dat}{v:V}{b:Bool}(g:Good F H)(r:Rep K F d v)(h:km d=some b):QU K v H b:=by
 cases d with
 | non=>rw[show v=.non from r];cases h;exact rfl
 | bl c=>rw[show v=.bl c from r];cases h;exact rfl
 | int i=>rw[show v=.int i from r];cases h;exact rfl
 | str x=>
   rw[show v=.str x from r];simp only[km]at h;split at h
   ·rename_i hz;cases h;exact⟨hz,rfl⟩
   ·cases h
 | tup ds=>
   obtain⟨p,vs,rfl,t,r⟩:=r;cases h
   have e:(!ds.isEmpty)=!vs.isEmpty:=by
    have:=r.length
    cases ds<;>cases vs<;>first|rfl|cases this
   rw[e];exact .inr (.inl ⟨vs,(t.mono g.sub).sq,rfl⟩)
 | lst ds=>
   obtain⟨p,vs,rfl,t,r⟩:=r;cases h
   have e:(!ds.isEmpty)=!vs.isEmpty:=by
    have:=r.length
    cases ds<;>cases vs<;>first|rfl|cases this
   rw[e];exact .inl ⟨vs,g.sub.seq t,rfl⟩
 | dcn _=>cases h
 | dct ks ds=>
   obtain⟨p,kvs,rfl,t,kk,r⟩:=r;cases h
   have e:(!ks.isEmpty)=!kvs.isEmpty:=by
    rw[<-kk];cases kvs<;>rfl
   rw[e];exact .inr (.inr ⟨kvs,g.sub _ _ t,rfl⟩)
theorem mQ(h:SE X C e xa)(he:∀whole,isTrue e X.env whole=(do let v <-whole;standAt e.pos;holding [v] (truthy v)):=by intro _;rfl):ST X C e xa:=
 PT.imp (G3 h he) fun σ H Q ⟨ρ,d,fr,b,h,hb,F,g,R,k⟩=>⟨ρ,d,fr,h,F,g,R,fun v F1 H1 eZ r1 _=>⟨b,J8 eZ.good r1 hb,k F1 H1 eZ⟩⟩
abbrev SW(X:Cx)(C:Fs)(e:aO)(x:Ex):Prop:=PW X e (gT X.K C x)
theorem Ke(ha:ST X C a xa):SW X C (.BoolOp .And [a] pos) xa:=KW ha
theorem Ob(ha:ST X C a xa):SW X C (.BoolOp .Or [a] pos) xa:=OM ha
theorem PW.imp{t t':TT}(h:PW X e t)(f:∀σ H Q,t' σ H Q->t σ H Q):PW X e t':=fun wh pins s σ H Q I q=>h wh pins s σ H Q I (f _ _ _ q)
theorem Oc{rest:List aO}(ha:ST X C a xa)(hb:SW X C (.BoolOp .And (b::rest) pos) xb):SW X C (.BoolOp .And (a::b::rest) pos) (.and xa xb):=
 PW.imp (ON ha hb) fun σ H Q z3=>by
  obtain⟨ρ,d,fr,z,h,hz,F,g,R,k⟩:=z3;obtain⟨⟨da,fa⟩,h1,h⟩:=eD h
  cases da with
  | bl c=>
    cases c with
    | true=>exact⟨ρ,_,fa,true,h1,rfl,F,g,R,fun F1 H1 eZ=>by
      refine EG ?_
      exact⟨ρ,d,fr,z,h,hz,F1,eZ.good,R.mono eZ.ff,fun F2 H2 iB=>k F2 H2 (eZ.trans iB)⟩⟩
    | false=>
      cases h;cases hz
      exact⟨ρ,_,fa,false,h1,rfl,F,g,R,fun F1 H1 eZ=>by
       refine EH ?_
       exact k F1 H1 eZ⟩
  | _=>cases h
theorem RG{rest:List aO}(ha:ST X C a xa)(hb:SW X C (.BoolOp .Or (b::rest) pos) xb):SW X C (.BoolOp .Or (a::b::rest) pos) (.or xa xb):=
 PW.imp (RT ha hb) fun σ H Q z3=>by
  obtain⟨ρ,d,fr,z,h,hz,F,g,R,k⟩:=z3;obtain⟨⟨da,fa⟩,h1,h⟩:=eD h
  cases da with
  | bl c=>
    cases c with
    | false=>exact⟨ρ,_,fa,false,h1,rfl,F,g,R,fun F1 H1 eZ=>by
      refine EH ?_
      exact⟨ρ,d,fr,z,h,hz,F1,eZ.good,R.mono eZ.ff,fun F2 H2 iB=>k F2 H2 (eZ.trans iB)⟩⟩
    | true=>
      cases h;cases hz
      exact⟨ρ,_,fa,true,h1,rfl,F,g,R,fun F1 H1 eZ=>by
       refine EG ?_
       exact k F1 H1 eZ⟩
  | _=>cases h
theorem Ck{op}(ha:SE X C a xa):SE X C (.BoolOp op [a] pos) xa:=OW ha
theorem OH{rest:List aO}(ha:SE X C a xa)(hb:SE X C (.BoolOp .And (b::rest) pos) xb):SE X C (.BoolOp .And (a::b::rest) pos) (.and xa xb):=
 PE.imp (O2 ha hb) fun σ H Q z3=>by
  obtain⟨ρ,d,fr,h,F,g,R,k⟩:=z3;obtain⟨⟨da,fa⟩,h1,h⟩:=eD h
  cases da with
  | bl c=>
    refine⟨ρ,_,fa,h1,F,g,R,fun v F1 H1 eZ r1 _=>⟨c,r1,?_⟩⟩
    cases c with
    | true=>
      refine EG ?_;exact⟨ρ,d,fr,h,F1,eZ.good,R.mono eZ.ff,fun v F2 H2 iB r2 f2=>k v F2 H2 (eZ.trans iB) r2 fun z=>(f2 z).back (F:=F) eZ.hh⟩
    | false=>
      cases h;exact EH (k _ F1 H1 eZ rfl bV)
  | _=>cases h
theorem RK{rest:List aO}(ha:SE X C a xa)(hb:SE X C (.BoolOp .Or (b::rest) pos) xb):SE X C (.BoolOp .Or (a::b::rest) pos) (.or xa xb):=
 PE.imp (RZ ha hb) fun σ H Q z3=>by
  obtain⟨ρ,d,fr,h,F,g,R,k⟩:=z3;obtain⟨⟨da,fa⟩,h1,h⟩:=eD h
  cases da with
  | bl c=>
    refine⟨ρ,_,fa,h1,F,g,R,fun v F1 H1 eZ r1 _=>⟨c,r1,?_⟩⟩
    cases c with
    | false=>
      refine EH ?_;exact⟨ρ,d,fr,h,F1,eZ.good,R.mono eZ.ff,fun v F2 H2 iB r2 f2=>k v F2 H2 (eZ.trans iB) r2 fun z=>(f2 z).back (F:=F) eZ.hh⟩
    | true=>
      cases h;exact EG (k _ F1 H1 eZ rfl bV)
  | _=>cases h
theorem OB{cnd:aO}(hc:ST X C cnd xc)(ha:SE X C a xa)(hb:SE X C b xb):SE X C (.IfExp cnd a b pos) (.ite xc xa xb):=
 PE.imp (Hj hc ha hb) fun σ H Q z3=>by
  obtain⟨ρ,d,fr,h,F,g,R,k⟩:=z3;obtain⟨⟨da,fa⟩,h1,h⟩:=eD h;obtain⟨z,hz,h⟩:=eD h;refine⟨ρ,da,fa,z,h1,hz,F,g,R,fun F1 H1 eZ=>?_⟩
  cases z with
  | true=>
    refine EG ?_;exact⟨ρ,d,fr,h,F1,eZ.good,R.mono eZ.ff,fun v F2 H2 iB r2 f2=>k v F2 H2 (eZ.trans iB) r2 fun z=>(f2 z).back (F:=F) eZ.hh⟩
  | false=>
    refine EH ?_;exact⟨ρ,d,fr,h,F1,eZ.good,R.mono eZ.ff,fun v F2 H2 iB r2 f2=>k v F2 H2 (eZ.trans iB) r2 fun z=>(f2 z).back (F:=F) eZ.hh⟩
theorem sQ:SA X C [] []:=PA.imp AR fun σ H Q z3=>by
 obtain⟨ρ,ds,h,F,g,R,k⟩:=z3;simp only[jR]at h;cases h;exact k [] F H (Step.refl g) rfl
theorem mT(ha:SE X C e xa)(hr:SA X C es xs)(hs:bp (e::es) X.env=(false,eval e X.env)::bp es X.env:=by rfl):SA X C (e::es) (xa::xs):=
 PA.imp (rL ha hr hs) fun σ H Q z3=>by
  obtain⟨ρ,ds,h,F,g,R,k⟩:=z3;simp only[jR]at h;obtain⟨⟨d,fr⟩,h1,h⟩:=eD h;obtain⟨r,h2,h⟩:=fM h;cases h;exact⟨ρ,d,fr,h1,F,g,R,fun v F1 H1 eZ r1 _=>⟨ρ,r,h2,F1,eZ.good,R.mono eZ.ff,fun vs F2 H2 iB r2=>k _ F2 H2 (eZ.trans iB) ⟨v,vs,rfl,r1.mono iB.ff,r2⟩⟩⟩
theorem qa{n:Nat}(h:n<=1000000):n<=aP:=by rw[cj];omega
theorem Ot:SF X C [] []:=PA.imp AR fun σ H Q z3=>by
 obtain⟨ρ,ds,al,h,F,g,R,k⟩:=z3;simp only[oD]at h;cases h;exact k [] F H (Step.refl g) rfl fun _=>⟨[],iH,(fun a z=>by cases z),rfl,rfl⟩
theorem Ky(ha:SE X C e xa)(hr:SF X C es xs)(hs:bp (e::es) X.env=(false,eval e X.env)::bp es X.env:=by rfl):SF X C (e::es) (xa::xs):=
 PA.imp (rL ha hr hs) fun σ H Q z3=>by
  obtain⟨ρ,ds,al,h,F,g,R,k⟩:=z3;simp only[oD]at h;obtain⟨⟨d,fr⟩,h1,h⟩:=eD h;obtain⟨⟨r,ar⟩,h2,h⟩:=fM h;cases h;refine⟨ρ,d,fr,h1,F,g,R,fun v F1 H1 eZ r1 f1=>⟨ρ,r,ar,h2,F1,eZ.good,R.mono eZ.ff,fun vs F2 H2 iB r2 f2=>k _ F2 H2 (eZ.trans iB) ⟨v,vs,rfl,r1.mono iB.ff,r2⟩ fun z=>?_⟩⟩;simp only[aF,kG]at z;refine fm.cons eZ.hh iB.hh ?_ (f2 z.2)
  rcases z.1 with z1|z1
  ·exact f1 z1
  ·exact .lK eZ.good z1 r1
theorem Ox{x1}(h:SF X C es xs):SE X C (.Tuple es x1 pos) (.tup xs):=
 PE.imp (OV h) fun σ H Q z3=>by
  obtain⟨ρ,d,fr,h,F,g,R,k⟩:=z3;obtain⟨⟨ds,al⟩,h1,h⟩:=eD h;dsimp only at h;split at h
  ·rename_i hz;cases h;refine⟨ρ,ds,_,h1,F,g,R,fun vs F1 H1 eZ r1 f1=>⟨by rw[r1.length];exact qa hz,fun p hp=>?_⟩⟩;exact k _ _ _ (eZ.trans (Step.alloc eZ.good hp)) ⟨p,vs,rfl,.inl cJ,r1.mono (cu.upd (eZ.good.sub.free hp))⟩ fun z=>.tup hp (f1 z)
  ·cases h
theorem OA(h:SF X C es xs):SE X C (.List es pos) (.lst xs):=
 PE.imp (OY h) fun σ H Q z3=>by
  obtain⟨ρ,d,fr,h,F,g,R,k⟩:=z3;obtain⟨⟨ds,al⟩,h1,h⟩:=eD h;dsimp only at h;split at h
  ·rename_i hz;cases h;refine⟨ρ,ds,_,h1,F,g,R,fun vs F1 H1 eZ r1 f1=>⟨by rw[r1.length];exact qa hz,fun p hp=>?_⟩⟩;have r2:=r1.mono (cu.upd (o:=.lst vs) (eZ.good.sub.free hp));exact k _ _ _ (eZ.trans (Step.alloc eZ.good hp)) ⟨p,vs,rfl,.inl (.inl cJ),r2⟩ fun z=>.lst eZ.hh hp (f1 z)
  ·cases h
noncomputable def Ng(K:Fg)(n:Nat)(f:List Dat->Option (Dat×Bool)):Sp:=fun vs H Q _=>vs.length=n/\gL K f vs H Q
theorem rU{f:List Dat->Option (Dat×Bool)}{x:Ex}(hev:∀ρ d fr,eP C x ρ=some (d,fr)->∃ds,jR C xs ρ=some ds/\f ds=some (d,fr)) :
  ∀σ H Q,gE X.K C x σ H Q->U6 (gL X.K f) (gA X.K C xs) σ H Q:=fun σ H Q z3=>by
 obtain⟨ρ,d,fr,h,F,g,R,k⟩:=z3;obtain⟨ds,h1,h2⟩:=hev ρ d fr h;refine⟨ρ,ds,h1,F,g,R,fun vs F1 H1 eZ r1=>⟨ds,d,fr,h2,F1,eZ.good,r1,fun v F2 H2 iB r2 f2=>k v F2 H2 (eZ.trans iB) r2 fun z=>(f2 z).back (F:=F) eZ.hh⟩⟩
theorem tM:∀{xs:List Ex} {ρ:gD} {ds:List Dat},jR C xs ρ=some ds->ds.length=xs.length
 | [],ρ,ds,h=>by simp only[jR]at h;cases h;rfl
 | x::xs,ρ,ds,h=>by
   simp only[jR]at h;obtain⟨d,_,h⟩:=eD h;obtain⟨r,h2,h⟩:=fM h;cases h;rw[bo,bo,tM h2]
theorem KI{k:Nat}{f:ag}{fd:fj}{ps:List bh}{x:bh}{p:fS}(j n:Nat)(G:m8 X.prog X.w X.K X.mg X.base DH k f fd ps (Ng X.K n (C j)))(hr:mI k X.A)(hg:Gl X x)(hm:X.mg x=some (.ref f))(hk:eE X.K (.ref f)=true)(hb:Binds X.K fd ps [])
  (ha:SA X C (e::es) (xa::xs))(hn:(xa::xs).length=n:=by rfl)(hdb:(x == ("__debug__":bh))=false:=by decide)(he:bp (e::es) X.env=(false,eval e X.env)::bp es X.env:=by rfl)(hpl:(backTo pos (bp es X.env)).any (·.1)=false:=by rfl) :
  SE X C (.Call (.Name x p) (e::es) [] pos) (.call j (xa::xs)):=
 PE.imp (Le G hr hg hm hk hb .nil Nl ha hdb he hpl) fun σ H Q h=>by
  have h':=rU (X:=X) (xs:=xa::xs) (f:=C j) (x:=.call j (xa::xs)) (fun ρ d fr h=>by
   exact eD h) σ H Q h
  obtain⟨ρ,ds,h1,F,g,R,k⟩:=h';refine⟨ρ,ds,h1,F,g,R,fun vs F1 H1 eZ r1=>?_⟩;show Ng X.K n (C j) (vs++[]) H1 Q E0;rw[aL];exact⟨by rw[r1.length,tM h1,hn],k vs F1 H1 eZ r1⟩
theorem Cj{x:bh}{p:fS}{id:String}{bt:JM}(hc:og X (.builtin id) (gL X.K (gY bt)))(hg:Gl X x)(hm:X.mg x=none)(hv:bootBuiltins x=some (.builtin id))(ha:SA X C (e::es) xs)(hn:x≠"__name__":=by decide)(hdb:(x == ("__debug__":bh))=false:=by decide)
  (he:bp (e::es) X.env=(false,eval e X.env)::bp es X.env:=by rfl)(hpl:(backTo pos (bp es X.env)).any (·.1)=false:=by rfl):SE X C (.Call (.Name x p) (e::es) [] pos) (.blt bt xs):=
 PE.imp (yg hc hg hm hv ha hn hdb he hpl) (rU fun ρ d fr h=>by
  exact eD h)
theorem KL{x:bh}{p:fS}{T:String}{bt:JM}(hc:og X (.type T) (gL X.K (gY bt)))(hg:Gl X x)(hm:X.mg x=none)(hv:bootBuiltins x=some (.type T))(ha:SA X C (e::es) xs)(hn:x≠"__name__":=by decide)(hdb:(x == ("__debug__":bh))=false:=by decide)
  (he:bp (e::es) X.env=(false,eval e X.env)::bp es X.env:=by rfl)(hpl:(backTo pos (bp es X.env)).any (·.1)=false:=by rfl):SE X C (.Call (.Name x p) (e::es) [] pos) (.blt bt xs):=
 PE.imp (En hc hg hm hv ha hn hdb he hpl) (rU fun ρ d fr h=>by
  exact eD h)
end
section
variable{X:Cx}{C:Fs}{a b c e:aO}{xa xb xc:Ex}{pos:fS}{es:List aO}{xs:List Ex}{pins:List (ag×fe)}{σ:St}{F H:Hp}{s:ae}
theorem kH:∀{n:Nat} {ds:List Dat} {j:Nat} {d:Dat},fR n ds=true->ds[j]? = some d->iC n d=true
 | _,[],_,_,_,e=>by simp at e
 | n,x::xs,0,d,h,e=>by
   simp only[fR,aF]at h;simp at e;subst e;exact h.1
 | n,x::xs,j+1,d,h,e=>by
   simp only[fR,aF]at h;exact kH h.2 (by simpa using e)
theorem iY:∀xs ys:List Dat,n8 xs ys=((aT (min xs.length ys.length)).all (fun j=>nA (xs.getD j .non) (ys.getD j .non)) && xs.length == ys.length)
 | [],[]=>by simp[n8]
 | [],y::ys=>by simp[n8]
 | x::xs,[]=>by simp[n8]
 | x::xs,y::ys=>by
   have h:=iY xs ys;simp only[n8,bo,Nat.succ_min_succ,Nat.succ_eq_add_one];rw[h,List.range_succ_eq_map,dQ,List.all_map];simp[Function.comp_def,M9]
theorem _root_.L2.Inv.lstR{a:ag}{vs:List V}(I:Inv X pins σ H s)(g:Good F H)(h:nF X.K F a vs):∃its:List ab,cL vs its/\PlainL s.heap a its.toArray/\vs.length<=aP:=I.list (g.sub.seq h)
theorem _root_.L2.Inv.tupR{a:ag}{vs:List V}(I:Inv X pins σ H s)(g:Good F H)(h:Tq X.K F a vs):∃its:List ab,cL vs its/\JS s.heap a its.toArray/\vs.length<=aP:=I.tuple (h.mono g.sub).sq
theorem _root_.L2.Inv.noLT{a:ag}{vs ws:List V}(I:Inv X pins σ H s)(g:Good F H)(h:nF X.K F a vs)(h':Tq X.K F a ws):False:=by
 obtain⟨its,_,⟨o,n,e,c,_⟩,_⟩:=I.lstR g h;obtain⟨its',_,⟨o',e',c',_⟩,_⟩:=I.tupR g h';rw[e]at e';cases e';rw[c]at c'
 injection c' with z
 exact absurd z (by decide)
mutual
noncomputable def vd:Dat->Bool
 | .dct _ _=>false
 | .dcn _=>false
 | .tup xs=>kX xs
 | .lst xs=>kX xs
 | _=>true
noncomputable def kX:List Dat->Bool
 | []=>true
 | x::xs=>vd x && kX xs
end
mutual
theorem sV:∀(n:Nat) (d:Dat),iC n d=true->vd d=true
 | n,.non,_=>rfl
 | n,.bl _,_=>rfl
 | n,.int _,_=>rfl
 | n,.str _,_=>rfl
 | 0,.tup _,h=>by simp[iC]at h
 | 0,.lst _,h=>by simp[iC]at h
 | n+1,.tup xs,h=>qG n xs (by simpa [iC]using h)
 | n+1,.lst xs,h=>qG n xs (by simpa [iC]using h)
 | n,.dct _ _,h=>by cases n<;>simp[iC]at h
 | n,.dcn _,h=>by cases n<;>simp[iC]at h
theorem qG:∀(n:Nat) (ds:List Dat),fR n ds=true->kX ds=true
 | n,[],_=>rfl
 | n,d::ds,h=>by
   have h':iC n d=true/\fR n ds=true:=by cases n<;>simpa [fR]using h
   simp only[kX,sV n d h'.1,qG n ds h'.2,pQ]
end
mutual
theorem xU(I:Inv X pins σ H s)(g:Good F H):∀(da db:Dat) {x:V},vd da=true->vd db=true->Rep X.K F da x->Rep X.K F db x->nA da db=true
 | .non,db,x,na,nb,ra,rb=>by
   rw[show x=.non from ra]at rb
   cases db with
   | non=>rfl
   | tup _=>obtain⟨_,_,z,_⟩:=rb;cases z
   | lst _=>obtain⟨_,_,z,_⟩:=rb;cases z
   | dct _ _=>exact nomatch nb
   | dcn _=>exact nomatch nb
   | _=>cases rb
 | .bl b,db,x,na,nb,ra,rb=>by
   rw[show x=.bl b from ra]at rb
   cases db with
   | bl c=>cases rb;simp[nA]
   | tup _=>obtain⟨_,_,z,_⟩:=rb;cases z
   | lst _=>obtain⟨_,_,z,_⟩:=rb;cases z
   | dct _ _=>exact nomatch nb
   | dcn _=>exact nomatch nb
   | _=>cases rb
 | .int i,db,x,na,nb,ra,rb=>by
   rw[show x=.int i from ra]at rb
   cases db with
   | int c=>cases rb;simp[nA]
   | tup _=>obtain⟨_,_,z,_⟩:=rb;cases z
   | lst _=>obtain⟨_,_,z,_⟩:=rb;cases z
   | dct _ _=>exact nomatch nb
   | dcn _=>exact nomatch nb
   | _=>cases rb
 | .str i,db,x,na,nb,ra,rb=>by
   rw[show x=.str i from ra]at rb
   cases db with
   | str c=>cases rb;simp[nA]
   | tup _=>obtain⟨_,_,z,_⟩:=rb;cases z
   | lst _=>obtain⟨_,_,z,_⟩:=rb;cases z
   | dct _ _=>exact nomatch nb
   | dcn _=>exact nomatch nb
   | _=>cases rb
 | .dct _ _,_,_,na,_,_,_=>nomatch na
 | .dcn _,_,_,na,_,_,_=>nomatch na
 | .tup ds,db,x,na,nb,z5,rb=>by
   obtain⟨p,vs,e,t,r⟩:=z5;subst e
   cases db with
   | tup es=>
     obtain⟨q,us,e',t',r'⟩:=rb;cases e';have ev:vs=us:=I.oi (t.mono g.sub).sq (t'.mono g.sub).sq;subst ev;simp only[nA];exact qy I g ds es na nb r r'
   | lst es=>
     obtain⟨q,us,e',t',r'⟩:=rb;cases e';exact(I.noLT g t' t).elim
   | dct _ _=>exact nomatch nb
   | dcn _=>exact nomatch nb
   | _=>cases rb
 | .lst ds,db,x,na,nb,z5,rb=>by
   obtain⟨p,vs,e,t,r⟩:=z5;subst e
   cases db with
   | lst es=>
     obtain⟨q,us,e',t',r'⟩:=rb;cases e';have ev:vs=us:=I.p9 (g.sub.seq t) (g.sub.seq t');subst ev;simp only[nA];exact qy I g ds es na nb r r'
   | tup es=>
     obtain⟨q,us,e',t',r'⟩:=rb;cases e';exact(I.noLT g t t').elim
   | dct _ _=>exact nomatch nb
   | dcn _=>exact nomatch nb
   | _=>cases rb
theorem qy(I:Inv X pins σ H s)(g:Good F H):∀(ds es:List Dat) {vs:List V},kX ds=true->kX es=true->cR X.K F ds vs->cR X.K F es vs->n8 ds es=true
 | [],es,vs,na,nb,h,h'=>by
   rw[show vs=[]from h]at h'
   cases es with
   | nil=>rfl
   | cons _ _=>obtain⟨_,_,z,_⟩:=h';cases z
 | d::ds,es,vs,na,nb,z5,h'=>by
   obtain⟨v,r,e,h1,h2⟩:=z5;subst e
   cases es with
   | nil=>exact nomatch (show v::r=[]from h')
   | cons f fs=>
     obtain⟨v',r',e',h1',h2'⟩:=h';cases e';simp only[n8,aF];have na':vd d=true/\kX ds=true:=by simpa [kX]using na
     have nb':vd f=true/\kX fs=true:=by simpa [kX]using nb
     exact⟨xU I g d f na'.1 nb'.1 h1 h1',qy I g ds fs na'.2 nb'.2 h2 h2'⟩
end
theorem rH{vs:List V}{its:List ab}{j:Nat}(r:cL vs its)(h:j<its.toArray.size):∃v,vs[j]? = some v/\RelV v its.toArray[j]:=by
 have hl:=r.length;have hj:j<vs.length:=by simp at h;omega
 obtain⟨u,q1,q2⟩:=r.get (af hj);refine⟨_,af hj,?_⟩
 have:its.toArray[j]=u:=by
  have h':j<its.length:=by simpa using h
  rw[List.getElem_toArray];rw[af h']at q1;exact bw q1
 rw[this];exact q2
theorem gv{n:Nat}{ks:List (List NK)}(h:iC n (.dcn ks)=true):False:=by
 cases n<;>simp[iC]at h
theorem gu{n:Nat}{ks:List Key}{vs:List Dat}(h:iC n (.dct ks vs)=true):False:=by
 cases n<;>simp[iC]at h
theorem zg(I:Inv X pins σ H s)(g:Good F H)(A:bC){da db:Dat}{x y:V}{u w:ab}(hu:A.units<dS)(sa:iC 0 da=true)(sb:iC 0 db=true)(ra:Rep X.K F da x)(rb:Rep X.K F db y)(rx:RelV x u)(ry:RelV y w) :
  nD A s u w (nA da db)/\ug A s u w (nA da db):=by
 cases da with
 | dct _ _=>exact(gu sa).elim
 | dcn _=>exact(gv sa).elim
 | tup _=>exact nomatch sa
 | lst _=>exact nomatch sa
 | non=>
   cases ra;obtain rfl:u=.none:=rx
   cases db with
   | dct _ _=>exact(gu sb).elim
   | dcn _=>exact(gv sb).elim
   | tup _=>exact nomatch sb
   | lst _=>exact nomatch sb
   | non=>
     cases rb;obtain rfl:w=.none:=ry;exact⟨SeqAt.EqAt.same _,SeqAt.RcAt.none_none⟩
   | bl b2=>
     cases rb;obtain rfl:w=.bool b2:=ry;exact⟨SeqAt.EqAt.none_bool _,SeqAt.RcAt.none_bool _⟩
   | int i2=>
     cases rb;obtain⟨t2,rfl⟩:=ry;exact⟨SeqAt.EqAt.none_int _ _,SeqAt.RcAt.none_int _ _⟩
   | str z2=>
     cases rb;obtain⟨t2,rfl⟩:=ry;exact⟨SeqAt.EqAt.none_str _ _,SeqAt.RcAt.none_str _ _⟩
 | bl b1=>
   cases ra;obtain rfl:u=.bool b1:=rx
   cases db with
   | dct _ _=>exact(gu sb).elim
   | dcn _=>exact(gv sb).elim
   | tup _=>exact nomatch sb
   | lst _=>exact nomatch sb
   | non=>
     cases rb;obtain rfl:w=.none:=ry;exact⟨SeqAt.EqAt.bool_none _,SeqAt.RcAt.bool_none _⟩
   | bl b2=>
     cases rb;obtain rfl:w=.bool b2:=ry;exact⟨SeqAt.EqAt.bool_bool _ _,SeqAt.RcAt.bool_bool _ _⟩
   | int i2=>
     cases rb;obtain⟨t2,rfl⟩:=ry;exact⟨SeqAt.EqAt.bool_int _ _ _,SeqAt.RcAt.bool_int _ _ _⟩
   | str z2=>
     cases rb;obtain⟨t2,rfl⟩:=ry;exact⟨SeqAt.EqAt.bool_str _ _ _,SeqAt.RcAt.bool_str _ _ _⟩
 | int i1=>
   cases ra;obtain⟨t1,rfl⟩:=rx
   cases db with
   | dct _ _=>exact(gu sb).elim
   | dcn _=>exact(gv sb).elim
   | tup _=>exact nomatch sb
   | lst _=>exact nomatch sb
   | non=>
     cases rb;obtain rfl:w=.none:=ry;exact⟨SeqAt.EqAt.int_none _ _,SeqAt.RcAt.int_none _ _⟩
   | bl b2=>
     cases rb;obtain rfl:w=.bool b2:=ry;exact⟨SeqAt.EqAt.int_bool _ _ _,SeqAt.RcAt.int_bool _ _ _⟩
   | int i2=>
     cases rb;obtain⟨t2,rfl⟩:=ry;exact⟨SeqAt.EqAt.int_int _ _ _ _,SeqAt.RcAt.int_int _ _ _ _⟩
   | str z2=>
     cases rb;obtain⟨t2,rfl⟩:=ry;exact⟨wZ _ _ _ _,SeqAt.RcAt.int_str _ _ _ _⟩
 | str z1=>
   cases ra;obtain⟨t1,rfl⟩:=rx
   cases db with
   | dct _ _=>exact(gu sb).elim
   | dcn _=>exact(gv sb).elim
   | tup _=>exact nomatch sb
   | lst _=>exact nomatch sb
   | non=>
     cases rb;obtain rfl:w=.none:=ry;exact⟨SeqAt.EqAt.str_none _ _,SeqAt.RcAt.str_none _ _⟩
   | bl b2=>
     cases rb;obtain rfl:w=.bool b2:=ry;exact⟨SeqAt.EqAt.str_bool _ _ _,SeqAt.RcAt.str_bool _ _ _⟩
   | int i2=>
     cases rb;obtain⟨t2,rfl⟩:=ry;exact⟨wY _ _ _ _,SeqAt.RcAt.str_int _ _ _ _⟩
   | str z2=>
     cases rb;obtain⟨t2,rfl⟩:=ry;exact⟨SeqAt.EqAt.str_str _ _ _ _,SeqAt.RcAt.str_str _ _ _ _⟩
theorem tN(I:Inv X pins σ H s)(g:Good F H):∀(n:Nat) (A:bC) (da db:Dat) {x y:V} {u w:ab},A.units+n<dS->iC n da=true->iC n db=true->Rep X.K F da x->Rep X.K F db y->RelV x u->RelV y w->
  nD A s u w (nA da db)/\ug A s u w (nA da db):=by
 intro n
 induction n with
 | zero=>exact fun A da db x y u w hu sa sb ra rb rx ry=>zg I g A hu sa sb ra rb rx ry
 | succ n ih=>
   intro A da db x y u w hu sa sb ra rb rx ry;have hu0:A.units<dS:=by omega
   have hu1:A.in1.units+n<dS:=by show A.units+1+n<dS;omega
   have items:∀{ds es:List Dat} {vs us:List V} {its its2:List ab},fR n ds=true->fR n es=true->cR X.K F ds vs->cR X.K F es us->cL vs its->cL us its2->
     ∀j (h1:j<its.toArray.size) (h2:j<its2.toArray.size),nD A.in1 s its.toArray[j] its2.toArray[j] (nA (ds.getD j .non) (es.getD j .non)):=by
    intro ds es vs us its its2 s1 s2 r1 r2 w1 w2 j h1 h2;obtain⟨v,e1,q1⟩:=rH w1 h1;obtain⟨v',e2,q2⟩:=rH w2 h2;have l1:j<ds.length:=by have:=r1.length;have:=(be.mp e1).1;omega
    have l2:j<es.length:=by have:=r2.length;have:=(be.mp e2).1;omega
    obtain⟨z1,f1,p1⟩:=r1.get (af l1);obtain⟨z2,f2,p2⟩:=r2.get (af l2);rw[e1]at f1;cases f1;rw[e2]at f2;cases f2;have g1:ds.getD j .non=ds[j]:=by simp[xF,l1]
    have g2:es.getD j .non=es[j]:=by simp[xF,l2]
    rw[g1,g2];exact(ih A.in1 _ _ hu1 (kH s1 (af l1)) (kH s2 (af l2)) p1 p2 q1 q2).1
   have both:∀{p q:ag} {k:Bool},x=.ref p->y=.ref q->ug A s (.ref p) (.ref q) k->k=nA da db->nD A s u w (nA da db)/\ug A s u w (nA da db):=by
    intro p q k e1 e2 h hk;subst e1 e2;obtain rfl:u=.ref p:=rx;obtain rfl:w=.ref q:=ry;subst hk;refine⟨?_,h⟩;by_cases hpq:p=q
    ·subst hpq;rw[xU I g da db (sV _ _ sa) (sV _ _ sb) ra rb];exact .same _
    ·exact .of_refs hpq h
   cases da with
   | dct _ _=>exact(gu sa).elim
   | dcn _=>exact(gv sa).elim
   | tup ds=>
     obtain⟨p,vs,rfl,t,r⟩:=id ra;obtain⟨its,w1,pl,_⟩:=I.tupR g t;obtain rfl:u=.ref p:=rx
     cases db with
     | dct _ _=>exact(gu sb).elim
     | dcn _=>exact(gv sb).elim
     | tup es=>
       obtain⟨q,us,rfl,t',r'⟩:=id rb;obtain⟨its2,w2,pl2,_⟩:=I.tupR g t';refine both rfl rfl (SeqAt.RcAt.tuples pl pl2 hu0 (items sa sb r r' w1 w2)) ?_;simp only[nA];rw[iY];have e1:its.toArray.size=ds.length:=by rw[aH,<-w1.length,r.length]
       have e2:its2.toArray.size=es.length:=by rw[aH,<-w2.length,r'.length]
       rw[e1,e2]
     | lst es=>
       obtain⟨q,us,rfl,t',r'⟩:=id rb;obtain⟨its2,w2,pl2,_⟩:=I.lstR g t';exact both rfl rfl (SeqAt.RcAt.tuple_list pl pl2.isList hu0) rfl
     | non=>obtain rfl:w=.none:=by cases rb;exact ry
            exact⟨.tuple_none pl hu0,.tuple_none pl hu0⟩
     | bl b=>obtain rfl:w=.bool b:=by cases rb;exact ry
             exact⟨.tuple_bool _ pl hu0,.tuple_bool _ pl hu0⟩
     | int i=>obtain⟨t2,rfl⟩:∃t,w=.int i t:=by cases rb;exact ry
              exact⟨.tuple_int _ _ pl hu0,.tuple_int _ _ pl hu0⟩
     | str i=>obtain⟨t2,rfl⟩:∃t,w=.str i t:=by cases rb;exact ry
              exact⟨.tuple_str _ _ pl hu0,.tuple_str _ _ pl hu0⟩
   | lst ds=>
     obtain⟨p,vs,rfl,t,r⟩:=id ra;obtain⟨its,w1,pl,_⟩:=I.lstR g t;obtain rfl:u=.ref p:=rx;have pl':=pl.isList
     cases db with
     | dct _ _=>exact(gu sb).elim
     | dcn _=>exact(gv sb).elim
     | lst es=>
       obtain⟨q,us,rfl,t',r'⟩:=id rb;obtain⟨its2,w2,pl2,_⟩:=I.lstR g t';have e1:its.toArray.size=ds.length:=by rw[aH,<-w1.length,r.length]
       have e2:its2.toArray.size=es.length:=by rw[aH,<-w2.length,r'.length]
       by_cases hsz:its.toArray.size=its2.toArray.size
       ·refine both rfl rfl (SeqAt.RcAt.lists pl' pl2.isList hsz hu0 (items sa sb r r' w1 w2)) ?_;simp only[nA];rw[iY];have e3:ds.length=es.length:=by rw[<-e1,<-e2];exact hsz
        rw[e1,e3,Aa];simp
       ·refine both rfl rfl (SeqAt.RcAt.lists_lengths pl' pl2.isList (by simpa using hsz) hu0) ?_;simp only[nA];rw[iY];have e3:(ds.length == es.length)=false:=by simpa [<-e1,<-e2]using hsz
        rw[e3,lJ]
     | tup es=>
       obtain⟨q,us,rfl,t',r'⟩:=id rb;obtain⟨its2,w2,pl2,_⟩:=I.tupR g t';exact both rfl rfl (SeqAt.RcAt.list_tuple pl' pl2 hu0) rfl
     | non=>obtain rfl:w=.none:=by cases rb;exact ry
            exact⟨.list_none pl' hu0,.list_none pl' hu0⟩
     | bl b=>obtain rfl:w=.bool b:=by cases rb;exact ry
             exact⟨.list_bool _ pl' hu0,.list_bool _ pl' hu0⟩
     | int i=>obtain⟨t2,rfl⟩:∃t,w=.int i t:=by cases rb;exact ry
              exact⟨.list_int _ _ pl' hu0,.list_int _ _ pl' hu0⟩
     | str i=>obtain⟨t2,rfl⟩:∃t,w=.str i t:=by cases rb;exact ry
              exact⟨.list_str _ _ pl' hu0,.list_str _ _ pl' hu0⟩
   | non=>
     cases ra;obtain rfl:u=.none:=rx
     cases db with
     | dct _ _=>exact(gu sb).elim
     | dcn _=>exact(gv sb).elim
     | tup es=>
       obtain⟨q,us,rfl,t',r'⟩:=id rb;obtain⟨its2,w2,pl2,_⟩:=I.tupR g t';obtain rfl:w=.ref q:=ry;exact⟨.none_tuple pl2 hu0,.none_tuple pl2 hu0⟩
     | lst es=>
       obtain⟨q,us,rfl,t',r'⟩:=id rb;obtain⟨its2,w2,pl2,_⟩:=I.lstR g t';obtain rfl:w=.ref q:=ry;exact⟨.none_list pl2.isList hu0,.none_list pl2.isList hu0⟩
     | _=>exact zg I g A hu0 (by rfl) (by rfl) (show Rep X.K F .non .non from rfl) rb rfl ry
   | bl b=>
     cases ra;obtain rfl:u=.bool b:=rx
     cases db with
     | dct _ _=>exact(gu sb).elim
     | dcn _=>exact(gv sb).elim
     | tup es=>
       obtain⟨q,us,rfl,t',r'⟩:=id rb;obtain⟨its2,w2,pl2,_⟩:=I.tupR g t';obtain rfl:w=.ref q:=ry;exact⟨.bool_tuple _ pl2 hu0,.bool_tuple _ pl2 hu0⟩
     | lst es=>
       obtain⟨q,us,rfl,t',r'⟩:=id rb;obtain⟨its2,w2,pl2,_⟩:=I.lstR g t';obtain rfl:w=.ref q:=ry;exact⟨.bool_list _ pl2.isList hu0,.bool_list _ pl2.isList hu0⟩
     | _=>exact zg I g A hu0 (by rfl) (by rfl) (show Rep X.K F (.bl b) (.bl b)from rfl) rb rfl ry
   | int i=>
     cases ra;obtain⟨t1,rfl⟩:=rx
     cases db with
     | dct _ _=>exact(gu sb).elim
     | dcn _=>exact(gv sb).elim
     | tup es=>
       obtain⟨q,us,rfl,t',r'⟩:=id rb;obtain⟨its2,w2,pl2,_⟩:=I.tupR g t';obtain rfl:w=.ref q:=ry;exact⟨.int_tuple _ _ pl2 hu0,.int_tuple _ _ pl2 hu0⟩
     | lst es=>
       obtain⟨q,us,rfl,t',r'⟩:=id rb;obtain⟨its2,w2,pl2,_⟩:=I.lstR g t';obtain rfl:w=.ref q:=ry;exact⟨.int_list _ _ pl2.isList hu0,.int_list _ _ pl2.isList hu0⟩
     | _=>exact zg I g A hu0 (by rfl) (by rfl) (show Rep X.K F (.int i) (.int i)from rfl) rb ⟨t1,rfl⟩ ry
   | str i=>
     cases ra;obtain⟨t1,rfl⟩:=rx
     cases db with
     | dct _ _=>exact(gu sb).elim
     | dcn _=>exact(gv sb).elim
     | tup es=>
       obtain⟨q,us,rfl,t',r'⟩:=id rb;obtain⟨its2,w2,pl2,_⟩:=I.tupR g t';obtain rfl:w=.ref q:=ry;exact⟨.str_tuple _ _ pl2 hu0,.str_tuple _ _ pl2 hu0⟩
     | lst es=>
       obtain⟨q,us,rfl,t',r'⟩:=id rb;obtain⟨its2,w2,pl2,_⟩:=I.lstR g t';obtain rfl:w=.ref q:=ry;exact⟨.str_list _ _ pl2.isList hu0,.str_list _ _ pl2.isList hu0⟩
     | _=>exact zg I g A hu0 (by rfl) (by rfl) (show Rep X.K F (.str i) (.str i)from rfl) rb ⟨t1,rfl⟩ ry
end
section
variable{X:Cx}{C:Fs}{a b c e:aO}{xa xb xc:Ex}{pos:fS}{es:List aO}{xs:List Ex}{pins:List (ag×fe)}{σ:St}{F H:Hp}{s:ae}
theorem Cf{α β:Type}{a a':α}{b b':β}(h:some (a,b)=some (a',b')):a=a'/\b=b':=by cases h;exact⟨rfl,rfl⟩
theorem Hn:kM X (binaryOp .Add) (fun x y H Q=>∃a b ys,x=.ref a/\y=.ref b/\rV X.K H a []/\rV X.K H b ys/\Q (.ref b) H):=by
 intro pins s σ H x y v u Q I rx ry h;obtain⟨a,b,ys,rfl,rfl,ha,hb,q⟩:=h;cases rx;cases ry;obtain⟨its,r1,p1,_⟩:=I.tuple ha;obtain⟨its2,r2,p2,_⟩:=I.tuple hb;cases r1;obtain⟨⟨cls,dd,data,sl⟩,ho,hc,n,hd⟩:=id p1;obtain⟨⟨cls2,dd2,data2,uD⟩,ho2,hc2,n2,hd2⟩:=id p2;simp only at hc hd hc2 hd2;subst hc hd hc2 hd2;exact uc ⟨_,ho,rfl⟩ ⟨_,ho2,rfl⟩ vQ DK mN mr (lS _ _) (tuple_addW0 a b _ its2.toArray n n2 dd dd2 sl uD rfl) ⟨ho,ho2,.ref b,H,I,rfl,q⟩
theorem Lo:kM X (binaryOp .Add) (gB X.K (gm .add)):=by
 intro pins s σ H x y v u Q I rx ry h;obtain⟨da,db,d,fr,h,F,g,ra,rb,k⟩:=h;cases da<;>cases db<;>simp only[gm,zS,BP,BM,reduceCtorEq]at h
 ·obtain⟨rfl,rfl⟩:=Cf h;exact Pe pins s σ H _ _ v u Q I rx ry ⟨_,_,ra,rb,k _ F H (Step.refl g) rfl bV⟩
 ·split at h
  ·rename_i hz;obtain⟨rfl,rfl⟩:=Cf h;exact AS pins s σ H _ _ v u Q I rx ry ⟨_,_,ra,rb,hz,k _ F H (Step.refl g) rfl bV⟩
  ·cases h
 ·split at h
  ·rename_i xs ys hz;obtain⟨rfl,rfl⟩:=Cf h;obtain⟨p,vs,rfl,t,r⟩:=ra;obtain⟨q,us,rfl,t',r'⟩:=rb;by_cases hv:vs=[]
   ·subst hv;have e:xs=[]:=r8 r.length.symm;subst e;exact Hn pins s σ H _ _ v u Q I rx ry ⟨p,q,us,rfl,rfl,(t.mono g.sub).sq,(t'.mono g.sub).sq,k _ F H (Step.refl g) ⟨q,us,rfl,t',r'⟩ bV⟩
   refine Lm pins s σ H _ _ v u Q I rx ry ⟨p,q,vs,us,rfl,rfl,(t.mono g.sub).sq,(t'.mono g.sub).sq,hv,?_,?_,?_⟩
   ·rw[r.length,r'.length];exact hz
   ·intro z;subst z;have:=r'.length;have e:ys=[]:=r8 this.symm;subst e;refine k _ F H (Step.refl g) ⟨p,vs,rfl,t,?_⟩ bV;rw[aL];exact r
   ·intro _ l hl;exact k _ _ _ (Step.alloc g hl) ⟨l,vs++us,rfl,.inl cJ,(r.append r').mono (cu.upd (g.sub.free hl))⟩ bV
  ·cases h
 ·split at h
  ·rename_i xs ys hz;obtain⟨rfl,rfl⟩:=Cf h;obtain⟨p,vs,rfl,t,r⟩:=ra;obtain⟨q,us,rfl,t',r'⟩:=rb;obtain⟨its,w1,pl,_⟩:=I.lstR g t;obtain⟨its2,w2,pl2,_⟩:=I.lstR g t';obtain rfl:v=.ref p:=rx;obtain rfl:u=.ref q:=ry;obtain⟨⟨cls,dd,data,sl⟩,ho,hc,n,hd⟩:=pl.isList;obtain⟨⟨cls2,dd2,data2,uD⟩,ho2,hc2,n2,hd2⟩:=pl2.isList;simp only at hc hd hc2 hd2;subst hc hd hc2 hd2;refine uc ⟨_,ho,rfl⟩ ⟨_,ho2,rfl⟩ noFill_list_add seq_list_add PySem.F.slot_list_add PySem.F.entry_list_add (PySem.F.args_list_add_2 _ _) (list_addW p q its.toArray its2.toArray n n2 dd dd2 sl uD (by rw[aH,aH,<-w1.length,<-w2.length,r.length,r'.length];exact hz)) ⟨ho,ho2,?_⟩;have ea:its.toArray++its2.toArray=(its++its2).toArray:=by simp
   rw[ea];have hz':(vs++us).length<=aP:=by rw[ak,r.length,r'.length];exact hz
   have r2:=(r.append r').mono (cu.upd (o:=.lst (vs++us)) (g.sub.free I.fresh));exact⟨.ref _,_,I.VF (t':=s.toks) (w1.append w2) hz',rfl,k _ _ _ (Step.alloc g I.fresh) ⟨_,vs++us,rfl,.inl (.inl cJ),r2⟩ fun z=>.lst (cu.refl _) I.fresh (.lK g z (r.append r'))⟩
  ·cases h
theorem Ho{op:uh}{o:NZ}{Cd:Int->Int->Prop}{f:Int->Int->Int}(h:kM X (binaryOp op) (rI Cd fun i j=>.int (f i j)))
  (hb:∀da db d fr,gm o da db=some (d,fr)->∃i j,da=.int i/\db=.int j/\Cd i j/\d=.int (f i j)/\fr=false):kM X (binaryOp op) (gB X.K (gm o)):=
 kM.imp h fun x y H Q z4=>by
  obtain⟨da,db,d,fr,h,F,g,ra,rb,k⟩:=z4;obtain⟨i,j,rfl,rfl,hc,rfl,rfl⟩:=hb da db d fr h;exact⟨i,j,ra,rb,hc,k _ F H (Step.refl g) rfl bV⟩
theorem Pf{op:uh}{o:NZ}{f:Int->Int->Int}(h:kM X (binaryOp op) (OK fun i j=>.int (f i j)))
  (hb:∀da db d fr,gm o da db=some (d,fr)->∃i j,da=.int i/\db=.int j/\d=.int (f i j)/\fr=false):kM X (binaryOp op) (gB X.K (gm o)):=
 kM.imp h fun x y H Q z4=>by
  obtain⟨da,db,d,fr,h,F,g,ra,rb,k⟩:=z4;obtain⟨i,j,rfl,rfl,rfl,rfl⟩:=hb da db d fr h;exact⟨i,j,ra,rb,k _ F H (Step.refl g) rfl bV⟩
theorem Ln:kM X (binaryOp .BitAnd) (gB X.K (gm .band)):=Pf Pd fun da db d fr h=>by
 cases da<;>cases db<;>simp only[gm,zS,BP,BM,reduceCtorEq]at h
 cases h;exact⟨_,_,rfl,rfl,rfl,rfl⟩
theorem Li:kM X (binaryOp .Mult) (gB X.K (gm .mul)):=by
 intro pins s σ H x y v u Q I rx ry h;obtain⟨da,db,d,fr,h,F,g,ra,rb,k⟩:=h;cases da<;>cases db<;>simp only[gm,zS,BP,BM,reduceCtorEq]at h
 ·split at h
  ·rename_i hz;cases h;exact O7 pins s σ H _ _ v u Q I rx ry ⟨_,_,ra,rb,hz,k _ F H (Step.refl g) rfl bV⟩
  ·cases h
 ·split at h
  ·rename_i z j hz;cases h;rw[show x=.str z from ra]at rx;rw[show y=.int j from rb]at ry;obtain⟨t,rfl⟩:=rx;obtain⟨t',rfl⟩:=ry;exact PySem.SB.mul hz fun t2 k2=>⟨.str _,H,I.tok k2,⟨t2,rfl⟩,k _ F H (Step.refl g) rfl bV⟩
  ·cases h
theorem Hm:kM X (binaryOp .FloorDiv) (gB X.K (gm .fdiv)):=Ho Ll fun da db d fr h=>by
 cases da<;>cases db<;>simp only[gm,zS,BP,BM,reduceCtorEq]at h
 split at h
 ·rename_i hz;cases h;exact⟨_,_,rfl,rfl,hz,rfl,rfl⟩
 ·cases h
theorem Lj:kM X (binaryOp .Mod) (gB X.K (gm .mod)):=Ho O8 fun da db d fr h=>by
 cases da<;>cases db<;>simp only[gm,zS,BP,BM,reduceCtorEq]at h
 split at h
 ·rename_i hz;cases h;exact⟨_,_,rfl,rfl,hz,rfl,rfl⟩
 ·cases h
theorem Lg:kM X (binaryOp .RShift) (gB X.K (gm .shr)):=Ho O5 fun da db d fr h=>by
 cases da<;>cases db<;>simp only[gm,zS,BP,BM,reduceCtorEq]at h
 split at h
 ·rename_i hz;cases h;exact⟨_,_,rfl,rfl,hz,rfl,rfl⟩
 ·cases h
theorem kL{o:JL}{da db d:Dat}{fr:Bool}(h:rz o da db=some (d,fr)):∃b,dt o da db=some b/\d=.bl b/\fr=false:=by
 obtain⟨b,h1,h2⟩:=fM h;cases h2;exact⟨b,h1,rfl,rfl⟩
theorem Qw{op:xj}{o:JL}{f:Int->Int->Bool}(h:kM X (compareOp op) (OK fun i j=>.bl (f i j)))(hb:∀da db b,dt o da db=some b->∃i j,da=.int i/\db=.int j/\b=f i j):kM X (compareOp op) (gB X.K (rz o)):=
 kM.imp h fun x y H Q z4=>by
  obtain⟨da,db,d,fr,h,F,g,ra,rb,k⟩:=z4;obtain⟨b,hd,rfl,rfl⟩:=kL h;obtain⟨i,j,rfl,rfl,rfl⟩:=hb da db b hd;exact⟨i,j,ra,rb,k _ F H (Step.refl g) rfl bV⟩
theorem Pb:kM X (compareOp .Gt) (gB X.K (rz .gt)):=Qw Sa fun da db b h=>by
 cases da<;>cases db<;>simp only[dt,IZ,NL,zu,ME,reduceCtorEq]at h
 cases h;exact⟨_,_,rfl,rfl,rfl⟩
theorem Pc(hu:X.A.units+20<dS):kM X (compareOp .Eq) (gB X.K (rz .eq)):=fun pins s σ H x y v u Q I rx ry z12=>by
 obtain⟨da,db,d,fr,h,F,g,ra,rb,k⟩:=z12;obtain⟨b,hd,rfl,rfl⟩:=kL h;simp only[dt,IZ,NL,zu,ME]at hd;split at hd
 ·rename_i hs;cases hd;simp only[aF]at hs;exact(tN I g 20 X.A da db hu hs.1 hs.2 ra rb rx ry).2 X.prog X.w _ _ ⟨.bl _,H,I,rfl,k _ F H (Step.refl g) rfl bV⟩
 ·cases hd
end
structure Ow(K:Fg)(H₀ F H:Hp)(σ:St)(ρ:dk)(Ss:Nat->List ag):Prop where
 own:∀(i:Nat) d,ρ[i]? = some (some (d,true))->∃v,σ[i]? = some (some v)/\oE K H d v (Ss i)/\(Ss i).Nodup/\∀a∈Ss i,F a=none/\H₀ a=none
 sep:∀(i j:Nat) d d',i≠j->ρ[i]? = some (some (d,true))->ρ[j]? = some (some (d',true))->∀a∈Ss i,a∉Ss j
structure Rl(K:Fg)(Fz H₀ F H:Hp)(σ:St)(ρ:dk):Prop where
 step:Step Fz H₀ F H
 len:σ.length=ρ.length
 val:∀(i:Nat) d,ρ[i]? = some (some (d,false))->∃v,σ[i]? = some (some v)/\Rep K F d v
 ow:∃Ss,Ow K H₀ F H σ ρ Ss
section
variable{K:Fg}{Fz H₀ F H F' H':Hp}{σ:St}{ρ:dk}
theorem J7{i:Nat}{d:Dat}(h:(xq ρ)[i]? = some (some d)):ρ[i]? = some (some (d,false)):=by
 unfold xq at h;rw[bx]at h
 cases q:ρ[i]? with
 | none=>rw[q]at h;cases h
 | some o=>
   rw[q]at h;have h':=bw h
   cases o with
   | none=>cases h'
   | some z=>
     obtain⟨d',b⟩:=z
     cases b with
     | true=>cases h'
     | false=>cases h';rfl
theorem Rl.xq(R:Rl K Fz H₀ F H σ ρ):me K F σ (xq ρ):=fun i d e=>R.val i d (J7 e)
theorem Ow.moved{Ss:Nat->List ag}(O:Ow K H₀ F H σ ρ Ss)(st:Step F H F' H'):Ow K H₀ F' H' σ ρ Ss where
 own:=fun i d e=>by
  obtain⟨v,q1,q2,q3,q4⟩:=O.own i d e;refine⟨v,q1,q2.mono st.hh,q3,fun a m=>⟨?_,(q4 a m).2⟩⟩;obtain⟨o,ho,_⟩:=q2.xu _ a m;exact st.un a o ho (q4 a m).1
 sep:=O.sep
theorem Rl.moved(R:Rl K Fz H₀ F H σ ρ)(st:Step F H F' H'):Rl K Fz H₀ F' H' σ ρ where
 step:=R.step.trans st
 len:=R.len
 val:=fun i d e=>let ⟨v,q1,q2⟩:=R.val i d e;⟨v,q1,q2.mono st.ff⟩
 ow:=let ⟨Ss,O⟩:=R.ow;⟨Ss,O.moved st⟩
theorem CP(i j:Nat)(f:Option (Dat×Bool)->Option (Dat×Bool)):(ρ.modify i f)[j]? = if i=j then(ρ[j]?).map f else ρ[j]? :=by
 rw[List.getElem?_modify];by_cases h:i=j
 ·simp only[h,if_true];rfl
 ·simp only[h,if_false];cases ρ[j]?<;>rfl
theorem i7{i j:Nat}{d:Dat}{b:Bool}(q:(ρ.modify i fun o=>o.map fun s=>(s.1,false))[j]? = some (some (d,b))):(i=j/\b=false/\∃b',ρ[j]? = some (some (d,b')))\/(i≠j/\ρ[j]? = some (some (d,b))):=by
 rw[CP]at q;by_cases h:i=j
 ·rw[if_pos h]at q;refine .inl ⟨h,?_⟩
  cases z:ρ[j]? with
  | none=>rw[z]at q;cases q
  | some o=>
    rw[z]at q
    cases o with
    | none=>cases q
    | some s=>cases q;exact⟨rfl,s.2,rfl⟩
 ·rw[if_neg h]at q;exact .inr ⟨h,q⟩
theorem Rl.Mg(R:Rl K Fz H₀ F H σ ρ)(i:Nat):∃F',cu F F'/\Rl K Fz H₀ F' H σ (ρ.modify i fun o=>o.map fun s=>(s.1,false)):=by
 obtain⟨Ss,O⟩:=R.ow;by_cases ho:∃d,ρ[i]? = some (some (d,true))
 ·obtain⟨d,ho⟩:=ho;obtain⟨v,e1,e2,e3,e4⟩:=O.own i d ho;have sF:cu F (fz F H (Ss i)):=qK R.step.good.sub;refine⟨fz F H (Ss i),sF,⟨⟨wH R.step.good,R.step.ff.trans sF,R.step.hh,fun a o q n=>?_⟩,?_,fun j d' q=>?_,Ss,fun j d' q=>?_,fun j k d1 d2 hjk q1 q2=>?_⟩⟩
  ·rw[qL fun m=>?_]
   ·exact R.step.un a o q n
   ·rw[(e4 a m).2]at q;cases q
  ·rw[Fw];exact R.len
  ·rcases i7 q with⟨rfl,_,b',q'⟩|⟨_,q'⟩
   ·rw[ho]at q';cases q';exact⟨v,e1,e2.lL R.step.good d fun a m=>m⟩
   ·obtain⟨w,g1,g2⟩:=R.val j d' q';exact⟨w,g1,g2.mono sF⟩
  ·rcases i7 q with⟨_,z,_⟩|⟨hne,q'⟩
   ·cases z
   ·obtain⟨w,g1,g2,g3,g4⟩:=O.own j d' q';refine⟨w,g1,g2,g3,fun a m=>⟨?_,(g4 a m).2⟩⟩;rw[qL (O.sep j i d' d (fD hne) q' ho a m)];exact(g4 a m).1
  ·rcases i7 q1 with⟨_,z,_⟩|⟨_,q1'⟩
   ·cases z
   ·rcases i7 q2 with⟨_,z,_⟩|⟨_,q2'⟩
    ·cases z
    ·exact O.sep j k d1 d2 hjk q1' q2'
 ·refine⟨F,cu.refl _,⟨R.step,by rw[Fw];exact R.len,fun j d' q=>?_,Ss,fun j d' q=>?_,fun j k d1 d2 hjk q1 q2=>?_⟩⟩
  ·rcases i7 q with⟨rfl,_,b',q'⟩|⟨_,q'⟩
   ·cases b' with
    | true=>exact absurd ⟨_,q'⟩ ho
    | false=>exact R.val _ d' q'
   ·exact R.val j d' q'
  ·rcases i7 q with⟨_,z,_⟩|⟨_,q'⟩
   ·cases z
   ·exact O.own j d' q'
  ·rcases i7 q1 with⟨_,z,_⟩|⟨_,q1'⟩
   ·cases z
   ·rcases i7 q2 with⟨_,z,_⟩|⟨_,q2'⟩
    ·cases z
    ·exact O.sep j k d1 d2 hjk q1' q2'
theorem Rl.freeze(R:Rl K Fz H₀ F H σ ρ):∀is:List Nat,∃F',cu F F'/\Rl K Fz H₀ F' H σ (lL is ρ):=by
 intro is
 induction is generalizing F ρ with
 | nil=>exact⟨F,cu.refl _,R⟩
 | cons i is ih=>
   obtain⟨F1,s1,R1⟩:=R.Mg i;obtain⟨F2,s2,R2⟩:=ih R1;exact⟨F2,s1.trans s2,R2⟩
theorem Dh:∀(is:List Nat) (ρ:dk) (j:Nat),(lL is ρ)[j]? = if j∈is then(ρ[j]?).map (fun o=>o.map fun s=>(s.1,false))else ρ[j]?
 | [],ρ,j=>by simp[lL]
 | i::is,ρ,j=>by
   have e:lL (i::is) ρ=lL is (ρ.modify i fun o=>o.map fun s=>(s.1,false)):=rfl;rw[e,Dh is,CP];by_cases h:i=j
   ·subst h;rw[if_pos rfl,if_pos (ja)];by_cases m:i∈is
    ·rw[if_pos m]
     cases ρ[i]? with
     | none=>rfl
     | some o=>cases o<;>rfl
    ·rw[if_neg m]
   ·rw[if_neg h];by_cases m:j∈is
    ·rw[if_pos m,if_pos (jt _ m)]
    ·rw[if_neg m,if_neg fun z=>(ao.mp z).elim (fun z=>h z.symm) m]
theorem EU:lL (aT ρ.length) ρ=qM ρ:=by
 apply qS;intro j;rw[Dh];unfold qM;rw[bx];by_cases h:j∈aT ρ.length
 ·rw[if_pos h]
 ·rw[if_neg h];have:ρ[j]? = none:=jZ (by simpa using h);rw[this];rfl
theorem Rl.mF(R:Rl K Fz H₀ F H σ ρ):∃F',cu F F'/\Rl K Fz H₀ F' H σ (qM ρ):=by
 obtain⟨F',s,R'⟩:=R.freeze (aT ρ.length);rw[EU]at R';exact⟨F',s,R'⟩
theorem hE{i j:Nat}{x:Option (Dat×Bool)}{d:Dat}{b:Bool}(q:(ρ.set i x)[j]? = some (some (d,b))):(i=j/\x=some (d,b))\/(i≠j/\ρ[j]? = some (some (d,b))):=by
 rw[qQ]at q;by_cases h:i=j
 ·rw[if_pos h]at q;split at q
  ·exact .inl ⟨h,bw q⟩
  ·cases q
 ·rw[if_neg h]at q;exact .inr ⟨h,q⟩
theorem Na{i:Nat}{v:V}(hl:i<σ.length):(σ.set i (some v))[i]? = some (some v):=nL hl
theorem vg{i:Nat}{x:Option (Dat×Bool)}{y:Option (Dat×Bool)}(q:(ρ.set i x)[i]? = some y):i<ρ.length:=by
 rw[qQ,if_pos rfl]at q;split at q
 ·assumption
 ·cases q
theorem Rl.AB{i:Nat}{d:Dat}{v:V}(R:Rl K Fz H₀ F H σ ρ)(r:Rep K F d v):Rl K Fz H₀ F H (σ.set i (some v)) (ρ.set i (some (d,false))):=by
 obtain⟨Ss,O⟩:=R.ow;refine⟨R.step,by simpa using R.len,fun j d' q=>?_,Ss,fun j d' q=>?_,fun j k d1 d2 hjk q1 q2=>?_⟩
 ·rcases hE q with⟨rfl,e⟩|⟨hne,q'⟩
  ·cases e;exact⟨v,Na (by rw[R.len];exact vg q),r⟩
  ·obtain⟨w,g1,g2⟩:=R.val j d' q';exact⟨w,by rw[eY hne];exact g1,g2⟩
 ·rcases hE q with⟨rfl,e⟩|⟨hne,q'⟩
  ·cases e
  ·obtain⟨w,g1,g2⟩:=O.own j d' q';exact⟨w,by rw[eY hne];exact g1,g2⟩
 ·rcases hE q1 with⟨_,e⟩|⟨_,q1'⟩
  ·cases e
  ·rcases hE q2 with⟨_,e⟩|⟨_,q2'⟩
   ·cases e
   ·exact O.sep j k d1 d2 hjk q1' q2'
theorem Rl.Ou{i:Nat}{d:Dat}{v:V}{S:List ag}{Ss:Nat->List ag}(R:Rl K Fz H₀ F H σ ρ)(O:Ow K H₀ F H σ ρ Ss)(o:oE K H d v S)(nd:S.Nodup)(hS:∀a∈S,F a=none/\H₀ a=none)
  (hsep:∀(j:Nat) d',i≠j->ρ[j]? = some (some (d',true))->∀a∈Ss j,a∉S):Rl K Fz H₀ F H (σ.set i (some v)) (ρ.set i (some (d,true))):=by
 refine⟨R.step,by simpa using R.len,fun j d' q=>?_,fun j=>if j=i then S else Ss j,fun j d' q=>?_,fun j k d1 d2 hjk q1 q2=>?_⟩
 ·rcases hE q with⟨rfl,e⟩|⟨hne,q'⟩
  ·cases e
  ·obtain⟨w,g1,g2⟩:=R.val j d' q';exact⟨w,by rw[eY hne];exact g1,g2⟩
 ·rcases hE q with⟨rfl,e⟩|⟨hne,q'⟩
  ·cases e;rw[if_pos rfl];exact⟨v,Na (by rw[R.len];exact vg q),o,nd,hS⟩
  ·obtain⟨w,g1,g2⟩:=O.own j d' q';rw[if_neg (fD hne)];exact⟨w,by rw[eY hne];exact g1,g2⟩
 ·intro a m
  rcases hE q1 with⟨rfl,e⟩|⟨h1,q1'⟩
  ·rw[if_pos rfl]at m
   rcases hE q2 with⟨e2,_⟩|⟨h2,q2'⟩
   ·exact absurd e2 hjk
   ·rw[if_neg (fD h2)];exact fun m'=>hsep k d2 h2 q2' a m' m
  ·rw[if_neg (fD h1)]at m
   rcases hE q2 with⟨rfl,e⟩|⟨h2,q2'⟩
   ·rw[if_pos rfl];exact hsep j d1 h1 q1' a m
   ·rw[if_neg (fD h2)];exact O.sep j k d1 d2 hjk q1' q2' a m
theorem Rl.full{K:Fg}{Fz H₀ F H:Hp}{σ:St}{ρ:dk}(R:Rl K Fz H₀ F H σ (qM ρ)):me K F σ (M.full ρ):=by rw[<-Ag];exact R.xq
noncomputable def uz(F:Hp)(S:List ag):Hp:=fun a=>if a∈S then none else F a
theorem uX{F:Hp}{S:List ag}{a:ag}(h:a∈S):uz F S a=none:=if_pos h
theorem nV{F:Hp}{S:List ag}{a:ag}(h:a∉S):uz F S a=F a:=if_neg h
theorem Step.UX{S:List ag}{d:Dat}{v:V}(st:Step F H F' H')(g:Good F H)(hS:∀a∈S,H a=none)(o:oE K H' d v S):Step F H (uz F' S) H':=by
 refine⟨⟨fun a o' q=>?_,fun a vs q=>?_⟩,fun a o' q=>?_,st.hh,fun a o' q n=>?_⟩
 ·by_cases m:a∈S
  ·rw[uX m]at q;cases q
  ·rw[nV m]at q;exact st.good.sub a o' q
 ·rw[nV fun m=>?_]
  ·exact st.good.tup a vs q
  ·obtain⟨u,hu,mu⟩:=o.xu _ a m;rw[q]at hu;cases hu;exact mu
 ·rw[nV fun m=>?_]
  ·exact st.ff a o' q
  ·rw[g.sub.free (hS a m)]at q;cases q
 ·by_cases m:a∈S
  ·exact uX m
  ·rw[nV m];exact st.un a o' q n
theorem Dj{C:Fs}{e:Ex}{d:Dat}{fr:Bool}{ρ':dk}(R:Rl K Fz H₀ F H σ ρ)(h:Bv C e ρ=some (d,fr,ρ')){Q:VK}
  (k:∀v Fm F' H',cu F Fm->Rl K Fz H₀ Fm H σ ρ'->Step Fm H F' H'->Rep K F' d v->(fr=true->iu K H H' d v)->Q v H'):∃ρe,eP C e ρe=some (d,fr)/\tE K ρe d fr σ H Q:=by
 unfold Bv at h;obtain⟨⟨d1,f1⟩,h2,h⟩:=eD h;dsimp only at h;by_cases hm:(im d1 || f1)=true
 ·rw[if_pos hm]at h;have hh:d=d1/\fr=f1/\ρ'=ρ:=by cases h;exact⟨rfl,rfl,rfl⟩
  obtain⟨hh1,hh2,hh3⟩:=hh;subst hh1 hh2 hh3;obtain⟨Fp,sp,Rp⟩:=R.mF;refine⟨_,h2,Fp,Rp.step.good,Rp.full,fun v F1 H1 st r f=>?_⟩;have stS:=Step.shrink R.step.good sp st
  cases hi:im d with
  | true=>exact k v F (shr F H F1) H1 (cu.refl _) R stS (r.shrink R.step.good st d hi) f
  | false=>
    rw[hi,Bool.false_or]at hm;obtain⟨S,n,e1,o⟩:=f hm;have g2:=wH (S:=S) stS.good
    have iB:Step F H (fz (shr F H F1) H1 S) H1:=by
     refine⟨g2,stS.ff.trans (qK stS.good.sub),stS.hh,fun a u q nn=>?_⟩;rw[qL fun m=>?_]
     ·exact stS.un a u q nn
     ·rw[e1 a m]at q;cases q
    exact k v F _ H1 (cu.refl _) R iB (o.lL stS.good d fun a m=>m) f
 ·rw[if_neg hm]at h;obtain⟨⟨d2,f2⟩,h3,h⟩:=fM h;cases h;obtain⟨F2,s2,R2⟩:=R.freeze e.fv;exact⟨_,h3,F2,R2.step.good,R2.xq,fun v F' H' st r f=>k v F2 F' H' s2 R2 st r f⟩
theorem wK{C:Fs}{e:Ex}{d:Dat}{fr:Bool}{ρ':dk}(R:Rl K Fz H₀ F H σ ρ)(h:Bv C e ρ=some (d,fr,ρ')){Q:VK}
  (k:∀v Fm F' H',cu F Fm->Rl K Fz H₀ Fm H σ ρ'->Step Fm H F' H'->Rep K F' d v->(fr=true->iu K H H' d v)->Q v H'):gE K C e σ H Q:=
 let ⟨ρe,h1,h2⟩:=Dj R h k;⟨ρe,d,fr,h1,h2⟩
end
noncomputable def tG(K:Fg)(Fz H₀ F:Hp)(D:Ends):Out->Prop
 | .nx ρ'=>∀F' H' σ',cu F F'->Rl K Fz H₀ F' H' σ' ρ'->D.nx σ' H'
 | .bk ρ'=>∀F' H' σ',cu F F'->Rl K Fz H₀ F' H' σ' ρ'->D.bk σ' H'
 | .ct ρ'=>∀F' H' σ',cu F F'->Rl K Fz H₀ F' H' σ' ρ'->D.ct σ' H'
 | .rt d fr=>∀v F' H',Step Fz H₀ F' H'->Rep K F' d v->(fr=true->iu K H₀ H' d v)->D.rt v H'
theorem tG.mono{K:Fg}{Fz H₀ F F1:Hp}{D:Ends}{o:Out}(s:cu F F1)(h:tG K Fz H₀ F D o):tG K Fz H₀ F1 D o:=by
 cases o with
 | nx ρ'=>exact fun F' H' σ' s' R=>h F' H' σ' (s.trans s') R
 | bk ρ'=>exact fun F' H' σ' s' R=>h F' H' σ' (s.trans s') R
 | ct ρ'=>exact fun F' H' σ' s' R=>h F' H' σ' (s.trans s') R
 | rt d fr=>exact h
noncomputable def gS(K:Fg)(C:Fs)(x:Sx):TS:=fun D σ H=>∃Fz H₀ F ρ out,ko C x ρ=some out/\Rl K Fz H₀ F H σ ρ/\tG K Fz H₀ F D out
noncomputable def Wu(K:Fg)(C:Fs)(xs:List Sx):TS:=fun D σ H=>∃Fz H₀ F ρ out,cY C xs ρ=some out/\Rl K Fz H₀ F H σ ρ/\tG K Fz H₀ F D out
abbrev SS(X:Cx)(C:Fs)(st:jl)(x:Sx):Prop:=PS X st (gS X.K C x)
abbrev MS(X:Cx)(C:Fs)(st:List jl)(xs:List Sx):Prop:=zM X st (Wu X.K C xs)
section
variable{X:Cx}{C:Fs}{e cnd:aO}{xe xc:Ex}{st:jl}{x:Sx}{sts sa sb:List jl}{xs ya yb:List Sx}{pos pos':fS}
theorem Kh:MS X C [] []:=zM.imp K3 fun D σ H z3=>by
 obtain⟨Fz,H₀,F,ρ,out,h,R,k⟩:=z3;simp only[cY]at h;cases h;exact k F H σ (cu.refl _) R
theorem Gx(h1:SS X C st x)(h2:MS X C sts xs):MS X C (st::sts) (x::xs):=zM.imp (G4 h1 h2) fun D σ H z3=>by
 obtain⟨Fz,H₀,F,ρ,out,h,R,k⟩:=z3;simp only[cY]at h;obtain⟨o,ho,h⟩:=eD h;refine⟨Fz,H₀,F,ρ,o,ho,R,?_⟩
 cases o with
 | nx ρ1=>exact fun F1 H1 σ1 s1 R1=>⟨Fz,H₀,F1,ρ1,out,h,R1,k.mono s1⟩
 | bk ρ1=>cases h;exact k
 | ct ρ1=>cases h;exact k
 | rt d fr=>cases h;exact k
theorem Of{st:jl}:SS X C st .Nf:=fun pins s σ H D I z6=>by
 obtain⟨Fz,H₀,F,ρ,out,h,R,k⟩:=z6;cases h
theorem Og(he:SE X C e xe):SS X C (.Return (some e) pos) (.ret xe):=PS.imp (G5 he) fun D σ H z3=>by
 obtain⟨Fz,H₀,F,ρ,out,h,R,k⟩:=z3;obtain⟨⟨d,fr⟩,h1,h⟩:=fM h;cases h;obtain⟨Fp,sp,Rp⟩:=R.mF;exact⟨_,d,fr,h1,Fp,Rp.step.good,Rp.full,fun v F' H' st r f=>k v F' H' (Rp.step.trans st) r fun z=>(f z).back (F:=F) R.step.hh⟩
theorem Kj{i:Nat}{x:bh}{p:fS}(hN:X.N[i]? = some x)(hv:NU X.env.scope x)(hd:(x == ("__debug__":bh))=false)(hcd:(x == ("__classdict__":bh))=false):SS X C (.Return (some (.Name x p)) pos) (.nY i):=
 PS.imp (G5 (wj hN hv hd hcd)) fun D σ H z3=>by
  obtain⟨Fz,H₀,F,ρ,out,h,R,k⟩:=z3;obtain⟨⟨d,b⟩,h1,h⟩:=fM h;cases h
  have h1':ρ[i]? = some (some (d,b)):=by
   cases q:ρ[i]? with
   | none=>rw[q]at h1;cases h1
   | some z=>rw[q]at h1;exact congrArg some h1
  cases b with
  | false=>
    obtain⟨v,e1,r⟩:=R.val i d h1';exact⟨v,e1,k v F H R.step r bV⟩
  | true=>
    obtain⟨Ss,O⟩:=R.ow;obtain⟨v,e1,e2,e3,e4⟩:=O.own i d h1';have sF:cu F (fz F H (Ss i)):=qK R.step.good.sub
    have st:Step Fz H₀ (fz F H (Ss i)) H:=by
     refine⟨wH R.step.good,R.step.ff.trans sF,R.step.hh,fun a o q n=>?_⟩;rw[qL fun m=>?_]
     ·exact R.step.un a o q n
     ·rw[(e4 a m).2]at q;cases q
    exact⟨v,e1,k v _ H st (e2.lL R.step.good d fun a m=>m) fun _=>⟨Ss i,e3,fun a m=>(e4 a m).2,e2⟩⟩
theorem RH(hc:ST X C cnd xc)(ha:MS X C sa ya)(hb:MS X C sb yb):SS X C (.If cnd sa sb pos) (.ifs xc ya yb):=PS.imp (RV hc ha hb) fun D σ H z3=>by
 obtain⟨Fz,H₀,F,ρ,out,h,R,k⟩:=z3;obtain⟨⟨d,fr⟩,h1,h⟩:=eD h;obtain⟨z,hz,h⟩:=eD h;obtain⟨Fp,sp,Rp⟩:=R.mF;refine⟨_,d,fr,z,h1,hz,Fp,Rp.step.good,Rp.full,fun F1 H1 st=>?_⟩;have stS:=Step.shrink R.step.good sp st
 cases z with
 | true=>
   exact EG ⟨Fz,H₀,_,ρ,out,h,R.moved stS,k.mono stS.ff⟩
 | false=>
   exact EH ⟨Fz,H₀,_,ρ,out,h,R.moved stS,k.mono stS.ff⟩
theorem D7{i:Nat}{D:Ends}{σ:St}{H Fz H₀ F:Hp}{ρ ρ':dk}{d:Dat}{fr:Bool}(R:Rl X.K Fz H₀ F H σ ρ)(h1:Bv C xe ρ=some (d,fr,ρ'))(k:tG X.K Fz H₀ F D (.nx (ρ'.set i (some (d,fr && !im d))))) :
  ∃ρe,eP C xe ρe=some (d,fr)/\tE X.K ρe d fr σ H (fun v H'=>D.nx (σ.set i (some v)) H'):=by
 refine Dj R h1 fun v Fm F' H' sm Rm st r f=>?_;show D.nx (σ.set i (some v)) H';have k':∀F' H' σ',cu F F'->Rl X.K Fz H₀ F' H' σ' (ρ'.set i (some (d,fr && !im d)))->D.nx σ' H':=k
 cases hm:fr && !im d with
 | false=>
   rw[hm]at k';exact k' F' H' _ (sm.trans st.ff) ((Rm.moved st).AB r)
 | true=>
   rw[hm]at k';simp only[aF]at hm;obtain⟨S,nd,e1,o⟩:=f hm.1;have iB:=Step.UX st Rm.step.good e1 o;obtain⟨Ss0,O0⟩:=Rm.ow;refine k' (uz F' S) H' _ (sm.trans iB.ff) ((Rm.moved iB).Ou (O0.moved iB) o nd (fun a m=>⟨uX m,R.step.hh.free (e1 a m)⟩) fun j d2 _ q a m1 m2=>?_);obtain⟨w',g1',g2',_,_⟩:=O0.own j d2 q;obtain⟨u,hu,_⟩:=g2'.xu _ a m1;rw[e1 a m2]at hu;cases hu
theorem xP{te:TE}{i:Nat}(hte:∀σ H Q,gE X.K C xe σ H Q->te σ H Q):∀D σ H,gS X.K C (.set i xe) D σ H->Gr te (ku i) D σ H:=fun D σ H z3=>by
 obtain⟨Fz,H₀,F,ρ,out,h,R,k⟩:=z3;obtain⟨⟨d,fr,ρ'⟩,h1,h⟩:=fM h;cases h;obtain⟨ρe,e1,e2⟩:=D7 R h1 k;exact hte _ _ _ ⟨ρe,d,fr,e1,e2⟩
theorem Gz{i:Nat}{x:bh}(hN:X.N.Nodup)(hi:X.N[i]? = some x)(hx:Loc X.env.scope x)(he:SE X C e xe)(hs:swapsWith e (some (.Name x pos')) pos.line X.env=pure false:=by rfl)
  (hf:X.fn x=true\/X.env.scope.names.lookup x=some .local:=by first|exact .inl rfl|exact .inr rfl|assumption):SS X C (.Assign [.Name x pos'] e pos) (.set i xe):=
 PS.imp (OO hN hi hx he hs hf) (xP fun _ _ _ h=>h)
end
end M
namespace L2
open PySem PySem.Spec PyProof.Rows
noncomputable def eT(X:Cx)(scope:fX)(cl:List (bh×ag))(N:List bh)(s₂:ae)(H₂:Hp)(C:ag)(ex:List ag):Cx:=
 { X with N:=N,s₀:=s₂,H₀:=H₂,env:=compEnvC scope cl C X.env,outer:=X.stack,stack:=X.stack,ex:=ex,fn:=fun _=>false,pn:=[],xe:=fun _ _=>False }
def JI(X:Cx)(ifs:List aO)(t:TT):Prop:=
 ∀(pins:List (ag×fe)) (s:ae) (σ:St) (H:Hp) (Q:Bool->Hp->Prop),Inv X pins σ H s->t σ H Q->
  aB (aI X.prog X.w) X.A (forIn ifs true fun c r=>if r=true then do let ok <-isTrue c X.env (eval c X.env);pure (iQ ok)else pure (iQ r)) (TP X pins σ Q) X.xe s
theorem KZ{X:Cx}:JI X [] (fun _ H Q=>Q true H):=fun _ _ _ H _ I h=>wpAny_tests_nil ⟨H,I,h⟩
theorem KY{X:Cx}{c:aO}{t:TT}(h:PT X c t):JI X [c] t:=fun pins s σ H Q I hq=>wpAny_tests_one (h pins s σ H Q I hq)
noncomputable def gX(nt:Nat)(caps:List Nat)(σ:St):St:=cT nt none++caps.map fun j=>(σ[j]?).join
noncomputable def Gq(wi:TI)(nt:Nat)(caps:List Nat)(g:TG)(tt:TT)(te:TE):TE:=fun σ H Q=>wi σ H fun J H1=>∃W:Nat->Nat->List V->Hp->Prop,(∃m,W 0 m [] H1)/\∀i m ys H,W i m ys H->
 (J.stop i H/\ys.length<=aP/\∀p,H p=none->Q (.ref p) (upd H p (.lst ys)))\/
 (J.go i H/\ys.length<aP/\∀x H',J.yld i H x H'->g x (gX nt caps σ) H' fun σ2 H2=>tt σ2 H2 fun b H3=>
  if b=true then te σ2 H3 fun y H4=>∃m',m'<m/\W (i+1) m' (ys++[y]) H4 else ∃m',m'<m/\W (i+1) m' ys H3)
structure jb(X:Cx)(scope:fX)(tn cn:List bh)(caps:List Nat):Prop where
 kind:scope.kind=.function
 nocell:∀y∈scope.names,y.2≠.cell
 locs:∀y∈scope.names,y.2=.local->scope.names.lookup y.1=some .local
 frees:∀y∈scope.names,y.2=.free->X.env.kindOf y.1=some .cell\/X.env.kindOf y.1=some .free
 nofree:∀x,scope.names.lookup x=some .free->(x,eB)∈scope.names
 caps:caps.map (fun j=>X.N[j]?)=cn.map some
 capk:∀x∈cn,X.env.kindOf x=some .cell\/X.env.kindOf x=some .free
 capn:∀x∈cn,scope.names.lookup x=some .free
theorem sS{env:uq}(x:bh):∀names:List (bh×jB),(names.map fun(n,k)=>if(k == eB && env.scope.kind == .function && env.kindOf n == some .cell)then(n,lE)else(n,k)).lookup x =
  (names.lookup x).map fun k=>if(k == eB && env.scope.kind == .function && env.kindOf x == some .cell)then lE else k
 | []=>rfl
 | (n,k)::r=>by
   by_cases hx:x=n
   ·subst hx;simp only[aq,List.lookup_cons_self,bE];split<;>simp
   ·have hb:(x == n)=false:=by simpa using hx
    rw[eR,hb,<-sS x r,aq];dsimp only;split<;>rw[eR,hb]
theorem nZ{scope:fX}{env:uq}(x:bh):(relabel scope env).names.lookup x=(scope.names.lookup x).map fun k=>if(k == eB && env.scope.kind == .function && env.kindOf x == some .cell)then lE else k:=sS x scope.names
theorem wb{scope:fX}{env:uq}{x:bh}(hc:∀y∈scope.names,y.2≠lE)(h:(relabel scope env).names.lookup x=some .cell\/(relabel scope env).names.lookup x=some .free):scope.names.lookup x=some .free:=by
 rw[nZ]at h
 cases q:scope.names.lookup x with
 | none=>rw[q]at h;simp at h
 | some k=>
   rw[q]at h;simp only[bE,iX]at h;by_cases hk:k=.free
   ·rw[hk]
   ·have hb:(k == eB)=false:=by simpa using hk
    rw[hb]at h;simp only[oI,aJ,if_false]at h
    rcases h with h|h
    ·subst h;exact absurd rfl (hc (x,.cell) (f6 q))
    ·exact absurd h hk
theorem pX{scope:fX}{env:uq}{x:bh}(h:scope.names.lookup x=some .free):(relabel scope env).names.lookup x≠some .local:=by
 rw[nZ,h];simp only[bE,ne_eq,iX];split<;>(intro z;cases z)
section
variable{X:Cx}{pins:List (ag×fe)}{σ:St}{H:Hp}{s:ae}
theorem o5{env:uq}:∀(names:List (bh×jB)) (cs:List (bh×ag)),(∀y∈names,y.2=.free->∃c,env.cells.lookup y.1=some c)->(∀n c,cs.lookup n=some c->env.cells.lookup n=some c)->
  ∃cl:List (bh×ag),(forIn (m:=rl) names cs fun x r=>if(x.2 == eB)=true then do let a <-cellOf env x.1;pure (iQ ((x.1,a)::r))else pure (iQ r))=pure cl/\(∀n c,cl.lookup n=some c->env.cells.lookup n=some c)/\
   (∀n c,cs.lookup n=some c->∃c',cl.lookup n=some c')/\∀n,(n,eB)∈names->∃c,cl.lookup n=some c
 | [],cs,_,h2=>⟨cs,rfl,h2,fun n c e=>⟨c,e⟩,fun n z=>nomatch z⟩
 | (n,k)::r,cs,h1,h2=>by
   by_cases hk:k=.free
   ·subst hk;obtain⟨c,hc⟩:=h1 (n,.free) ja rfl
    have hcell:cellOf env n=pure c:=by
     unfold cellOf;rw[hc]
    obtain⟨cl,e,q1,q2,q3⟩:=o5 r ((n,c)::cs) (fun y hy=>h1 y (jt _ hy)) (fun m d e=>by
     rw[eR]at e;by_cases hm:m=n
     ·subst hm;simp at e;rw[<-e];exact hc
     ·have:(m == n)=false:=by simpa using hm
      rw[this]at e
      exact h2 m d e)
    refine⟨cl,?_,q1,fun m d hd=>?_,fun m hm=>?_⟩
    ·rw[jd];simp only[beq_self_eq_true,if_true,hcell,pure_bind];exact e
    ·by_cases hmn:m=n
     ·subst hmn;exact q2 m c (by simp)
     ·have:(m == n)=false:=by simpa using hmn
      exact q2 m d (by rw[eR,this];exact hd)
    ·rcases ao.mp hm with z|z
     ·cases z;exact q2 n c (by simp)
     ·exact q3 m z
   ·have hb:(k == eB)=false:=by simpa using hk
    obtain⟨cl,e,q1,q2,q3⟩:=o5 r cs (fun y hy=>h1 y (jt _ hy)) h2;refine⟨cl,?_,q1,q2,fun m hm=>?_⟩
    ·rw[jd];simp only[hb,aJ,if_false,pure_bind];exact e
    ·rcases ao.mp hm with z|z
     ·cases z;exact absurd rfl hk
     ·exact q3 m z
theorem tQ{scope:fX}{tn cn:List bh}{caps:List Nat}(ok:X.Ok)(S:jb X scope tn cn caps):∃cl:List (bh×ag),closureFor scope X.env=pure cl/\(∀n c,cl.lookup n=some c->X.env.cells.lookup n=some c)/\∀n,(n,eB)∈scope.names->∃c,cl.lookup n=some c:=by
 obtain⟨cl,e,q1,_,q3⟩:=o5 (env:=X.env) scope.names [] (fun y hy hk=>ok.has y.1 (S.frees y hy hk)) (fun n c e=>by simp at e);refine⟨cl,?_,q1,q3⟩;unfold closureFor;rw[bind_pure];exact e
theorem Inv.Gi{D:ag}{o:HO}(I:Inv X pins σ H s)(hD:pe X pins H D)(hs:X.s₀.heap.objs.size<=D)(new:iT X.prog X.w (upd H D o) s.heap D o):Inv X pins σ (upd H D o) s:=by
 obtain⟨hn,hL,hf,_,hc,hp⟩:=hD
 have old:∀b ob,X.s₀.heap.get? b=some ob->b≠D:=fun b ob e z=>by
  subst z;exact absurd (bB (hl9 e) hs) (bK _)
 refine⟨I.ok,I.os,I.bare,⟨I.base.keep,I.base.slot,fun b ob e n hx=>?_,I.base.there,fun b xs e=>?_,fun b ob u e=>?_,fun b ps e=>?_⟩,I.loc,I.cell,?_,fun x c e=>?_,fun p hpp=>?_,fun b u e=>?_,I.len⟩
 ·rw[cm (old b ob e)];exact I.base.free b ob e n hx
 ·rw[cm (eF (I.base.tups b xs e) hn)];exact I.base.tups b xs e
 ·rw[cm (eF (I.base.frzs b ob u e) hn)];exact I.base.frzs b ob u e
 ·obtain⟨m,q⟩:=I.base.tbls b ps e;exact⟨m,by rw[cm (eF q hn)];exact q⟩
 ·rw[cm (fD hL)];exact I.free
 ·rw[cm (hc x c e)];exact I.freeC x c e
 ·obtain⟨q1,q2,q3,q4,q5⟩:=I.pin p hpp;exact⟨q1,by rw[cm (hp p hpp)];exact q2,q3,q4,q5⟩
 ·by_cases hb:b=D
  ·subst hb;rw[cJ]at e;cases e;exact new
  ·rw[cm hb]at e;exact(I.hok b u e).As (fun _ _ _ q=>q) (fun c q=>by rw[cm (eF q hn)];exact q) fun c xs q=>by rw[cm (eF q hn)];exact q
theorem n9{prog:aS}{w:bA}{A:bC}{R:Result->ae->Prop}{elt target iter:aO}{ifs:List aO}{scope:fX}{pos:fS}{it acc:ab}{env:uq}(J:Nat->ae->Prop)
  (turn:∀n s,J n s->aB (aI prog w) A (pyNext it) (fun r s₁=>match r with
   | none=>R (.ok .next) s₁
   | some v=>aB (aI prog w) A (letOwnedTupleGo target it v) (fun _ s₁'=>aB (aI prog w) A (assign target env v) (fun _ s₂=>
     aB (aI prog w) A (forIn ifs true fun c r=>if r=true then do let ok <-isTrue c env (eval c env);pure (iQ ok)else pure (iQ r)) (fun ok s₃=>
      if ok=true then aB (aI prog w) A (eval elt env) (fun x s₄=>
       aB (aI prog w) A (call (.builtin "list.append") [acc,x]) (fun _ s₅=>∃m,m<n/\J m s₅) (fun _ _=>False) s₄) (fun _ _=>False) s₃
      else ∃m,m<n/\J m s₃) (fun _ _=>False) s₂) (fun _ _=>False) s₁') (fun _ _=>False) s₁) (fun _ _=>False) s)
  (n:Nat){s:ae}(h:J n s) :
  codeAny (aI prog w) A (.compLoop (.ListComp elt [⟨target,iter,ifs,0⟩] scope pos) 0 it acc env) R s:=by
 refine codeAny_loop rfl J (fun n s hI=>?_) n h;show aB _ A ((compTurn (.ListComp elt [⟨target,iter,ifs,0⟩] scope pos) 0 it acc env).onRaise (fun x=>do noteFrame x env;theTreesLotGoes x)) _ _ s;refine wpAny_noted ?_;rw[compTurn_list];refine wb9 (DI (wb9 (dm (turn n s hI) (fun r s₁ h₁=>?_) fun _ _ h'=>h'.elim)))
 cases r with
 | none=>exact wu9 h₁
 | some v=>
   refine wb9 (dm h₁ (fun _ s₁' h₁'=>?_) fun _ _ h'=>h'.elim);refine wb9 (dm h₁' (fun _ s₂ h₂=>wb9 (dm h₂ (fun ok s₃ h₃=>?_) fun _ _ h'=>h'.elim)) fun _ _ h'=>h'.elim)
   cases ok with
   | false=>exact wu9 ⟨rfl,h₃⟩
   | true=>
     exact wb9 (wb9 (dm h₃ (fun x s₄ h₄=>wb9 (dm h₄ (fun _ s₅ h₅=>wu9 (wu9 ⟨rfl,h₅⟩)) fun _ _ h'=>h'.elim)) fun _ _ h'=>h'.elim))
def oS(nt:Nat)(g:TG):Prop:=∀x σ H Q,g x σ H Q->g x σ H fun σ2 H2=>Q σ2 H2/\σ2.length=σ.length/\∀i,nt<=i->σ2[i]? = σ[i]?
theorem su{nt i:Nat}(h:i<nt):oS nt (ku i):=fun x σ H Q q=>by
 refine⟨q,by simp,fun j hj=>?_⟩;rw[eY (by omega)]
def t6(nt:Nat)(g:Fl):Prop:=∀xs σ H Q,g xs σ H Q->g xs σ H fun σ2 H2=>Q σ2 H2/\σ2.length=σ.length/\∀i,nt<=i->σ2[i]? = σ[i]?
theorem D2{nt:Nat}:t6 nt EN:=fun xs σ H Q ⟨e,q⟩=>⟨e,q,rfl,fun _ _=>rfl⟩
theorem Ap{nt:Nat}{t:TG}{u:Fl}(mono:∀x σ H Q Q',(∀σ2 H2,Q σ2 H2->Q' σ2 H2)->t x σ H Q->t x σ H Q')(monou:∀x σ H Q Q',(∀σ2 H2,Q σ2 H2->Q' σ2 H2)->u x σ H Q->u x σ H Q')(ht:oS nt t)(hu:t6 nt u):t6 nt (vt t u):=fun xs σ H Q z4=>by
 obtain⟨v,r,e,q⟩:=z4;refine⟨v,r,e,?_⟩;refine mono _ _ _ _ _ (fun σ2 H2 ⟨q2,l2,s2⟩=>?_) (ht _ _ _ _ q);exact monou _ _ _ _ _ (fun σ3 H3 ⟨q3,l3,s3⟩=>⟨q3,l3.trans l2,fun i hi=>(s3 i hi).trans (s2 i hi)⟩) (hu _ _ _ _ q2)
theorem D1{K:aN}{nt n:Nat}{u:Fl}(hu:t6 nt u):oS nt (Ik K n u):=fun x σ H Q ⟨a,xs,e,h1,h2,q⟩=>⟨a,xs,e,h1,h2,hu _ _ _ _ q⟩
theorem tF{i:Nat}:∀x σ H Q Q',(∀σ2 H2,Q σ2 H2->Q' σ2 H2)->ku i x σ H Q->ku i x σ H Q':=fun _ _ _ _ _ h q=>h _ _ q
theorem EM:∀x σ H Q Q',(∀σ2 H2,Q σ2 H2->Q' σ2 H2)->EN x σ H Q->EN x σ H Q':=fun _ _ _ _ _ h q=>⟨q.1,h _ _ q.2⟩
theorem Bs{t:TG}{u:Fl}(mt:∀x σ H Q Q',(∀σ2 H2,Q σ2 H2->Q' σ2 H2)->t x σ H Q->t x σ H Q')(mu:∀x σ H Q Q',(∀σ2 H2,Q σ2 H2->Q' σ2 H2)->u x σ H Q->u x σ H Q') :
  ∀x σ H Q Q',(∀σ2 H2,Q σ2 H2->Q' σ2 H2)->vt t u x σ H Q->vt t u x σ H Q':=fun _ _ _ _ _ h ⟨v,r,e,q⟩=>⟨v,r,e,mt _ _ _ _ _ (fun _ _ q2=>mu _ _ _ _ _ h q2) q⟩
def BE(X:Cx)(pins:List (ag×fe))(σ:St)(Q:VK)(acc:ab)(C:ag)(r:Result)(s':ae):Prop:=
 r=.ok .next/\∃D H',acc=.ref D/\(∃m,s'.heap.Ns C m)/\Inv X pins σ H' s'/\pe X pins H' C/\Q (.ref D) H'
theorem tP{elt iter tg:aO}{ifs:List aO}{scope:fX}{pos:fS}{tn cn:List bh}{caps:List Nat}{g:TG}{tt:TT}{te:TE}{Q:VK}{s₂:ae}{itv:ab}{cl:List (bh×ag)}{E:ab->ae->Prop}
  (hcalm:X.calm=true)(S:jb X scope tn cn caps)(hclos:∀n c,cl.lookup n=some c->X.env.cells.lookup n=some c)(hhas:∀n,(n,eB)∈scope.names->∃c,cl.lookup n=some c)
  (hg:∀(cl:List (bh×ag)) (s₂:ae) (H₂:Hp) (C:ag) (ex:List ag),PG (eT X scope cl (tn++cn) s₂ H₂ C ex) tg g)(touch:oS tn.length g)
  (ht:∀(cl:List (bh×ag)) (s₂:ae) (H₂:Hp) (C:ag) (ex:List ag),JI (eT X scope cl (tn++cn) s₂ H₂ C ex) ifs tt)
  (he:∀(cl:List (bh×ag)) (s₂:ae) (H₂:Hp) (C:ag) (ex:List ag),PE (eT X scope cl (tn++cn) s₂ H₂ C ex) elt te)
  (hi:Wi X pins σ tg (fun J H1=>∃W:Nat->Nat->List V->Hp->Prop,(∃m,W 0 m [] H1)/\∀i m ys H,W i m ys H->
   (J.stop i H/\ys.length<=aP/\∀p,H p=none->Q (.ref p) (upd H p (.lst ys)))\/
   (J.go i H/\ys.length<aP/\∀x H',J.yld i H x H'->g x (gX tn.length caps σ) H' fun σ2 H2=>tt σ2 H2 fun b H3=>
    if b=true then te σ2 H3 fun y H4=>∃m',m'<m/\W (i+1) m' (ys++[y]) H4 else ∃m',m'<m/\W (i+1) m' ys H3)) itv s₂) :
  aB (aI X.prog X.w) X.A (newList []) (fun acc s₃=>aB (aI X.prog X.w) X.A (newFunctionEnv scope X.env.globals cl [] X.env.qual none .none (some X.env)) (fun cenv s₄=>
   codeAny (aI X.prog X.w) X.A (.compStart (.ListComp elt [⟨tg,iter,ifs,0⟩] scope pos) 0 itv acc { cenv with scope:=relabel scope X.env }) (BE X pins σ Q acc cenv.locals) s₄) E s₃) E s₂:=by
 obtain⟨it,fp,tnn,J,H2,e,I2,T,iB,f2,W,⟨m0,w0⟩,turn⟩:=hi;subst e;refine dq (wpAny_newFunctionEnv S.nocell (by intro y hy;simp at hy) (fun h₁ hns₁ hsb₁=>?_) S.kind);dsimp only at hns₁ hsb₁ ⊢;generalize hH2:s₂.heap.push { cls:=.type "list",dict:=none,data:=.seq ([]:List ab).toArray }=G2 at hns₁ hsb₁ ⊢;have hC:G2.objs.size=s₂.heap.objs.size+1:=by rw[<-hH2,cB]
 have hDC:s₂.heap.objs.size≠G2.objs.size:=by rw[hC];exact bN (ki _)
 have old:∀b o,s₂.heap.get? b=some o->h₁.get? b=some o:=fun b o e=>hsb₁.extBut b o (by rw[hC];exact bN (mM (hl9 e))) (hp9 _ (hH2▸hp9 _ e));have hacc:h₁.get? s₂.heap.objs.size=some { cls:=.type "list",data:=.seq ([]:List ab).toArray }:=hsb₁.extBut _ _ hDC (hp9 _ (hH2▸aQ _ rfl));generalize hDd:s₂.heap.objs.size=D at *;generalize hCd:G2.objs.size=C at *;have hCD:@Eq Nat C (D+1):=hC;have hlt:D<C:=by rw[hC];exact ki _
 have hDD:@Eq Nat s₂.heap.objs.size D:=hDd;have Nq:∀b o,s₂.heap.get? b=some o->b<D:=fun b o e=>hDd▸hl9 e;have fresh:∀a,D<=a->H2 a=none:=fun a h=>I2.hok.fresh (hDd▸h);have hfpS:∀b∈fp,b<D:=fun b hb=>by obtain⟨o,e,_⟩:=T.obj 0 _ iB b hb;exact Nq b o e
 have frL:∀b∈FD X.stack,b<D:=fun b hb=>by
  obtain⟨_,o,ho,_⟩:=I2.stack.mem hb;exact Nq b o ho
 have clL:∀x c,cl.lookup x=some c->c<D:=fun x c e=>by
  obtain⟨v,q⟩:=I2.cell x c (hclos x c e);exact hDd▸q.lt
 let Y:Cx:=eT X scope cl (tn++cn) s₂ H2 C fp
 have okY:Y.Ok:=by
  refine⟨I2.ok.mod,S.kind,I2.ok.glob,I2.ok.blt,?_,fun x y c h1 h2=>I2.ok.inj x y c (hclos x c h1) (hclos y c h2),fun x hx=>?_,(fun x c h=>nomatch h),I2.ok.hd,I2.ok.frames,.inl rfl,fun b hb=>⟨?_,fun x c e=>?_⟩,fun b o e=>I2.bs b o e,?_,fun b o e hb=>?_,fun b hb z=>?_,I2.stack,I2.B8⟩
  ·show s₂.heap.objs.size<=C;omega
  ·have hx':(relabel scope X.env).names.lookup x=some .cell\/(relabel scope X.env).names.lookup x=some .free:=hx;have hfree:scope.names.lookup x=some .free:=wb S.nocell hx';exact hhas x (S.nofree x hfree)
  ·show b≠C;exact bN (jO (hfpS b hb) hlt)
  ·have e':cl.lookup x=some c:=e;exact(f2 b hb).2.2.2.2.1 x c (hclos x c e')
  ·show X.base.objs.size<=s₂.heap.objs.size;exact cP I2.ok.bsz I2.sz
  ·rcases(f2 b hb).2.2.2.1 with z|z
   ·exact I2.ok.noex b o e z
   ·exact absurd (bB (bB (hl9 e) I2.ok.bsz) z) (bK _)
  ·have hb':=f2 b hb
   rcases ao.mp (I2.sA b z)with q|q
   ·exact hb'.2.1 q
   ·exact hb'.2.2.1 q
 have invY:∀(s':ae) (m:bh->Option ab),s'.os=s₂.os->nK s'.gens->(∀b o,s₂.heap.get? b=some o->s'.heap.get? b=some o)->s'.heap.Ns C m->(∀(i:Nat) (x:bh) (v:V),(tn++cn)[i]? = some x->(gX tn.length caps σ)[i]? = some (some v)->NU Y.env.scope x->∃u,RelV v u/\Look Y.env s'.heap m x u)->
   Inv Y (X.pn++pins) (gX tn.length caps σ) H2 s':=fun s' m ho hb hk hn hl=>by
  refine⟨okY,ho,hb,Un.kept hk,⟨m,hn,hl⟩,fun x c e=>?_,fresh C (by omega),fun x c e=>I2.freeC x c (hclos x c e),fun p hp=>?_,I2.hok.kept hk,?_⟩
  ·obtain⟨v,q⟩:=I2.cell x c (hclos x c e);exact⟨v,q.keeps hk⟩
  ·have hp':p∈X.pn++pins:=by simpa [Y,eT]using hp
   obtain⟨q1,q2,q3,q4,q5⟩:=I2.pin p hp';refine⟨hk _ _ q1,q2,?_,fun z=>?_,q5⟩
   ·show p.1≠C;exact bN (jO (Nq _ _ q1) hlt)
   ·rcases ao.mp (I2.sA p.1 z)with w|w
    ·exact q3 w
    ·exact q4 w
  ·show(gX tn.length caps σ).length=(tn++cn).length;have e:=congrArg rZ S.caps;simp only[aG]at e;simp[gX,e]
 have loop:∀s₃:ae,s₃={ s₂ with heap:=h₁,toks:=s₂.toks+([]:List (bh×ab)).length }->
   codeAny (aI X.prog X.w) X.A (.compLoop (.ListComp elt [⟨tg,iter,ifs,0⟩] scope pos) 0 (.ref it) (.ref D) (compEnvC scope cl C X.env)) (BE X pins σ Q (.ref D) C) s₃:=by
  rintro s₃ rfl
  have I3:Inv Y (X.pn++pins) (gX tn.length caps σ) H2 { s₂ with heap:=h₁,toks:=s₂.toks+([]:List (bh×ab)).length }:=by
   refine invY _ _ rfl I2.bare old hns₁ fun i x v e1 e2 e3=>?_
   have hi:tn.length<=i:=by
    by_cases hi:tn.length<=i
    ·exact hi
    ·unfold gX at e2;rw[bf (by simpa using hi),et]at e2;split at e2<;>cases e2
   unfold gX at e2;rw[aR (by simpa using hi),jY]at e2;rw[aR hi]at e1;rw[bx]at e2
   cases hj:caps[i - tn.length]? with
   | none=>rw[hj]at e2;cases e2
   | some j=>
     rw[hj]at e2;have e2':(σ[j]?).join=some v:=bw e2
     have hσ:σ[j]? = some (some v):=by
      cases q:σ[j]? with
      | none=>rw[q]at e2';cases e2'
      | some z=>rw[q]at e2';cases z with
        | none=>cases e2'
        | some z=>exact congrArg some e2'
     have hN:X.N[j]? = some x:=by
      have e:=congrArg (fun l=>l[i - tn.length]?) S.caps;simp only[bx,hj,e1,bE]at e;exact bw e
     have hk:=S.capk x (bq e1);obtain⟨m,hn,hl⟩:=I2.loc;have hv:NU X.env.scope x:=hk.elim (fun z=>.inr (.inl z)) fun z=>.inr (.inr z);obtain⟨u,ru,l⟩:=hl j x v hN hσ hv;refine⟨u,ru,.inr ?_⟩
     rcases l with⟨k,_⟩|⟨k,c,ec,hcell⟩
     ·rw[k]at hk;rcases hk with z|z<;>cases z
     ·
      rcases e3 with z|z|z
      ·
       exact absurd z (pX (S.capn x (bq e1)))
      ·obtain⟨c',ec'⟩:=okY.has x (.inl z);have ecc:c'=c:=bw ((hclos x c' ec').symm.trans ec);rw[ecc]at ec';exact⟨.inl z,c,ec',hcell.keeps old⟩
      ·obtain⟨c',ec'⟩:=okY.has x (.inr z);have ecc:c'=c:=bw ((hclos x c' ec').symm.trans ec);rw[ecc]at ec';exact⟨.inr z,c,ec',hcell.keeps old⟩
  have pinD:∀{σ':St} {H':Hp} {s':ae} {its:List ab} {n:Nat},Inv Y (X.pn++pins) σ' H' s'->H' D=none->s'.heap.get? D=some { cls:=.type "list",data:=.seq its.toArray n }->
    Inv Y ((X.pn++pins)++[(D,{ cls:=.type "list",data:=.seq its.toArray n })]) σ' H' s':=fun {σ' H' s' its n} I' hn hd=>by
   refine I'.pY fun p hp=>?_
   rcases aD.mp hp with z|z
   ·exact I'.pin p (aA _ z)
   ·have e:=au.mp z;subst e;refine⟨hd,hn,hDC,fun z=>?_,(fun v z=>nomatch z)⟩;exact absurd (frL D z) (bK _)
  have fpD:∀{H':Hp},H' D=none->∀b,b=D->pe Y (X.pn++pins) H' b:=fun {H'} hn b hb=>by
   subst hb;refine⟨hn,hDC,fun z=>absurd (frL b z) (bK _),.inr (Ab hDd),fun x c e z=>?_,fun p hp z=>?_⟩
   ·have:=clL x c e;rw[z]at this;exact absurd this (bK _)
   ·have hp':p∈X.pn++pins:=by simpa [Y,eT]using hp
    have:=Nq _ _ (I2.pin p hp').1;rw[z]at this;exact absurd this (bK _)
  have stat:∀{H':Hp} {pl:List (ag×fe)},(∀b∈fp,H' b=none)->(∀p∈pl,p.1=D)->∀b∈fp,pe Y ((X.pn++pins)++pl) H' b:=fun {H' pl} hn hpl b hb=>by
   obtain⟨g0,g1,g2,g3,g4,g5⟩:=f2 b hb;refine⟨hn b hb,?_,fun z=>?_,.inl hb,fun x c e=>g4 x c (hclos x c e),fun p hp z=>?_⟩
   ·show b≠C;exact bN (jO (hfpS b hb) hlt)
   ·rcases ao.mp (I2.sA b z)with w|w
    ·exact g1 w
    ·exact g2 w
   ·have hp':p∈(X.pn++pins)++pl:=by simpa [Y,eT]using hp
    rcases aD.mp hp' with w|w
    ·exact g5 p w z
    ·have h1:=hpl p w;have h2:=hfpS b hb;rw[<-z,h1]at h2;exact absurd h2 (bK _)
  refine n9 (fun n s'=>∃(i:Nat) (ys:List V) (its:List ab) (k:Nat) (H':Hp),Inv Y (X.pn++pins) (gX tn.length caps σ) H' s'/\H' D=none/\s'.heap.get? D=some { cls:=.type "list",data:=.seq its.toArray k }/\cL ys its/\
   tnn i s'.heap/\(∀b∈fp,H' b=none)/\W i n ys H') ?_ m0 ⟨0,[],[],0,H2,I3,fresh D (aK _),hacc,.nil,T.keep _ _ _ iB fun b hb o e=>old b o e,fun b hb=>(f2 b hb).1,w0⟩
  rintro n s4 ⟨i,ys,its,k,H4,I4,hD4,ho4,rv4,st4,fr4,w4⟩;have I4':=pinD I4 hD4 ho4
  have pl1:∀p∈[((D,{ cls:=.type "list",data:=.seq its.toArray k }):ag×fe)],p.1=D:=fun p hp=>by
   rw[au.mp hp]
  rcases turn i n ys H4 w4 with⟨stop,hz,qn⟩|⟨go,hz,step⟩
  ·
   refine iL (T.done Y rfl rfl rfl hcalm i _ s4 _ H4 _ I4' (stat fr4 pl1) st4 stop) fun r s5 ⟨hr,I5⟩=>?_;subst hr;have hd5:=(I5.pin (D,{ cls:=.type "list",data:=.seq its.toArray k }) (aA _ (aA _ (au.mpr rfl)))).1;have I5':Inv Y (X.pn++pins) (gX tn.length caps σ) H4 s5:=I5.my;have J5:Inv X pins σ H4 s5:=I2.S8 (ch:=fp) I5'.os I5'.base I5'.hok I5'.bare fun b hb=>⟨(f2 b hb).2.2.2.1,(f2 b hb).2.1,(f2 b hb).2.2.2.2.1,(f2 b hb).2.2.2.2.2⟩
   have up:∀a,D<=a->H4 a=none->pe X pins H4 a:=fun a ha hn=>by
    refine⟨hn,?_,fun z=>?_,.inr ?_,fun x c e z=>?_,fun p hp z=>?_⟩
    ·have h1:=I2.lt;intro z;rw[<-z,hDd]at h1;exact absurd (bB h1 ha) (bK _)
    ·exact I2.Sf (a:=a) (by rw[hDd];exact ha) z
    ·exact cP I2.sz (by rw[hDd];exact ha)
    ·obtain⟨v,q⟩:=I2.cell x c e;have h1:=q.lt;rw[z,hDd]at h1;exact absurd (bB h1 ha) (bK _)
    ·have h1:=Nq _ _ (I2.pin p hp).1;rw[z]at h1;exact absurd (bB h1 ha) (bK _)
   have J6:Inv X pins σ (upd H4 D (.lst ys)) s5:=J5.Gi (up D (aK _) hD4) (by have h1:=I2.sz;rw[hDd]at h1;exact h1) ⟨hz,its,k,rv4,hd5⟩;obtain⟨m5,hn5,_⟩:=I5'.loc;refine⟨rfl,D,upd H4 D (.lst ys),rfl,⟨m5,hn5⟩,J6,?_,qn D hD4⟩;have hC4:H4 C=none:=I5'.free;obtain⟨u0,u1,u2,u3,u4,u5⟩:=up C (by omega) hC4;exact⟨by rw[cm (fD hDC)];exact u0,u1,u2,u3,u4,u5⟩
  ·refine iL (T.item Y rfl rfl rfl hcalm i _ s4 _ H4 _ I4' (stat fr4 pl1) st4 go) fun r s5 ⟨u,hr,h5⟩=>?_;subst hr;refine iL h5 fun _ s6 ⟨x,H6,I6,r6,y6,st6,fr6⟩=>?_;have I6':=I6.pinned (stat fr6 pl1) (T.obj _ _ st6);refine iL (hg cl s₂ H2 C fp _ s6 _ H6 x u _ I6' r6 (touch _ _ _ _ (step x H6 y6))) fun _ s7 ⟨σ7,H7,I7,q7,l7,e7⟩=>?_
   have back:∀{H':Hp} {s':ae} {ys':List V} {its':List ab} {k':Nat} {n':Nat},Inv Y (X.pn++pins++lU fp s6.heap) σ7 H' s'->H' D=none->s'.heap.get? D=some { cls:=.type "list",data:=.seq its'.toArray k' }->cL ys' its'->W (i+1) n' ys' H'->
     ∃(i:Nat) (ys:List V) (its:List ab) (k:Nat) (H':Hp),Inv Y (X.pn++pins) (gX tn.length caps σ) H' s'/\H' D=none/\s'.heap.get? D=some { cls:=.type "list",data:=.seq its.toArray k }/\cL ys its/\tnn i s'.heap/\(∀b∈fp,H' b=none)/\W i n' ys H':=
    fun {H' s' ys' its' k' n'} I' hd ho rv w=>by
     refine⟨i+1,ys',its',k',H',(I'.my).weak (by rw[l7]) (fun j v hj=>?_),hd,ho,rv,T.keep _ _ _ st6 fun b hb o e=>(I'.pin (b,o) (aA _ (aA _ (mX hb e)))).1,fun b hb=>?_,w⟩
     ·have hj':tn.length<=j:=by
       by_cases hj':tn.length<=j
       ·exact hj'
       ·unfold gX at hj;rw[bf (by simpa using hj'),et]at hj;split at hj<;>cases hj
      rw[e7 j hj'];exact hj
     ·obtain⟨o,e,d⟩:=T.obj _ _ st6 b hb;exact(I'.pin (b,o) (aA _ (aA _ (mX hb e)))).2.1
   have pinOf:∀{σ':St} {H':Hp} {s':ae},Inv Y (((X.pn++pins)++[(D,{ cls:=.type "list",data:=.seq its.toArray k })])++lU fp s6.heap) σ' H' s'->s'.heap.get? D=some { cls:=.type "list",data:=.seq its.toArray k }/\H' D=none:=fun I'=>by
    obtain⟨q1,q2,_⟩:=I'.pin (D,{ cls:=.type "list",data:=.seq its.toArray k }) (aA _ (aY _ (aA _ (au.mpr rfl))));exact⟨q1,q2⟩
   have dropD:∀{σ':St} {H':Hp} {s':ae},Inv Y (((X.pn++pins)++[(D,{ cls:=.type "list",data:=.seq its.toArray k })])++lU fp s6.heap) σ' H' s'->Inv Y (X.pn++pins++lU fp s6.heap) σ' H' s':=fun I'=>
    I'.pY fun p hp=>I'.pin p (aA _ (by
     rcases aD.mp hp with z|z
     ·exact aY _ (aY _ z)
     ·exact aA _ z))
   refine iL (ht cl s₂ H2 C fp _ s7 σ7 H7 _ I7 q7) fun b s8 ⟨H8,I8,q8⟩=>?_
   cases b with
   | false=>
     rw[if_neg bI];rw[if_neg bI]at q8;obtain⟨m',hm,w8⟩:=q8;exact⟨m',hm,back (dropD I8) (pinOf I8).2 (pinOf I8).1 rv4 w8⟩
   | true=>
     rw[if_pos rfl];rw[if_pos rfl]at q8;refine iL (he cl s₂ H2 C fp _ s8 σ7 H8 _ I8 q8) fun v s9 ⟨y,H9,I9,r9,m',hm,w9⟩=>?_;obtain⟨ho9,hD9⟩:=pinOf I9;refine wpAny_list_append_plain (hsz:=by have:=rv4.length;simp;omega) (items:=its.toArray) ⟨k,ho9⟩ fun h' hl' hs'=>?_;obtain⟨k',hk'⟩:=hl';have I9':=dropD I9;have f9:=fpD hD9 D rfl
     have I10:Inv Y (X.pn++pins++lU fp s6.heap) σ7 H9 { s9 with heap:=h' }:=by
      refine I9'.turned (t':=s9.toks) (it:=D) (fun b o hb e=>hs'.extBut b o hb e) hD9 hDC (.inr (Ab hDd)) f9.2.2.2.2.1 fun p hp=>?_;have hp':p∈X.pn++pins++lU fp s6.heap:=by simpa [Y,eT]using hp
      rcases aD.mp hp' with z|z
      ·exact bN (Nq _ _ (I2.pin p z).1)
      ·obtain⟨hb,_⟩:=vc z;exact bN (hfpS _ hb)
     refine⟨m',hm,back (ys':=ys++[y]) (its':=its++[v]) (k':=k') I10 hD9 ?_ (rv4.append (.cons r9 .nil)) w9⟩;simpa using hk'
 exact codeAny_compStart_list (loop _ rfl) (T.self X.A 0 _ _ _ (T.keep _ _ _ iB fun b hb o e=>old b o e) (loop _ rfl))
theorem Lc{elt iter tg:aO}{ifs:List aO}{scope:fX}{pos:fS}{tn cn:List bh}{caps:List Nat}{wi:TI}{g:TG}{tt:TT}{te:TE}
  (hcalm:X.calm=true)(S:jb X scope tn cn caps)(hi:PI X tg iter wi)
  (hg:∀(cl:List (bh×ag)) (s₂:ae) (H₂:Hp) (C:ag) (ex:List ag),PG (eT X scope cl (tn++cn) s₂ H₂ C ex) tg g)(touch:oS tn.length g)
  (ht:∀(cl:List (bh×ag)) (s₂:ae) (H₂:Hp) (C:ag) (ex:List ag),JI (eT X scope cl (tn++cn) s₂ H₂ C ex) ifs tt)
  (he:∀(cl:List (bh×ag)) (s₂:ae) (H₂:Hp) (C:ag) (ex:List ag),PE (eT X scope cl (tn++cn) s₂ H₂ C ex) elt te)
  (hs:∀x,foldedSetIterable iter X.env x=pure x:=by intro _;rfl):PE X (.ListComp elt [⟨tg,iter,ifs,0⟩] scope pos) (Gq wi tn.length caps g tt te):=by
 intro pins s σ H Q I h;obtain⟨cl,hcl,h1,h2⟩:=tQ I.ok S;rw[eval_ListComp];refine DJ (use:=none) rfl hs hcl S.kind S.locs (iL (hi pins s σ H _ I h) fun v s1 hv=>iL hv fun itv s2 h2'=>?_);refine dm (tP (Q:=Q) (E:=X.xe) hcalm S h1 h2 hg touch ht he h2') (fun acc s3 q3=>dm q3 (fun cenv s4 q4=>ke q4 fun r s5 q5=>?_) fun _ _ z=>z) fun _ _ z=>z;obtain⟨rfl,D,H',rfl,⟨m,hn⟩,J,fC,q⟩:=q5;refine⟨m,hn,fun h' hs'=>⟨.ref D,H',?_,rfl,q⟩⟩;exact J.turned (t':=s5.toks) (it:=cenv.locals) (fun b o hb e=>hs'.extBut b o hb e) fC.1 fC.2.1 fC.2.2.2.1 fC.2.2.2.2.1 fC.2.2.2.2.2
theorem AI{i:Nat}{x:bh}{elt iter tg:aO}{ifs:List aO}{scope:fX}{pos pos' spos:fS}{tn cn:List bh}{caps:List Nat}{wi:TI}{g:TG}{tt:TT}{te:TE}(hN:X.N.Nodup)(hi':X.N[i]? = some x)(hx:Loc X.env.scope x)
  (hcalm:X.calm=true)(S:jb X scope tn cn caps)(hi:PI X tg iter wi)
  (hg:∀(cl:List (bh×ag)) (s₂:ae) (H₂:Hp) (C:ag) (ex:List ag),PG (eT X scope cl (tn++cn) s₂ H₂ C ex) tg g)(touch:oS tn.length g)
  (ht:∀(cl:List (bh×ag)) (s₂:ae) (H₂:Hp) (C:ag) (ex:List ag),JI (eT X scope cl (tn++cn) s₂ H₂ C ex) ifs tt)
  (he:∀(cl:List (bh×ag)) (s₂:ae) (H₂:Hp) (C:ag) (ex:List ag),PE (eT X scope cl (tn++cn) s₂ H₂ C ex) elt te)
  (hsw:swapsWith (.ListComp elt [⟨tg,iter,ifs,0⟩] scope pos) (some (.Name x pos')) spos.line X.env=pure true)
  (hs:∀x,foldedSetIterable iter X.env x=pure x:=by intro _;rfl)(hf:X.fn x=true\/X.env.scope.names.lookup x=some .local:=by first|exact .inl rfl|exact .inr rfl|assumption) :
  PS X (.Assign [.Name x pos'] (.ListComp elt [⟨tg,iter,ifs,0⟩] scope pos) spos) (Gr (Gq wi tn.length caps g tt te) (ku i)):=by
 intro pins s σ H D I h;obtain⟨cl,hcl,h1,h2⟩:=tQ I.ok S;rw[exec_Assign_Name_used _ _ _ _ hsw];refine wb9 (DI (wb9 ?_));show aB _ X.A (do let _ <-comprehension (.ListComp elt [⟨tg,iter,ifs,0⟩] scope pos) scope X.env _ (newList []) false (eval iter X.env) (some (assign (.Name x pos') X.env))) _ _ s;refine wb9 (dm (DJ (use:=some (assign (.Name x pos') X.env)) (Q:=fun _ s'=>SP X pins D .next s') rfl hs hcl S.kind S.locs (iL (hi pins s σ H _ I h) fun v s1 hv=>iL hv fun itv s2 h2'=>?_)) (fun _ s' hq=>wu9 (wu9 hq)) fun _ _ e=>e);refine dm (tP (Q:=fun x H1=>ku i x σ H1 D.nx) (E:=X.xe) hcalm S h1 h2 hg touch ht he h2') (fun acc s3 q3=>dm q3 (fun cenv s4 q4=>ke q4 fun r s5 q5=>?_) fun _ _ z=>z) fun _ _ z=>z;obtain⟨rfl,D',H',rfl,⟨m,hn⟩,J,fC,q⟩:=q5;show aB _ X.A (assign (.Name x pos') X.env (.ref D')) _ _ _;refine wpAny_assign_Name ?_;obtain⟨oC,es,ep,hoC,hdC,hkC⟩:=id hn
 have J':Inv X (pins++[(cenv.locals,oC)]) σ H' s5:=J.pY fun p hp=>by
  rcases aD.mp hp with z|z
  ·exact J.pin p (aA _ z)
  ·have e:p=(cenv.locals,oC):=by simpa using z
   subst e;exact⟨hoC,fC.1,fC.2.1,fC.2.2.1,fun v z=>by rw[hdC]at z;cases z⟩
 refine sy J' hN hi' hx (v:=.ref D') (u:=.ref D') rfl (fun s6 I6=>?_) hf;have e6:=(I6.pin (cenv.locals,oC) (by simp)).1;refine⟨m,⟨oC,es,ep,e6,hdC,hkC⟩,fun h' hs'=>⟨_,H',?_,q⟩⟩;exact(I6.my).turned (t':=s6.toks) (it:=cenv.locals) (fun b o hb e=>hs'.extBut b o hb e) fC.1 fC.2.1 fC.2.2.2.1 fC.2.2.2.2.1 fC.2.2.2.2.2
end
end L2
namespace M
open PySem PySem.Spec PyProof.Rows L2
def lj(K:Fg)(F1:Hp)(J:It)(items:List Dat):Prop:=∀F H,Good F H->cu F1 F->
 (∀(i:Nat) d,items[i]? = some d->J.go i H/\∀x H',J.yld i H x H'->∃F',Step F H F' H'/\Rep K F' d x)/\∀i,items.length<=i->J.stop i H
noncomputable def tJ(x:Iw)(F:Hp):Hp:=match x with
 | .rng _=>fun _=>none
 | _=>F
theorem yV{x:Iw}{F F':Hp}(h:cu F F'):cu (tJ x F) F':=by
 unfold tJ;split
 ·intro a o e;cases e
 ·exact h
noncomputable def gI(K:Fg)(C:Fs)(x:Iw):TI:=fun σ H R=>∃ρ items F,Bw C x ρ=some items/\Good F H/\me K F σ ρ/\∀J F1 H1,Step F H F1 H1->lj K (tJ x F1) J items->R J H1
abbrev SI(X:Cx)(C:Fs)(tg iter:aO)(x:Iw):Prop:=PI X tg iter (gI X.K C x)
noncomputable def TR(x:bh):It:=⟨fun i _=>i<x.cps.size,fun i H v H'=>H'=H/\∃c,x.cps[i]? = some c/\v=V.str ⟨#[c]⟩,fun i _=>x.cps.size<=i⟩
theorem Gf{P:aS}{w:bA}{K:aN}{tg:aO}(x:bh)(t:xA)(it:ag):Turn P w K tg (TR x) [it] it (fun i h=>h.IsStrIter it "str_ascii_iterator" x t i) where
 mem:=by simp
 obj:=fun i h st b hb=>by
  have e:b=it:=by simpa using hb
  subst e;obtain⟨o,e,c,d⟩:=st;exact⟨o,e,fun v z=>by rw[d]at z;cases z⟩
 keep:=fun i h h' st k=>by
  obtain⟨o,e,c,d⟩:=st;exact⟨o,k it (by simp) o e,c,d⟩
 item:=by
  intro X hP hw hK hc i pins s σ H E I hf st hg;subst hP hw hK;obtain⟨f0,f1,f2,f3,f4,f5⟩:=hf it (by simp);have hx:x.cps[i]? = some (x.cps[i]'hg):=aW hg;refine wpAny_pyNext_ascii_item st hx fun h' st' sb=>?_;have I1:Inv X pins σ H { s with heap:=h',toks:=s.toks+1 }:=I.turned (fun b o hb e=>(sb.2 b hb).trans e) f0 f1 f3 f4 f5;obtain⟨o,e,c,d⟩:=id st';exact⟨_,rfl,yP (s:={ s with heap:=h',toks:=s.toks+1 }) e c d (by decide) ⟨.str ⟨#[x.cps[i]'hg]⟩,H,I1,⟨_,rfl⟩,⟨rfl,_,hx,rfl⟩,st',fun b hb=>(hf b hb).1⟩⟩
 done:=by
  intro X hP hw hK hc i pins s σ H E I hf st hg;subst hP hw hK;obtain⟨f0,f1,f2,f3,f4,f5⟩:=hf it (by simp);have hg':x.cps.size<=i:=hg;exact wpAny_pyNext_ascii_end (I.ok.hd hc) st (fu hg') fun h' eb=>⟨rfl,I.turned (t':=s.toks) (fun b o hb e=>eb b o hb e) f0 f1 f3 f4 f5⟩
 self:=fun _ _ _ _ _ st h=>wpAny_pyIter_striter_ascii st h
theorem Ge{P:aS}{w:bA}{K:aN}{tg:aO}(x:bh)(t:xA)(it:ag):Turn P w K tg (TR x) [it] it (fun i h=>h.IsStrIter it "str_iterator" x t i) where
 mem:=by simp
 obj:=fun i h st b hb=>by
  have e:b=it:=by simpa using hb
  subst e;obtain⟨o,e,c,d⟩:=st;exact⟨o,e,fun v z=>by rw[d]at z;cases z⟩
 keep:=fun i h h' st k=>by
  obtain⟨o,e,c,d⟩:=st;exact⟨o,k it (by simp) o e,c,d⟩
 item:=by
  intro X hP hw hK hc i pins s σ H E I hf st hg;subst hP hw hK;obtain⟨f0,f1,f2,f3,f4,f5⟩:=hf it (by simp);have hx:x.cps[i]? = some (x.cps[i]'hg):=aW hg;refine wpAny_pyNext_wide_item st hx fun h' st' sb=>?_;have I1:Inv X pins σ H { s with heap:=h',toks:=s.toks+1 }:=I.turned (fun b o hb e=>(sb.2 b hb).trans e) f0 f1 f3 f4 f5;obtain⟨o,e,c,d⟩:=id st';exact⟨_,rfl,yP (s:={ s with heap:=h',toks:=s.toks+1 }) e c d (by decide) ⟨.str ⟨#[x.cps[i]'hg]⟩,H,I1,⟨_,rfl⟩,⟨rfl,_,hx,rfl⟩,st',fun b hb=>(hf b hb).1⟩⟩
 done:=by
  intro X hP hw hK hc i pins s σ H E I hf st hg;subst hP hw hK;obtain⟨f0,f1,f2,f3,f4,f5⟩:=hf it (by simp);have hg':x.cps.size<=i:=hg;exact wpAny_pyNext_wide_end (I.ok.hd hc) st (fu hg') fun h' eb=>⟨rfl,I.turned (t':=s.toks) (fun b o hb e=>eb b o hb e) f0 f1 f3 f4 f5⟩
 self:=fun _ _ _ _ _ st h=>wpAny_pyIter_striter_wide st h
noncomputable def VO(tl:TE):TI:=fun σ H R=>tl σ H fun v H1=>∃x,v=.str x/\R (TR x) H1
theorem Hc{X:Cx}{tg l:aO}{tl:TE}(hl:PE X l tl):PI X tg l (VO tl):=by
 intro pins s σ H R I h;refine iL (hl pins s σ H _ I h) fun v s1 ⟨y,H1,I1,r1,q1⟩=>?_;obtain⟨x,e,q⟩:=q1;subst e;obtain⟨t,rfl⟩:=r1
 have fin:∀b∈[s1.heap.objs.size],pe X pins H1 b:=fun b hb=>by
  have e:b=s1.heap.objs.size:=by simpa using hb
  subst e;exact I1.yX (aK _) (I1.hok.fresh (aK _))
 cases ha:x.cps.all (·< 128)with
 | true=>exact wpAny_pyIter_ascii ha ⟨s1.heap.objs.size,[s1.heap.objs.size],_,_,H1,rfl,I1.kept (t':=s1.toks) fun b o e=>hp9 _ e,Gf x t _,⟨_,aQ _ rfl,rfl,rfl⟩,fin,q⟩
 | false=>exact wpAny_pyIter_wide ha ⟨s1.heap.objs.size,[s1.heap.objs.size],_,_,H1,rfl,I1.kept (t':=s1.toks) fun b o e=>hp9 _ e,Ge x t _,⟨_,aQ _ rfl,rfl,rfl⟩,fin,q⟩
theorem yI{K:Fg}{F1:Hp}{x:bh}:lj K F1 (TR x) (x.cps.toList.map fun c=>Dat.str ⟨#[c]⟩):=fun F H g s=>by
 refine⟨fun i d hd=>?_,fun i hi=>(by simpa using hi:x.cps.size<=i)⟩;rw[bx]at hd;obtain⟨c,hc,rfl⟩:=fM hd;have hc':x.cps[i]? = some c:=by rw[<-dM];exact hc
 refine⟨(cQ.mp hc').1,fun v H' y=>?_⟩;obtain⟨rfl,c',e1,rfl⟩:=y;rw[hc']at e1;cases e1;exact⟨F,Step.refl g,rfl⟩
section
variable{X:Cx}{C:Fs}{tg iter e:aO}{xe:Ex}{pos:fS}
theorem PI.imp{w w':TI}(h:PI X tg iter w)(f:∀σ H R,w' σ H R->w σ H R):PI X tg iter w':=fun pins s σ H R I q=>h pins s σ H R I (f _ _ _ q)
theorem PI.or{w w':TI}(h:PI X tg iter w)(h':PI X tg iter w'):PI X tg iter (fun σ H R=>w σ H R\/w' σ H R):=fun pins s σ H R I q=>by
 rcases q with q|q
 ·exact h pins s σ H R I q
 ·exact h' pins s σ H R I q
theorem vo{K:Fg}{F1:Hp}{a:ag}{vs:List V}{ds:List Dat}(h:nF K F1 a vs)(r:cR K F1 ds vs):lj K F1 (Wn K a) ds:=fun F H g s=>by
 have hq:=g.sub.seq (s.seq h);refine⟨fun i d hd=>?_,fun i hi=>⟨vs,hq,by rw[r.length];exact hi⟩⟩;obtain⟨v,e1,e2⟩:=r.get hd;refine⟨⟨vs,v,hq,e1⟩,fun x H' y=>?_⟩;obtain⟨rfl,y⟩:=y;have:=y vs hq;rw[e1]at this;cases this;exact⟨F,Step.refl g,e2.mono s⟩
theorem yH{K:Fg}{F1:Hp}{a:ag}{vs:List V}{ds:List Dat}(h:Tq K F1 a vs)(r:cR K F1 ds vs):lj K F1 (Wm K a) ds:=fun F H g s=>by
 have hq:=((h.mono s).mono g.sub).sq;refine⟨fun i d hd=>?_,fun i hi=>⟨vs,hq,by rw[r.length];exact hi⟩⟩;obtain⟨v,e1,e2⟩:=r.get hd;refine⟨⟨vs,v,hq,e1⟩,fun x H' y=>?_⟩;obtain⟨rfl,y⟩:=y;have:=y vs hq;rw[e1]at this;cases this;exact⟨F,Step.refl g,e2.mono s⟩
theorem Oo(h:SE X C e xe):SI X C tg e (.itv xe):=PI.imp (PI.or (PI.or (Cw h) (Hb h)) (Hc h)) fun σ H R z3=>by
 obtain⟨ρ,items,F,hi,g,RS,k⟩:=z3;obtain⟨⟨d,fr⟩,h1,h2⟩:=eD hi
 cases d with
 | lst ds=>
   cases h2;refine .inl (.inl ⟨ρ,_,fr,h1,F,g,RS,fun v F1 H1 st r _=>?_⟩);obtain⟨a,vs,rfl,hq,r⟩:=r;exact⟨a,rfl,⟨vs,st.good.sub.seq hq⟩,k _ F1 H1 st (vo hq r)⟩
 | tup ds=>
   cases h2;refine .inl (.inr ⟨ρ,_,fr,h1,F,g,RS,fun v F1 H1 st r _=>?_⟩);obtain⟨a,vs,rfl,hq,r⟩:=r;exact⟨a,rfl,⟨vs,(hq.mono st.good.sub).sq⟩,k _ F1 H1 st (yH hq r)⟩
 | str x=>
   cases h2;refine .inr ⟨ρ,_,fr,h1,F,g,RS,fun v F1 H1 st r _=>?_⟩;cases r;exact⟨x,rfl,k _ F1 H1 st yI⟩
 | _=>cases h2
theorem HS{K:Fg}{F1:Hp}{lo:Int}{n:Nat}:lj K F1 (US lo n) ((aT n).map fun k:Nat=>Dat.int (lo+k)):=fun F H g s=>by
 refine⟨fun i d hd=>?_,fun i hi=>(by simpa using hi:n<=i)⟩;rw[bx]at hd
 have hi:i<n:=by
  by_cases hi:i<n
  ·exact hi
  ·rw[jZ (by simpa using hi)]at hd;cases hd
 rw[af (by simpa using hi)]at hd;simp only[List.getElem_range,bE,iX]at hd;subst hd;refine⟨hi,fun x H' y=>?_⟩;obtain⟨rfl,rfl⟩:=y;exact⟨F,Step.refl g,rfl⟩
theorem Kv{a:aO}{xa:Ex}{p:fS}(hg:Gl X "range")(hm:X.mg "range"=none)(ha:SA X C [a] [xa])(hs:bp [a] X.env=[(false,eval a X.env)]:=by rfl):SI X C tg (.Call (.Name "range" p) [a] [] pos) (.rng [xa]):=
 PI.imp (Em hg hm ha hs) fun σ H R z3=>by
  obtain⟨ρ,items,F,hi,g,RS,k⟩:=z3;obtain⟨ds,h1,h2⟩:=eD hi;refine⟨ρ,ds,h1,F,g,RS,fun vs F1 H1 st r=>?_⟩;unfold GS at h2;split at h2
  ·rename_i j;split at h2
   ·rename_i hz;cases h2;obtain⟨v,w,rfl,rv,rw'⟩:=r;cases rv;cases rw';refine⟨j,rfl,by omega,by omega,k _ F1 H1 st ?_⟩;have:=HS (K:=X.K) (F1:=tJ (.rng [xa]) F1) (lo:=0) (n:=j.toNat);simpa using this
   ·cases h2
  ·have:=tM h1;cases this
  ·cases h2
end
theorem Ew{f:Dat->Option (Option (Dat×Bool))}{d:Dat}{ds:List Dat}{ys:List Dat×Bool}(h:oX f (d::ds)=some ys):∃o r,f d=some o/\oX f ds=some r/\ys=(match o with|some y=>(y.1::r.1,(y.2 || im y.1) && r.2)|none=>r):=by
 simp only[oX]at h;obtain⟨o,h1,h⟩:=eD h;obtain⟨r,h2,h⟩:=fM h;exact⟨o,r,h1,h2,by cases o<;>exact h.symm⟩
def QX(K:Fg)(nt:Nat)(one:Bool)(g:TG):Prop:=∀F H σ ρ d x ρ1 Q,Good F H->me K F σ ρ->nt<=σ.length->σ.length=ρ.length->Rep K F d x->Dy nt one d ρ=some ρ1->(∀σ1,me K F σ1 ρ1->Q σ1 H)->g x σ H Q
theorem xW{K:Fg}{F:Hp}{σ:St}{ρ:gD}{i:Nat}{d:Dat}{v:V}(hl:σ.length=ρ.length)(R:me K F σ ρ)(r:Rep K F d v):me K F (σ.set i (some v)) (ρ.set i (some d)):=fun j d' q=>by
 rw[qQ]at q ⊢;by_cases hj:i=j
 ·rw[if_pos hj]at q ⊢;split at q
  ·cases q;rw[if_pos (by omega)];exact⟨v,rfl,r⟩
  ·cases q
 ·rw[if_neg hj]at q ⊢;exact R j d' q
theorem Ka{K:Fg}{nt:Nat}:QX K nt true (ku 0):=fun F H σ ρ d x ρ1 Q g R hn hl r hb k=>by
 simp only[Dy,iX]at hb;subst hb;exact k _ (xW hl R r)
theorem Fd{K:Fg}{F:Hp}{σ:St}{ρ:gD}{nt:Nat}{caps:List Nat}(R:me K F σ ρ):me K F (gX nt caps σ) (gP nt caps ρ):=fun i d q=>by
 unfold gP at q;unfold gX;by_cases hi:i<nt
 ·rw[bf (by simpa using hi),et,if_pos hi]at q;cases q
 ·rw[aR (by simpa using hi),jY,bx]at q;rw[aR (by simpa using hi),jY,bx]
  cases hj:caps[i - nt]? with
  | none=>rw[hj]at q;cases q
  | some j=>
    rw[hj]at q;have q':(ρ[j]?).join=some d:=bw q
    have q2:ρ[j]? = some (some d):=by
     cases z:ρ[j]? with
     | none=>rw[z]at q';cases q'
     | some o=>rw[z]at q';exact congrArg some q'
    obtain⟨v,e1,e2⟩:=R j d q2;refine⟨v,?_,e2⟩;rw[bE,e1];rfl
noncomputable def Ri(K:Fg)(C:Fs)(xs:List Ex):TT:=fun σ H Q=>∃ρ b,vx C xs ρ=some b/\tT K ρ b σ H Q
section
variable{X Y:Cx}{C:Fs}{tg iter elt:aO}{it:Iw}{xe:Ex}{xs:List Ex}
theorem Kg:JI Y [] (Ri Y.K C []):=fun pins s σ H Q I z6=>by
 obtain⟨ρ,b,h,F,g,R,k⟩:=z6;simp only[vx]at h;cases h;exact KZ pins s σ H Q I (k F H (Step.refl g))
theorem Kf{c:aO}(h:ST Y C c xe):JI Y [c] (Ri Y.K C [xe]):=fun pins s σ H Q I z6=>by
 obtain⟨ρ,b,hb,F,g,R,k⟩:=z6;refine KY h pins s σ H Q I ?_;simp only[vx]at hb;obtain⟨⟨d,fr⟩,h1,hb⟩:=eD hb;obtain⟨z,hz,hb⟩:=eD hb;refine⟨ρ,d,fr,z,h1,hz,F,g,R,fun F1 H1 st=>?_⟩
 cases z with
 | true=>rw[if_pos rfl]at hb;cases hb;exact k F1 H1 st
 | false=>rw[if_neg bI]at hb;cases hb;exact k F1 H1 st
theorem vz{nt:Nat}{one:Bool}{caps:List Nat}{g:TG}{K:Fg}(tgc:QX K nt one g)(hcl:∀ρ items,Bw C it ρ=some items->True) :
  ∀σ H Q,gE K C (.comp nt one caps it xs xe) σ H Q->Gq (gI K C it) nt caps g (Ri K C xs) (gE K C xe) σ H Q:=fun σ H Q z3=>by
 obtain⟨ρ,d,fr,h,F,g0,R,k⟩:=z3;obtain⟨items,h1,h⟩:=eD h;split at h
 ·rename_i hz;obtain⟨⟨all,av⟩,h2,h⟩:=fM h;cases h;refine⟨ρ,items,F,h1,g0,R,fun J F1 H1 eZ ok=>?_⟩;refine⟨fun i m ys H'=>∃F' dy ay dr ar,Step F1 H1 F' H'/\oX (jK C nt one (gP nt caps ρ) xs xe) (items.drop i)=some (dr,ar)/\all=dy++dr/\av=(ay && ar)/\cR K F' dy ys/\(ay=true->fm K H1 H' dy ys)/\m=items.length - i/\i<=items.length/\dy.length<=i,⟨items.length,F1,[],true,all,av,Step.refl eZ.good,h2,rfl,rfl,rfl,fun _=>.nil,rfl,dJ _,aK _⟩,?_⟩;rintro i m ys H' ⟨F',dy,ay,dr,ar,st,hm,ha,hav,ry,fy,rfl,hi,hdy⟩;have hy:ys.length<=1000000:=by rw[ry.length];omega
  obtain⟨okg,Sd⟩:=ok F' H' st.good (yV st.ff);by_cases hlt:i<items.length
  ·obtain⟨go,yl⟩:=okg i items[i] (af hlt);refine .inr ⟨go,by rw[cj];omega,fun x H2 y2=>?_⟩;obtain⟨F2,iB,r2⟩:=yl x H2 y2;rw[mj hlt]at hm;obtain⟨o,⟨rr,rv⟩,h3,h4,h5⟩:=Ew hm;obtain⟨ρ1,h6,h3⟩:=eD h3;obtain⟨b,h7,h3⟩:=eD h3;have RS:me K F2 (gX nt caps σ) (gP nt caps ρ):=(Fd R).mono ((eZ.ff.trans st.ff).trans iB.ff);refine tgc F2 H2 _ _ _ x ρ1 _ iB.good RS (by simp[gX]) (by simp[gX,gP]) r2 h6 fun σ1 RS1=>?_;refine⟨ρ1,b,h7,F2,iB.good,RS1,fun F3 H3 qu=>?_⟩
   cases b with
   | true=>
     rw[if_pos rfl]at h3 ⊢;obtain⟨⟨dy1,fr1⟩,h8,h3⟩:=fM h3;cases h3;refine⟨ρ1,dy1,fr1,h8,F3,qu.good,RS1.mono qu.ff,fun v F4 H4 st4 r4 f4=>?_⟩;have stA:=((st.trans iB).trans qu).trans st4;have e5:dr=dy1::rr/\ar=((fr1 || im dy1) && rv):=by cases h5;exact⟨rfl,rfl⟩
     refine⟨items.length - (i+1),by omega,F4,dy++[dy1],ay && (fr1 || im dy1),rr,rv,stA,h4,by rw[ha,e5.1];simp,by rw[hav,e5.2,M9],(ry.mono ((iB.ff.trans qu.ff).trans st4.ff)).append (.one r4),fun z=>?_,rfl,hlt,by simp;omega⟩;simp only[aF,kG]at z;have s23:=iB.hh.trans qu.hh;refine fm.snoc (st.hh.trans s23) st4.hh ((fy z.1).mono s23) ?_
     rcases z.2 with z2|z2
     ·exact f4 z2
     ·exact .lK st4.good z2 r4
   | false=>
     rw[if_neg bI]at h3 ⊢;cases h3;have e5:dr=rr/\ar=rv:=by cases h5;exact⟨rfl,rfl⟩
     exact⟨items.length - (i+1),by omega,F3,dy,ay,rr,rv,(st.trans iB).trans qu,h4,by rw[ha,e5.1],by rw[hav,e5.2],ry.mono (iB.ff.trans qu.ff),fun z=>(fy z).mono (iB.hh.trans qu.hh),rfl,hlt,by omega⟩
  ·have e:i=items.length:=by omega
   subst e;refine .inl ⟨Sd _ (aK _),qa hy,fun p hp=>?_⟩;rw[JA]at hm;simp only[oX]at hm;cases hm;rw[aL]at ha;rw[eV]at hav;subst ha hav;have ry':=ry.mono (cu.upd (o:=.lst ys) (st.good.sub.free hp));exact k _ _ _ ((eZ.trans st).trans (Step.alloc st.good hp)) ⟨p,ys,rfl,.inl (.inl cJ),ry'⟩ fun z=>.lst (eZ.hh.trans st.hh) hp ((fy z).back (F:=F) eZ.hh)
 ·cases h
end
theorem HQ{K:Fg}{F:Hp}{d:Dat}{k:Key}{v:V}(h:EC d=some k)(r:Rep K F d v):v=kV k:=by
 cases d with
 | int i=>cases h;exact r
 | str x=>cases h;exact r
 | _=>cases h
theorem vh{K:Fg}{F:Hp}{k:Key}{d:Dat}:∀{ds:List Dat} {kvs:List (Key×V)},vi k (kvs.map (·.1)) ds=some d->cR K F ds (kvs.map (·.2))->∃v,sr kvs k=some v/\Rep K F d v
 | [],[],h,_=>by cases h
 | [],_::_,h,_=>by cases h
 | _::_,[],h,_=>by cases h
 | e::ds,p::kvs,h,r=>by
   obtain⟨v,w,q,r1,r2⟩:=r;cases q;simp only[aq,vi]at h;split at h
   ·rename_i z;cases h;exact⟨p.2,sj z,r1⟩
   ·rename_i z;obtain⟨v,g1,g2⟩:=vh h r2;exact⟨v,(sk z).trans g1,g2⟩
section
variable{X:Cx}{C:Fs}{a b c e:aO}{xa xb xc:Ex}{pos:fS}{es:List aO}{xs:List Ex}{pins:List (ag×fe)}{σ:St}{F H:Hp}{s:ae}
theorem DA{K:Fg}{F:Hp}{ds:List Dat}{vs:List V}{i:Int}{d:Dat}(r:cR K F ds vs)(h:lN ds i=some d):∃v,lN vs i=some v/\Rep K F d v:=by
 unfold lN at h ⊢;rw[r.length];obtain⟨j,h1,h2⟩:=eD h;obtain⟨v,e1,e2⟩:=r.get h2;exact⟨v,by rw[h1];exact e1,e2⟩
theorem VH(hu:X.A.units+1<dS):Rq X (gB X.K fun x y=>(JE x y).map fun d=>(d,false)):=by
 intro value slice pins s σ H x y v u Q I rx ry h hs;obtain⟨da,db,d,fr,h,F,g,ra,rb,k⟩:=h;obtain⟨d',h1,h2⟩:=fM h;obtain⟨rfl,rfl⟩:d'=d/\false=fr:=by cases h2;exact⟨rfl,rfl⟩
 by_cases hdc:∃ks ds,da=.dct ks ds
 ·obtain⟨ks,ds,rfl⟩:=hdc;have h1':(EC db).bind (fun k=>vi k ks ds)=some d':=by cases db<;>exact h1
  obtain⟨kk,hk,hl⟩:=eD h1';obtain⟨a,kvs,rfl,hF,rfl,rr⟩:=ra;obtain⟨w,e1,e2⟩:=vh hl rr;obtain rfl:=HQ hk rb;cases rx;have dg:Fn H a (kV kk) (some w):=by rw[<-e1];exact Fn.k (g.sub _ _ hF)
  exact tail_any (zi I dg) PySem.F.slot_dict_getitem.lookup (EY hu I dg ry fun u' s' I' r'=>⟨w,H,I',r',k _ F H (Step.refl g) e2 bV⟩) hs
 cases da<;>first|exact absurd ⟨_,_,rfl⟩ hdc|skip
 all_goals cases db<;>simp only[JE,reduceCtorEq]at h1
 ·
  split at h1
  ·rename_i z i hz;obtain⟨c,h3,h4⟩:=fM h1;subst h4;exact PU value slice pins s σ H x y v u Q I rx ry ⟨z,i,c,ra,rb,hz,h3,k _ F H (Step.refl g) rfl bV⟩ hs
  ·cases h1
 ·rename_i ds i;obtain⟨p,vs,rfl,t,r⟩:=ra;obtain⟨w,e1,e2⟩:=DA r h1;exact PR value slice pins s σ H _ y v u Q I rx ry ⟨p,vs,i,w,rfl,rb,(t.mono g.sub).sq,e1,k _ F H (Step.refl g) e2 bV⟩ hs
 ·rename_i ds i;obtain⟨p,vs,rfl,t,r⟩:=ra;obtain⟨w,e1,e2⟩:=DA r h1;exact LN value slice pins s σ H _ y v u Q I rx ry ⟨p,vs,i,w,rfl,rb,g.sub.seq t,e1,k _ F H (Step.refl g) e2 bV⟩ hs
noncomputable def gO(K:Fg)(C:Fs)(x:Option Ex):TO:=fun σ H Q=>∃ρ o F,QM C ρ x=some o/\Good F H/\me K F σ ρ/\∀F' H',Step F H F' H'->Q o H'
abbrev SO(X:Cx)(C:Fs)(e:Option aO)(x:Option Ex):Prop:=PO X e (gO X.K C x)
theorem PO.imp{e:Option aO}{t t':TO}(h:PO X e t)(f:∀σ H Q,t' σ H Q->t σ H Q):PO X e t':=fun pins s σ H Q I q=>h pins s σ H Q I (f _ _ _ q)
theorem Kq:SO X C none none:=PO.imp K7 fun σ H Q z3=>by
 obtain⟨ρ,o,F,ho,g,R,k⟩:=z3;cases ho;exact k F H (Step.refl g)
theorem Kp(h:SE X C e xa):SO X C (some e) (some xa):=PO.imp (K6 h) fun σ H Q z3=>by
 obtain⟨ρ,o,F,ho,g,R,k⟩:=z3;obtain⟨⟨d,fr⟩,h1,h2⟩:=eD ho
 cases d with
 | int i=>
   cases h2;exact⟨ρ,_,fr,h1,F,g,R,fun v F1 H1 st r _=>⟨i,r,k F1 H1 st⟩⟩
 | _=>cases h2
def WT(K:Fg):V->Option Int->Option Int->Hp->VK->Prop:=fun x lo hi H Q=>∃da d fr F,Kt da lo hi=some (d,fr)/\Good F H/\Rep K F da x/\∀v F' H',Step F H F' H'->Rep K F' d v->(fr=true->iu K H H' d v)->Q v H'
theorem Mq{K:Fg}{F:Hp}{ds:List Dat}{vs:List V}(lo hi:Option Int)(r:cR K F ds vs):cR K F (cutD ds lo hi) (zk vs lo hi):=by
 unfold cutD zk;rw[<-r.length];exact(r.drop _).take _
theorem qf{prog:aS}{w:bA}{A:bC}{E:ab->ae->Prop}{s:ae}{t sl:ag}{items:Array ab}{vl vu:ab}{lo hi:Option Int}{Q:ab->ae->Prop}(ht:JS s.heap t items)(hs:s.heap.IsSliceOf sl vl vu .none)(pl:qq vl lo)(pu:qq vu hi)
  (hw:HT.gG items.size 0 lo=0/\HT.gG items.size items.size hi=items.size)
  (h:Q (.ref t) s):aB (aI prog w) A (getItem (.ref t) (.ref sl)) Q E s:=by
 obtain⟨os,hos,hcs,hds⟩:=id hs;have hTs:s.TypeIs (.ref sl) "slice":=⟨os,hos,hcs⟩
 unfold getItem
 try with_reducible refine eh ?_
 first|refine wb9 (wu9 ?_)|skip
 refine wb9 (wpAny_sequenceKey ht.typeIs (by decide) ?_)
 refine wb9 (cy (name:=aa "__getitem__") ht.typeIs dh
  (cg dh ht.typeIs entry_tuple_getitem ?_ (args_tuple_getitem _ _)))
 show aB _ _ (jW (.ref t) >>= _) _ _ s;refine wb9 (tupleItemsOf_ ht ?_);refine wb9 (mo hTs ?_);rw[if_pos (by decide)];refine wb9 (HT.mz hs pl pu ?_)
 have hyes:((((HT.gG items.size 0 lo:Nat):Int) == 0 && (1:Int) == 1 && (HT.gG items.size items.size hi - HT.gG items.size 0 lo) == items.size)=true):=by
  rw[hw.1,hw.2];simp
 show aB _ _ (if(((HT.gG items.size 0 lo:Nat):Int) == 0 && (1:Int) == 1 && (HT.gG items.size items.size hi - HT.gG items.size 0 lo) == items.size)=true then _ else _) _ _ s;rw[if_pos hyes];refine wb9 (m:=pH (.ref t)) ?_;unfold pH;refine wb9 (mo ht.typeIs (wu9 ?_));rw[if_pos (by decide)];exact wb9 (ic (wu9 ⟨_,rfl,wu9 h⟩))
theorem U9:UQ X (WT X.K):=by
 intro pins s σ H x v vl vu lo hi sl Q I rx hs pl pu h;obtain⟨da,d,fr,F,h,g,ra,k⟩:=h
 cases da with
 | str z=>
   simp only[Kt]at h;split at h
   ·rename_i hz;cases h;rw[show x=.str z from ra]at rx;obtain⟨t,rfl⟩:=rx;obtain⟨o,ho,hc,hd⟩:=hs;refine⟨"str",_,PySem.F.slot_str_getitem.lookup,typeIs_str _ _ _,?_⟩;have fin:∀t' k',EP X pins σ Q (.str (iO z lo hi) t') { s with toks:=k' }:=fun t' k'=>⟨.str _,H,I.tok k',⟨t',rfl⟩,k _ F H (Step.refl g) rfl bV⟩
    have hle:=cP (xx z lo hi) hz
    cases pl with
    | none=>
      cases pu with
      | none=>exact jS (l:=none) (u:=none) (st:=none) ⟨o,ho,hc,hd⟩ rfl (pv ⟨hle,fin⟩)
      | int j uj=>exact jS (l:=none) (u:=some (j,uj)) (st:=none) ⟨o,ho,hc,hd⟩ rfl (pv ⟨hle,fin⟩)
    | int i ui=>
      cases pu with
      | none=>exact jS (l:=some (i,ui)) (u:=none) (st:=none) ⟨o,ho,hc,hd⟩ rfl (pv ⟨hle,fin⟩)
      | int j uj=>exact jS (l:=some (i,ui)) (u:=some (j,uj)) (st:=none) ⟨o,ho,hc,hd⟩ rfl (pv ⟨hle,fin⟩)
   ·cases h
 | tup ds=>
   simp only[Kt]at h;cases h;obtain⟨p,vs,rfl,t,r⟩:=ra;by_cases hw:HT.gG ds.length 0 lo=0/\HT.gG ds.length ds.length hi=ds.length
   ·have e:cutD ds lo hi=ds:=by
     unfold cutD;rw[hw.1,hw.2,fL,Nat.sub_zero,List.take_length]
    rw[e]at k;cases rx;obtain⟨its,w1,ht,hz⟩:=I.tuple (t.mono g.sub).sq;have hlen:its.toArray.size=ds.length:=by rw[aH,<-w1.length,r.length]
    exact⟨"tuple",_,dh.lookup,ht.typeIs,qf ht hs pl pu (by rw[hlen];exact hw) ⟨.ref p,H,I,rfl,k _ F H (Step.refl g) ⟨p,vs,rfl,t,r⟩ bV⟩⟩
   ·refine Ol pins s σ H _ v vl vu lo hi sl Q I rx hs pl pu ⟨p,vs,rfl,(t.mono g.sub).sq,by rw[r.length];exact hw,fun q hq=>?_⟩;exact k _ _ _ (Step.alloc g hq) ⟨q,_,rfl,.inl cJ,(Mq lo hi r).mono (cu.upd (g.sub.free hq))⟩ bV
 | _=>cases h
theorem RJ{lo hi:Option aO}{xb xc:Option Ex}{p2:fS}(ha:SE X C a xa)(hl:SO X C lo xb)(hh:SO X C hi xc):SE X C (.Subscript a (.Slice lo hi none p2) pos) (.sl xa xb xc):=
 PE.imp (Hh U9 ha hl hh) fun σ H Q z3=>by
  obtain⟨ρ,d,fr,h,F,g,R,k⟩:=z3;obtain⟨⟨da,fa⟩,h1,h⟩:=eD h;obtain⟨l,h2,h⟩:=eD h;obtain⟨u,h3,h⟩:=eD h;refine⟨ρ,da,fa,h1,F,g,R,fun v F1 H1 eZ r1 _=>⟨ρ,l,F1,h2,eZ.good,R.mono eZ.ff,fun F2 H2 iB=>⟨ρ,u,F2,h3,iB.good,R.mono (eZ.ff.trans iB.ff),fun F3 H3 qu=>?_⟩⟩⟩;exact⟨da,d,fr,F3,h,qu.good,r1.mono (iB.ff.trans qu.ff),fun w F4 H4 st4 r4 f4=>k w F4 H4 (((eZ.trans iB).trans qu).trans st4) r4 fun z=>(f4 z).back (F:=F) ((eZ.hh.trans iB.hh).trans qu.hh)⟩
theorem HA(I:Inv X pins σ H s)(g:Good F H)(A:bC){da db:Dat}{x y:V}{u w:ab}(hu:A.units+20<dS)(sa:iC 20 da=true)(sb:iC 20 db=true)(ra:Rep X.K F da x)(rb:Rep X.K F db y)(rx:RelV x u)(ry:RelV y w) :
  SeqAt.RcNeAt A s u w (!nA da db):=by
 have hu0:A.units<dS:=by omega
 have hu1:A.in1.units+19<dS:=by show A.units+1+19<dS;omega
 have items:∀{ds es:List Dat} {vs us:List V} {its its2:List ab},fR 19 ds=true->fR 19 es=true->cR X.K F ds vs->cR X.K F es us->cL vs its->cL us its2->
   ∀j (h1:j<its.toArray.size) (h2:j<its2.toArray.size),nD A.in1 s its.toArray[j] its2.toArray[j] (nA (ds.getD j .non) (es.getD j .non)):=by
  intro ds es vs us its its2 s1 s2 r1 r2 w1 w2 j h1 h2;obtain⟨v,e1,q1⟩:=rH w1 h1;obtain⟨v',e2,q2⟩:=rH w2 h2;have l1:j<ds.length:=by have:=r1.length;have:=(be.mp e1).1;omega
  have l2:j<es.length:=by have:=r2.length;have:=(be.mp e2).1;omega
  obtain⟨z1,f1,p1⟩:=r1.get (af l1);obtain⟨z2,f2,p2⟩:=r2.get (af l2);rw[e1]at f1;cases f1;rw[e2]at f2;cases f2;have g1:ds.getD j .non=ds[j]:=by simp[xF,l1]
  have g2:es.getD j .non=es[j]:=by simp[xF,l2]
  rw[g1,g2];exact(tN I g 19 A.in1 _ _ hu1 (kH s1 (af l1)) (kH s2 (af l2)) p1 p2 q1 q2).1
 cases da with
 | dct _ _=>exact(gu sa).elim
 | dcn _=>exact(gv sa).elim
 | non=>
   cases ra;obtain rfl:u=.none:=rx
   cases db with
   | dct _ _=>exact(gu sb).elim
   | dcn _=>exact(gv sb).elim
   | tup es=>
     obtain⟨q,us,rfl,t',r'⟩:=id rb;obtain⟨its2,w2,pl2,_⟩:=I.tupR g t';obtain rfl:w=.ref q:=ry;exact SeqAt.RcNeAt.none_tuple pl2 hu0
   | lst es=>
     obtain⟨q,us,rfl,t',r'⟩:=id rb;obtain⟨its2,w2,pl2,_⟩:=I.lstR g t';obtain rfl:w=.ref q:=ry;exact SeqAt.RcNeAt.none_list pl2.isList hu0
   | non=>
     cases rb;obtain rfl:w=.none:=ry;exact SeqAt.RcNeAt.none_none
   | bl b2=>
     cases rb;obtain rfl:w=.bool b2:=ry;exact SeqAt.RcNeAt.none_bool _
   | int i2=>
     cases rb;obtain⟨t2,rfl⟩:=ry;exact SeqAt.RcNeAt.none_int _ _
   | str z2=>
     cases rb;obtain⟨t2,rfl⟩:=ry;exact SeqAt.RcNeAt.none_str _ _
 | bl b1=>
   cases ra;obtain rfl:u=.bool b1:=rx
   cases db with
   | dct _ _=>exact(gu sb).elim
   | dcn _=>exact(gv sb).elim
   | tup es=>
     obtain⟨q,us,rfl,t',r'⟩:=id rb;obtain⟨its2,w2,pl2,_⟩:=I.tupR g t';obtain rfl:w=.ref q:=ry;exact SeqAt.RcNeAt.bool_tuple _ pl2 hu0
   | lst es=>
     obtain⟨q,us,rfl,t',r'⟩:=id rb;obtain⟨its2,w2,pl2,_⟩:=I.lstR g t';obtain rfl:w=.ref q:=ry;exact SeqAt.RcNeAt.bool_list _ pl2.isList hu0
   | non=>
     cases rb;obtain rfl:w=.none:=ry;exact SeqAt.RcNeAt.bool_none _
   | bl b2=>
     cases rb;obtain rfl:w=.bool b2:=ry;exact SeqAt.RcNeAt.bool_bool _ _
   | int i2=>
     cases rb;obtain⟨t2,rfl⟩:=ry;exact SeqAt.RcNeAt.bool_int _ _ _
   | str z2=>
     cases rb;obtain⟨t2,rfl⟩:=ry;exact SeqAt.RcNeAt.bool_str _ _ _
 | int i1=>
   cases ra;obtain⟨t1,rfl⟩:=rx
   cases db with
   | dct _ _=>exact(gu sb).elim
   | dcn _=>exact(gv sb).elim
   | tup es=>
     obtain⟨q,us,rfl,t',r'⟩:=id rb;obtain⟨its2,w2,pl2,_⟩:=I.tupR g t';obtain rfl:w=.ref q:=ry;exact SeqAt.RcNeAt.int_tuple _ _ pl2 hu0
   | lst es=>
     obtain⟨q,us,rfl,t',r'⟩:=id rb;obtain⟨its2,w2,pl2,_⟩:=I.lstR g t';obtain rfl:w=.ref q:=ry;exact SeqAt.RcNeAt.int_list _ _ pl2.isList hu0
   | non=>
     cases rb;obtain rfl:w=.none:=ry;exact SeqAt.RcNeAt.int_none _ _
   | bl b2=>
     cases rb;obtain rfl:w=.bool b2:=ry;exact SeqAt.RcNeAt.int_bool _ _ _
   | int i2=>
     cases rb;obtain⟨t2,rfl⟩:=ry;exact SeqAt.RcNeAt.int_int _ _ _ _
   | str z2=>
     cases rb;obtain⟨t2,rfl⟩:=ry;exact SeqAt.RcNeAt.int_str _ _ _ _
 | str z1=>
   cases ra;obtain⟨t1,rfl⟩:=rx
   cases db with
   | dct _ _=>exact(gu sb).elim
   | dcn _=>exact(gv sb).elim
   | tup es=>
     obtain⟨q,us,rfl,t',r'⟩:=id rb;obtain⟨its2,w2,pl2,_⟩:=I.tupR g t';obtain rfl:w=.ref q:=ry;exact SeqAt.RcNeAt.str_tuple _ _ pl2 hu0
   | lst es=>
     obtain⟨q,us,rfl,t',r'⟩:=id rb;obtain⟨its2,w2,pl2,_⟩:=I.lstR g t';obtain rfl:w=.ref q:=ry;exact SeqAt.RcNeAt.str_list _ _ pl2.isList hu0
   | non=>
     cases rb;obtain rfl:w=.none:=ry;exact SeqAt.RcNeAt.str_none _ _
   | bl b2=>
     cases rb;obtain rfl:w=.bool b2:=ry;exact SeqAt.RcNeAt.str_bool _ _ _
   | int i2=>
     cases rb;obtain⟨t2,rfl⟩:=ry;exact SeqAt.RcNeAt.str_int _ _ _ _
   | str z2=>
     cases rb;obtain⟨t2,rfl⟩:=ry;exact SeqAt.RcNeAt.str_str _ _ _ _
 | tup ds=>
   obtain⟨p,vs,rfl,t,r⟩:=id ra;obtain⟨its,w1,pl,_⟩:=I.tupR g t;obtain rfl:u=.ref p:=rx
   cases db with
   | dct _ _=>exact(gu sb).elim
   | dcn _=>exact(gv sb).elim
   | non=>
     cases rb;obtain rfl:w=.none:=ry;exact SeqAt.RcNeAt.tuple_none pl hu0
   | bl b2=>
     cases rb;obtain rfl:w=.bool b2:=ry;exact SeqAt.RcNeAt.tuple_bool _ pl hu0
   | int i2=>
     cases rb;obtain⟨t2,rfl⟩:=ry;exact SeqAt.RcNeAt.tuple_int _ _ pl hu0
   | str z2=>
     cases rb;obtain⟨t2,rfl⟩:=ry;exact SeqAt.RcNeAt.tuple_str _ _ pl hu0
   | tup es=>
     obtain⟨q,us,rfl,t',r'⟩:=id rb;obtain⟨its2,w2,pl2,_⟩:=I.tupR g t';obtain rfl:w=.ref q:=ry;have e1:its.toArray.size=ds.length:=by rw[aH,<-w1.length,r.length]
     have e2:its2.toArray.size=es.length:=by rw[aH,<-w2.length,r'.length]
     have h:=SeqAt.RcNeAt.tuples pl pl2 hu0 (items sa sb r r' w1 w2);simp only[nA];rw[iY];rw[e1,e2]at h;exact h
   | lst es=>
     obtain⟨q,us,rfl,t',r'⟩:=id rb;obtain⟨its2,w2,pl2,_⟩:=I.lstR g t';obtain rfl:w=.ref q:=ry;exact SeqAt.RcNeAt.tuple_list pl pl2.isList hu0
 | lst ds=>
   obtain⟨p,vs,rfl,t,r⟩:=id ra;obtain⟨its,w1,pl,_⟩:=I.lstR g t;obtain rfl:u=.ref p:=rx
   cases db with
   | dct _ _=>exact(gu sb).elim
   | dcn _=>exact(gv sb).elim
   | non=>
     cases rb;obtain rfl:w=.none:=ry;exact SeqAt.RcNeAt.list_none pl.isList hu0
   | bl b2=>
     cases rb;obtain rfl:w=.bool b2:=ry;exact SeqAt.RcNeAt.list_bool _ pl.isList hu0
   | int i2=>
     cases rb;obtain⟨t2,rfl⟩:=ry;exact SeqAt.RcNeAt.list_int _ _ pl.isList hu0
   | str z2=>
     cases rb;obtain⟨t2,rfl⟩:=ry;exact SeqAt.RcNeAt.list_str _ _ pl.isList hu0
   | tup es=>
     obtain⟨q,us,rfl,t',r'⟩:=id rb;obtain⟨its2,w2,pl2,_⟩:=I.tupR g t';obtain rfl:w=.ref q:=ry;exact SeqAt.RcNeAt.list_tuple pl.isList pl2 hu0
   | lst es=>
     obtain⟨q,us,rfl,t',r'⟩:=id rb;obtain⟨its2,w2,pl2,_⟩:=I.lstR g t';obtain rfl:w=.ref q:=ry;have e1:its.toArray.size=ds.length:=by rw[aH,<-w1.length,r.length]
     have e2:its2.toArray.size=es.length:=by rw[aH,<-w2.length,r'.length]
     by_cases hsz:its.toArray.size=its2.toArray.size
     ·have h:=SeqAt.RcNeAt.lists pl.isList pl2.isList hsz hu0 (items sa sb r r' w1 w2);simp only[nA];rw[iY];have e3:ds.length=es.length:=by rw[<-e1,<-e2];exact hsz
      rw[e1]at h;have e4:(ds.length == es.length)=true:=by simpa using e3
      rw[e4,eV,<-e3,Aa];exact h
     ·have h:=SeqAt.RcNeAt.lists_lengths pl.isList pl2.isList (by simpa using hsz) hu0;simp only[nA];rw[iY];have e3:(ds.length == es.length)=false:=by simpa [<-e1,<-e2]using hsz
      rw[e3,lJ];exact h
theorem O6(hu:X.A.units+20<dS):kM X (compareOp .NotEq) (gB X.K (rz .ne)):=fun pins s σ H x y v u Q I rx ry z12=>by
 obtain⟨da,db,d,fr,h,F,g,ra,rb,k⟩:=z12;obtain⟨b,hd,rfl,rfl⟩:=kL h;simp only[dt,IZ,NL,zu,ME]at hd;split at hd
 ·rename_i hs;cases hd;simp only[aF]at hs;exact(HA I g X.A hu hs.1 hs.2 ra rb rx ry) X.prog X.w _ _ ⟨.bl _,H,I,rfl,k _ F H (Step.refl g) rfl bV⟩
 ·cases hd
theorem Lk:kM X (compareOp .Is) (gB X.K (rz .isn)):=kM.imp O9 fun x y H Q z4=>by
 obtain⟨da,db,d,fr,h,F,g,ra,rb,k⟩:=z4;obtain⟨b,hd,rfl,rfl⟩:=kL h
 cases db with
 | non=>
   simp only[dt,IZ,NL,zu,ME]at hd;cases hd;refine⟨rb,?_⟩
   cases da with
   | non=>cases ra;exact k _ F H (Step.refl g) rfl bV
   | tup ds=>obtain⟨p,vs,rfl,_⟩:=ra;exact k _ F H (Step.refl g) rfl bV
   | lst ds=>obtain⟨p,vs,rfl,_⟩:=ra;exact k _ F H (Step.refl g) rfl bV
   | dct _ ds=>obtain⟨p,vs,rfl,_⟩:=ra;exact k _ F H (Step.refl g) rfl bV
   | dcn _=>obtain⟨p,vs,rfl,_⟩:=ra;exact k _ F H (Step.refl g) rfl bV
   | _=>cases ra;exact k _ F H (Step.refl g) rfl bV
 | _=>cases da<;>cases hd
end
end M
namespace L2
open PySem PySem.Spec PyProof.Rows
def hJ(tp:Bool)(h:bP)(it l:ag)(i:Nat):Prop:=match tp with
 | true=>h.IsTupleIter it l i
 | false=>h.IsListIter it l i
def iS(tp:Bool)(h:bP)(l:ag)(xs:Array ab):Prop:=match tp with
 | true=>h.IsTuple l xs
 | false=>h.IsList l xs
theorem hJ.keep{tp:Bool}{h h':bP}{it l:ag}{i:Nat}(y:hJ tp h it l i)(k:∀o,h.get? it=some o->h'.get? it=some o):hJ tp h' it l i:=by
 cases tp<;>exact(let ⟨o,e,r⟩:=y;⟨o,k o e,r⟩)
theorem iS.keep{tp:Bool}{h h':bP}{l:ag}{xs:Array ab}(y:iS tp h l xs)(k:∀o,h.get? l=some o->h'.get? l=some o):iS tp h' l xs:=by
 cases tp<;>exact(let ⟨o,e,r⟩:=y;⟨o,k o e,r⟩)
theorem hJ.obj{tp:Bool}{h:bP}{it l:ag}{i:Nat}(y:hJ tp h it l i):∃o,h.get? it=some o/\o.cls=.type (if tp then "tuple_iterator" else "list_iterator")/\o.data=.fields #[.ref l,.int i 0]:=by
 cases tp<;>exact y
theorem iS.obj{tp:Bool}{h:bP}{l:ag}{xs:Array ab}(y:iS tp h l xs):∃o,h.get? l=some o/\o.cls=.type (if tp then "tuple" else "list")/\∃n,o.data=.seq xs n:=by
 cases tp<;>exact y
section
open Builtin
variable{prog:aS}{w:bA}{A:bC}{E:ab->ae->Prop}{s:ae}
theorem Ht{it q:ag}{i:Nat}{xs:Array ab}{v:ab}{Q:ab->ae->Prop}(gi:s.heap.IsTupleIter it q i)(gq:s.heap.IsTuple q xs)(gx:xs[i]? = some v)
  (k:∀h',h'.IsTupleIter it q (i+1)->cC it s.heap h'->Q v { s with heap:=h' }):aB (aI prog w) A (bS (.ref it)) Q E s:=by
 obtain⟨ob,gb,gc,gd⟩:=id gi;obtain⟨oq,gq1,_,nq,gq2⟩:=gq;unfold bS;refine wb9 (cy (name:=aa "__next__") gi.typeIs fQ (cg fQ gi.typeIs pA ?_ (oT _)));show aB (aI prog w) _ (field (.ref it) 0 >>= _) _ _ s;refine wb9 (cv gb gd (x:=.ref q) rfl ?_);show aB (aI prog w) _ (if(bZ q == de)=true then _ else _) _ _ s;rw[if_neg (show¬((bZ q == de)=true)from bI)];show aB (aI prog w) _ (field (.ref it) 1 >>= _) _ _ s;refine wb9 (cv gb gd (x:=.int i 0) rfl ?_);show aB (aI prog w) _ (seqItems? (.ref q) >>= _) _ _ s;refine wb9 (bO gq1 gq2 ?_);simp only[jP,gx];refine wb9 (wpAny_setField gb gd (by simp) (wu9 ⟨v,rfl,wu9 (k _ ⟨_,hX _ gb (Obj.isFreed_of_fields (FO gd _)),(Obj.cls_mapFields ..).trans gc,?_⟩ (ng ..))⟩));rw[FO gd];simp[rawInt]
theorem Lr{it q:ag}{i:Nat}{xs:Array ab}{Q:ab->ae->Prop}(nh:A.handled=none)(gi:s.heap.IsTupleIter it q i)(gq:s.heap.IsTuple q xs)(gx:xs[i]? = none)
  (k:∀h' e,BZ it s.heap h'->(∃o,h'.get? e=some o/\o.cls=.type "StopIteration")->E (.ref e) { s with heap:=h' }):aB (aI prog w) A (bS (.ref it)) Q E s:=by
 obtain⟨ob,gb,gc,gd⟩:=id gi;obtain⟨oq,gq1,_,nq,gq2⟩:=gq;unfold bS;refine wb9 (cy (name:=aa "__next__") gi.typeIs fQ (cg fQ gi.typeIs pA ?_ (oT _)));show aB (aI prog w) _ (field (.ref it) 0 >>= _) _ _ s;refine wb9 (cv gb gd (x:=.ref q) rfl ?_);show aB (aI prog w) _ (if(bZ q == de)=true then _ else _) _ _ s;rw[if_neg (show¬((bZ q == de)=true)from bI)];show aB (aI prog w) _ (field (.ref it) 1 >>= _) _ _ s;refine wb9 (cv gb gd (x:=.int i 0) rfl ?_);show aB (aI prog w) _ (seqItems? (.ref q) >>= _) _ _ s;refine wb9 (bO gq1 gq2 ?_);simp only[jP,gx];refine wb9 (ic (wb9 (wpAny_setField gb gd (by simp) ?_)));show aB (aI prog w) _ (newExc (.type "StopIteration") [] >>= _) _ _ _;refine wb9 ?_;simp only[newExc,newTuple];refine wb9 (dq (wb9 (m:=firstArgMember _ _) (JN (a:=de) (by first|rfl|(simp only[firstArgMember];rfl)) (dq ?_ (by size_fits)))) (by size_fits));simp only[raiseNew];refine wb9 (wpAny_handled ?_)
 first|rw[show A.in1.handled=none from nh]|rw[nh]
 exact wb9 (wu9 (wpAny_throw (k _ _ (((ng ..).extBut.push _).push _) ⟨_,aQ _ rfl,rfl⟩)))
theorem rM{tp:Bool}{it q:ag}{i:Nat}{xs:Array ab}{v:ab}{Q:ab->ae->Prop}(gi:hJ tp s.heap it q i)(gq:iS tp s.heap q xs)(gx:xs[i]? = some v)
  (k:∀h',hJ tp h' it q (i+1)->cC it s.heap h'->Q v { s with heap:=h' }):aB (aI prog w) A (bS (.ref it)) Q E s:=by
 cases tp
 ·exact wpAny_nextOf_list_item gi gq gx k
 ·exact Ht gi gq gx k
theorem AX{tp:Bool}{it q:ag}{i:Nat}{xs:Array ab}{Q:ab->ae->Prop}(nh:A.handled=none)(gi:hJ tp s.heap it q i)(gq:iS tp s.heap q xs)(gx:xs[i]? = none)
  (k:∀h' e,BZ it s.heap h'->(∃o,h'.get? e=some o/\o.cls=.type "StopIteration")->E (.ref e) { s with heap:=h' }):aB (aI prog w) A (bS (.ref it)) Q E s:=by
 cases tp
 ·exact wpAny_nextOf_list_end nh gi gq gx k
 ·exact Lr nh gi gq gx k
structure Tu(z T U i j a b:ag):Prop where
 Tz:T≠z
 Uz:U≠z
 iz:i≠z
 jz:j≠z
 TU:T≠U
 Ti:T≠i
 Tj:T≠j
 Ui:U≠i
 Uj:U≠j
 ij:i≠j
 az:a≠z
 aU:a≠U
 ai:a≠i
 aj:a≠j
 bz:b≠z
 bU:b≠U
 bi:b≠i
 bj:b≠j
theorem J0{tp tq:Bool}{z T U i j a b:ag}{m n:Nat}{xs ys:Array ab}{x y c d:ab}{Q:ab->ae->Prop}(P:Tu z T U i j a b)(gz:fY s.heap z T U .none)(gT:cU s.heap T (.ref i) (.ref j))(gU:cU s.heap U c d)
  (gi:hJ tp s.heap i a m)(gj:hJ tq s.heap j b n)(ga:iS tp s.heap a xs)(gb:iS tq s.heap b ys)(gx:xs[m]? = some x)(gy:ys[n]? = some y)
  (k:∀h',fY h' z T U (rawInt s.heap.objs.size)->cU h' U x y->hJ tp h' i a (m+1)->hJ tq h' j b (n+1)->cU h' s.heap.objs.size x y->h'.objs.size=s.heap.objs.size+1->
   (∀e o,e≠z->e≠U->e≠i->e≠j->s.heap.get? e=some o->h'.get? e=some o)->Q (.ref s.heap.objs.size) { s with heap:=h' }) :
  aB (aI prog w) A (fO.«zip.__next__» ⟨[.ref z],[]⟩) (fun f s'=>∃v,f=.done (.ret v)/\Q v s') E s:=by
 show aB (aI prog w) _ (field (.ref z) 2 >>= _) _ _ _;refine wb9 (cv gz rfl (x:=.bool false) rfl ?_);show aB (aI prog w) _ (field (.ref z) 3 >>= _) _ _ _;refine wb9 (cv gz rfl (x:=.ref T) rfl (wb9 (bO gT rfl ?_)));show aB (aI prog w) _ (cA (.ref z) >>= _) _ _ _;refine wb9 ?_;unfold cA;refine wb9 (cv gz rfl (x:=.none) rfl (wu9 ?_));simp only[if_true];refine wb9 (ic (wb9 (cv gz rfl (x:=.ref U) rfl (wb9 (bH gz (by simp) fun h1 gz1 s1=>?_)))));replace gz1:fY h1 z T U .ellipsis:=gz1;refine wb9 ?_;simp only[j9,nR,jd,oH];refine wb9 (wb9 (iG ?_));show aB (aI prog w) _ (bS (.ref i) >>= _) _ _ _;refine wb9 (rM (gi.keep fun o e=>s1.extBut _ o P.iz e) (ga.keep fun o e=>s1.extBut _ o P.az e) gx fun h2 gi2 s2=>wu9 ?_);have gU2:cU h2 U c d:=s2.extBut _ _ P.Ui (s1.extBut _ _ P.Uz gU);refine wb9 (bO gU2 rfl (wb9 (f7 gU2 fun h3 gU3 s3=>wb9 (nJ (wu9 ?_)))));replace gU3:cU h3 U x d:=gU3;refine wb9 (wb9 (iG ?_));show aB (aI prog w) _ (bS (.ref j) >>= _) _ _ _;refine wb9 (rM (gj.keep fun o e=>s3.extBut _ o P.Uj.symm (s2.extBut _ o P.ij.symm (s1.extBut _ o P.jz e))) (gb.keep fun o e=>s3.extBut _ o P.bU (s2.extBut _ o P.bi (s1.extBut _ o P.bz e))) gy fun h4 gj4 s4=>wu9 ?_);have gU4:cU h4 U x d:=s4.extBut _ _ P.Uj gU3;refine wb9 (bO gU4 rfl (wb9 (f7 gU4 fun h5 gU5 s5=>wb9 (nJ (wu9 (wu9 ?_))))));replace gU5:cU h5 U x y:=gU5;refine wb9 (bO gU5 rfl (wb9 (qo ?_)));have sz:h5.objs.size=s.heap.objs.size:=by rw[s5.1,s4.1,s3.1,s2.1,s1.1]
 have gz5:fY h5 z T U .ellipsis:=s5.extBut _ _ P.Uz.symm (s4.extBut _ _ P.jz.symm (s3.extBut _ _ P.Uz.symm (s2.extBut _ _ P.iz.symm gz1)));have k5:∀e o,e≠z->e≠U->e≠i->e≠j->s.heap.get? e=some o->h5.get? e=some o:=fun e o e1 e2 e3 e4 q=>s5.extBut _ _ e2 (s4.extBut _ _ e4 (s3.extBut _ _ e2 (s2.extBut _ _ e3 (s1.extBut _ _ e1 q))));have gi5:hJ tp h5 i a (m+1):=gi2.keep fun o e=>s5.extBut _ o P.Ui.symm (s4.extBut _ o P.ij (s3.extBut _ o P.Ui.symm e));have gj5:hJ tq h5 j b (n+1):=gj4.keep fun o e=>s5.extBut _ o P.Uj.symm e;have zlt:z<h5.objs.size:=hl9 gz5;show aB (aI prog w) _ (gn (.ref z) (.ref h5.objs.size) >>= _) _ _ _;refine wb9 ?_;unfold gn;have gz6:fY (h5.push { cls:=.type "tuple",data:=.seq #[x,y] }) z T U .ellipsis:=hp9 _ gz5;refine wb9 (bH gz6 (by simp) fun h7 gz7 s7=>?_);replace gz7:fY h7 z T U (rawInt h5.objs.size):=gz7;refine bH gz7 (by simp) fun h8 gz8 s8=>wu9 ⟨_,rfl,?_⟩;replace gz8:fY h8 z T U (rawInt h5.objs.size):=gz8;have up:∀e o,e≠z->h5.get? e=some o->h8.get? e=some o:=fun e o e1 q=>s8.extBut _ _ e1 (s7.extBut _ _ e1 (hp9 _ q));have gN:cU h8 h5.objs.size x y:=s8.extBut _ _ (iR zlt) (s7.extBut _ _ (iR zlt) (aQ _ rfl));have sz8:h8.objs.size=h5.objs.size+1:=by rw[s8.1,s7.1,cB]
 rw[sz]at gz8 gN sz8;show Q (.ref h5.objs.size) _;rw[sz];exact k h8 gz8 (up _ _ P.Uz gU5) (gi5.keep fun o e=>up _ o P.iz e) (gj5.keep fun o e=>up _ o P.jz e) gN sz8 fun e o e1 e2 e3 e4 q=>up e o e1 (k5 e o e1 e2 e3 e4 q)
theorem N6{tp tq:Bool}{z T U i j a b:ag}{m n:Nat}{xs ys:Array ab}{c d:ab}{Q:Fin->ae->Prop}(nh:A.handled=none)(P:Tu z T U i j a b)(gz:fY s.heap z T U .none)(gT:cU s.heap T (.ref i) (.ref j))(gU:cU s.heap U c d)
  (gi:hJ tp s.heap i a m)(gj:hJ tq s.heap j b n)(ga:iS tp s.heap a xs)(gb:iS tq s.heap b ys)(ge:xs[m]? = none\/ys[n]? = none)
  (k:∀h' e,(∀e o,e≠z->e≠U->e≠i->e≠j->s.heap.get? e=some o->h'.get? e=some o)->(∃o,h'.get? e=some o/\o.cls=.type "StopIteration")->E (.ref e) { s with heap:=h' }) :
  aB (aI prog w) A (fO.«zip.__next__» ⟨[.ref z],[]⟩) Q E s:=by
 show aB (aI prog w) _ (field (.ref z) 2 >>= _) _ _ _;refine wb9 (cv gz rfl (x:=.bool false) rfl ?_);show aB (aI prog w) _ (field (.ref z) 3 >>= _) _ _ _;refine wb9 (cv gz rfl (x:=.ref T) rfl (wb9 (bO gT rfl ?_)));show aB (aI prog w) _ (cA (.ref z) >>= _) _ _ _;refine wb9 ?_;unfold cA;refine wb9 (cv gz rfl (x:=.none) rfl (wu9 ?_));simp only[if_true];refine wb9 (ic (wb9 (cv gz rfl (x:=.ref U) rfl (wb9 (bH gz (by simp) fun h1 gz1 s1=>?_)))));replace gz1:fY h1 z T U .ellipsis:=gz1;refine wb9 ?_;simp only[j9,nR,jd,oH];refine wb9 (wb9 (iG ?_));show aB (aI prog w) _ (bS (.ref i) >>= _) _ _ _
 cases gx:xs[m]? with
 | none=>
   refine wb9 (AX nh (gi.keep fun o e=>s1.extBut _ o P.iz e) (ga.keep fun o e=>s1.extBut _ o P.az e) gx fun h2 e s2 he=>?_);obtain⟨oe,he1,he2⟩:=he;have gz2:fY h2 z T U .ellipsis:=s2 _ _ P.iz.symm gz1;have ez:e≠z:=fun q=>by subst q;rw[gz2]at he1;cases he1;simp at he2
   exact bH gz2 (by simp) fun h3 _ s3=>k h3 e (fun c o c1 _ c3 _ q=>s3.extBut _ _ c1 (s2 _ _ c3 (s1.extBut _ _ c1 q))) ⟨oe,s3.extBut _ _ ez he1,he2⟩
 | some x=>
   have gy:ys[n]? = none:=by
    rcases ge with q|q
    ·rw[gx]at q;cases q
    ·exact q
   refine wb9 (rM (gi.keep fun o e=>s1.extBut _ o P.iz e) (ga.keep fun o e=>s1.extBut _ o P.az e) gx fun h2 gi2 s2=>wu9 ?_);have gU2:cU h2 U c d:=s2.extBut _ _ P.Ui (s1.extBut _ _ P.Uz gU);refine wb9 (bO gU2 rfl (wb9 (f7 gU2 fun h3 gU3 s3=>wb9 (nJ (wu9 ?_)))));refine wb9 (wb9 (iG ?_));show aB (aI prog w) _ (bS (.ref j) >>= _) _ _ _;refine wb9 (AX nh (gj.keep fun o e=>s3.extBut _ o P.Uj.symm (s2.extBut _ o P.ij.symm (s1.extBut _ o P.jz e))) (gb.keep fun o e=>s3.extBut _ o P.bU (s2.extBut _ o P.bi (s1.extBut _ o P.bz e))) gy fun h4 e s4 he=>?_);obtain⟨oe,he1,he2⟩:=he;have gz4:fY h4 z T U .ellipsis:=s4 _ _ P.jz.symm (s3.extBut _ _ P.Uz.symm (s2.extBut _ _ P.iz.symm gz1));have ez:e≠z:=fun q=>by subst q;rw[gz4]at he1;cases he1;simp at he2
   exact bH gz4 (by simp) fun h5 _ s5=>k h5 e (fun c o c1 c2 c3 c4 q=>s5.extBut _ _ c1 (s4 _ _ c4 (s3.extBut _ _ c2 (s2.extBut _ _ c3 (s1.extBut _ _ c1 q))))) ⟨oe,s5.extBut _ _ ez he1,he2⟩
theorem GZ{tp tq:Bool}{z T U i j a b:ag}{m n:Nat}{xs ys:Array ab}{x y c d:ab}{Q:Option ab->ae->Prop}(P:Tu z T U i j a b)(gz:fY s.heap z T U .none)(gT:cU s.heap T (.ref i) (.ref j))(gU:cU s.heap U c d)
  (gi:hJ tp s.heap i a m)(gj:hJ tq s.heap j b n)(ga:iS tp s.heap a xs)(gb:iS tq s.heap b ys)(gx:xs[m]? = some x)(gy:ys[n]? = some y)
  (k:∀h',fY h' z T U (rawInt s.heap.objs.size)->cU h' U x y->hJ tp h' i a (m+1)->hJ tq h' j b (n+1)->cU h' s.heap.objs.size x y->h'.objs.size=s.heap.objs.size+1->
   (∀e o,e≠z->e≠U->e≠i->e≠j->s.heap.get? e=some o->h'.get? e=some o)->Q (some (.ref s.heap.objs.size)) { s with heap:=h' }):aB (aI prog w) A (pyNext (.ref z)) Q E s:=by
 have ty:s.TypeIs (.ref z) "zip":=⟨_,gz,rfl⟩
 unfold pyNext;exact wb9 (jA (cy (name:=aa "__next__") ty dF (cg dF ty jm (J0 P gz gT gU gi gj ga gb gx gy fun h' a1 a2 a3 a4 a5 a6 a7=>wu9 (k h' a1 a2 a3 a4 a5 a6 a7)) (i6 _))))
theorem KS{tp tq:Bool}{z T U i j a b:ag}{m n:Nat}{xs ys:Array ab}{c d:ab}{Q:Option ab->ae->Prop}(nh:A.handled=none)(P:Tu z T U i j a b)(gz:fY s.heap z T U .none)(gT:cU s.heap T (.ref i) (.ref j))(gU:cU s.heap U c d)
  (gi:hJ tp s.heap i a m)(gj:hJ tq s.heap j b n)(ga:iS tp s.heap a xs)(gb:iS tq s.heap b ys)(ge:xs[m]? = none\/ys[n]? = none)
  (k:∀h',(∀e o,e≠z->e≠U->e≠i->e≠j->s.heap.get? e=some o->h'.get? e=some o)->Q none { s with heap:=h' }):aB (aI prog w) A (pyNext (.ref z)) Q E s:=by
 have ty:s.TypeIs (.ref z) "zip":=⟨_,gz,rfl⟩
 unfold pyNext;refine wb9 (jA (cy (name:=aa "__next__") ty dF (cg dF ty jm (N6 nh P gz gT gU gi gj ga gb ge fun h' e hk he=>?_) (i6 _))));obtain⟨o,ho,hc⟩:=he;exact wb9 (eG (T:="StopIteration") (b:=true) ⟨o,ho,hc⟩ zT (wu9 (k _ hk)))
end
noncomputable def VL(tp:Bool):String:=if tp then "tuple_iterator" else "list_iterator"
noncomputable def lX(tp:Bool)(l:ag):fe:={ cls:=.type (VL tp),data:=.fields #[.ref l,.int 0 0] }
theorem wB{tp:Bool}{h:bP}{it l:ag}(e:h.get? it=some (lX tp l)):hJ tp h it l 0:=by
 cases tp<;>exact⟨_,e,rfl,rfl⟩
section
variable{prog:aS}{w:bA}{A:bC}{E:ab->ae->Prop}{s:ae}
theorem qz{tp:Bool}{l:ag}{xs:Array ab}{Q:ab->ae->Prop}(gl:iS tp s.heap l xs)(k:Q (.ref s.heap.objs.size) { s with heap:=s.heap.push (lX tp l) }):aB (aI prog w) A (FK (.ref l)) Q E s:=by
 cases tp
 ·exact nH gl k
 ·exact wpAny_pyIter_tuple gl k
end
noncomputable abbrev T7(tp tq:Bool)(h:bP)(a b:ag):bP:=((h.push (lX tp a)).push (lX tq b)).push { cls:=.type "tuple",data:=.seq #[.ref h.objs.size,.ref (h.push (lX tp a)).objs.size] }
noncomputable abbrev T6(tp tq:Bool)(h:bP)(a b:ag):bP:=(T7 tp tq h a b).push { cls:=.type "tuple",data:=.seq #[.none,.none] }
noncomputable abbrev Ra(tp tq:Bool)(h:bP)(a b:ag):bP:=(T6 tp tq h a b).push { cls:=.type "zip",data:=.fields #[.none,.bool false,.bool false,.ref ((h.push (lX tp a)).push (lX tq b)).objs.size,.ref (T7 tp tq h a b).objs.size] }
theorem N5{tp tq:Bool}(a b:ag)(xs ys:Array ab):Meets (fO.«zip.__new__» ⟨[.type "zip",.ref a,.ref b],[]⟩) (fun _ R s=>iS tp s.heap a xs/\iS tq s.heap b ys/\R (.ok (.ret (.ref (T6 tp tq s.heap a b).objs.size))) { s with heap:=Ra tp tq s.heap a b }):=
 .of_wp fun prog w A R s q=>by
  obtain⟨hp,g,d,tk,os⟩:=s;obtain⟨q1,q2,q⟩:=q;have sz:=M5;have e1:iS tp (zP ⟨hp,g,d,tk,os⟩) a xs:=q1;have e2:iS tq (zP ⟨hp.push (lX tp a),g,d,tk,os⟩) b ys:=iS.keep q2 fun o e=>hp9 _ e
  wp_walk using qz e1,qz e2
  exact⟨_,rfl,q⟩
section
variable{prog:aS}{w:bA}{A:bC}{E:ab->ae->Prop}{s:ae}
theorem J1{tp tq:Bool}{a b:ag}{xs ys:Array ab}{Q:ab->ae->Prop}(ga:iS tp s.heap a xs)(gb:iS tq s.heap b ys)
  (k:∀h',fY h' (s.heap.objs.size+4) (s.heap.objs.size+2) (s.heap.objs.size+3) .none->cU h' (s.heap.objs.size+2) (.ref s.heap.objs.size) (.ref (s.heap.objs.size+1))->cU h' (s.heap.objs.size+3) .none .none->
   hJ tp h' s.heap.objs.size a 0->hJ tq h' (s.heap.objs.size+1) b 0->(∀c o,s.heap.get? c=some o->h'.get? c=some o)->Q (.ref (s.heap.objs.size+4)) { s with heap:=h' }):aB (aI prog w) A (call (.type "zip") [.ref a,.ref b]) Q E s:=by
 refine callType_new zX (by decide) (vS _ _) (xf _ _) (fun ob=>rX ob _ _) xg (N5 (tp:=tp) (tq:=tq) a b xs ys) ⟨ga,gb,?_⟩;have z1:(s.heap.push (lX tp a)).objs.size=s.heap.objs.size+1:=cB ..;have z2:((s.heap.push (lX tp a)).push (lX tq b)).objs.size=s.heap.objs.size+2:=by rw[cB,z1]
 have z3:(T7 tp tq s.heap a b).objs.size=s.heap.objs.size+3:=by rw[cB,z2]
 have z4:(T6 tp tq s.heap a b).objs.size=s.heap.objs.size+4:=by rw[cB,z3]
 have g5:(Ra tp tq s.heap a b).get? (T6 tp tq s.heap a b).objs.size=some _:=aQ _ rfl;have g4:(Ra tp tq s.heap a b).get? (T7 tp tq s.heap a b).objs.size=some _:=hp9 _ (aQ _ rfl);have g3:(Ra tp tq s.heap a b).get? ((s.heap.push (lX tp a)).push (lX tq b)).objs.size=some _:=hp9 _ (hp9 _ (aQ _ rfl));have g2:(Ra tp tq s.heap a b).get? (s.heap.push (lX tp a)).objs.size=some (lX tq b):=hp9 _ (hp9 _ (hp9 _ (aQ _ rfl)));have g1:(Ra tp tq s.heap a b).get? s.heap.objs.size=some (lX tp a):=hp9 _ (hp9 _ (hp9 _ (hp9 _ (aQ _ rfl))));show _/\_;rw[z2,z3,z4]at g5;rw[z1,z2]at g3;rw[z3]at g4;rw[z1]at g2;rw[z4];exact⟨⟨_,g5,rfl⟩,k _ g5 g3 g4 (wB g1) (wB g2) fun c o q=>hp9 _ (hp9 _ (hp9 _ (hp9 _ (hp9 _ q))))⟩
end
section
variable{X:Cx}{pins:List (ag×fe)}{σ:St}{H:Hp}{s:ae}{h':bP}
theorem Inv.rJ{t':Nat}{ch:List ag}(I:Inv X pins σ H s)(k:∀b o,b∉ch->s.heap.get? b=some o->h'.get? b=some o)(hf:∀b∈ch,pe X pins H b):Inv X pins σ H { s with heap:=h',toks:=t' }:=by
 have nit:∀b u,H b=some u->b∉ch:=fun b u e z=>by rw[(hf b z).1]at e;cases e
 refine I.step (g':=s.gens) (d':=s.drawn) (ch:=ch) (fun b hb=>⟨(hf b hb).2.2.2.1,(hf b hb).2.1,(hf b hb).2.2.2.2.1,(hf b hb).2.2.2.2.2⟩) (fun b o _ _ hc e _=>k b o hc e) (fun b o _ _ hc e _=>⟨o.slots,k b o hc e⟩) (fun _ _ _ _ n=>n)
  (fun b o hc e=>⟨o,k b o hc e⟩) (fun _ _ e=>e) (fun _ _ _ e=>e) (fun b ps e=>⟨#[],by rw[e];simp⟩) (fun m hm=>?_) (fun b u e=>?_) I.bare
 ·obtain⟨o,es,ep,ho,r⟩:=hm;exact⟨o,es,ep,k _ o (fun z=>(hf _ z).2.1 rfl) ho,r⟩
 ·refine(I.hok b u e).As (fun c v hc q=>k c v ?_ q) (fun _ q=>q) fun _ _ q=>q
  rcases hc with z|z
  ·rw[z];exact nit b u e
  ·exact nit c _ z
end
def o9(tp:Bool)(K:aN)(H:Hp)(a:ag)(xs:List V):Prop:=match tp with
 | true=>rV K H a xs
 | false=>nF K H a xs
theorem o9.inj{X:Cx}{pins:List (ag×fe)}{σ:St}{H:Hp}{s:ae}{tp:Bool}{a:ag}{xs ys:List V}(I:Inv X pins σ H s)(h:o9 tp X.K H a xs)(h':o9 tp X.K H a ys):xs=ys:=by
 cases tp
 ·exact I.p9 h h'
 ·exact I.oi h h'
theorem o9.at{X:Cx}{pins:List (ag×fe)}{σ:St}{H:Hp}{s:ae}{tp:Bool}{a:ag}{xs:List V}(I:Inv X pins σ H s)(h:o9 tp X.K H a xs):∃its:List ab,cL xs its/\iS tp s.heap a its.toArray:=by
 cases tp
 ·obtain⟨its,rv,p,_⟩:=I.list h;exact⟨its,rv,p.isList⟩
 ·obtain⟨its,rv,p,_⟩:=I.tuple h;exact⟨its,rv,p⟩
noncomputable def Wl(tp tq:Bool)(K:aN)(a b:ag):It:=
 ⟨fun i H=>∃xs ys x y,o9 tp K H a xs/\o9 tq K H b ys/\xs[i]? = some x/\ys[i]? = some y,
  fun i H x H'=>∃T,H T=none/\x=.ref T/\∃x1 y1,(∀xs,o9 tp K H a xs->xs[i]? = some x1)/\(∀ys,o9 tq K H b ys->ys[i]? = some y1)/\H'=upd H T (.tup [x1,y1]),
  fun i H=>∃xs ys,o9 tp K H a xs/\o9 tq K H b ys/\(xs.length<=i\/ys.length<=i)⟩
theorem Gc{tp tq:Bool}{P:aS}{w:bA}{K:aN}{elts:List aO}{k:Nat}{pos:fS}(a b z TI TO i1 i2:ag)(D:Tu z TI TO i1 i2 a b) :
  Turn P w K (.Tuple elts k pos) (Wl tp tq K a b) [z,TI,TO,i1,i2] z (fun i h=>fY h z TI TO .none/\cU h TI (.ref i1) (.ref i2)/\(∃u v,cU h TO u v)/\hJ tp h i1 a i/\hJ tq h i2 b i) where
 mem:=by simp
 obj:=fun i h st c hc=>by
  obtain⟨hz,hTI,⟨u,v,hTO⟩,h1,h2⟩:=st;obtain⟨o1,e1,_,d1⟩:=h1.obj;obtain⟨o2,e2,_,d2⟩:=h2.obj;simp only[ao,ba,or_false]at hc
  rcases hc with rfl|rfl|rfl|rfl|rfl
  ·exact⟨_,hz,fun v z=>nomatch z⟩
  ·exact⟨_,hTI,fun v z=>nomatch z⟩
  ·exact⟨_,hTO,fun v z=>nomatch z⟩
  ·exact⟨_,e1,fun v z=>by rw[d1]at z;cases z⟩
  ·exact⟨_,e2,fun v z=>by rw[d2]at z;cases z⟩
 keep:=fun i h h' st k=>by
  obtain⟨hz,hTI,⟨u,v,hTO⟩,h1,h2⟩:=st;exact⟨k z (by simp) _ hz,k TI (by simp) _ hTI,⟨u,v,k TO (by simp) _ hTO⟩,h1.keep fun o e=>k i1 (by simp) o e,h2.keep fun o e=>k i2 (by simp) o e⟩
 item:=by
  intro X hP hw hK hc i pins s σ H E I hf st hg;subst hP hw hK;obtain⟨xs,ys,x,y,ha,hb,hx,hy⟩:=hg;obtain⟨its,rv,p⟩:=o9.at I ha;obtain⟨its2,rv2,p2⟩:=o9.at I hb;obtain⟨u,hu,ru⟩:=rv.get hx;obtain⟨u2,hu2,ru2⟩:=rv2.get hy;obtain⟨hz,hTI,⟨w1,w2,hTO⟩,h1,h2⟩:=st;refine GZ D hz hTI hTO h1 h2 p p2 (x:=u) (y:=u2) (by simpa using hu) (by simpa using hu2) fun h' g1 g2 g3 g4 g5 g6 hk=>?_;refine⟨_,rfl,BV g1 fun h'' g1' hs''=>?_⟩
  have fc:∀c∈[z,TO,i1,i2],pe X pins H c:=fun c hc=>hf c (by
   simp only[ao,ba,or_false]at hc ⊢
   rcases hc with rfl|rfl|rfl|rfl<;>simp)
  have kk:∀c o,c∉[z,TO,i1,i2]->s.heap.get? c=some o->h''.get? c=some o:=fun c o hc e=>by
   simp only[ao,ba,or_false,not_or]at hc;exact hs''.extBut c o hc.1 (hk c o hc.1 hc.2.1 hc.2.2.1 hc.2.2.2 e)
  have I1:Inv X pins σ H { s with heap:=h'' }:=I.rJ (t':=s.toks) kk fc;have nz:s.heap.objs.size≠z:=iR (hl9 hz);have hT:h''.get? s.heap.objs.size=some { cls:=.type "tuple",data:=.seq #[u,u2] }:=hs''.extBut _ _ nz g5;have hfr:H s.heap.objs.size=none:=I.hok.fresh (aK _)
  have I2:Inv X pins σ (upd H s.heap.objs.size (.tup [x,y])) { s with heap:=h'' }:=by
   refine I1.Gi (I.yX (aK _) hfr) I.sz ⟨by rw[cj];show 2<=16777216;decide,[u,u2],.cons ru (.cons ru2 .nil),?_⟩;exact⟨_,hT,rfl,_,rfl⟩
  refine⟨.ref s.heap.objs.size,_,I2,rfl,⟨_,hfr,rfl,x,y,fun xs' h1=>by rw[o9.inj I h1 ha];exact hx,fun ys' h1=>by rw[o9.inj I h1 hb];exact hy,rfl⟩,⟨g1',?_,⟨u,u2,hs''.extBut _ _ D.Uz g2⟩,g3.keep fun o e=>hs''.extBut _ o D.iz e,g4.keep fun o e=>hs''.extBut _ o D.jz e⟩,fun c hc=>?_⟩
  ·exact hs''.extBut _ _ D.Tz (hk _ _ D.Tz D.TU D.Ti D.Tj hTI)
  ·rw[cm ?_]
   ·exact(hf c hc).1
   ·have:c<s.heap.objs.size:=by
     simp only[ao,ba,or_false]at hc
     rcases hc with rfl|rfl|rfl|rfl|rfl
     ·exact hl9 hz
     ·exact hl9 hTI
     ·exact hl9 hTO
     ·obtain⟨_,e,_⟩:=h1.obj;exact hl9 e
     ·obtain⟨_,e,_⟩:=h2.obj;exact hl9 e
    exact bN this
 done:=by
  intro X hP hw hK hc i pins s σ H E I hf st hg;subst hP hw hK;obtain⟨xs,ys,ha,hb,hx⟩:=hg;obtain⟨its,rv,p⟩:=o9.at I ha;obtain⟨its2,rv2,p2⟩:=o9.at I hb;obtain⟨hz,hTI,⟨w1,w2,hTO⟩,h1,h2⟩:=st;have l1:=rv.length;have l2:=rv2.length;refine KS (I.ok.hd hc) D hz hTI hTO h1 h2 p p2 ?_ fun h' hk=>⟨rfl,I.rJ (t':=s.toks) (ch:=[z,TO,i1,i2]) (fun c o hc e=>?_) fun c hc=>hf c ?_⟩
  ·rcases hx with hx|hx
   ·exact .inl (by simp;omega)
   ·exact .inr (by simp;omega)
  ·simp only[ao,ba,or_false,not_or]at hc;exact hk c o hc.1 hc.2.1 hc.2.2.1 hc.2.2.2 e
  ·simp only[ao,ba,or_false]at hc ⊢
   rcases hc with rfl|rfl|rfl|rfl<;>simp
 self:=fun _ _ _ _ _ st h=>oz st.1 h
def nG(h:bP)(it:ag)(x:bh)(t:xA)(i:Nat):Prop:=h.IsStrIter it (strIterType x) x t i
theorem nG.keep{h h':bP}{it:ag}{x:bh}{t:xA}{i:Nat}(y:nG h it x t i)(k:∀o,h.get? it=some o->h'.get? it=some o):nG h' it x t i:=let ⟨o,e,r⟩:=y;⟨o,k o e,r⟩
section
open Builtin
variable{prog:aS}{w:bA}{A:bC}{E:ab->ae->Prop}{s:ae}
theorem B6{it:ag}{x:bh}{t:xA}{i c:Nat}{Q:ab->ae->Prop}(gi:nG s.heap it x t i)(gx:x.cps[i]? = some c)
  (k:∀h',nG h' it x t (i+1)->cC it s.heap h'->Q (.str ⟨#[c]⟩ s.toks) { s with heap:=h',toks:=s.toks+1 }):aB (aI prog w) A (bS (.ref it)) Q E s:=by
 unfold nG strIterType at gi k;cases ha:x.cps.all (·< 128)
 ·simp only[ha,aJ,if_false]at gi k;exact wpAny_nextOf_wide_item gi gx k
 ·simp only[ha,if_true]at gi k;exact wpAny_nextOf_ascii_item gi gx k
theorem Oa{it:ag}{x:bh}{t:xA}{i:Nat}{Q:ab->ae->Prop}(nh:A.handled=none)(gi:nG s.heap it x t i)(gx:x.cps[i]? = none)
  (k:∀h' e,BZ it s.heap h'->(∃o,h'.get? e=some o/\o.cls=.type "StopIteration")->E (.ref e) { s with heap:=h' }):aB (aI prog w) A (bS (.ref it)) Q E s:=by
 unfold nG strIterType at gi;cases ha:x.cps.all (·< 128)
 ·simp only[ha,aJ,if_false]at gi;exact wpAny_nextOf_wide_end nh gi gx k
 ·simp only[ha,if_true]at gi;exact wpAny_nextOf_ascii_end nh gi gx k
structure Xg(z T U i j:ag):Prop where
 Tz:T≠z
 Uz:U≠z
 iz:i≠z
 jz:j≠z
 TU:T≠U
 Ti:T≠i
 Tj:T≠j
 Ui:U≠i
 Uj:U≠j
 ij:i≠j
end
noncomputable def v7(x:bh)(t:xA):fe:={ cls:=.type (strIterType x),data:=.fields #[.str x t,.int 0 0] }
theorem Kw{h:bP}{it:ag}{x:bh}{t:xA}(e:h.get? it=some (v7 x t)):nG h it x t 0:=⟨_,e,rfl,rfl⟩
section
variable{prog:aS}{w:bA}{A:bC}{E:ab->ae->Prop}{s:ae}
end
noncomputable def TR(x y:bh):It:=
 ⟨fun i _=>∃c d,x.cps[i]? = some c/\y.cps[i]? = some d,
  fun i H v H'=>∃T,H T=none/\v=.ref T/\∃c d,x.cps[i]? = some c/\y.cps[i]? = some d/\H'=upd H T (.tup [.str ⟨#[c]⟩,.str ⟨#[d]⟩]),
  fun i _=>x.cps[i]? = none\/y.cps[i]? = none⟩
section
open Builtin
variable{prog:aS}{w:bA}{A:bC}{E:ab->ae->Prop}{s:ae}
structure Tv(z T U i j b:ag):Prop where
 Tz:T≠z
 Uz:U≠z
 iz:i≠z
 jz:j≠z
 TU:T≠U
 Ti:T≠i
 Tj:T≠j
 Ui:U≠i
 Uj:U≠j
 ij:i≠j
 bz:b≠z
 bU:b≠U
 bi:b≠i
 bj:b≠j
theorem JY{z T U i j:ag}{p:bh}{tp:xA}{b:ag}{ys:Array ab}{m n x:Nat}{y:ab}{c d:ab}{Q:ab->ae->Prop}(P:Tv z T U i j b)(gz:fY s.heap z T U .none)(gT:cU s.heap T (.ref i) (.ref j))(gU:cU s.heap U c d)
  (gi:nG s.heap i p tp m)(gj:hJ true s.heap j b n)(gb:iS true s.heap b ys)(gx:p.cps[m]? = some x)(gy:ys[n]? = some y)
  (k:∀h',fY h' z T U (rawInt s.heap.objs.size)->cU h' U (.str ⟨#[x]⟩ s.toks) y->nG h' i p tp (m+1)->hJ true h' j b (n+1)->cU h' s.heap.objs.size (.str ⟨#[x]⟩ s.toks) y->h'.objs.size=s.heap.objs.size+1->
   (∀e o,e≠z->e≠U->e≠i->e≠j->s.heap.get? e=some o->h'.get? e=some o)->Q (.ref s.heap.objs.size) { s with heap:=h',toks:=s.toks+1 }) :
  aB (aI prog w) A (fO.«zip.__next__» ⟨[.ref z],[]⟩) (fun f s'=>∃v,f=.done (.ret v)/\Q v s') E s:=by
 show aB (aI prog w) _ (field (.ref z) 2 >>= _) _ _ _;refine wb9 (cv gz rfl (x:=.bool false) rfl ?_);show aB (aI prog w) _ (field (.ref z) 3 >>= _) _ _ _;refine wb9 (cv gz rfl (x:=.ref T) rfl (wb9 (bO gT rfl ?_)));show aB (aI prog w) _ (cA (.ref z) >>= _) _ _ _;refine wb9 ?_;unfold cA;refine wb9 (cv gz rfl (x:=.none) rfl (wu9 ?_));simp only[if_true];refine wb9 (ic (wb9 (cv gz rfl (x:=.ref U) rfl (wb9 (bH gz (by simp) fun h1 gz1 s1=>?_)))));replace gz1:fY h1 z T U .ellipsis:=gz1;refine wb9 ?_;simp only[j9,nR,jd,oH];refine wb9 (wb9 (iG ?_));show aB (aI prog w) _ (bS (.ref i) >>= _) _ _ _;refine wb9 (B6 (gi.keep fun o e=>s1.extBut _ o P.iz e) gx fun h2 gi2 s2=>wu9 ?_);have gU2:cU h2 U c d:=s2.extBut _ _ P.Ui (s1.extBut _ _ P.Uz gU);refine wb9 (bO gU2 rfl (wb9 (f7 gU2 fun h3 gU3 s3=>wb9 (nJ (wu9 ?_)))));replace gU3:cU h3 U (.str ⟨#[x]⟩ s.toks) d:=gU3;refine wb9 (wb9 (iG ?_));show aB (aI prog w) _ (bS (.ref j) >>= _) _ _ _;refine wb9 (rM (gj.keep fun o e=>s3.extBut _ o P.Uj.symm (s2.extBut _ o P.ij.symm (s1.extBut _ o P.jz e))) (gb.keep fun o e=>s3.extBut _ o P.bU (s2.extBut _ o P.bi (s1.extBut _ o P.bz e))) gy fun h4 gj4 s4=>wu9 ?_);have gU4:cU h4 U (.str ⟨#[x]⟩ s.toks) d:=s4.extBut _ _ P.Uj gU3;refine wb9 (bO gU4 rfl (wb9 (f7 gU4 fun h5 gU5 s5=>wb9 (nJ (wu9 (wu9 ?_))))));replace gU5:cU h5 U (.str ⟨#[x]⟩ s.toks) y:=gU5;refine wb9 (bO gU5 rfl (wb9 (qo ?_)));have sz:h5.objs.size=s.heap.objs.size:=by rw[s5.1,s4.1,s3.1,s2.1,s1.1]
 have gz5:fY h5 z T U .ellipsis:=s5.extBut _ _ P.Uz.symm (s4.extBut _ _ P.jz.symm (s3.extBut _ _ P.Uz.symm (s2.extBut _ _ P.iz.symm gz1)));have k5:∀e o,e≠z->e≠U->e≠i->e≠j->s.heap.get? e=some o->h5.get? e=some o:=fun e o e1 e2 e3 e4 q=>s5.extBut _ _ e2 (s4.extBut _ _ e4 (s3.extBut _ _ e2 (s2.extBut _ _ e3 (s1.extBut _ _ e1 q))));have gi5:nG h5 i p tp (m+1):=gi2.keep fun o e=>s5.extBut _ o P.Ui.symm (s4.extBut _ o P.ij (s3.extBut _ o P.Ui.symm e));have gj5:hJ true h5 j b (n+1):=gj4.keep fun o e=>s5.extBut _ o P.Uj.symm e;have zlt:z<h5.objs.size:=hl9 gz5;show aB (aI prog w) _ (gn (.ref z) (.ref h5.objs.size) >>= _) _ _ _;refine wb9 ?_;unfold gn;have gz6:fY (h5.push { cls:=.type "tuple",data:=.seq #[.str ⟨#[x]⟩ s.toks,y] }) z T U .ellipsis:=hp9 _ gz5;refine wb9 (bH gz6 (by simp) fun h7 gz7 s7=>?_);replace gz7:fY h7 z T U (rawInt h5.objs.size):=gz7;refine bH gz7 (by simp) fun h8 gz8 s8=>wu9 ⟨_,rfl,?_⟩;replace gz8:fY h8 z T U (rawInt h5.objs.size):=gz8;have up:∀e o,e≠z->h5.get? e=some o->h8.get? e=some o:=fun e o e1 q=>s8.extBut _ _ e1 (s7.extBut _ _ e1 (hp9 _ q));have gN:cU h8 h5.objs.size (.str ⟨#[x]⟩ s.toks) y:=s8.extBut _ _ (iR zlt) (s7.extBut _ _ (iR zlt) (aQ _ rfl));have sz8:h8.objs.size=h5.objs.size+1:=by rw[s8.1,s7.1,cB]
 rw[sz]at gz8 gN sz8;show Q (.ref h5.objs.size) _;rw[sz];exact k h8 gz8 (up _ _ P.Uz gU5) (gi5.keep fun o e=>up _ o P.iz e) (gj5.keep fun o e=>up _ o P.jz e) gN sz8 fun e o e1 e2 e3 e4 q=>up e o e1 (k5 e o e1 e2 e3 e4 q)
theorem N3{z T U i j:ag}{p:bh}{tp:xA}{b:ag}{ys:Array ab}{m n:Nat}{c d:ab}{Q:Fin->ae->Prop}(nh:A.handled=none)(P:Tv z T U i j b)(gz:fY s.heap z T U .none)(gT:cU s.heap T (.ref i) (.ref j))(gU:cU s.heap U c d)
  (gi:nG s.heap i p tp m)(gj:hJ true s.heap j b n)(gb:iS true s.heap b ys)(ge:p.cps[m]? = none\/ys[n]? = none)
  (k:∀h' e,(∀e o,e≠z->e≠U->e≠i->e≠j->s.heap.get? e=some o->h'.get? e=some o)->(∃o,h'.get? e=some o/\o.cls=.type "StopIteration")->∀tk,E (.ref e) { s with heap:=h',toks:=tk }) :
  aB (aI prog w) A (fO.«zip.__next__» ⟨[.ref z],[]⟩) Q E s:=by
 show aB (aI prog w) _ (field (.ref z) 2 >>= _) _ _ _;refine wb9 (cv gz rfl (x:=.bool false) rfl ?_);show aB (aI prog w) _ (field (.ref z) 3 >>= _) _ _ _;refine wb9 (cv gz rfl (x:=.ref T) rfl (wb9 (bO gT rfl ?_)));show aB (aI prog w) _ (cA (.ref z) >>= _) _ _ _;refine wb9 ?_;unfold cA;refine wb9 (cv gz rfl (x:=.none) rfl (wu9 ?_));simp only[if_true];refine wb9 (ic (wb9 (cv gz rfl (x:=.ref U) rfl (wb9 (bH gz (by simp) fun h1 gz1 s1=>?_)))));replace gz1:fY h1 z T U .ellipsis:=gz1;refine wb9 ?_;simp only[j9,nR,jd,oH];refine wb9 (wb9 (iG ?_));show aB (aI prog w) _ (bS (.ref i) >>= _) _ _ _
 cases gx:p.cps[m]? with
 | none=>
   refine wb9 (Oa nh (gi.keep fun o e=>s1.extBut _ o P.iz e) gx fun h2 e s2 he=>?_);obtain⟨oe,he1,he2⟩:=he;have gz2:fY h2 z T U .ellipsis:=s2 _ _ P.iz.symm gz1;have ez:e≠z:=fun q=>by subst q;rw[gz2]at he1;cases he1;simp at he2
   exact bH gz2 (by simp) fun h3 _ s3=>k h3 e (fun c o c1 _ c3 _ q=>s3.extBut _ _ c1 (s2 _ _ c3 (s1.extBut _ _ c1 q))) ⟨oe,s3.extBut _ _ ez he1,he2⟩ _
 | some x=>
   have gy:ys[n]? = none:=by
    rcases ge with g|g
    ·rw[gx]at g;cases g
    ·exact g
   refine wb9 (B6 (gi.keep fun o e=>s1.extBut _ o P.iz e) gx fun h2 gi2 s2=>wu9 ?_);have gU2:cU h2 U c d:=s2.extBut _ _ P.Ui (s1.extBut _ _ P.Uz gU);refine wb9 (bO gU2 rfl (wb9 (f7 gU2 fun h3 gU3 s3=>wb9 (nJ (wu9 ?_)))));refine wb9 (wb9 (iG ?_));show aB (aI prog w) _ (bS (.ref j) >>= _) _ _ _;refine wb9 (AX nh (gj.keep fun o e=>s3.extBut _ o P.Uj.symm (s2.extBut _ o P.ij.symm (s1.extBut _ o P.jz e))) (gb.keep fun o e=>s3.extBut _ o P.bU (s2.extBut _ o P.bi (s1.extBut _ o P.bz e))) gy fun h4 e s4 he=>?_);obtain⟨oe,he1,he2⟩:=he;have gz4:fY h4 z T U .ellipsis:=s4 _ _ P.jz.symm (s3.extBut _ _ P.Uz.symm (s2.extBut _ _ P.iz.symm gz1));have ez:e≠z:=fun q=>by subst q;rw[gz4]at he1;cases he1;simp at he2
   exact bH gz4 (by simp) fun h5 _ s5=>k h5 e (fun c o c1 c2 c3 c4 q=>s5.extBut _ _ c1 (s4 _ _ c4 (s3.extBut _ _ c2 (s2.extBut _ _ c3 (s1.extBut _ _ c1 q))))) ⟨oe,s5.extBut _ _ ez he1,he2⟩ _
theorem G1{z T U i j:ag}{p:bh}{tp:xA}{b:ag}{ys:Array ab}{m n x:Nat}{y:ab}{c d:ab}{Q:Option ab->ae->Prop}(P:Tv z T U i j b)(gz:fY s.heap z T U .none)(gT:cU s.heap T (.ref i) (.ref j))(gU:cU s.heap U c d)
  (gi:nG s.heap i p tp m)(gj:hJ true s.heap j b n)(gb:iS true s.heap b ys)(gx:p.cps[m]? = some x)(gy:ys[n]? = some y)
  (k:∀h',fY h' z T U (rawInt s.heap.objs.size)->cU h' U (.str ⟨#[x]⟩ s.toks) y->nG h' i p tp (m+1)->hJ true h' j b (n+1)->cU h' s.heap.objs.size (.str ⟨#[x]⟩ s.toks) y->h'.objs.size=s.heap.objs.size+1->
   (∀e o,e≠z->e≠U->e≠i->e≠j->s.heap.get? e=some o->h'.get? e=some o)->Q (some (.ref s.heap.objs.size)) { s with heap:=h',toks:=s.toks+1 }):aB (aI prog w) A (pyNext (.ref z)) Q E s:=by
 have ty:s.TypeIs (.ref z) "zip":=⟨_,gz,rfl⟩
 unfold pyNext;exact wb9 (jA (cy (name:=aa "__next__") ty dF (cg dF ty jm (JY P gz gT gU gi gj gb gx gy fun h' a1 a2 a3 a4 a5 a6 a7=>wu9 (k h' a1 a2 a3 a4 a5 a6 a7)) (i6 _))))
theorem KU{z T U i j:ag}{p:bh}{tp:xA}{b:ag}{ys:Array ab}{m n:Nat}{c d:ab}{Q:Option ab->ae->Prop}(nh:A.handled=none)(P:Tv z T U i j b)(gz:fY s.heap z T U .none)(gT:cU s.heap T (.ref i) (.ref j))(gU:cU s.heap U c d)
  (gi:nG s.heap i p tp m)(gj:hJ true s.heap j b n)(gb:iS true s.heap b ys)(ge:p.cps[m]? = none\/ys[n]? = none)
  (k:∀h',(∀e o,e≠z->e≠U->e≠i->e≠j->s.heap.get? e=some o->h'.get? e=some o)->∀tk,Q none { s with heap:=h',toks:=tk }):aB (aI prog w) A (pyNext (.ref z)) Q E s:=by
 have ty:s.TypeIs (.ref z) "zip":=⟨_,gz,rfl⟩
 unfold pyNext;refine wb9 (jA (cy (name:=aa "__next__") ty dF (cg dF ty jm (N3 nh P gz gT gU gi gj gb ge fun h' e hk he tk=>?_) (i6 _))));obtain⟨o,ho,hc⟩:=he;exact wb9 (eG (T:="StopIteration") (b:=true) ⟨o,ho,hc⟩ zT (wu9 (k _ hk _)))
end
noncomputable abbrev T5(h:bP)(x:bh)(t:xA)(b:ag):bP:=((h.push (v7 x t)).push (lX true b)).push { cls:=.type "tuple",data:=.seq #[.ref h.objs.size,.ref (h.push (v7 x t)).objs.size] }
noncomputable abbrev T4(h:bP)(x:bh)(t:xA)(b:ag):bP:=(T5 h x t b).push { cls:=.type "tuple",data:=.seq #[.none,.none] }
noncomputable abbrev Q8(h:bP)(x:bh)(t:xA)(b:ag):bP:=(T4 h x t b).push { cls:=.type "zip",data:=.fields #[.none,.bool false,.bool false,.ref ((h.push (v7 x t)).push (lX true b)).objs.size,.ref (T5 h x t b).objs.size] }
theorem N2(x:bh)(t:xA)(b:ag)(ys:Array ab):Meets (fO.«zip.__new__» ⟨[.type "zip",.str x t,.ref b],[]⟩) (fun _ R s=>iS true s.heap b ys/\R (.ok (.ret (.ref (T4 s.heap x t b).objs.size))) { s with heap:=Q8 s.heap x t b }):=
 .of_wp fun prog w A R s q=>by
  obtain⟨hp,g,d,tk,os⟩:=s;obtain⟨q2,q⟩:=q;have sz:=M5;have e2:iS true (zP ⟨hp.push { cls:=.type (strIterType x),data:=.fields #[.str x t,.int 0 0] },g,d,tk,os⟩) b ys:=iS.keep q2 fun o e=>hp9 _ e
  wp_walk using wpAny_pyIter_strU (x:=x) (t:=t),qz e2
  exact⟨_,rfl,q⟩
section
variable{prog:aS}{w:bA}{A:bC}{E:ab->ae->Prop}{s:ae}
theorem JZ{x:bh}{t:xA}{b:ag}{ys:Array ab}{Q:ab->ae->Prop}
  (gb:iS true s.heap b ys)(k:∀h',fY h' (s.heap.objs.size+4) (s.heap.objs.size+2) (s.heap.objs.size+3) .none->cU h' (s.heap.objs.size+2) (.ref s.heap.objs.size) (.ref (s.heap.objs.size+1))->cU h' (s.heap.objs.size+3) .none .none->
   nG h' s.heap.objs.size x t 0->hJ true h' (s.heap.objs.size+1) b 0->(∀c o,s.heap.get? c=some o->h'.get? c=some o)->Q (.ref (s.heap.objs.size+4)) { s with heap:=h' }):aB (aI prog w) A (call (.type "zip") [.str x t,.ref b]) Q E s:=by
 refine callType_new zX (by decide) (vS _ _) (xf _ _) (fun ob=>rX ob _ _) xg (N2 x t b ys) ⟨gb,?_⟩;have z1:(s.heap.push (v7 x t)).objs.size=s.heap.objs.size+1:=cB ..;have z2:((s.heap.push (v7 x t)).push (lX true b)).objs.size=s.heap.objs.size+2:=by rw[cB,z1]
 have z3:(T5 s.heap x t b).objs.size=s.heap.objs.size+3:=by rw[cB,z2]
 have z4:(T4 s.heap x t b).objs.size=s.heap.objs.size+4:=by rw[cB,z3]
 have g5:(Q8 s.heap x t b).get? (T4 s.heap x t b).objs.size=some _:=aQ _ rfl;have g4:(Q8 s.heap x t b).get? (T5 s.heap x t b).objs.size=some _:=hp9 _ (aQ _ rfl);have g3:(Q8 s.heap x t b).get? ((s.heap.push (v7 x t)).push (lX true b)).objs.size=some _:=hp9 _ (hp9 _ (aQ _ rfl));have g2:(Q8 s.heap x t b).get? (s.heap.push (v7 x t)).objs.size=some (lX true b):=hp9 _ (hp9 _ (hp9 _ (aQ _ rfl)));have g1:(Q8 s.heap x t b).get? s.heap.objs.size=some (v7 x t):=hp9 _ (hp9 _ (hp9 _ (hp9 _ (aQ _ rfl))));show _/\_;rw[z2,z3,z4]at g5;rw[z1,z2]at g3;rw[z3]at g4;rw[z1]at g2;rw[z4];exact⟨⟨_,g5,rfl⟩,k _ g5 g3 g4 (Kw g1) (wB g2) fun c o q=>hp9 _ (hp9 _ (hp9 _ (hp9 _ (hp9 _ q))))⟩
end
noncomputable def Itm(K:aN)(x:bh)(b:ag):It:=
 ⟨fun i H=>∃c ys y,x.cps[i]? = some c/\o9 true K H b ys/\ys[i]? = some y,
  fun i H v H'=>∃T,H T=none/\v=.ref T/\∃c y,x.cps[i]? = some c/\(∀ys,o9 true K H b ys->ys[i]? = some y)/\H'=upd H T (.tup [.str ⟨#[c]⟩,y]),
  fun i H=>∃ys,o9 true K H b ys/\(x.cps[i]? = none\/ys.length<=i)⟩
theorem DY{P:aS}{w:bA}{K:aN}{elts:List aO}{k:Nat}{pos:fS}(x:bh)(t:xA)(b z TI TO i1 i2:ag)(D:Tv z TI TO i1 i2 b) :
  Turn P w K (.Tuple elts k pos) (Itm K x b) [z,TI,TO,i1,i2] z (fun i h=>fY h z TI TO .none/\cU h TI (.ref i1) (.ref i2)/\(∃u v,cU h TO u v)/\nG h i1 x t i/\hJ true h i2 b i) where
 mem:=by simp
 obj:=fun i h st c hc=>by
  obtain⟨hz,hTI,⟨u,v,hTO⟩,⟨o1,e1,_,d1⟩,h2⟩:=st;obtain⟨o2,e2,_,d2⟩:=h2.obj;simp only[ao,ba,or_false]at hc
  rcases hc with rfl|rfl|rfl|rfl|rfl
  ·exact⟨_,hz,fun v z=>nomatch z⟩
  ·exact⟨_,hTI,fun v z=>nomatch z⟩
  ·exact⟨_,hTO,fun v z=>nomatch z⟩
  ·exact⟨_,e1,fun v z=>by rw[d1]at z;cases z⟩
  ·exact⟨_,e2,fun v z=>by rw[d2]at z;cases z⟩
 keep:=fun i h h' st k=>by
  obtain⟨hz,hTI,⟨u,v,hTO⟩,h1,h2⟩:=st;exact⟨k z (by simp) _ hz,k TI (by simp) _ hTI,⟨u,v,k TO (by simp) _ hTO⟩,h1.keep fun o e=>k i1 (by simp) o e,h2.keep fun o e=>k i2 (by simp) o e⟩
 item:=by
  intro X hP hw hK hc i pins s σ H E I hf st hg;subst hP hw hK;obtain⟨c1,ys,y,hx,hb,hy⟩:=hg;obtain⟨its2,rv2,p2⟩:=o9.at I hb;obtain⟨u2,hu2,ru2⟩:=rv2.get hy;obtain⟨hz,hTI,⟨w1,w2,hTO⟩,h1,h2⟩:=st;refine G1 D hz hTI hTO h1 h2 p2 hx (y:=u2) (by simpa using hu2) fun h' g1 g2 g3 g4 g5 g6 hk=>?_;refine⟨_,rfl,BV g1 fun h'' g1' hs''=>?_⟩
  have fc:∀c∈[z,TO,i1,i2],pe X pins H c:=fun c hc=>hf c (by
   simp only[ao,ba,or_false]at hc ⊢
   rcases hc with rfl|rfl|rfl|rfl<;>simp)
  have kk:∀c o,c∉[z,TO,i1,i2]->s.heap.get? c=some o->h''.get? c=some o:=fun c o hc e=>by
   simp only[ao,ba,or_false,not_or]at hc;exact hs''.extBut c o hc.1 (hk c o hc.1 hc.2.1 hc.2.2.1 hc.2.2.2 e)
  have I1:Inv X pins σ H { s with heap:=h'',toks:=s.toks+1 }:=I.rJ (t':=s.toks+1) kk fc;have nz:s.heap.objs.size≠z:=iR (hl9 hz);have hT:h''.get? s.heap.objs.size=some { cls:=.type "tuple",data:=.seq #[.str ⟨#[c1]⟩ s.toks,u2] }:=hs''.extBut _ _ nz g5;have hfr:H s.heap.objs.size=none:=I.hok.fresh (aK _)
  have I2:Inv X pins σ (upd H s.heap.objs.size (.tup [.str ⟨#[c1]⟩,y])) { s with heap:=h'',toks:=s.toks+1 }:=by
   refine I1.Gi (I.yX (aK _) hfr) I.sz ⟨by rw[cj];show 2<=16777216;decide,[.str ⟨#[c1]⟩ s.toks,u2],.cons ⟨_,rfl⟩ (.cons ru2 .nil),?_⟩;exact⟨_,hT,rfl,_,rfl⟩
  refine⟨.ref s.heap.objs.size,_,I2,rfl,⟨_,hfr,rfl,c1,y,hx,fun ys' h1=>by rw[o9.inj I h1 hb];exact hy,rfl⟩,⟨g1',?_,⟨_,_,hs''.extBut _ _ D.Uz g2⟩,g3.keep fun o e=>hs''.extBut _ o D.iz e,g4.keep fun o e=>hs''.extBut _ o D.jz e⟩,fun c hc=>?_⟩
  ·exact hs''.extBut _ _ D.Tz (hk _ _ D.Tz D.TU D.Ti D.Tj hTI)
  ·rw[cm ?_]
   ·exact(hf c hc).1
   ·have:c<s.heap.objs.size:=by
     simp only[ao,ba,or_false]at hc
     rcases hc with rfl|rfl|rfl|rfl|rfl
     ·exact hl9 hz
     ·exact hl9 hTI
     ·exact hl9 hTO
     ·obtain⟨_,e,_⟩:=h1;exact hl9 e
     ·obtain⟨_,e,_⟩:=h2.obj;exact hl9 e
    exact bN this
 done:=by
  intro X hP hw hK hc i pins s σ H E I hf st hg;subst hP hw hK;obtain⟨hz,hTI,⟨w1,w2,hTO⟩,h1,h2⟩:=st;obtain⟨ys,hb,hg⟩:=hg;obtain⟨its2,rv2,p2⟩:=o9.at I hb;refine KU (I.ok.hd hc) D hz hTI hTO h1 h2 p2 (hg.imp id fun h=>by simpa [rv2.length]using h) fun h' hk tk=>⟨rfl,I.rJ (t':=tk) (ch:=[z,TO,i1,i2]) (fun c o hc e=>?_) fun c hc=>hf c ?_⟩
  ·simp only[ao,ba,or_false,not_or]at hc;exact hk c o hc.1 hc.2.1 hc.2.2.1 hc.2.2.2 e
  ·simp only[ao,ba,or_false]at hc ⊢
   rcases hc with rfl|rfl|rfl|rfl<;>simp
 self:=fun _ _ _ _ _ st h=>oz st.1 h
end L2
namespace M
open PySem PySem.Spec PyProof.Rows L2
section
variable{X:Cx}{C:Fs}{a b c e:aO}{xa xb xc:Ex}{pos:fS}{es:List aO}{xs:List Ex}{pins:List (ag×fe)}{σ:St}{F H:Hp}{s:ae}{tg iter:aO}
noncomputable def VM(tp tq:Bool)(K:Fg)(ta:TA):TI:=fun σ H R=>ta σ H fun vs H1=>∃a b,vs=[.ref a,.ref b]/\(∃xs,o9 tp K H1 a xs)/\(∃ys,o9 tq K H1 b ys)/\R (Wl tp tq K a b) H1
theorem OR{tp tq:Bool}{elts:List aO}{k:Nat}{tpos:fS}{ta:TA}{p:fS}(hg:Gl X "zip")(hm:X.mg "zip"=none)(ha:PA X [a,b] ta)(hs:bp [a,b] X.env=[(false,eval a X.env),(false,eval b X.env)]:=by rfl)(hs2:bp [b] X.env=[(false,eval b X.env)]:=by rfl) :
  PI X (.Tuple elts k tpos) (.Call (.Name "zip" p) [a,b] [] pos) (VM tp tq X.K ta):=by
 intro pins s σ H R I h;refine Call_ (n6 I hg hm (by decide +kernel:bootBuiltins "zip"=some (.type "zip")) (eX (iL (ha pos pins s σ H _ I h) fun us s1 ⟨vs,H1,I1,r1,q1⟩=>?_) (by rw[hs,hs2]) (by rw[hs2];rfl)));obtain⟨l1,l2,e,⟨xs,hx⟩,⟨ys,hy⟩,q⟩:=q1;subst e
 cases r1 with
 | cons r rr=>
   cases rr with
   | cons r' rr=>
     cases rr;cases r;cases r';obtain⟨its,rv,pl⟩:=o9.at I1 hx;obtain⟨its2,rv2,pl2⟩:=o9.at I1 hy;refine J1 pl pl2 fun h' g1 g2 g3 g4 g5 kk=>?_;have I2:Inv X pins σ H1 { s1 with heap:=h' }:=I1.kept (t':=s1.toks) kk;have n1:@LT.lt Nat _ l1 s1.heap.objs.size:=by obtain⟨_,e,_⟩:=pl.obj;exact hl9 e
     have n2:@LT.lt Nat _ l2 s1.heap.objs.size:=by obtain⟨_,e,_⟩:=pl2.obj;exact hl9 e
     refine oz g1 ⟨_,[s1.heap.objs.size+4,s1.heap.objs.size+2,s1.heap.objs.size+3,s1.heap.objs.size,s1.heap.objs.size+1],_,_,H1,rfl,I2,
      Gc l1 l2 _ _ _ _ _ ⟨?_,?_,?_,?_,?_,?_,?_,?_,?_,?_,?_,?_,?_,?_,?_,?_,?_,?_⟩,⟨g1,g2,⟨_,_,g3⟩,g4,g5⟩,fun c hc=>?_,q⟩
     all_goals try (show@Ne Nat _ _;omega)
     have hle:s1.heap.objs.size<=c:=by
      simp only[ao,ba,or_false]at hc
      rcases hc with rfl|rfl|rfl|rfl|rfl<;>first|exact kj _ _|exact aK _
     exact I1.yX hle (I1.hok.fresh hle)
theorem sg:∀(xs ys:List Dat) (i:Nat),(jf xs ys)[i]? = match xs[i]?,ys[i]? with
  | some x,some y=>some (.tup [x,y])
  | _,_=>none
 | [],_,_=>by simp[jf]
 | _::_,[],i=>by
   have:∀o:Option Dat,(match o,(none:Option Dat)with|some x,some y=>some (Dat.tup [x,y])|_,_=>none)=none:=fun o=>by cases o<;>rfl
   simp[jf,this]
 | x::xs,y::ys,0=>by simp[jf]
 | x::xs,y::ys,i+1=>by simp only[jf,bD];exact sg xs ys i
theorem pS:∀(xs ys:List Dat),(jf xs ys).length=min xs.length ys.length
 | [],_=>by simp[jf]
 | _::_,[]=>by simp[jf]
 | x::xs,y::ys=>by simp only[jf,bo,pS xs ys];omega
def QV(tp:Bool)(K:Fg)(F:Hp)(a:ag)(vs:List V):Prop:=match tp with
 | true=>Tq K F a vs
 | false=>nF K F a vs
theorem QV.up{tp:Bool}{K:Fg}{F F' H:Hp}{a:ag}{vs:List V}(h:QV tp K F a vs)(s:cu F F')(g:Good F' H):o9 tp K H a vs:=by
 cases tp
 ·exact g.sub.seq (s.seq h)
 ·exact((Tq.mono s h).mono g.sub).sq
theorem HR{tp tq:Bool}{K:Fg}{F1:Hp}{a b:ag}{vs us:List V}{ds es:List Dat}(h:QV tp K F1 a vs)(h':QV tq K F1 b us)(r:cR K F1 ds vs)(r':cR K F1 es us):lj K F1 (Wl tp tq K a b) (jf ds es):=fun F H g s=>by
 have hq:=h.up s g;have hq':=h'.up s g;refine⟨fun i d hd=>?_,fun i hi=>⟨vs,us,hq,hq',?_⟩⟩
 ·rw[sg]at hd
  cases e1:ds[i]? with
  | none=>rw[e1]at hd;cases hd
  | some d1=>
    cases e2:es[i]? with
    | none=>rw[e1,e2]at hd;cases hd
    | some d2=>
      rw[e1,e2]at hd;cases hd;obtain⟨v1,f1,p1⟩:=r.get e1;obtain⟨v2,f2,p2⟩:=r'.get e2;refine⟨⟨vs,us,v1,v2,hq,hq',f1,f2⟩,fun x H' y=>?_⟩;obtain⟨T,hT,rfl,x1,y1,q1,q2,rfl⟩:=y;have q3:=bw (f1.symm.trans (q1 vs hq));have q4:=bw (f2.symm.trans (q2 us hq'));subst q3 q4;refine⟨_,Step.alloc g hT,⟨T,_,rfl,.inl cJ,?_⟩⟩;have sm:cu F1 (upd F T (.tup [v1,v2])):=s.trans (cu.upd (g.sub.free hT));exact⟨v1,[v2],rfl,p1.mono sm,v2,[],rfl,p2.mono sm,rfl⟩
 ·rw[pS]at hi;rw[r.length,r'.length];omega
noncomputable def SD(K:Fg)(ta:TA):TI:=fun σ H R=>ta σ H fun vs H1=>∃x b,vs=[.str x,.ref b]/\(∃ys,o9 true K H1 b ys)/\R (L2.Itm K x b) H1
theorem K8{elts:List aO}{k:Nat}{tpos:fS}{ta:TA}{p:fS}(hg:Gl X "zip")(hm:X.mg "zip"=none)(ha:PA X [a,b] ta)(hs:bp [a,b] X.env=[(false,eval a X.env),(false,eval b X.env)]:=by rfl)(hs2:bp [b] X.env=[(false,eval b X.env)]:=by rfl) :
  PI X (.Tuple elts k tpos) (.Call (.Name "zip" p) [a,b] [] pos) (SD X.K ta):=by
 intro pins s σ H R I h;refine Call_ (n6 I hg hm (by decide +kernel:bootBuiltins "zip"=some (.type "zip")) (eX (iL (ha pos pins s σ H _ I h) fun us s1 ⟨vs,H1,I1,r1,q1⟩=>?_) (by rw[hs,hs2]) (by rw[hs2];rfl)));obtain⟨x,b,e,⟨ys,hy⟩,q⟩:=q1;subst e
 cases r1 with
 | cons r rr=>
   cases rr with
   | cons r' rr=>
     cases rr;obtain⟨t,rfl⟩:=r;cases r';obtain⟨its2,rv2,pl2⟩:=o9.at I1 hy;have n2:@LT.lt Nat _ b s1.heap.objs.size:=by obtain⟨_,e,_⟩:=pl2.obj;exact hl9 e
     refine JZ pl2 fun h' g1 g2 g3 g4 g5 kk=>?_;have I2:Inv X pins σ H1 { s1 with heap:=h' }:=I1.kept (t':=s1.toks) kk
     refine oz g1 ⟨_,[s1.heap.objs.size+4,s1.heap.objs.size+2,s1.heap.objs.size+3,s1.heap.objs.size,s1.heap.objs.size+1],_,_,H1,rfl,I2,
      DY x t b _ _ _ _ _ ⟨?_,?_,?_,?_,?_,?_,?_,?_,?_,?_,?_,?_,?_,?_⟩,⟨g1,g2,⟨_,_,g3⟩,g4,g5⟩,fun c hc=>?_,q⟩
     all_goals try (show@Ne Nat _ _;omega)
     have hle:s1.heap.objs.size<=c:=by
      simp only[ao,ba,or_false]at hc
      rcases hc with rfl|rfl|rfl|rfl|rfl<;>first|exact kj _ _|exact aK _
     exact I1.yX hle (I1.hok.fresh hle)
theorem signs_get(x:bh)(i:Nat):((kU x).map Dat.str)[i]? = (x.cps[i]?).map fun c=>.str ⟨#[c]⟩:=by
 unfold kU;rw[bx,bx,dM];cases x.cps[i]?<;>rfl
theorem EF{K:Fg}{F1:Hp}(x:bh){b:ag}{us:List V}{es:List Dat}(h':Tq K F1 b us)(r':cR K F1 es us):lj K F1 (L2.Itm K x b) (jf ((kU x).map .str) es):=fun F H g s=>by
 have hq':o9 true K H b us:=QV.up (tp:=true) h' s g;refine⟨fun i d hd=>?_,fun i hi=>⟨us,hq',?_⟩⟩
 ·rw[sg,signs_get]at hd
  cases e1:x.cps[i]? with
  | none=>rw[e1]at hd;cases hd
  | some c1=>
    cases e2:es[i]? with
    | none=>rw[e1,e2]at hd;cases hd
    | some d2=>
      rw[e1,e2]at hd;cases hd;obtain⟨v2,f2,p2⟩:=r'.get e2;refine⟨⟨c1,us,v2,e1,hq',f2⟩,fun v H' z=>?_⟩;obtain⟨T,hT,rfl,d1,y1,q1,q2,rfl⟩:=z;rw[e1]at q1;cases q1;have q4:=bw (f2.symm.trans (q2 us hq'));subst q4;refine⟨_,Step.alloc g hT,⟨T,_,rfl,.inl cJ,?_⟩⟩;have sm:cu F1 (upd F T (.tup [.str ⟨#[c1]⟩,v2])):=s.trans (cu.upd (g.sub.free hT));exact⟨_,_,rfl,rfl,v2,[],rfl,p2.mono sm,rfl⟩
 ·rw[pS]at hi;simp only[kU,aG,bF]at hi;rw[r'.length];have:x.cps.size<=i\/es.length<=i:=by omega
  exact this.imp (fun z=>fu z) id
noncomputable def GF:Dat->Option (Bool×List Dat)
 | .lst xs=>some (false,xs)
 | .tup xs=>some (true,xs)
 | _=>none
theorem va{K:Fg}{F:Hp}{d:Dat}{tp:Bool}{xs:List Dat}{v:V}(h:GF d=some (tp,xs))(r:Rep K F d v):∃p vs,v=.ref p/\QV tp K F p vs/\cR K F xs vs:=by
 cases d with
 | lst ds=>cases h;exact r
 | tup ds=>cases h;exact r
 | _=>cases h
theorem N4{ds:List Dat}{items:List Dat}(h:Nc ds=some items) :
  (∃x y tp tq xs ys,ds=[x,y]/\GF x=some (tp,xs)/\GF y=some (tq,ys)/\items=jf xs ys)\/∃x ys,ds=[.str x,.tup ys]/\items=jf ((kU x).map .str) ys:=by
 obtain⟨a,b,rfl⟩:∃a b,ds=[a,b]:=by
  cases ds with
  | nil=>cases h
  | cons a r=>
    cases r with
    | nil=>cases h
    | cons b r=>
      cases r with
      | nil=>exact⟨a,b,rfl⟩
      | cons _ _=>cases h
 have h:zip2 a b=some items:=h
 cases a with
 | lst xs=>
   cases b with
   | lst ys=>cases h;exact .inl ⟨_,_,_,_,_,_,rfl,rfl,rfl,rfl⟩
   | _=>cases h
 | tup xs=>
   cases b with
   | tup ys=>cases h;exact .inl ⟨_,_,_,_,_,_,rfl,rfl,rfl,rfl⟩
   | _=>cases h
 | str x=>
   cases b with
   | tup ys=>cases h;exact .inr ⟨_,_,rfl,rfl⟩
   | _=>cases h
 | _=>cases h
theorem Om{elts:List aO}{k:Nat}{tp p:fS}(hg:Gl X "zip")(hm:X.mg "zip"=none)(ha:SA X C [a,b] [xa,xb])(hs:bp [a,b] X.env=[(false,eval a X.env),(false,eval b X.env)]:=by rfl)(hs2:bp [b] X.env=[(false,eval b X.env)]:=by rfl) :
  SI X C (.Tuple elts k tp) (.Call (.Name "zip" p) [a,b] [] pos) (.zip [xa,xb]):=fun pins s σ H R I z6=>by
 obtain⟨ρ,items,F,hi,g,RS,kk⟩:=z6;obtain⟨ds,h1,h2⟩:=eD hi
 rcases N4 h2 with⟨x,y,t1,t2,xs,ys,rfl,hx,hy,rfl⟩|⟨x,ys,rfl,rfl⟩
 ·refine OR (tp:=t1) (tq:=t2) hg hm ha hs hs2 pins s σ H R I ⟨ρ,[x,y],h1,F,g,RS,fun vs F1 H1 st r=>?_⟩;obtain⟨v,w,rfl,r1,v',w',rfl,r2,e3⟩:=r;cases e3;obtain⟨p1,vs1,rfl,q1,r1'⟩:=va hx r1;obtain⟨p2,vs2,rfl,q2,r2'⟩:=va hy r2;exact⟨p1,p2,rfl,⟨vs1,q1.up (cu.refl _) st.good⟩,⟨vs2,q2.up (cu.refl _) st.good⟩,kk _ F1 H1 st (HR q1 q2 r1' r2')⟩
 ·refine K8 hg hm ha hs hs2 pins s σ H R I ⟨ρ,_,h1,F,g,RS,fun vs F1 H1 st r=>?_⟩;obtain⟨v,w,rfl,r1,v',w',rfl,r2,e3⟩:=r;cases e3;cases r1;obtain⟨p2,vs2,rfl,q2,r2'⟩:=r2;exact⟨x,p2,rfl,⟨vs2,QV.up (tp:=true) q2 (cu.refl _) st.good⟩,kk _ F1 H1 st (EF x q2 r2')⟩
theorem Br{f:List Dat->Option (Dat×Bool)}{K:Fg}{xs:List V}{H:Hp}{Q:VK}(hf:∀ds d fr,f ds=some (d,fr)->ds.length=1)(h:gL K f xs H Q) :
  ∃da d fr F v,f [da]=some (d,fr)/\xs=[v]/\Good F H/\Rep K F da v/\∀w F' H',Step F H F' H'->Rep K F' d w->(fr=true->iu K H H' d w)->Q w H':=by
 obtain⟨ds,d,fr,h1,F,g,r,k⟩:=h
 match ds,hf ds d fr h1 with
 | [da],_=>
   obtain⟨v,w,rfl,rv,rw'⟩:=r;cases rw';exact⟨da,d,fr,F,v,h1,rfl,g,rv,k⟩
theorem QN{f:Dat->Option (Dat×Bool)}:∀{ds:List Dat} {r:Dat×Bool},b1 f ds=some r->ds.length=1
 | [_],_,_=>rfl
 | [],_,h=>by cases h
 | _::_::_,_,h=>by cases h
theorem tU{b:JM}:∀ds d fr,gY b ds=some (d,fr)->ds.length=1:=fun ds d fr h=>by
 cases b<;>first|exact QN h|cases h
theorem Fe:og X (.builtin "len") (gL X.K (gY .len)):=fun pins s σ H xs us Q I r h=>by
 obtain⟨da,d,fr,F,v,h1,rfl,g,rv,k⟩:=Br tU h
 cases da with
 | lst ds=>
   cases h1;obtain⟨p,vs,rfl,t,r'⟩:=rv;refine qj pins s σ H _ us Q I r ⟨p,vs,rfl,.inl (g.sub.seq t),?_⟩;rw[r'.length];exact k _ F H (Step.refl g) rfl bV
 | tup ds=>
   cases h1;obtain⟨p,vs,rfl,t,r'⟩:=rv;refine qj pins s σ H _ us Q I r ⟨p,vs,rfl,.inr (t.mono g.sub).sq,?_⟩;rw[r'.length];exact k _ F H (Step.refl g) rfl bV
 | str z=>
   simp only[gY,b1,BN,t4,BK,BI,bL,NR,BO,BJ]at h1;split at h1
   ·rename_i hz;cases h1;cases rv;exact wM pins s σ H _ us Q I r ⟨z,rfl,hz,k _ F H (Step.refl g) rfl bV⟩
   ·cases h1
 | dct ks ds=>
   cases h1;obtain⟨p,kvs,rfl,hF,rfl,rr⟩:=rv;obtain⟨u,rfl,ru⟩:=vals1 r;cases ru;refine S6 I (.inl (g.sub _ _ hF)) fun t s' I'=>⟨.int _,H,I',⟨t,rfl⟩,?_⟩
   have e1:kvs.length=(kvs.map (·.1)).length:=(aG ..).symm;rw[e1];exact k _ F H (Step.refl g) rfl bV
 | _=>cases h1
theorem zr:og X (.type "tuple") (gL X.K (gY .tuple)):=fun pins s σ H xs us Q I r h=>by
 obtain⟨da,d,fr,F,v,h1,rfl,g,rv,k⟩:=Br tU h
 cases da with
 | lst ds=>
   cases h1;obtain⟨p,vs,rfl,t,r'⟩:=rv;exact oQ pins s σ H _ us Q I r ⟨p,vs,rfl,.inl ⟨g.sub.seq t,fun l hl=>k _ _ _ (Step.alloc g hl) ⟨l,vs,rfl,.inl cJ,r'.mono (cu.upd (g.sub.free hl))⟩ bV⟩⟩
 | tup ds=>
   cases h1;obtain⟨p,vs,rfl,t,r'⟩:=rv;exact oQ pins s σ H _ us Q I r ⟨p,vs,rfl,.inr ⟨(t.mono g.sub).sq,k _ F H (Step.refl g) ⟨p,vs,rfl,t,r'⟩ bV⟩⟩
 | _=>cases h1
theorem vF{K:Fg}{F:Hp}:∀{ds:List Dat} {bs:List Bool} {vs:List V} {us:List ab},o7 ds=some bs->cR K F ds vs->cL vs us->us=bs.map uf
 | [],bs,vs,us,h,r,w=>by
   cases h;rw[show vs=[]from r]at w;cases w;rfl
 | d::ds,bs,vs,us,h,z5,w=>by
   obtain⟨v,r,e,h1,h2⟩:=z5;subst e
   cases d with
   | bl b=>
     simp only[o7]at h;obtain⟨bs',hb,h⟩:=fM h;cases h;cases h1
     cases w with
     | cons q w=>cases q;rw[vF hb h2 w];rfl
   | _=>cases h
theorem ED{s:ae}{h':bP}{o:fe}(hk:∀b x,b∉[s.heap.objs.size]->(s.heap.push o).get? b=some x->h'.get? b=some x):∀b x,s.heap.get? b=some x->h'.get? b=some x:=
 fun b x e=>hk b x (fun hm=>absurd (hl9 e) (by rw[au.mp hm];exact bK _)) (hp9 _ e)
theorem AG(bs:List Bool):((aT bs.length).all fun i=>(bs[i]?).getD true)=bs.all id:=by
 rw[JW,bQ,bQ];constructor
 ·intro h b hb;obtain⟨i,hi,rfl⟩:=kQ hb;have:=h i (br.mpr hi);simpa [af hi]using this
 ·intro h i hi;have hi':=br.mp hi;simp only[af hi',jU];exact h _ (bM hi')
theorem Fh(hcalm:X.calm=true):og X (.builtin "all") (gL X.K (gY .all)):=fun pins s σ H xs us Q I r h=>by
 obtain⟨da,d,fr,F,v,h1,rfl,g,rv,k⟩:=Br tU h
 cases da with
 | lst ds=>
   simp only[gY,b1,BN,t4,BK,BI,bL,NR,BO,BJ]at h1;obtain⟨bs,hb,h1⟩:=fM h1;cases h1;obtain⟨p,vs,rfl,t,r'⟩:=rv;obtain⟨its,w1,pl,_⟩:=I.lstR g t;obtain⟨u,rfl,ru⟩:=vals1 r;cases ru;have ei:=vF hb r' w1;have hlt:=pl.lt;refine call_all_walk (nH pl.isList ?_)
   refine⟨s.heap.objs.size,[s.heap.objs.size,p],[s.heap.objs.size],its.toArray.size,_,_,fun i=>(bs[i]?).getD true,rfl,Walks.list (A:=X.A.in1) (I.ok.hd hcalm) _ p (bN hlt) its.toArray,
    ⟨⟨_,aQ _ rfl,rfl,rfl⟩,pl.isList.push _⟩,fun i v s' Q' E' hP hQ=>?_,fun h' tk hk=>?_⟩
   ·subst ei;have hP':(bs.map uf)[i]? = some v:=by simpa using hP
    rw[bx]at hP'
    cases hi:bs[i]? with
    | none=>rw[hi]at hP';cases hP'
    | some b=>
      rw[hi]at hP';cases hP';simp only[hi,jU]at hQ;exact iN hQ
   ·have e1:its.toArray.size=bs.length:=by rw[ei];simp
    rw[e1,AG];exact⟨.bl _,H,I.kept (ED hk),rfl,k _ F H (Step.refl g) rfl bV⟩
 | _=>cases h1
end
section
variable{X:Cx}{C:Fs}{a b c e:aO}{xa xb xc:Ex}{pos:fS}{es:List aO}{xs:List Ex}{pins:List (ag×fe)}{σ:St}{F H:Hp}{s:ae}{tg iter:aO}
noncomputable def tyName:Ty->String
 | .int=>"int"
 | .bool=>"bool"
 | .str=>"str"
 | .tuple=>"tuple"
 | .list=>"list"
noncomputable def Sk:Dat->String
 | .non=>"NoneType"
 | .bl _=>"bool"
 | .int _=>"int"
 | .str _=>"str"
 | .tup _=>"tuple"
 | .lst _=>"list"
 | .dct _ _=>"dict"
 | .dcn _=>"dict"
theorem PH(K:Fg)(t:Ty)(d:Dat):PySem.W.kitOne K (.type (Sk d)) (.type (tyName t))=some (iq t d):=by
 cases t<;>cases d<;>rfl
def Vh(K:Fg)(t:Ty):List V->Hp->VK->Prop:=fun xs H Q=>∃da F v,xs=[v,.ty (tyName t)]/\Good F H/\Rep K F da v/\Q (.bl (iq t da)) H
theorem Ff{t:Ty}:og X (.builtin "isinstance") (Vh X.K t):=fun pins s σ H xs us Q I r h=>by
 obtain⟨da,F,v,rfl,g,rv,q⟩:=h;obtain⟨u,w,rfl,ru,rw'⟩:=vals2 r;obtain rfl:w=.type (tyName t):=rw';have e:=PH X.K t da;have fin:∀tk,EP X pins σ Q (.bool (iq t da)) { s with toks:=tk }:=fun tk=>⟨.bl _,H,I.tok tk,rfl,q⟩
 cases da with
 | non=>cases rv;obtain rfl:u=.none:=ru;exact fP PySem.W.kitx_none I.Bl j6 e (fun z=>nomatch z) fin
 | bl y=>cases rv;obtain rfl:u=.bool y:=ru;exact fP PySem.W.kitx_bool I.Bl j6 e (fun z=>nomatch z) fin
 | int y=>cases rv;obtain⟨t1,rfl⟩:=ru;exact fP PySem.W.kitx_int I.Bl j6 e (fun z=>nomatch z) fin
 | str y=>cases rv;obtain⟨t1,rfl⟩:=ru;exact fP PySem.W.kitx_str I.Bl j6 e (fun z=>nomatch z) fin
 | tup ds=>
   obtain⟨p,vs,rfl,t1,_⟩:=rv;obtain rfl:u=.ref p:=ru;obtain⟨its,_,⟨o,h1,h2,_⟩,_⟩:=I.tupR g t1;exact fP PySem.W.kitx_tuple I.Bl ⟨o,h1,h2⟩ e (fun z=>nomatch z) fin
 | lst ds=>
   obtain⟨p,vs,rfl,t1,_⟩:=rv;obtain rfl:u=.ref p:=ru;obtain⟨its,_,⟨o,n,h1,h2,_⟩,_⟩:=I.lstR g t1;exact fP PySem.W.kitx_list I.Bl ⟨o,h1,h2⟩ e (fun z=>nomatch z) fin
 | dct ks ds=>
   obtain⟨p,kvs,rfl,t1,_⟩:=rv;obtain rfl:u=.ref p:=ru;obtain⟨_,_,_,_,o,es,ep,h1,h2,_⟩:=I.hok p _ (g.sub _ _ t1);exact fP BX I.Bl ⟨o,h1,h2.1⟩ e (fun z=>nomatch z) fin
 | dcn ks=>
   obtain⟨p,xs,rfl,t1,_⟩:=rv;obtain rfl:u=.ref p:=ru;obtain⟨_,_,o,es,ep,h1,h2,_⟩:=I.hok p _ (g.sub _ _ t1);exact fP BX I.Bl ⟨o,h1,h2.1⟩ e (fun z=>nomatch z) fin
theorem OC{x:bh}{p p2:fS}(t:Ty)(hg:Gl X "isinstance")(hm:X.mg "isinstance"=none)(hg2:Gl X x)(hm2:X.mg x=none)(hv2:bootBuiltins x=some (.type (tyName t)))(ha:SE X C a xa)(hn:x≠"__name__":=by decide)(hdb:(x == ("__debug__":bh))=false:=by decide)
  (he:bp [a,.Name x p2] X.env=(false,eval a X.env)::bp [.Name x p2] X.env:=by rfl)(hpl:(backTo pos (bp [.Name x p2] X.env)).any (·.1)=false:=by rfl) :
  SE X C (.Call (.Name "isinstance" p) [a,.Name x p2] [] pos) (.blt (.isi t) [xa]):=
 PE.imp (yg Ff hg hm (by decide +kernel:bootBuiltins "isinstance"=some (.builtin "isinstance")) (rL ha (rL (Lf hg2 hm2 hv2 (v:=.ty (tyName t)) rfl hn hdb) AR) he) (by decide) (by decide) he hpl) fun σ H Q z3=>by
  obtain⟨ρ,d,fr,h,F,g,R,k⟩:=z3;obtain⟨ds,h1,h2⟩:=eD h;obtain⟨⟨da,fa⟩,h3,h1⟩:=eD h1;cases h1;cases h2;exact⟨ρ,da,fa,h3,F,g,R,fun v F1 H1 st r _=>⟨da,F1,v,rfl,st.good,r,k _ F1 H1 st rfl bV⟩⟩
end
section
variable{X:Cx}{C:Fs}{elt iter tg:aO}{it:Iw}{xe:Ex}{xs:List Ex}{ifs:List aO}{scope:fX}{pos:fS}{tn cn:List bh}{caps:List Nat}{g:TG}{one:Bool}
theorem KH(hcalm:X.calm=true)(S:jb X scope tn cn caps)(hi:SI X C tg iter it)(touch:oS tn.length g)(tgc:QX X.K tn.length one g)
  (hg:∀(cl:List (bh×ag)) (s₂:ae) (H₂:Hp) (Ca:ag) (ex:List ag),PG (eT X scope cl (tn++cn) s₂ H₂ Ca ex) tg g)
  (ht:∀(cl:List (bh×ag)) (s₂:ae) (H₂:Hp) (Ca:ag) (ex:List ag),JI (eT X scope cl (tn++cn) s₂ H₂ Ca ex) ifs (Ri X.K C xs))
  (he:∀(cl:List (bh×ag)) (s₂:ae) (H₂:Hp) (Ca:ag) (ex:List ag),SE (eT X scope cl (tn++cn) s₂ H₂ Ca ex) C elt xe)
  (hs:∀x,foldedSetIterable iter X.env x=pure x:=by intro _;rfl):SE X C (.ListComp elt [⟨tg,iter,ifs,0⟩] scope pos) (.comp tn.length one caps it xs xe):=
 PE.imp (Lc hcalm S hi hg touch ht he hs) (vz tgc fun _ _ _=>trivial)
theorem Au{i:Nat}{x:bh}{pos' spos:fS}(hN:X.N.Nodup)(hi':X.N[i]? = some x)(hx:Loc X.env.scope x)(hcalm:X.calm=true)(S:jb X scope tn cn caps)(hi:SI X C tg iter it)(touch:oS tn.length g)(tgc:QX X.K tn.length one g)
  (hg:∀(cl:List (bh×ag)) (s₂:ae) (H₂:Hp) (Ca:ag) (ex:List ag),PG (eT X scope cl (tn++cn) s₂ H₂ Ca ex) tg g)
  (ht:∀(cl:List (bh×ag)) (s₂:ae) (H₂:Hp) (Ca:ag) (ex:List ag),JI (eT X scope cl (tn++cn) s₂ H₂ Ca ex) ifs (Ri X.K C xs))
  (he:∀(cl:List (bh×ag)) (s₂:ae) (H₂:Hp) (Ca:ag) (ex:List ag),SE (eT X scope cl (tn++cn) s₂ H₂ Ca ex) C elt xe)
  (hsw:swapsWith (.ListComp elt [⟨tg,iter,ifs,0⟩] scope pos) (some (.Name x pos')) spos.line X.env=pure true:=by rfl)
  (hs:∀x,foldedSetIterable iter X.env x=pure x:=by intro _;rfl)(hf:X.fn x=true\/X.env.scope.names.lookup x=some .local:=by first|exact .inl rfl|exact .inr rfl|assumption) :
  SS X C (.Assign [.Name x pos'] (.ListComp elt [⟨tg,iter,ifs,0⟩] scope pos) spos) (.set i (.comp tn.length one caps it xs xe)):=
 PS.imp (AI hN hi' hx hcalm S hi hg touch ht he hsw hs hf) (xP (vz tgc fun _ _ _=>trivial))
end
def QW(K:Fg)(one:Bool)(ts:List Nat)(g:TG):Prop:=∀Fz H₀ F H σ ρ d x ρ1 Q,Rl K Fz H₀ F H σ ρ->Rep K F d x->eU one ts d ρ=some ρ1->(∀σ1,Rl K Fz H₀ F H σ1 ρ1->Q σ1 H)->g x σ H Q
theorem J9{K:Fg}{i:Nat}:QW K true [i] (ku i):=fun Fz H₀ F H σ ρ d x ρ1 Q R r hb k=>by
 simp only[eU,iX]at hb;subst hb;exact k _ (R.AB r)
noncomputable def UD:List Nat->Fl
 | []=>EN
 | i::is=>vt (ku i) (UD is)
theorem Il{K:Fg}{Fz H₀ F H:Hp}{Q:St->Hp->Prop}:∀(ts:List Nat) {σ:St} {ρ:dk},Rl K Fz H₀ F H σ ρ->∀ds:List Dat,ds.length=ts.length->(∀σ1,Rl K Fz H₀ F H σ1 (oo ts ds ρ)->Q σ1 H)->∀vs,cR K F ds vs->UD ts vs σ H Q
 | [],σ,ρ,R,ds,hz,k,vs,r=>by
   cases ds with
   | nil=>exact⟨r,k _ R⟩
   | cons _ _=>cases hz
 | i::is,σ,ρ,R,ds,hz,k,vs,r=>by
   cases ds with
   | nil=>cases hz
   | cons d ds=>
     obtain⟨v,w,e,r1,r2⟩:=r;subst e;exact⟨v,w,rfl,Il is (R.AB r1) ds (by simpa using hz) k w r2⟩
theorem Gj{K:Fg}{ts:List Nat}:QW K false ts (Ik K ts.length (UD ts)):=fun Fz H₀ F H σ ρ d x ρ1 Q R r hb k=>by
 simp only[eU]at hb
 cases d with
 | tup ds=>
   dsimp only at hb;split at hb
   ·rename_i hz;cases hb;obtain⟨a,vs,rfl,t,r⟩:=r;refine⟨a,vs,rfl,(t.mono R.step.good.sub).sq,by rw[r.length];exact hz,?_⟩;exact Il ts R ds hz k vs r
   ·cases hb
 | _=>cases hb
section
variable{X:Cx}{C:Fs}{iter tg e:aO}{it:Iw}{xe:Ex}{body:List jl}{xs:List Sx}{pos:fS}{g:TG}{one:Bool}{ts:List Nat}
theorem ID{K:Fg}{Fz H₀ F H:Hp}{σ:St}{ρ ρ':dk}{items:List Dat}{es:List Ex}(R:Rl K Fz H₀ F H σ ρ)(h:Qk C (.rng es) ρ=some (items,ρ')){Q:It->Hp->Prop}
  (k:∀J F1 H1,cu F F1->Rl K Fz H₀ F1 H1 σ ρ'->lj K (tJ (.rng es) F1) J items->Q J H1):gI K C (.rng es) σ H Q:=by
 simp only[Qk]at h;obtain⟨ds,h1,h⟩:=fM h;cases h;obtain⟨Fp,sp,Rp⟩:=R.mF;refine⟨_,_,Fp,h1,Rp.step.good,Rp.full,fun J F1 H1 st ok=>?_⟩;have stS:=Step.shrink R.step.good sp st;exact k J _ H1 stS.ff (R.moved stS) ok
theorem zf{K:Fg}{Fz H₀ F H:Hp}{σ:St}{ρ ρ':dk}{items:List Dat}{is:List Nat}(R:Rl K Fz H₀ F H σ ρ)(h:(Bw C it (xq (lL is ρ))).map (fun ds=>(ds,lL is ρ))=some (items,ρ')){Q:It->Hp->Prop}
  (k:∀J F1 H1,cu F F1->Rl K Fz H₀ F1 H1 σ ρ'->lj K (tJ it F1) J items->Q J H1):gI K C it σ H Q:=by
 obtain⟨ds,h1,h⟩:=fM h;cases h;obtain⟨F2,s2,R2⟩:=R.freeze is;exact⟨_,_,F2,h1,R2.step.good,R2.xq,fun J F1 H1 st ok=>k J F1 H1 (s2.trans st.ff) (R2.moved st) ok⟩
theorem p7{K:Fg}{Fz H₀ F F0 F1 H1:Hp}{σ:St}{ρ':dk}{items:List Dat}{out:Out}{D:Ends}{J:It}(tgs:QW K one ts g)(s1:cu F F1)(R1:Rl K Fz H₀ F1 H1 σ ρ')(le:∀F2,cu F1 F2->cu F0 F2)(ok:lj K F0 J items)
  (h:eJ (eU one ts) (cY C xs) items ρ'=some out)(k:tG K Fz H₀ F D out):∃W:Nat->Nat->St->Hp->Prop,(∃m,W 0 m σ H1)/\∀i m σ H,W i m σ H->
   (J.stop i H/\D.nx σ H)\/(J.go i H/\∃N:St->Hp->Prop,(∀σ' H',N σ' H'->∃m',m'<m/\W (i+1) m' σ' H')/\∀x H',J.yld i H x H'->g x σ H' fun σ2 H2=>Wu K C xs { D with nx:=N,ct:=N,bk:=D.nx } σ2 H2):=by
 refine⟨fun i m σ H=>∃F ρ,Rl K Fz H₀ F H σ ρ/\cu F1 F/\eJ (eU one ts) (cY C xs) (items.drop i) ρ=some out/\m=items.length - i/\i<=items.length,⟨items.length,F1,ρ',R1,cu.refl _,h,rfl,dJ _⟩,?_⟩;rintro i m σ2 H2 ⟨F2,ρ2,R2,s2,hl,rfl,hi'⟩;obtain⟨okg,Sd⟩:=ok F2 H2 R2.step.good (le F2 s2);by_cases hlt:i<items.length
 ·obtain⟨go,yl⟩:=okg i items[i] (af hlt);refine .inr ⟨go,fun σ' H'=>∃m',m'<items.length - i/\∃F ρ,Rl K Fz H₀ F H' σ' ρ/\cu F1 F/\eJ (eU one ts) (cY C xs) (items.drop (i+1)) ρ=some out/\m'=items.length - (i+1)/\i+1<=items.length,fun σ' H' z=>z,fun x H3 y3=>?_⟩;obtain⟨F3,qu,r3⟩:=yl x H3 y3;rw[mj hlt]at hl;simp only[eJ]at hl;obtain⟨ρ3,hb3,hl⟩:=eD hl;obtain⟨o,ho,hl⟩:=eD hl;refine tgs Fz H₀ F3 H3 σ2 ρ2 _ x ρ3 _ (R2.moved qu) r3 hb3 fun σ4 R4=>?_;have sAll:cu F1 F3:=s2.trans qu.ff;refine⟨Fz,H₀,F3,ρ3,o,ho,R4,?_⟩
  cases o with
  | nx ρ5=>exact fun F5 H5 σ5 s5 R5=>⟨items.length - (i+1),by omega,F5,ρ5,R5,sAll.trans s5,hl,rfl,hlt⟩
  | ct ρ5=>exact fun F5 H5 σ5 s5 R5=>⟨items.length - (i+1),by omega,F5,ρ5,R5,sAll.trans s5,hl,rfl,hlt⟩
  | bk ρ5=>
    cases hl;exact fun F5 H5 σ5 s5 R5=>k F5 H5 σ5 ((s1.trans sAll).trans s5) R5
  | rt d fr=>
    cases hl;exact k
 ·have e:i=items.length:=by omega
  subst e;rw[JA]at hl;simp only[eJ]at hl;cases hl;exact .inl ⟨Sd _ (aK _),k F2 H2 σ2 (s1.trans s2) R2⟩
theorem Av(hp:Ft (aI X.prog X.w) X.A X.env X.xe)(hc:X.calm=true)(hi:SI X C tg iter it)(hni:∀a,it≠.itv a)(hg:PG X tg g)(tgs:QW X.K one ts g)(hb:MS X C body xs)
  (hs:∀x,foldedSetIterable iter X.env x=pure x:=by intro _;rfl):SS X C (.For tg iter body [] pos) (.loop one ts it xs):=
 PS.imp (G6 hp hc hi hg hb hs) fun D σ H z3=>by
  obtain⟨Fz,H₀,F,ρ,out,h,R,k⟩:=z3;obtain⟨⟨items,ρ'⟩,h1,h⟩:=eD h;have fin:∀J F1 H1,cu F F1->Rl X.K Fz H₀ F1 H1 σ ρ'->lj X.K (tJ it F1) J items->_:=fun J F1 H1 s1 R1 ok=>p7 (D:=D) tgs s1 R1 (fun F2 s=>yV s) ok h k
  cases it with
  | itv a=>exact absurd rfl (hni a)
  | rng es=>exact ID R h1 fin
  | zip es=>exact zf R h1 fin
  | enu a=>exact zf R h1 fin
theorem Kk{xe:Ex}(hp:Ft (aI X.prog X.w) X.A X.env X.xe)(hc:X.calm=true)(he:SE X C iter xe)(hg:PG X tg g)(tgs:QW X.K one ts g)(hb:MS X C body xs)
  (hs:∀x,foldedSetIterable iter X.env x=pure x:=by intro _;rfl):SS X C (.For tg iter body [] pos) (.loop one ts (.itv xe) xs):=
 PS.imp (G6 hp hc (PI.or (PI.or (Cw he) (Hb he)) (Hc he)) hg hb hs) fun D σ H z3=>by
  obtain⟨Fz,H₀,F,ρ,out,h,R,k⟩:=z3;obtain⟨⟨items,ρ'⟩,h1,h⟩:=eD h;obtain⟨⟨d,fr,ρ1⟩,h2,h3⟩:=eD h1;obtain⟨ds,h4,h5⟩:=fM h3;cases h5
  cases d with
  | lst es=>
    cases h4;refine .inl (.inl (wK R h2 fun v Fm F' H' sm Rm st r f=>?_));obtain⟨p,vs,rfl,t,rr⟩:=r;exact⟨p,rfl,⟨vs,st.good.sub.seq t⟩,p7 (D:=D) tgs (sm.trans st.ff) (Rm.moved st) (fun F2 s=>s) (vo t rr) h k⟩
  | tup es=>
    cases h4;refine .inl (.inr (wK R h2 fun v Fm F' H' sm Rm st r f=>?_));obtain⟨p,vs,rfl,t,rr⟩:=r;exact⟨p,rfl,⟨vs,(t.mono st.good.sub).sq⟩,p7 (D:=D) tgs (sm.trans st.ff) (Rm.moved st) (fun F2 s=>s) (yH t rr) h k⟩
  | str x=>
    cases h4;refine .inr (wK R h2 fun v Fm F' H' sm Rm st r f=>?_);cases r;exact⟨x,rfl,p7 (D:=D) tgs (sm.trans st.ff) (Rm.moved st) (fun F2 s=>s) yI h k⟩
  | _=>cases h4
theorem Oe{tgt:aO}{tg':TG}(he:SE X C e xe)(tgs:QW X.K false ts tg')(hg:PG X tgt tg')
  (hs:swapsWithSole [tgt] e pos.line X.env=pure false:=by rfl)(hw:swappedStores [tgt] e X.env=pure none:=by rfl)(h1:(assignEach [tgt] X.env).map (·.2)=[assign tgt X.env]:=by rfl):SS X C (.Assign [tgt] e pos) (.DX ts xe):=
 PS.imp (G7 he hg hs hw h1) fun D σ H z3=>by
  obtain⟨Fz,H₀,F,ρ,out,h,R,k⟩:=z3;obtain⟨⟨d,fr,ρ'⟩,h1,h⟩:=eD h
  cases d with
  | tup ds=>
    have h:(if ds.length=ts.length then some (Out.nx (oo ts ds ρ'))else none)=some out:=h;split at h
    ·rename_i hz;cases h;refine wK R h1 fun v Fm F' H' sm Rm st r f=>?_;refine tgs Fz H₀ F' H' σ ρ' (.tup ds) v (oo ts ds ρ') _ (Rm.moved st) r ?_ fun σ1 R1=>k F' H' σ1 (sm.trans st.ff) R1;simp only[eU];rw[if_pos hz]
    ·cases h
  | _=>cases h
end
section
variable{P:aS}{w:bA}{K:Fg}{mg:bh->Option ab}{base:bP}
theorem Qd{x qual:bh}{st:jl}{f:ag}{fd:fj}{N ps:List bh}{k:Nat}{C:Fs}{body:List Sx}(F:TV K x qual st f fd)(S:qk N ps (dn st))(hNp:ps.length<=N.length)
  (hbody:∀(cdv:ab) (A:bC) (outer:List uq) (s:ae) (H:Hp) (E:XK),mI k (A.deeper (envOfC qual (dn st) s.heap.objs.size f cdv))->
   MS (zj DH P w K mg base N qual (dn st) f cdv A outer s H E).Rb C (fZ st) body):m8 P w K mg base DH (k+1) f fd ps (Ng K ps.length (FE C ps.length N.length body)):=by
 refine F.ok S (fun vs H Q E h=>h.1) fun cdv A outer s H vs Q E hr h=>⟨_,hbody cdv A outer s H E hr,?_⟩
 obtain⟨hl,ds,d,fr,he,Fz,g,r,kq⟩:=h;unfold FE at he;split at he
 ·rename_i hn;obtain⟨o,ho,he⟩:=eD he;refine⟨Fz,H,Fz,_,o,ho,⟨Step.refl g,?_,fun i d' q=>?_,fun _=>[],fun i d' q=>?_,fun i j d1 d2 hij q1 q2=>?_⟩,?_⟩
  ·unfold L2.start;simp[hl,hn]
  ·have hi:i<ds.length:=by
    by_cases hi:i<ds.length
    ·exact hi
    ·rw[aR (by simpa using hi),et]at q;split at q<;>cases q
   rw[bf (by simpa using hi),bx]at q;obtain⟨d2,e1,e2⟩:=fM q;cases e2;obtain⟨v,e3,e4⟩:=r.get e1;refine⟨v,?_,e4⟩;unfold L2.start;rw[bf (by simp;omega),bx,e3];rfl
  ·exfalso;by_cases hi:i<ds.length
   ·rw[bf (by simpa using hi),bx]at q;obtain⟨d2,e1,e2⟩:=fM q;cases e2
   ·rw[aR (by simpa using hi),et]at q;split at q<;>cases q
  ·exfalso;by_cases hi:i<ds.length
   ·rw[bf (by simpa using hi),bx]at q1;obtain⟨d2,e1,e2⟩:=fM q1;cases e2
   ·rw[aR (by simpa using hi),et]at q1;split at q1<;>cases q1
  ·cases o with
   | nx ρ'=>
     cases he;exact fun F' H' σ' s' R=>kq _ F' H' R.step rfl bV
   | rt d' fr'=>
     cases he;exact kq
   | bk _=>cases he
   | ct _=>cases he
 ·cases he
end
theorem dH.take{K:Fg}{H:Hp}:∀(n:Nat) {ds:List Dat} {vs:List V} {S:List ag},dH K H ds vs S->∃S1 S2,dH K H (ds.take n) (vs.take n) S1/\dH K H (ds.drop n) (vs.drop n) S2/\S=S1++S2
 | 0,ds,vs,S,h=>⟨[],S,⟨rfl,rfl⟩,h,rfl⟩
 | n+1,[],vs,S,h=>by
   obtain⟨rfl,rfl⟩:=h;exact⟨[],[],⟨rfl,rfl⟩,⟨rfl,rfl⟩,rfl⟩
 | n+1,d::ds,vs,S,z4=>by
   obtain⟨v,r,S1,S2,e,h1,h2,q⟩:=z4;subst e q;obtain⟨T1,T2,g1,g2,g3⟩:=dH.take n h2;exact⟨S1++T1,T2,⟨v,r.take n,S1,T1,rfl,h1,g1,rfl⟩,g2,by rw[g3,aC]⟩
theorem dH.setAt{K:Fg}{H:Hp}{d':Dat}{v':V}{T:List ag}(h':oE K H d' v' T):∀(n:Nat) {ds:List Dat} {vs:List V} {S:List ag},n<ds.length->dH K H ds vs S->∃S1 S2 S3,dH K H (ds.set n d') (vs.set n v') (S1++T++S3)/\S=S1++S2++S3
 | n,[],vs,S,hn,h=>absurd hn (by simp)
 | 0,d::ds,vs,S,_,z5=>by
   obtain⟨v,r,S1,S2,e,h1,h2,q⟩:=z5;subst e q;exact⟨[],S1,S2,⟨v',r,T,S2,rfl,h',h2,by simp⟩,by simp⟩
 | n+1,d::ds,vs,S,hn,z5=>by
   obtain⟨v,r,S1,S2,e,h1,h2,q⟩:=z5;subst e q;obtain⟨T1,T2,T3,g1,g2⟩:=dH.setAt h' n (by simpa using hn) h2;refine⟨S1++T1,T2,T3,⟨v,r.set n v',S1,T1++T++T3,rfl,h1,g1,by simp⟩,by rw[g2];simp⟩
section
variable{K:Fg}{Fz H₀ F H F' H':Hp}{σ:St}{ρ:dk}
theorem Rl.mut{i:Nat}{d d':Dat}{v:V}{S':List ag}{l:ag}{o':HO}{Ss:Nat->List ag}(R:Rl K Fz H₀ F H σ ρ)(O:Ow K H₀ F H σ ρ Ss)(hi:ρ[i]? = some (some (d,true)))(hσ:σ[i]? = some (some v))
  (hl:l∈Ss i)(mu:MV o')(o:oE K (upd H l o') d' v S')(nd:S'.Nodup)(hS:∀a∈S',a∈Ss i\/(F a=none/\H₀ a=none/\∀(j:Nat) d2,ρ[j]? = some (some (d2,true))->a∉Ss j)) :
  Rl K Fz H₀ F (upd H l o') σ (ρ.set i (some (d',true))):=by
 obtain⟨w,e1,e2,e3,e4⟩:=O.own i d hi;have hF:F l=none:=(e4 l hl).1;have h0:H₀ l=none:=(e4 l hl).2;obtain⟨ol,hol,mul⟩:=e2.xu _ l hl;have nt:∀vs,H l≠some (.tup vs):=fun vs z=>by rw[hol]at z;cases z;exact mul
 refine⟨⟨⟨fun a u q=>?_,fun a us q=>?_⟩,R.step.ff,fun a u q=>?_,R.step.un⟩,by simpa using R.len,fun j d2 q=>?_,fun j=>if j=i then S' else Ss j,fun j d2 q=>?_,fun j k d1 d2 hjk q1 q2=>?_⟩
 ·rw[cm (eF q hF)];exact R.step.good.sub a u q
 ·by_cases ha:a=l
  ·subst ha;rw[cJ]at q;cases q;exact mu.elim
  ·rw[cm ha]at q;exact R.step.good.tup a us q
 ·rw[cm (eF q h0)];exact R.step.hh a u q
 ·rcases hE q with⟨rfl,e⟩|⟨hne,q'⟩
  ·cases e
  ·exact R.val j d2 q'
 ·rcases hE q with⟨rfl,e⟩|⟨hne,q'⟩
  ·cases e;rw[if_pos rfl];refine⟨v,hσ,o,nd,fun a m=>?_⟩
   rcases hS a m with m|m
   ·exact e4 a m
   ·exact⟨m.1,m.2.1⟩
  ·rw[if_neg (fD hne)];obtain⟨w,g1,g2,g3,g4⟩:=O.own j d2 q';exact⟨w,g1,g2.upd nt d2 (O.sep i j d d2 hne hi q' l hl),g3,g4⟩
 ·intro a m
  rcases hE q1 with⟨rfl,e⟩|⟨h1,q1'⟩
  ·rw[if_pos rfl]at m
   rcases hE q2 with⟨e2,_⟩|⟨h2,q2'⟩
   ·exact absurd e2 hjk
   ·rw[if_neg (fD h2)]
    rcases hS a m with m|m
    ·exact O.sep _ k d d2 h2 hi q2' a m
    ·exact m.2.2 k d2 q2'
  ·rw[if_neg (fD h1)]at m
   rcases hE q2 with⟨rfl,e⟩|⟨h2,q2'⟩
   ·rw[if_pos rfl];intro m2
    rcases hS a m2 with m2|m2
    ·exact O.sep _ j d d1 h1 hi q1' a m2 m
    ·exact m2.2.2 j d1 q1' m
   ·rw[if_neg (fD h2)];exact O.sep j k d1 d2 hjk q1' q2' a m
theorem Step.Ru{S:List ag}{ds:List Dat}{vs:List V}(st:Step F H F' H')(g:Good F H)(hS:∀a∈S,H a=none)(o:dH K H' ds vs S):Step F H (uz F' S) H':=by
 refine⟨⟨fun a o' q=>?_,fun a vs q=>?_⟩,fun a o' q=>?_,st.hh,fun a o' q n=>?_⟩
 ·by_cases m:a∈S
  ·rw[uX m]at q;cases q
  ·rw[nV m]at q;exact st.good.sub a o' q
 ·rw[nV fun m=>?_]
  ·exact st.good.tup a vs q
  ·obtain⟨u,hu,mu⟩:=o.xu _ a m;rw[q]at hu;cases hu;exact mu
 ·rw[nV fun m=>?_]
  ·exact st.ff a o' q
  ·rw[g.sub.free (hS a m)]at q;cases q
 ·by_cases m:a∈S
  ·exact uX m
  ·rw[nV m];exact st.un a o' q n
theorem Dk{C:Fs}{es:List Ex}{ds:List Dat}(R:Rl K Fz H₀ F H σ ρ)(h:oD C es (M.full ρ)=some (ds,true)){Q:List V->Hp->Prop}
  (k:∀vs F' H' S,Step F H F' H'->dH K H' ds vs S->S.Nodup->(∀a∈S,H a=none/\F' a=none)->Q vs H'):gF K C es σ H Q:=by
 obtain⟨Fp,sp,Rp⟩:=R.mF;refine⟨_,ds,true,h,Fp,Rp.step.good,Rp.full,fun vs F1 H1 st r f=>?_⟩;obtain⟨S,n,e1,o⟩:=f rfl;have stS:=Step.shrink R.step.good sp st;exact k vs _ H1 S (Step.Ru stS R.step.good e1 o) o n fun a m=>⟨e1 a m,uX m⟩
end
noncomputable def AW:HO->List V->Option HO
 | .lst xs,[y]=>if xs.length<aP then some (.lst (xs++[y]))else none
 | _,_=>none
noncomputable def AV:HO->List V->Option HO
 | .lst xs,l=>match l with
   | [.int i,y]=>if xs.length<aP/\-1000000<=i/\i<=1000000 then some (.lst (insI y i xs))else none
   | _=>none
 | _,_=>none
noncomputable def AU:HO->List V->Option HO
 | .lst xs,l=>match l with
   | [y,.int i]=>if -1000000<=i/\i<=1000000 then(GD y i xs).map .lst else none
   | _=>none
 | _,_=>none
noncomputable def Hq:FH->HO->List V->Option HO
 | .app,a,l=>AW a l
 | .ins,a,l=>AV a l
 | .seti,a,l=>AU a l
 | _,_,_=>none
theorem qE{S T:List ag}(nd:(S++T).Nodup):S.Nodup/\T.Nodup/\∀a∈S,a∉T:=by
 obtain⟨h1,h2,h3⟩:=cV.mp nd;exact⟨h1,h2,fun a m n=>h3 a m a n rfl⟩
theorem mE{S T:List ag}(h1:S.Nodup)(h2:T.Nodup)(h3:∀a∈S,a∉T):(S++T).Nodup:=cV.mpr ⟨h1,h2,fun a m b n z=>h3 a m (z▸n)⟩
def DD(K:Fg)(H:Hp)(op:FH)(d':Dat)(v:V)(vs:List V)(S T:List ag):Prop:=
 ∃l ob ob' S',v=.ref l/\l∈S/\H l=some ob/\Hq op ob vs=some ob'/\MV ob'/\oE K (upd H l ob') d' v S'/\S'.Nodup/\∀a∈S',a∈S\/a∈T
section
variable{K:Fg}{H:Hp}{es:List Dat}{l:ag}{xs:List V}{S' T:List ag}
theorem Lz{d1:Dat}{y:V}(hl:H l=some (.lst xs))(os:dH K H es xs S')(nd:(l::S').Nodup)(a1:oE K H d1 y T)(nt:T.Nodup)(dj:∀a∈l::S',a∉T)(hz:es.length<aP):DD K H .app (.lst (es++[d1])) (.ref l) [y] (l::S') T:=by
 have hn:=bX.mp nd;have nt':∀vs,H l≠some (.tup vs):=fun vs z=>by rw[hl]at z;cases z
 have hlT:l∉T:=dj l ja;have elen:=os.length;refine⟨l,_,.lst (xs++[y]),l::(S'++T),rfl,ja,hl,by simp only[Hq,AW,AV,AU];rw[if_pos (by rw[elen];exact hz)],trivial,⟨l,xs++[y],S'++T,rfl,cJ,(os.upd nt' _ hn.1).append (.one (a1.upd nt' _ hlT)),rfl⟩,?_,fun b m=>?_⟩
 ·refine bX.mpr ⟨fun m=>?_,mE hn.2 nt fun b m=>dj b (jt _ m)⟩
  rcases aD.mp m with m|m
  ·exact hn.1 m
  ·exact hlT m
 ·rcases ao.mp m with rfl|m
  ·exact .inl ja
  ·rcases aD.mp m with m|m
   ·exact .inl (jt _ m)
   ·exact .inr m
theorem Ly{d1:Dat}{y:V}{i:Int}(hl:H l=some (.lst xs))(os:dH K H es xs S')(nd:(l::S').Nodup)(a1:oE K H d1 y T)(nt:T.Nodup)(dj:∀a∈l::S',a∉T)(hz:es.length<aP/\-1000000<=i/\i<=1000000):DD K H .ins (.lst (insI d1 i es)) (.ref l) [.int i,y] (l::S') T:=by
 have hn:=bX.mp nd;have nt':∀vs,H l≠some (.tup vs):=fun vs z=>by rw[hl]at z;cases z
 have hlT:l∉T:=dj l ja;have elen:=os.length;obtain⟨S1,S2,g1,g2,g3⟩:=os.take (HT.gG es.length 0 (some i));subst g3;have eix:HT.gG xs.length 0 (some i)=HT.gG es.length 0 (some i):=by rw[elen]
 have nd2:=qE hn.2;refine⟨l,_,.lst (insI y i xs),l::(S1++(T++S2)),rfl,ja,hl,by simp only[Hq,AW,AV,AU];rw[if_pos (by rw[elen];exact hz)],trivial,⟨l,insI y i xs,S1++(T++S2),rfl,cJ,?_,rfl⟩,?_,fun b m=>?_⟩
 ·have p2:=g2.upd (o:=.lst (insI y i xs)) nt' _ (fun m=>hn.1 (aA _ m));have pa:=(dH.one (a1.upd (o:=.lst (insI y i xs)) nt' _ hlT)).append p2;have p1:=(g1.upd (o:=.lst (insI y i xs)) nt' _ (fun m=>hn.1 (aY _ m))).append pa;have e1:insI d1 i es=es.take (HT.gG es.length 0 (some i))++([d1]++es.drop (HT.gG es.length 0 (some i))):=rfl;have e2:insI y i xs=xs.take (HT.gG es.length 0 (some i))++([y]++xs.drop (HT.gG es.length 0 (some i))):=by unfold insI;rw[eix];rfl
  rw[e1];generalize hH:L2.upd H l (.lst (insI y i xs))=H2 at p1 ⊢;rw[e2];exact p1
 ·refine bX.mpr ⟨fun m=>?_,mE nd2.1 (mE nt nd2.2.1 fun b m m2=>dj b (jt _ (aA _ m2)) m) fun b m m2=>?_⟩
  ·rcases aD.mp m with m|m
   ·exact hn.1 (aY _ m)
   ·rcases aD.mp m with m|m
    ·exact hlT m
    ·exact hn.1 (aA _ m)
  ·rcases aD.mp m2 with m2|m2
   ·exact dj b (jt _ (aY _ m)) m2
   ·exact nd2.2.2 b m m2
 ·rcases ao.mp m with rfl|m
  ·exact .inl ja
  ·rcases aD.mp m with m|m
   ·exact .inl (jt _ (aY _ m))
   ·rcases aD.mp m with m|m
    ·exact .inr m
    ·exact .inl (jt _ (aA _ m))
theorem PX{i:Int}{n k:Nat}(h:JD n i=some k):k<n:=(wA h).2.1
theorem Lw{d1:Dat}{y:V}{i:Int}{k:Nat}(hl:H l=some (.lst xs))(os:dH K H es xs S')(nd:(l::S').Nodup)(a1:oE K H d1 y T)(nt:T.Nodup)(dj:∀a∈l::S',a∉T)(hz:-1000000<=i/\i<=1000000)(h2:JD es.length i=some k):DD K H .seti (.lst (es.set k d1)) (.ref l) [y,.int i] (l::S') T:=by
 have hn:=bX.mp nd;have nt':∀vs,H l≠some (.tup vs):=fun vs z=>by rw[hl]at z;cases z
 have hlT:l∉T:=dj l ja;have elen:=os.length;obtain⟨S1,S2,S3,g1,g2⟩:=os.setAt a1 k (PX h2);subst g2;have n1:=qE hn.2;have n2:=qE n1.1
 have hlN:l∉S1++T++S3:=fun m=>by
  rcases aD.mp m with m|m
  ·rcases aD.mp m with m|m
   ·exact hn.1 (aY _ (aY _ m))
   ·exact hlT m
  ·exact hn.1 (aA _ m)
 refine⟨l,_,.lst (xs.set k y),l::(S1++T++S3),rfl,ja,hl,?_,trivial,⟨l,xs.set k y,S1++T++S3,rfl,cJ,g1.upd nt' _ hlN,rfl⟩,?_,fun b m=>?_⟩
 ·simp only[Hq,AW,AV,AU];rw[if_pos hz];unfold GD;rw[elen,h2];rfl
 ·refine bX.mpr ⟨hlN,mE (mE n2.1 nt fun b m=>dj b (jt _ (aY _ (aY _ m)))) n1.2.1 fun b m m2=>?_⟩
  rcases aD.mp m with m|m
  ·exact n1.2.2 b (aY _ m) m2
  ·exact dj b (jt _ (aA _ m2)) m
 ·rcases ao.mp m with rfl|m
  ·exact .inl ja
  ·rcases aD.mp m with m|m
   ·rcases aD.mp m with m|m
    ·exact .inl (jt _ (aY _ (aY _ m)))
    ·exact .inr m
   ·exact .inl (jt _ (aA _ m))
end
theorem Lx{K:Fg}{H:Hp}{op:FH}{d d':Dat}{ds:List Dat}{v:V}{vs:List V}{S T:List ag}(h1:op≠.ext)(h2:op≠.dput)(h:ip op d ds=some d')(o:oE K H d v S)(nd:S.Nodup)(a:dH K H ds vs T)(nt:T.Nodup)(dj:∀a∈S,a∉T):DD K H op d' v vs S T:=by
 have hd:∃es,d=.lst es:=by
  cases d with
  | lst es=>exact⟨es,rfl⟩
  | _=>cases op<;>first|exact absurd rfl h1|cases h
 obtain⟨es,rfl⟩:=hd;obtain⟨l,xs,S',rfl,hl,os,rfl⟩:=o
 cases op with
 | ext=>exact absurd rfl h1
 | dput=>exact absurd rfl h2
 | app=>
   cases ds with
   | nil=>cases h
   | cons d1 ds=>
     cases ds with
     | cons _ _=>cases h
     | nil=>
       obtain⟨y,r,T1,T2,e,a1,a2,q⟩:=a;obtain⟨rfl,rfl⟩:=a2;rw[aL]at q;subst e q;simp only[ip,Al,Ak,Aj,Ai]at h;split at h
       ·rename_i hz;cases h;exact Lz hl os nd a1 nt dj hz
       ·cases h
 | ins=>
   cases ds with
   | nil=>cases h
   | cons d0 ds=>
     cases ds with
     | nil=>cases d0<;>cases h
     | cons d1 ds=>
       cases ds with
       | cons _ _=>cases d0<;>cases h
       | nil=>
         cases d0 with
         | int i=>
           obtain⟨y0,r0,T0,T0',e0,a0,a3,q0⟩:=a;obtain⟨y,r,T1,T2,e,a1,a2,q⟩:=a3;obtain⟨rfl,rfl⟩:=a2;obtain⟨rfl,rfl⟩:=a0;rw[aL]at q;subst e e0 q;rw[dW]at q0;subst q0;simp only[ip,Al,Ak,Aj,Ai]at h;split at h
           ·rename_i hz;cases h;exact Ly hl os nd a1 nt dj hz
           ·cases h
         | _=>cases h
 | pop=>cases h
 | clr=>cases h
 | seti=>
   cases ds with
   | nil=>cases h
   | cons d1 ds=>
     cases ds with
     | nil=>cases h
     | cons d0 ds=>
       cases ds with
       | cons _ _=>cases d0<;>cases h
       | nil=>
         cases d0 with
         | int i=>
           obtain⟨y,r,T1,T2,e,a1,a3,q⟩:=a;obtain⟨y0,r0,T0,T0',e0,a0,a2,q0⟩:=a3;obtain⟨rfl,rfl⟩:=a2;obtain⟨rfl,rfl⟩:=a0;rw[aL]at q0;subst e e0 q0;rw[aL]at q;subst q;simp only[ip,Al,Ak,Aj,Ai]at h;split at h
           ·rename_i hz;obtain⟨es',g1,h⟩:=fM h;cases h;unfold GD at g1;obtain⟨k,g2,g1⟩:=fM g1;subst g1;exact Lw hl os nd a1 nt dj hz g2
           ·cases h
         | _=>cases h
section
variable{X:Cx}{C:Fs}{K:Fg}
theorem P8{xa xb:Ex}{σ:St}{H:Hp}{Q:List V->Hp->Prop}(h:gF K C [xa,xb] σ H Q):gE K C xa σ H fun x H1=>gE K C xb σ H1 fun y H2=>Q [x,y] H2:=by
 obtain⟨ρ,ds,al,h,F,g,R,k⟩:=h;simp only[oD]at h;obtain⟨⟨d,fr⟩,h1,h⟩:=eD h;obtain⟨⟨r,ar⟩,h2,h⟩:=fM h;cases h;obtain⟨⟨d2,fr2⟩,h3,h4⟩:=eD h2;cases h4;refine⟨ρ,d,fr,h1,F,g,R,fun v F1 H1 eZ r1 f1=>⟨ρ,d2,fr2,h3,F1,eZ.good,R.mono eZ.ff,fun w F2 H2 iB r2 f2=>k [v,w] F2 H2 (eZ.trans iB) ⟨v,[w],rfl,r1.mono iB.ff,w,[],rfl,r2,rfl⟩ fun z=>?_⟩⟩;simp only[eV,kG,aF]at z;refine fm.cons eZ.hh iB.hh ?_ (fm.cons (H1:=H2) iB.hh (cu.refl _) ?_ .nil)
 ·rcases z.1 with z|z
  ·exact f1 z
  ·exact .lK eZ.good z r1
 ·rcases z.2 with z|z
  ·exact f2 z
  ·exact .lK iB.good z r2
theorem De{x:Ex}{σ:St}{H:Hp}{Q Q':VK}(h:gE K C x σ H Q)(f:∀v H1,cu H H1->Q v H1->Q' v H1):gE K C x σ H Q':=by
 obtain⟨ρ,d,fr,h,F,g,R,k⟩:=h;exact⟨ρ,d,fr,h,F,g,R,fun v F' H' st r fr=>f v H' st.hh (k v F' H' st r fr)⟩
theorem yt{C:Fs}{op:FH}{i:Nat}{es:List Ex}{ρ:dk}{out:Out}(h:ko C (.mut op i es) ρ=some out) :
  ∃ds d d',oD C es (full ρ)=some (ds,true)/\ρ[i]? = some (some (d,true))/\ip op d ds=some d'/\out=.nx (ρ.set i (some (d',true))):=by
 obtain⟨⟨ds,al⟩,h3,h⟩:=eD h;have h:(if al=true then LA op i ρ ds (ρ[i]?).join else none)=some out:=h;by_cases hal:al=true
 ·rw[if_pos hal]at h;subst hal
  cases q:ρ[i]? with
  | none=>rw[q]at h;cases h
  | some z=>
    rw[q]at h
    match z,h with
    | some (d,true),h=>
      obtain⟨d',h4,h5⟩:=fM h;exact⟨ds,d,d',h3,rfl,h4,h5.symm⟩
 ·rw[if_neg hal]at h;cases h
theorem yr{op:FH}{i:Nat}{es:List Ex}(h1:op≠.ext)(h2:op≠.dput){D:Ends}{σ:St}{H:Hp}(h:gS K C (.mut op i es) D σ H) :
  ∃l ob0,σ[i]? = some (some (.ref l))/\H l=some ob0/\(op≠.seti->∃xs,ob0=.lst xs)/\gF K C es σ H fun vs H1=>∃ob ob',H1 l=some ob/\Hq op ob vs=some ob'/\D.nx σ (upd H1 l ob'):=by
 obtain⟨Fz,H₀,F,ρ,out,h,R,k⟩:=h;obtain⟨ds,d,d',h3,hi,h4,rfl⟩:=yt h;obtain⟨Ss,O⟩:=R.ow;obtain⟨v,e1,e2,e3,e4⟩:=O.own i d hi
 have hdl:∃l ob0,v=.ref l/\H l=some ob0/\(op≠.seti->∃xs,ob0=.lst xs):=by
  cases d with
  | lst es=>
    obtain⟨l,xs,S',rfl,hl,os,eS⟩:=id e2;exact⟨l,_,rfl,hl,fun _=>⟨xs,rfl⟩⟩
  | dct ks ws=>
    obtain⟨l,kvs,S',rfl,hl,_⟩:=id e2;refine⟨l,_,rfl,hl,fun hne=>?_⟩
    cases op<;>first|exact absurd rfl h1|exact absurd rfl h2|exact absurd rfl hne|cases h4
  | dcn _=>cases op<;>first|exact absurd rfl h1|exact absurd rfl h2|cases h4
  | _=>cases op<;>cases h4
 obtain⟨l,ob0,rfl,hl,hlo⟩:=hdl;refine⟨l,ob0,e1,hl,hlo,Dk R h3 fun vs F' H' T st ow nT hT=>?_⟩;have O':=O.moved st;have R':=R.moved st
 have dj:∀a∈Ss i,a∉T:=fun a m m2=>by
  obtain⟨u,hu,_⟩:=e2.xu _ a m;rw[(hT a m2).1]at hu;cases hu
 obtain⟨l2,ob,ob',S2,ev,hl2,hob,hop,mu,o2,nd2,hS2⟩:=Lx h1 h2 h4 (e2.mono st.hh) e3 ow nT dj;cases ev;refine⟨ob,ob',hob,hop,k F' _ σ st.ff (R'.mut O' hi e1 hl2 mu o2 nd2 fun a m=>?_)⟩
 rcases hS2 a m with m|m
 ·exact .inl m
 ·refine .inr ⟨(hT a m).2,R.step.hh.free (hT a m).1,fun j d2 q m2=>?_⟩;obtain⟨w,_,g2,_⟩:=O.own j d2 q;obtain⟨u,hu,_⟩:=g2.xu _ a m2;rw[(hT a m).1]at hu;cases hu
theorem Cc{op:FH}{i:Nat}{es:List Ex}{st:jl}{r:V->List V->Hp->VK->Prop}(h1:op≠.ext)(h2:op≠.dput)(h3:op≠.seti)(hr:∀l ob ob' vs H Q,H l=some ob->Hq op ob vs=some ob'->(∀u,Q u (upd H l ob'))->r (.ref l) vs H Q)
  (hm:PS X st (Gp (T9 X.K "list" r (Kb i) (gF X.K C es)))):SS X C st (.mut op i es):=PS.imp hm fun D σ H h=>by
 obtain⟨l,ob0,e1,hl,hlo,g⟩:=yr h1 h2 h;obtain⟨xs,rfl⟩:=hlo h3;refine⟨.ref l,e1,.inl ⟨rfl,xs,nF.of hl⟩,?_⟩;obtain⟨ρ,ds,al,h,F,gg,R,k⟩:=g;exact⟨ρ,ds,al,h,F,gg,R,fun vs F' H' st r f=>let ⟨ob,ob',q1,q2,q3⟩:=k vs F' H' st r f;hr l ob ob' vs H' _ q1 q2 fun _=>q3⟩
theorem Ki{i:Nat}{xe xi:Ex}{st:jl}(hm:PS X st (Gr (gE X.K C xe) (SK (Kb i) (gE X.K C xi) Nk))):SS X C st (.mut .seti i [xe,xi]):=PS.imp hm fun D σ H h=>by
 obtain⟨l,ob0,e1,hl,_,g⟩:=yr (op:=.seti) (by simp) (by simp) h;have g2:=P8 g;refine De g2 fun x H1 s1 g3=>⟨.ref l,e1,De g3 fun y H2 s2 g4=>?_⟩
 obtain⟨ob,ob',q1,q2,q3⟩:=g4
 cases ob with
 | lst ys=>
   cases y with
   | int k=>
     simp only[Hq,AW,AV,AU]at q2;split at q2
     ·obtain⟨zs,q4,q5⟩:=fM q2;cases q5;unfold GD at q4;obtain⟨j,q6,q7⟩:=fM q4;subst q7;exact⟨l,ys,k,j,rfl,rfl,q1,q6,q3⟩
     ·cases q2
   | _=>cases q2
 | _=>cases q2
end
section
variable{X:Cx}{C:Fs}
def Cq:V->List V->Hp->VK->Prop:=fun x vs H Q=>∃l xs i y,x=.ref l/\vs=[.int i,y]/\H l=some (.lst xs)/\xs.length<aP/\-1000000<=i/\i<=1000000/\Q .non (upd H l (.lst (insI y i xs)))
theorem Ep:Wj X "list.insert" Cq:=by
 intro pins s σ H x vs v us Q I rx rv h;obtain⟨l,xs,i,y,rfl,rfl,hH,hz,hi1,hi2,q⟩:=h;cases rx;obtain⟨ui,u,rfl,rui,ru⟩:=vals2 rv;obtain⟨ti,rfl⟩:=rui;obtain⟨z,its,n,r,hl,e⟩:=I.PB hH
 have hfit:¬(!j7 i)=true:=by
  have:j7 i=true:=by
   unfold j7;simp;omega
  rw[this];simp
 have ek:(if i<0 then(i+((its.toArray.size:Nat):Int)).toNat else min i.toNat its.toArray.size)=HT.gG xs.length 0 (some i):=by
  rw[aH,<-hl];rfl
 refine zU um ⟨_,e,rfl⟩ F.entry_list_insert (F.args_list_insert_3 _ _ _) (AutoListH.list_insert_list_int_val_1 l its.toArray n i ti u hfit (by rw[aH];omega)) ⟨e,?_⟩;refine⟨.non,_,I.PC (its':=insI u i its) hH e ?_ ?_ ?_,rfl,q⟩
 ·dsimp only;rw[ek];unfold insI;rw[<-hl];simp;exact fx (by simp)
 ·unfold insI;rw[<-hl];exact(r.take _).append (.cons ru (r.drop _))
 ·unfold insI;have:=HT.GH xs.length 0 (dJ _) (some i);simp;omega
theorem P5:∀l ob ob' vs H (Q:VK),H l=some ob->Hq .app ob vs=some ob'->(∀u,Q u (upd H l ob'))->Cr (.ref l) vs H Q:=fun l ob ob' vs H Q h1 h2 h3=>by
 cases ob with
 | lst xs=>
   cases vs with
   | nil=>cases h2
   | cons y vs=>
     cases vs with
     | cons _ _=>cases h2
     | nil=>
       simp only[Hq,AW,AV,AU]at h2;split at h2
       ·rename_i hz;cases h2;exact⟨l,xs,y,rfl,rfl,h1,hz,h3 _⟩
       ·cases h2
 | _=>cases h2
theorem P4:∀l ob ob' vs H (Q:VK),H l=some ob->Hq .ins ob vs=some ob'->(∀u,Q u (upd H l ob'))->Cq (.ref l) vs H Q:=fun l ob ob' vs H Q h1 h2 h3=>by
 cases ob with
 | lst xs=>
   cases vs with
   | nil=>cases h2
   | cons y vs=>
     cases vs with
     | nil=>cases y<;>cases h2
     | cons z vs=>
       cases vs with
       | cons _ _=>cases y<;>cases h2
       | nil=>
         cases y with
         | int i=>
           simp only[Hq,AW,AV,AU]at h2;split at h2
           ·rename_i hz;cases h2;exact⟨l,xs,i,z,rfl,rfl,h1,hz.1,hz.2.1,hz.2.2,h3 _⟩
           ·cases h2
         | _=>cases h2
 | _=>cases h2
end
theorem ze{items items2:Array ab}(hs2:items.size+items2.size<=aP):¬(!items.isEmpty && fJ (items.size+items2.size))=true:=by
 rw[Hu hs2];simp
theorem Iu(l:ag)(items:Array ab)(n:Nat)(b:ag)(items2:Array ab)(n2:Nat)(dd2:Option ag)(uD:Array (Option ab))(hs0:¬(!items.isEmpty && fJ (items.size+items2.size))=true)(hs1:items.size<=aP)(hs2:items.size+items2.size<=aP+1) :
  Meets (fO.«list.extend» ⟨[.ref l,.ref b],[]⟩) (fun _ R s=>s.heap.get? l=some { cls:=.type "list",dict:=none,data:=.seq items n,slots:=#[] }/\s.heap.get? b=some { cls:=.type "tuple",dict:=dd2,data:=.seq items2 n2,slots:=uD }/\R (.ok (.ret de)) { s with heap:=s.heap.update l (en fun x=>x++items2),toks:=s.toks }):=
 .of_wp fun prog w A R s h=>by
  obtain⟨hp,g,d,tk,os⟩:=s;obtain⟨hl,hb,h⟩:=h;have f1:=B0;have f2:=t8;have f3:=uN;have f4:=uv;have f5:=uw;have hz':(items++items2).size<=aP+1:=by rw[FA];exact hs2
  wp_walk using(ph hl rfl (hz:=hs1) (_hz':=hz')),pq hl,pq hb
  exact⟨_,rfl,h⟩
theorem Iz(l:ag)(items:Array ab)(n:Nat)(b:ag)(items2:Array ab)(n2:Nat)(dd2:Option ag)(uD:Array (Option ab))(hs0:¬(!items.isEmpty && fJ (items.size+items2.size))=true)(hs1:items.size<=aP)(hs2:items.size+items2.size<=aP+1) :
  Meets (fO.«list.extend» ⟨[.ref l,.ref b],[]⟩) (fun _ R s=>s.heap.get? l=some { cls:=.type "list",dict:=none,data:=.seq items n,slots:=#[] }/\s.heap.get? b=some { cls:=.type "list",dict:=dd2,data:=.seq items2 n2,slots:=uD }/\R (.ok (.ret de)) { s with heap:=s.heap.update l (en fun x=>x++items2),toks:=s.toks }):=
 .of_wp fun prog w A R s h=>by
  obtain⟨hp,g,d,tk,os⟩:=s;obtain⟨hl,hb,h⟩:=h;have f1:=B0;have f2:=t8;have f3:=uN;have f4:=uv;have f5:=uw;have hz':(items++items2).size<=aP+1:=by rw[FA];exact hs2
  wp_walk using(ph hl rfl (hz:=hs1) (_hz':=hz')),pq hl,pq hb
  exact⟨_,rfl,h⟩
section
variable{X:Cx}{C:Fs}{K:Fg}
def RQ(K:Fg):V->List V->Hp->VK->Prop:=fun x vs H Q=>∃l b xs zs,x=.ref l/\vs=[.ref b]/\H l=some (.lst xs)/\(nF K H b zs\/rV K H b zs)/\xs.length+zs.length<=aP/\Q .non (upd H l (.lst (xs++zs)))
theorem Pr:Wj X "list.extend" (RQ X.K):=by
 intro pins s σ H x vs v us Q I rx rv h;obtain⟨l,b,xs,zs,rfl,rfl,hH,hB,hz,q⟩:=h;cases rx;obtain⟨u,rfl,ru⟩:=rv.one;cases ru;obtain⟨z,its,n,r,hl,e⟩:=I.PB hH
 have fin:∀(its2:List ab) (tk:Nat),cL zs its2->EP X pins σ Q .none { s with heap:=s.heap.update l (en fun x=>x++its2.toArray),toks:=tk }:=fun its2 tk r2=>
  ⟨.non,_,I.PC (its':=its++its2) hH e (by simp) (r.append r2) (by rw[ak];exact hz),rfl,q⟩
 have hz':∀{its2:List ab},cL zs its2->its.toArray.size+its2.toArray.size<=aP:=fun r2=>by rw[aH,aH,<-r.length,<-r2.length];exact hz
 rcases hB with hB|hB
 ·obtain⟨its2,r2,⟨o2,n2,e2,hc,hd,hs⟩,_⟩:=I.list hB;obtain⟨cls2,dd2,data2,uD⟩:=o2;simp only at hc hd hs;subst hc hd hs;exact zU lR ⟨_,e,rfl⟩ Jt (FP _ _) (Iz l its.toArray n b its2.toArray n2 _ uD (ze (hz' r2)) (by have:=hz' r2;omega) (by have:=hz' r2;omega)) ⟨e,e2,fin its2 _ r2⟩
 ·obtain⟨its2,r2,⟨o2,e2,hc,n2,hd⟩,_⟩:=I.tuple hB;obtain⟨cls2,dd2,data2,uD⟩:=o2;simp only at hc hd;subst hc hd;exact zU lR ⟨_,e,rfl⟩ Jt (FP _ _) (Iu l its.toArray n b its2.toArray n2 dd2 uD (ze (hz' r2)) (by have:=hz' r2;omega) (by have:=hz' r2;omega)) ⟨e,e2,fin its2 _ r2⟩
def NY(K:Fg)(H:Hp)(d':Dat)(v:V)(vs:List V)(S T:List ag):Prop:=
 ∃l xs b zs S',v=.ref l/\l∈S/\H l=some (.lst xs)/\vs=[.ref b]/\(nF K H b zs\/rV K H b zs)/\xs.length+zs.length<=aP/\oE K (upd H l (.lst (xs++zs))) d' v S'/\S'.Nodup/\∀a∈S',a∈S\/a∈T
theorem Iy{H:Hp}{es fs:List Dat}{l b:ag}{xs zs:List V}{S' T T':List ag}(hl:H l=some (.lst xs))(os:dH K H es xs S')(nd:(l::S').Nodup)(hb:nF K H b zs\/rV K H b zs)(of:dH K H fs zs T')(hT:∀a∈T',a∈T)(nt:T'.Nodup)(dj:∀a∈l::S',a∉T)(hz:es.length+fs.length<=aP) :
  NY K H (.lst (es++fs)) (.ref l) [.ref b] (l::S') T:=by
 have hn:=bX.mp nd;have nt':∀vs,H l≠some (.tup vs):=fun vs z=>by rw[hl]at z;cases z
 have hlT:l∉T':=fun m=>dj l ja (hT l m);refine⟨l,xs,b,zs,l::(S'++T'),rfl,ja,hl,rfl,hb,by rw[os.length,of.length];exact hz,⟨l,xs++zs,S'++T',rfl,cJ,(os.upd nt' _ hn.1).append (of.upd nt' _ hlT),rfl⟩,?_,fun a m=>?_⟩
 ·refine bX.mpr ⟨fun m=>?_,mE hn.2 nt fun a m m2=>dj a (jt _ m) (hT a m2)⟩
  rcases aD.mp m with m|m
  ·exact hn.1 m
  ·exact hlT m
 ·rcases ao.mp m with rfl|m
  ·exact .inl ja
  ·rcases aD.mp m with m|m
   ·exact .inl (jt _ m)
   ·exact .inr (hT a m)
theorem Mi{H:Hp}{d d':Dat}{ds:List Dat}{v:V}{vs:List V}{S T:List ag}(h:ip .ext d ds=some d')(o:oE K H d v S)(nd:S.Nodup)(a:dH K H ds vs T)(nt:T.Nodup)(dj:∀a∈S,a∉T):NY K H d' v vs S T:=by
 cases d with
 | lst es=>
   obtain⟨l,xs,S',rfl,hl,os,rfl⟩:=o
   cases ds with
   | nil=>cases h
   | cons d1 ds=>
     cases ds with
     | cons _ _=>cases d1<;>cases h
     | nil=>
       obtain⟨y,r,T1,T2,e,a1,a2,q⟩:=a;obtain⟨rfl,rfl⟩:=a2;rw[aL]at q;subst e q
       cases d1 with
       | lst fs=>
         simp only[ip,Al,Ak,Aj,Ai]at h;split at h
         ·rename_i hz;cases h;obtain⟨b,zs,T',rfl,hb,of,rfl⟩:=a1;exact Iy hl os nd (.inl (.inl (.inl hb))) of (fun a m=>jt _ m) (bX.mp nt).2 dj hz
         ·cases h
       | tup fs=>
         simp only[ip,Al,Ak,Aj,Ai]at h;split at h
         ·rename_i hz;cases h;obtain⟨b,zs,rfl,hb,of⟩:=a1;exact Iy hl os nd (.inr hb.sq) of (fun a m=>m) nt dj hz
         ·cases h
       | _=>cases h
 | _=>cases h
theorem Iv{i:Nat}{es:List Ex}{D:Ends}{σ:St}{H:Hp}(h:gS K C (.mut .ext i es) D σ H) :
  ∃l xs0,σ[i]? = some (some (.ref l))/\H l=some (.lst xs0)/\gF K C es σ H fun vs H1=>∃xs b zs,H1 l=some (.lst xs)/\vs=[.ref b]/\(nF K H1 b zs\/rV K H1 b zs)/\xs.length+zs.length<=aP/\D.nx σ (upd H1 l (.lst (xs++zs))):=by
 obtain⟨Fz,H₀,F,ρ,out,h,R,k⟩:=h;obtain⟨ds,d,d',h3,hi,h4,rfl⟩:=yt h;obtain⟨Ss,O⟩:=R.ow;obtain⟨v,e1,e2,e3,e4⟩:=O.own i d hi
 have hdl:∃l xs0,v=.ref l/\H l=some (.lst xs0):=by
  cases d with
  | lst es=>
    obtain⟨l,xs,S',rfl,hl,os,eS⟩:=id e2;exact⟨l,xs,rfl,hl⟩
  | _=>cases h4
 obtain⟨l,xs0,rfl,hl⟩:=hdl;refine⟨l,xs0,e1,hl,Dk R h3 fun vs F' H' T st ow nT hT=>?_⟩;have O':=O.moved st;have R':=R.moved st
 have dj:∀a∈Ss i,a∉T:=fun a m m2=>by
  obtain⟨u,hu,_⟩:=e2.xu _ a m;rw[(hT a m2).1]at hu;cases hu
 obtain⟨l2,xs,b,zs,S2,ev,hl2,hob,hvs,hq,hz,o2,nd2,hS2⟩:=Mi h4 (e2.mono st.hh) e3 ow nT dj;cases ev;refine⟨xs,b,zs,hob,hvs,hq,hz,k F' _ σ st.ff (R'.mut O' hi e1 hl2 trivial o2 nd2 fun a m=>?_)⟩
 rcases hS2 a m with m|m
 ·exact .inl m
 ·refine .inr ⟨(hT a m).2,R.step.hh.free (hT a m).1,fun j d2 q m2=>?_⟩;obtain⟨w,_,g2,_⟩:=O.own j d2 q;obtain⟨u,hu,_⟩:=g2.xu _ a m2;rw[(hT a m).1]at hu;cases hu
theorem Oh{i:Nat}{es:List Ex}{st:jl}(hm:PS X st (Gp (T9 X.K "list" (RQ X.K) (Kb i) (gF X.K C es)))):SS X C st (.mut .ext i es):=PS.imp hm fun D σ H h=>by
 obtain⟨l,xs0,e1,hl,g⟩:=Iv h;refine⟨.ref l,e1,.inl ⟨rfl,xs0,nF.of hl⟩,?_⟩;obtain⟨ρ,ds,al,h,F,gg,R,k⟩:=g;exact⟨ρ,ds,al,h,F,gg,R,fun vs F' H' st r f=>let ⟨xs,b,zs,q1,q2,q3,q4,q5⟩:=k vs F' H' st r f;⟨l,b,xs,zs,rfl,q2,q1,q3,q4,q5⟩⟩
end
section
variable{X:Cx}{C:Fs}{K:Fg}{pins:List (ag×fe)}{σ:St}{F H:Hp}{s:ae}
theorem _root_.L2.Inv.noNT{a:ag}{xs:List (List NK×ag)}{ws:List V}(I:Inv X pins σ H s)(g:Good F H)(h:F a=some (.dN xs))(h':Tq X.K F a ws):False:=by
 obtain⟨_,_,o,es,ep,h1,h2,_⟩:=I.hok a _ (g.sub _ _ h);obtain⟨its,_,⟨o',h3,h4,_⟩,_⟩:=I.tupR g h';rw[h1]at h3;cases h3;rw[h2.1]at h4;exact absurd (m9 h4) (by decide)
theorem _root_.L2.Inv.noNL{a:ag}{xs:List (List NK×ag)}{ws:List V}(I:Inv X pins σ H s)(g:Good F H)(h:F a=some (.dN xs))(h':nF X.K F a ws):False:=by
 obtain⟨_,_,o,es,ep,h1,h2,_⟩:=I.hok a _ (g.sub _ _ h);obtain⟨its,_,pl,_⟩:=I.lstR g h';obtain⟨o',h3,h4,_⟩:=pl.isList;rw[h1]at h3;cases h3;rw[h2.1]at h4;exact absurd (m9 h4) (by decide)
theorem vm:∀{ds:List Dat} {q:List Key} {vs:List V},qd ds=some q->cR K F ds vs->vs=q.map kV
 | [],_,_,h,r=>by cases h;exact r
 | d::ds,_,_,h,z4=>by
   obtain⟨v,w,e,h1,h2⟩:=z4;simp only[qd]at h;obtain⟨k,hk,h⟩:=eD h;obtain⟨q,hq,h⟩:=fM h;cases h;subst e;rw[aq,<-vm hq h2]
   congr 1
   cases d with
   | int i=>cases hk;exact h1
   | str x=>cases hk;exact h1
   | _=>cases hk
theorem CK:∀{ds:List Dat} {q:List NK} {vs:List V},Ls ds=some q->cR K F ds vs->JJ K F q vs
 | [],_,_,h,r=>by cases h;exact r
 | d::ds,_,_,h,z4=>by
   obtain⟨v,w,e,h1,h2⟩:=z4;simp only[Ls]at h;obtain⟨k,hk,h⟩:=eD h;obtain⟨q,hq,h⟩:=fM h;cases h;subst e;have ih:=CK hq h2
   cases d with
   | int i=>cases hk;cases h1;exact⟨w,rfl,ih⟩
   | str x=>cases hk;cases h1;exact⟨w,rfl,ih⟩
   | tup es=>
     simp only[Rc]at hk;obtain⟨q2,hq2,hk⟩:=fM hk;cases hk;obtain⟨a,vs,rfl,t,r⟩:=h1;rw[vm hq2 r]at t;exact⟨a,w,rfl,t,ih⟩
   | _=>cases hk
theorem Lu{da:Dat}{k:List NK}{v:V}(h:Pk da=some k)(r:Rep K F da v):∃a,v=.ref a/\UR K F k a:=by
 cases da with
 | tup ds=>
   obtain⟨a,vs,rfl,t,r⟩:=r;exact⟨a,rfl,vs,t,CK h r⟩
 | _=>cases h
theorem qC(I:Inv X pins σ H s)(g:Good F H):∀{k:List NK} {vs:List V} {us:List ab},JJ X.K F k vs->cL vs us->e8 X.prog X.w s.heap k us
 | [],_,_,h,w=>by rw[show _=[]from h]at w;cases w;exact .nil
 | .inl k::ks,_,_,z3,w=>by
   obtain⟨r,e,h⟩:=z3;subst e
   cases w with
   | cons q w=>exact .cons (C5 q) (qC I g h w)
 | .inr q::ks,_,_,z3,w=>by
   obtain⟨b,r,e,t,h⟩:=z3;subst e
   cases w with
   | cons q2 w=>
     refine .cons ?_ (qC I g h w);cases(show _=bZ b from q2);obtain⟨its,w1,⟨o,h1,h2,n,h3⟩,_⟩:=I.tupR g t;exact⟨b,rfl,o,its.toArray,n,h1,h2,h3,by simpa using qH w1⟩
theorem Ph(I:Inv X pins σ H s)(g:Good F H){k:List NK}{a:ag}(h:UR X.K F k a):(Nn X.prog X.w).is s.heap k a:=by
 obtain⟨vs,t,r⟩:=h;obtain⟨its,w1,⟨o,h1,h2,n,h3⟩,_⟩:=I.tupR g t;exact⟨o,its.toArray,n,h1,h2,h3,by simpa using qC I g r w1⟩
end
section
variable{X:Cx}{C:Fs}{pins:List (ag×fe)}{σ:St}{F H:Hp}{s:ae}
theorem _root_.L2.Inv.noDT{a:ag}{kvs:List (Key×V)}{ws:List V}(I:Inv X pins σ H s)(g:Good F H)(h:F a=some (.dK kvs))(h':Tq X.K F a ws):False:=by
 obtain⟨_,_,_,_,o,es,ep,h1,h2,_⟩:=I.hok a _ (g.sub _ _ h);obtain⟨its,_,⟨o',h3,h4,_⟩,_⟩:=I.tupR g h';rw[h1]at h3;cases h3;rw[h2.1]at h4;exact absurd (m9 h4) (by decide)
theorem _root_.L2.Inv.noDL{a:ag}{kvs:List (Key×V)}{ws:List V}(I:Inv X pins σ H s)(g:Good F H)(h:F a=some (.dK kvs))(h':nF X.K F a ws):False:=by
 obtain⟨_,_,_,_,o,es,ep,h1,h2,_⟩:=I.hok a _ (g.sub _ _ h);obtain⟨its,_,pl,_⟩:=I.lstR g h';obtain⟨o',h3,h4,_⟩:=pl.isList;rw[h1]at h3;cases h3;rw[h2.1]at h4;exact absurd (m9 h4) (by decide)
mutual
theorem Cp(I:Inv X pins σ H s)(g:Good F H):∀(da db:Dat) {x:V},Rep X.K F da x->Rep X.K F db x->da=db
 | .non,db,x,ra,rb=>by
   rw[show x=.non from ra]at rb
   cases db with
   | non=>rfl
   | tup _=>obtain⟨_,_,z,_⟩:=rb;cases z
   | lst _=>obtain⟨_,_,z,_⟩:=rb;cases z
   | dct _ _=>obtain⟨_,_,z,_⟩:=rb;cases z
   | dcn _=>obtain⟨_,_,z,_⟩:=rb;cases z
   | _=>cases rb
 | .bl b,db,x,ra,rb=>by
   rw[show x=.bl b from ra]at rb
   cases db with
   | bl c=>cases rb;rfl
   | tup _=>obtain⟨_,_,z,_⟩:=rb;cases z
   | lst _=>obtain⟨_,_,z,_⟩:=rb;cases z
   | dct _ _=>obtain⟨_,_,z,_⟩:=rb;cases z
   | dcn _=>obtain⟨_,_,z,_⟩:=rb;cases z
   | _=>cases rb
 | .int i,db,x,ra,rb=>by
   rw[show x=.int i from ra]at rb
   cases db with
   | int c=>cases rb;rfl
   | tup _=>obtain⟨_,_,z,_⟩:=rb;cases z
   | lst _=>obtain⟨_,_,z,_⟩:=rb;cases z
   | dct _ _=>obtain⟨_,_,z,_⟩:=rb;cases z
   | dcn _=>obtain⟨_,_,z,_⟩:=rb;cases z
   | _=>cases rb
 | .str i,db,x,ra,rb=>by
   rw[show x=.str i from ra]at rb
   cases db with
   | str c=>cases rb;rfl
   | tup _=>obtain⟨_,_,z,_⟩:=rb;cases z
   | lst _=>obtain⟨_,_,z,_⟩:=rb;cases z
   | dct _ _=>obtain⟨_,_,z,_⟩:=rb;cases z
   | dcn _=>obtain⟨_,_,z,_⟩:=rb;cases z
   | _=>cases rb
 | .tup ds,db,x,z3,rb=>by
   obtain⟨p,vs,e,t,r⟩:=z3;subst e
   cases db with
   | tup es=>
     obtain⟨q,us,e',t',r'⟩:=rb;cases e';have ev:vs=us:=I.oi (t.mono g.sub).sq (t'.mono g.sub).sq;subst ev;rw[pW I g ds es r r']
   | lst es=>
     obtain⟨q,us,e',t',r'⟩:=rb;cases e';exact(I.noLT g t' t).elim
   | dct ks es=>
     obtain⟨q,us,e',t',r'⟩:=rb;cases e';exact(I.noDT g t' t).elim
   | dcn ks=>
     obtain⟨q,us,e',t',r'⟩:=rb;cases e';exact(I.noNT g t' t).elim
   | _=>cases rb
 | .lst ds,db,x,z3,rb=>by
   obtain⟨p,vs,e,t,r⟩:=z3;subst e
   cases db with
   | lst es=>
     obtain⟨q,us,e',t',r'⟩:=rb;cases e';have ev:vs=us:=I.p9 (g.sub.seq t) (g.sub.seq t');subst ev;rw[pW I g ds es r r']
   | tup es=>
     obtain⟨q,us,e',t',r'⟩:=rb;cases e';exact(I.noLT g t t').elim
   | dct ks es=>
     obtain⟨q,us,e',t',r'⟩:=rb;cases e';exact(I.noDL g t' t).elim
   | dcn ks=>
     obtain⟨q,us,e',t',r'⟩:=rb;cases e';exact(I.noNL g t' t).elim
   | _=>cases rb
 | .dct ks ds,db,x,z3,rb=>by
   obtain⟨p,kvs,e,t,kk,r⟩:=z3;subst e
   cases db with
   | dct ks' es=>
     obtain⟨q,us,e',t',k',r'⟩:=rb;cases e';rw[t]at t';cases t';rw[<-kk,<-k',pW I g ds es r r']
   | lst es=>
     obtain⟨q,us,e',t',r'⟩:=rb;cases e';exact(I.noDL g t t').elim
   | tup es=>
     obtain⟨q,us,e',t',r'⟩:=rb;cases e';exact(I.noDT g t t').elim
   | dcn _=>
     obtain⟨q,us,e',t',r'⟩:=rb;cases e';rw[t]at t';cases t'
   | _=>cases rb
 | .dcn ks,db,x,z3,rb=>by
   obtain⟨p,xs,e,t,r⟩:=z3;subst e
   cases db with
   | dcn ks'=>
     obtain⟨q,us,e',t',r'⟩:=rb;cases e';rw[t]at t';cases t';rw[<-r.1,<-r'.1]
   | dct _ _=>
     obtain⟨q,us,e',t',r'⟩:=rb;cases e';rw[t]at t';cases t'
   | lst es=>
     obtain⟨q,us,e',t',r'⟩:=rb;cases e';exact(I.noNL g t t').elim
   | tup es=>
     obtain⟨q,us,e',t',r'⟩:=rb;cases e';exact(I.noNT g t t').elim
   | _=>cases rb
theorem pW(I:Inv X pins σ H s)(g:Good F H):∀(ds es:List Dat) {vs:List V},cR X.K F ds vs->cR X.K F es vs->ds=es
 | [],es,vs,h,h'=>by
   rw[show vs=[]from h]at h'
   cases es with
   | nil=>rfl
   | cons _ _=>obtain⟨_,_,z,_⟩:=h';cases z
 | d::ds,es,vs,z3,h'=>by
   obtain⟨v,r,e,h1,h2⟩:=z3;subst e
   cases es with
   | nil=>exact nomatch (show v::r=[]from h')
   | cons f fs=>
     obtain⟨v',r',e',h1',h2'⟩:=h';cases e';rw[Cp I g d f h1 h1',pW I g ds fs h2 h2']
end
noncomputable def Qm(da:Dat)(ds:List Dat)(its:List ab)(w:ab):Bool:=@decide (∃(i:Nat) (d:Dat),its[i]? = some w/\ds[i]? = some d/\nA d da=true) (lT _)
theorem Bx(I:Inv X pins σ H s)(g:Good F H){da:Dat}{ds:List Dat}{vs:List V}{its:List ab}(r:cR X.K F ds vs)(w:cL vs its){i:Nat}{d:Dat}{u:ab}(h1:its[i]? = some u)(h2:ds[i]? = some d):Qm da ds its u=nA d da:=by
 have one:∀(j:Nat) d',its[j]? = some u->ds[j]? = some d'->d'=d:=fun j d' q1 q2=>by
  obtain⟨v,e1,e2⟩:=r.get h2;obtain⟨v',e1',e2'⟩:=r.get q2;obtain⟨u1,f1,f2⟩:=w.get e1;obtain⟨u2,f1',f2'⟩:=w.get e1';rw[h1]at f1;cases f1;rw[q1]at f1';cases f1';have:=f2.inj f2';subst this;exact(Cp I g d d' e2 e2').symm
 unfold Qm;by_cases hd:nA d da=true
 ·rw[hd];exact@decide_eq_true _ (lT _) ⟨i,d,h1,h2,hd⟩
 ·have:nA d da=false:=by simpa using hd
  rw[this];refine@decide_eq_false _ (lT _) fun⟨j,d',q1,q2,q3⟩=>?_;rw[one j d' q1 q2]at q3;exact hd q3
theorem MQ(I:Inv X pins σ H s)(g:Good F H){da:Dat}{ds:List Dat}{vs:List V}{its:List ab}(r:cR X.K F ds vs)(w:cL vs its):its.any (Qm da ds its)=ds.any fun y=>nA y da:=by
 have hl:its.length=ds.length:=by rw[<-w.length,r.length]
 rw[JW,rC,rC];constructor
 ·rintro⟨u,hu,h⟩;obtain⟨i,hi,e⟩:=kQ hu;have hi2:i<ds.length:=by omega
  refine⟨ds[i],bM hi2,?_⟩;rw[<-Bx I g r w (by rw[af hi,e]) (af hi2)];exact h
 ·rintro⟨d,hd,h⟩;obtain⟨i,hi,e⟩:=kQ hd;have hi2:i<its.length:=by omega
  refine⟨its[i],bM hi2,?_⟩;rw[Bx I g r w (af hi2) (by rw[af hi,e])];exact h
theorem Ql(I:Inv X pins σ H s)(g:Good F H)(A:bC){da:Dat}{ds:List Dat}{vs:List V}{its:List ab}{x:V}{u:ab}(hu:A.units+20<dS)(sa:iC 20 da=true)(ss:fR 20 ds=true)(ra:Rep X.K F da x)(rx:RelV x u)(r:cR X.K F ds vs)(w:cL vs its) :
  ∀y∈its,nD A s y u (Qm da ds its y):=fun y hy=>by
 obtain⟨i,hi,e⟩:=kQ hy;have hl:its.length=ds.length:=by rw[<-w.length,r.length]
 have hi2:i<ds.length:=by omega
 have h1:its[i]? = some y:=by rw[af hi,e]
 have h2:=af hi2;rw[Bx I g r w h1 h2];obtain⟨v,e1,e2⟩:=r.get h2;obtain⟨u1,f1,f2⟩:=w.get e1;rw[h1]at f1;cases f1;exact(tN I g 20 A ds[i] da hu (kH ss h2) sa e2 ra f2 rx).1
theorem Pa(hu:X.A.units+21<dS):kM X (compareOp .In) (gB X.K (rz .isin)):=fun pins s σ H x y v u Q I rx ry z12=>by
 obtain⟨da,db,d,fr,h,F,g,ra,rb,k⟩:=z12;obtain⟨b,hd,rfl,rfl⟩:=kL h;have hu1:X.A.in1.units+20<dS:=by show X.A.units+1+20<dS;omega
 cases db with
 | str z=>
   cases da with
   | str z'=>
     simp only[dt,IZ,NL,zu,ME]at hd;cases hd;exact Eo pins s σ H x y v u Q I rx ry ⟨_,_,ra,rb,k _ F H (Step.refl g) rfl bV⟩
   | _=>cases hd
 | _=>cases da<;>cases hd
theorem Lh(hu:X.A.units+21<dS):kM X (compareOp .NotIn) (gB X.K (rz .nin)):=fun pins s σ H x y v u Q I rx ry z12=>by
 obtain⟨da,db,d,fr,h,F,g,ra,rb,k⟩:=z12;obtain⟨b,hd,rfl,rfl⟩:=kL h;have hu1:X.A.in1.units+20<dS:=by show X.A.units+1+20<dS;omega
 cases db with
 | lst ds=>
   have hd':(if iC 20 da && fR 20 ds then some (!(ds.any fun y=>nA y da))else none)=some b:=by cases da<;>exact hd
   split at hd'
   ·rename_i hs;rw[aF]at hs;cases hd';obtain⟨p,vs,rfl,t,r⟩:=rb;obtain rfl:u=.ref p:=ry;obtain⟨its,w,pl,_⟩:=I.lstR g t;refine SeqAt.notIn_listAt (Qm da ds its) pl.isList (fun y hy=>Ql I g _ hu1 hs.1 hs.2 ra rx r w y (by simpa using hy)) ⟨.bl _,H,I,rfl,?_⟩;rw[show its.toArray.any (Qm da ds its)=its.any (Qm da ds its) by simp,MQ I g r w];exact k _ F H (Step.refl g) rfl bV
   ·cases hd'
 | _=>cases da<;>cases hd
end
def gM(K:Fg)(f:Dat->List Dat->Option (Dat×Bool)):V->List V->Hp->VK->Prop:=fun x xs H Q=>∃da ds d fr F,f da ds=some (d,fr)/\Good F H/\Rep K F da x/\cR K F ds xs/\∀v F' H',Step F H F' H'->Rep K F' d v->(fr=true->iu K H H' d v)->Q v H'
section
variable{X:Cx}{C:Fs}{o e:aO}{es:List aO}{xo:Ex}{xs:List Ex}
theorem Es{m:MU}(hs:∀da ds r,kY m da ds=some r->∃z,da=.str z):∀σ H Q,gE X.K C (.lW m xo xs) σ H Q->T9 X.K "str" (gM X.K (kY m)) (gE X.K C xo) (gA X.K C xs) σ H Q:=fun σ H Q z3=>by
 obtain⟨ρ,d,fr,h,F,g,R,k⟩:=z3;obtain⟨⟨da,fa⟩,h1,h⟩:=eD h;obtain⟨ds,h2,h3⟩:=eD h;obtain⟨z,hz⟩:=hs da ds _ h3;refine⟨ρ,da,fa,h1,F,g,R,fun v F1 H1 eZ r1 _=>⟨?_,ρ,ds,h2,F1,eZ.good,R.mono eZ.ff,fun vs F2 H2 iB r2=>⟨da,ds,d,fr,F2,h3,iB.good,r1.mono iB.ff,r2,fun w F3 H3 qu r3 f3=>k w F3 H3 ((eZ.trans iB).trans qu) r3 fun q=>(f3 q).back (F:=F) (eZ.hh.trans iB.hh)⟩⟩⟩;rw[hz]at r1;rw[show v=.str z from r1];exact rfl
theorem Ba{m:MU}(hs:∀da ds r,kY m da ds=some r->∃z,da=.str z):∀σ H Q,gE X.K C (.lW m xo []) σ H Q->RE X.K "str" (gM X.K (kY m)) (gE X.K C xo) σ H Q:=fun σ H Q z3=>by
 obtain⟨ρ,d,fr,h,F,g,R,k⟩:=z3;obtain⟨⟨da,fa⟩,h1,h⟩:=eD h;obtain⟨ds,h2,h3⟩:=eD h;cases h2;obtain⟨z,hz⟩:=hs da [] _ h3;refine⟨ρ,da,fa,h1,F,g,R,fun v F1 H1 eZ r1 _=>⟨?_,da,[],d,fr,F1,h3,eZ.good,r1,rfl,fun w F3 H3 qu r3 f3=>k w F3 H3 (eZ.trans qu) r3 fun q=>(f3 q).back (F:=F) eZ.hh⟩⟩;rw[hz]at r1;rw[show v=.str z from r1];exact rfl
theorem F8{vs:List V}{us:List ab}{F:Hp}(r:cR X.K F [] vs)(w:cL vs us):us=[]:=by
 rw[show vs=[]from r]at w;cases w;rfl
section
variable{pins:List (ag×fe)}{s:ae}{σ:St}{H:Hp}
theorem vp{da:Dat}{ds:List Dat}{r:Dat×Bool}(h:kY .upper da ds=some r):∃x,da=.str x/\ds=[]/\kY .upper (.str x) []=some r:=by
 cases da with
 | str x=>
   cases ds with
   | nil=>exact⟨x,rfl,rfl,h⟩
   | cons d1 ds=>cases ds<;>cases d1<;>cases h
 | _=>cases ds<;>first|cases h|(rename_i d1 ds;cases ds<;>cases d1<;>cases h)
theorem yK{da:Dat}{ds:List Dat}{r:Dat×Bool}(h:kY .join da ds=some r):∃x es,da=.str x/\ds=[.lst es]/\kY .join (.str x) [.lst es]=some r:=by
 cases da with
 | str x=>
   cases ds with
   | nil=>cases h
   | cons d1 ds=>
     cases ds with
     | nil=>
       cases d1 with
       | lst y=>exact⟨x,y,rfl,rfl,h⟩
       | _=>cases h
     | cons _ _=>cases d1<;>cases h
 | _=>cases ds<;>first|cases h|(rename_i d1 ds;cases ds<;>cases d1<;>cases h)
theorem HB:Ro X "str.upper" (gM X.K (kY .upper)):=fun pins s σ H x xs v us Q I rx rv z12=>by
 obtain⟨da,ds,d,fr,F,h,g,ra,rs,k⟩:=z12;obtain⟨x',rfl,rfl,h⟩:=vp h;simp only[kY,Rf,Np,Ue,LF,LG]at h;split at h
 ·rename_i hz;cases h;rw[show x=.str x' from ra]at rx;obtain⟨t,rfl⟩:=rx;obtain rfl:=F8 rs rv;exact SCL.upper (by omega) fun _=>⟨.str _,H,I.tok _,⟨_,rfl⟩,k _ F H (Step.refl g) rfl bV⟩
 ·cases h
theorem xI{F:Hp}:∀{es:List Dat} {ys:List bh} {vs:List V} {us:List ab},sx es=some ys->cR X.K F es vs->cL vs us->StrsAre us ys
 | [],ys,vs,us,h,r,w=>by
   cases h;rw[show vs=[]from r]at w;cases w;exact .nil
 | d::es,ys,vs,us,h,r,w=>by
   cases d with
   | str x=>
     simp only[sx]at h;obtain⟨zs,h1,h⟩:=fM h;cases h;obtain⟨v,q,e,r1,r2⟩:=r;subst e;rw[show v=.str x from r1]at w
     cases w with
     | cons w1 w2=>
       obtain⟨t,rfl⟩:=w1;exact .cons x t (xI h1 r2 w2)
   | _=>cases h
theorem LB:Ro X "str.join" (gM X.K (kY .join)):=fun pins s σ H x xs v us Q I rx rv z12=>by
 obtain⟨da,ds,d,fr,F,h,g,ra,rs,k⟩:=z12;obtain⟨x',es,rfl,rfl,h⟩:=yK h;simp only[kY,Rf,Np,Ue,LF,LG]at h;obtain⟨ys,h1,h⟩:=eD h;split at h
 ·rename_i hz;cases h;rw[show x=.str x' from ra]at rx;obtain⟨t,rfl⟩:=rx;obtain⟨v1,q,e,⟨p,vs,e1,tq,r1⟩,r2⟩:=rs;rw[show q=[]from r2]at e;subst e e1;obtain⟨u,rfl,ru⟩:=vals1 rv;obtain rfl:u=.ref p:=ru;obtain⟨its,w1,pl,_⟩:=I.lstR g tq;exact join_list pl.isList (by simpa using xI h1 r1 w1) (by omega) fun t' k'=>⟨.str _,H,I.tok _,⟨_,rfl⟩,k _ F H (Step.refl g) rfl bV⟩
 ·cases h
end
end
section
variable{X:Cx}{C:Fs}{o e:aO}{es:List aO}{xo xa:Ex}{xs:List Ex}{pos:fS}
noncomputable def baseOk:aO->Bool
 | .Call (.Name _ _) [] [] _=>false
 | _=>true
theorem vK{m:bh}{env:uq}{w:rl ab}(h:baseOk o=true):attributeBase o m env w=w:=by
 cases o with
 | Call f a k p=>
   cases f with
   | Name x q=>
     cases a with
     | nil=>
       cases k with
       | nil=>cases h
       | cons _ _=>rfl
     | cons _ _=>rfl
   | _=>rfl
 | _=>rfl
theorem RL{m:MU}{name:bh}{id:String}{ap cp:fS}(slot:Slot "str" name id)(ty:typeOf (.builtin id)=pure (.type "method_descriptor"))(hm:Ro X id (gM X.K (kY m)))(hs:∀da ds r,kY m da ds=some r->∃z,da=.str z)
  (ho:SE X C o xo)(ha:SA X C [e] [xa])(hb:baseOk o=true)(hl:(ap.endLine == cp.line)=true)(h1:bp [e] X.env=(false,eval e X.env)::bp [] X.env):SE X C (.Call (.Attribute o name ap) [e] [] cp) (.lW m xo [xa]):=
 PE.imp (CB vT slot ty hm ho ha (vK hb) (by rw[h1];rfl) hl h1 rfl) (Es hs)
theorem RM{m:MU}{name:bh}{id:String}{ap cp:fS}(slot:Slot "str" name id)(ty:typeOf (.builtin id)=pure (.type "method_descriptor"))(hm:Ro X id (gM X.K (kY m)))(hs:∀da ds r,kY m da ds=some r->∃z,da=.str z)
  (ho:SE X C o xo)(hb:baseOk o=true)(hl:(ap.endLine == cp.line)=true):SE X C (.Call (.Attribute o name ap) [] [] cp) (.lW m xo []):=
 PE.imp (O1 vT slot ty hm ho (vK hb) hl) (Ba hs)
noncomputable def QA(m:bh)(k:Nat):Option MU:=
 if m="join"/\k=1 then some .join else if m="upper"/\k=0 then some .upper else none
theorem MC{m:bh}{mt:MU}{ap cp:fS}(hu:X.A.units+1<dS)(h:QA m es.length=some mt)(ho:SE X C o xo)(ha:SA X C es xs)(hlen:xs.length=es.length)(hst:∀e,es=[e]->bp [e] X.env=(false,eval e X.env)::bp [] X.env)(hb:baseOk o=true)(hl:(ap.endLine == cp.line)=true) :
  SE X C (.Call (.Attribute o m ap) es [] cp) (.lW mt xo xs):=by
 have one:es.length=1->∃e xa,es=[e]/\xs=[xa]:=fun q=>by
  match es,xs,hlen,q with
  | [e],[xa],_,_=>exact⟨e,xa,rfl,rfl⟩
 have nil:es.length=0->es=[]/\xs=[]:=fun q=>by
  match es,xs,hlen,q with
  | [],[],_,_=>exact⟨rfl,rfl⟩
 unfold QA at h;split at h
 ·rename_i q;cases h;obtain⟨rfl,q⟩:=q;obtain⟨e,xa,rfl,rfl⟩:=one q;exact RL PySem.F.slot_str_join PySem.F.type_str_join LB (fun _ _ _ h=>let ⟨x,_,q,_⟩:=yK h;⟨x,q⟩) ho ha hb hl (hst e rfl)
 split at h
 ·rename_i q;cases h;obtain⟨rfl,q⟩:=q;obtain⟨rfl,rfl⟩:=nil q;exact RM PySem.F.slot_str_upper PySem.F.type_str_upper HB (fun _ _ _ h=>let ⟨x,q,_⟩:=vp h;⟨x,q⟩) ho hb hl
 ·cases h
end
structure LO{α:Type}(lt:α->α->Bool):Prop where
 irr:∀x,lt x x=false
 tr:∀x y z,lt x y=true->lt y z=true->lt x z=true
 tot:∀x y,lt x y=false->lt y x=false->x=y
theorem LO.MP{α:Type}{lt:α->α->Bool}(o:LO lt){x y:α}(h:lt x y=true):lt y x=false:=by
 cases q:lt y x with
 | false=>rfl
 | true=>have:=o.tr _ _ _ h q;rw[o.irr]at this;cases this
section
variable{α:Type}{lt:α->α->Bool}
theorem tj(o:LO lt){x z:α}:∀{l:List α},z∈yM lt x l↔z=x\/z∈l
 | []=>by simp[yM]
 | y::ys=>by
   unfold yM;split
   ·rw[ao]
   ·rename_i h1;split
    ·rw[ao,tj o,ao];constructor
     ·rintro(h|h|h)
      ·exact .inr (.inl h)
      ·exact .inl h
      ·exact .inr (.inr h)
     ·rintro(h|h|h)
      ·exact .inr (.inl h)
      ·exact .inl h
      ·exact .inr (.inr h)
    ·rename_i h2;have:=o.tot x y (by simpa using h1) (by simpa using h2);subst this;rw[ao];exact⟨fun h=>.inr h,fun h=>h.elim .inl id⟩
theorem i8(o:LO lt){z:α}:∀{l:List α},z∈kT lt l↔z∈l
 | []=>Iff.rfl
 | x::l=>by rw[kT,tj o,i8 o,ao]
theorem Cs(o:LO lt){x:α}:∀{l:List α},l.Pairwise (fun a b=>lt a b=true)->(yM lt x l).Pairwise (fun a b=>lt a b=true)
 | [],_=>by simp[yM]
 | y::ys,h=>by
   obtain⟨h1,h2⟩:=eQ.mp h;unfold yM;split
   ·rename_i q;refine eQ.mpr ⟨fun z hz=>?_,h⟩
    rcases ao.mp hz with rfl|hz
    ·exact q
    ·exact o.tr _ _ _ q (h1 z hz)
   ·split
    ·rename_i q;refine eQ.mpr ⟨fun z hz=>?_,Cs o h2⟩
     rcases(tj o).mp hz with rfl|hz
     ·exact q
     ·exact h1 z hz
    ·exact h
theorem j2(o:LO lt):∀(l:List α),(kT lt l).Pairwise (fun a b=>lt a b=true)
 | []=>.nil
 | x::l=>Cs o (j2 o l)
theorem p5(o:LO lt){l:List α}(h:l.Pairwise (fun a b=>lt a b=true)):l.Nodup:=h.imp fun q e=>by subst e;rw[o.irr]at q;cases q
theorem F9(o:LO lt){l r:List α}(hn:r.Nodup)(hs:r.Pairwise (fun a b=>lt b a=false))(hm:∀z,z∈r↔z∈l):r=kT lt l:=by
 refine se (le:=fun a b=>lt b a=false) (fun a b _ _ h h'=>o.tot _ _ h' h) hs ((j2 o l).imp fun q=>o.MP q) ?_;rw[fK hn (p5 o (j2 o l))];intro z;rw[hm,i8 o]
end
section
variable{X:Cx}{C:Fs}{a:aO}{xa:Ex}{pins:List (ag×fe)}{σ:St}{F H:Hp}{s:ae}
theorem Kn{h':bP}{l:ag}{out:List ab}{e tk:Nat}{d:Drawn}{vs:List V}(I:Inv X pins σ H s)(ex:∀b o,s.heap.get? b=some o->h'.get? b=some o)(hl:s.heap.objs.size<=l)(g:h'.get? l=some (seqObj "list" out.toArray e))(w:cL vs out)(hz:vs.length<=aP) :
  Inv X pins σ (upd H l (.lst vs)) { s with heap:=h',drawn:=d,toks:=tk }:=by
 have I2:Inv X pins σ (upd H l (.lst vs)) { s with heap:=h',toks:=tk }:=I.laid ex hl ⟨hz,out,e,w,g⟩;exact⟨I2.ok,I2.os,I2.bare,I2.base,I2.loc,I2.cell,I2.free,I2.freeC,I2.pin,I2.hok,I2.len⟩
end
theorem wu:LO ua:=⟨mY.ir,mY.tr,fun x y h h'=>by
 by_cases e:x=y
 ·exact e
 ·have:=mY.co _ _ e h;rw[h']at this;cases this⟩
theorem yG:∀{ds:List Dat} {q:List Key},qd ds=some q->q.all sK=true->(q.map iK).map Dat.int=ds
 | [],_,h,_=>by cases h;rfl
 | d::ds,_,h,a=>by
   simp only[qd]at h;obtain⟨k,hk,h⟩:=eD h;obtain⟨q,hq,h⟩:=fM h;cases h;simp only[dQ,aF]at a;rw[aq,aq,yG hq a.2]
   cases d with
   | int i=>cases hk;rfl
   | str x=>cases hk;cases a.1
   | _=>cases hk
theorem Mo{d:Dat}{x:NK}(h:Rc d=some x)(h3:sN x<3):Qr (sN x) (cN x)=d:=by
 cases d with
 | int i=>cases h;rfl
 | str y=>
   cases h;show Dat.str ⟨((y.cps.toList.map fH).map JV).toArray⟩=_;rw[cx,show(JV ∘ fH)=id from rfl,List.map_id]
 | tup es=>
   simp only[Rc]at h;obtain⟨q,hq,h⟩:=fM h;cases h;simp only[sN]at h3 ⊢;by_cases c:q.all sK=true
   ·rw[if_pos c];show Dat.tup ((q.map iK).map .int)=_;rw[yG hq c]
   ·rw[if_neg c]at h3;omega
 | _=>cases h
theorem Dq:∀{ds:List Dat} {k:List NK},Ls ds=some k->(∀x∈k,sN x<3)->List.zipWith Qr (k.map sN) (k.map cN)=ds
 | [],_,h,_=>by cases h;rfl
 | d::ds,_,h,h3=>by
   simp only[Ls]at h;obtain⟨x,hx,h⟩:=eD h;obtain⟨q,hq,h⟩:=fM h;cases h;rw[aq,aq,List.zipWith_cons_cons,Mo hx (h3 x ja),Dq hq fun y hy=>h3 y (jt _ hy)]
theorem Dr{d:Dat}{k:List NK}(h:Pk d=some k)(h3:∀x∈k,sN x<3):EX (k.map sN) (codeN k)=d:=by
 cases d with
 | tup ds=>show Dat.tup _=_;rw[Dq h h3]
 | _=>cases h
theorem Hy:∀{ds:List Dat} {kk:List (List NK)},yo ds=some kk->kk.length=ds.length/\∀i,i<ds.length->Pk (ds.getD i .non)=some (kk.getD i [])
 | [],_,h=>by cases h;exact⟨rfl,fun i hi=>by cases hi⟩
 | d::ds,_,h=>by
   simp only[yo]at h;obtain⟨x,hx,h⟩:=eD h;obtain⟨q,hq,h⟩:=fM h;cases h;obtain⟨l,a⟩:=Hy hq;refine⟨by simp[l],fun i hi=>?_⟩
   cases i with
   | zero=>exact hx
   | succ i=>simpa using a i (by simpa using hi)
theorem C4:∀{ds:List Dat} {q:List Key},qd ds=some q->kd ds=true
 | [],_,_=>rfl
 | d::ds,_,h=>by
   simp only[qd]at h;obtain⟨k,hk,h⟩:=eD h;obtain⟨q,hq,_⟩:=fM h;have:=C4 hq
   cases d<;>first|(cases hk;done)|simp[kd,im,this]
theorem Hz:∀{ds:List Dat} {q:List NK},Ls ds=some q->kd ds=true
 | [],_,_=>rfl
 | d::ds,_,h=>by
   simp only[Ls]at h;obtain⟨k,hk,h⟩:=eD h;obtain⟨q,hq,_⟩:=fM h;have:=Hz hq
   cases d with
   | tup es=>
     simp only[Rc]at hk;obtain⟨q2,hq2,_⟩:=fM hk;simp[kd,im,this,C4 hq2]
   | int _=>simp[kd,im,this]
   | str _=>simp[kd,im,this]
   | _=>cases hk
theorem Pj{d:Dat}{q:List NK}(h:Pk d=some q):im d=true:=by
 cases d with
 | tup es=>simp[im,Hz h]
 | _=>cases h
theorem xT{K:Fg}{F:Hp}{ds:List Dat}{vs:List V}(r:cR K F ds vs):∀{js:List Nat},(∀j∈js,j<ds.length)->cR K F (js.map fun j=>ds.getD j .non) (js.map fun j=>vs.getD j .non)
 | [],_=>rfl
 | j::js,h=>by
   have hj:=h j ja;obtain⟨v,e,q⟩:=r.get (af hj);refine⟨vs.getD j .non,_,rfl,?_,xT r fun i hi=>h i (jt _ hi)⟩;show Rep K F (ds.getD j Dat.non) (vs.getD j V.non);rw[show vs.getD j V.non=v by simp[e],show ds.getD j Dat.non=ds[j] by simp[hj]];exact q
theorem xQ{kk:List (List NK)}{js:List Nat}(hsh:∀j,j<kk.length->(kk.getD j []).map sN=D6 kk)(h3:∀x∈D6 kk,x<3)(sl:Sel (fun i=>kk.getD i []) kk.length js) :
  (js.map fun j=>codeN (kk.getD j [])).Perm (kT ua (kk.map codeN)):=by
 have h3':∀j,j<kk.length->∀k∈kk.getD j [],sN k<3:=fun j hj k hk=>h3 _ (by rw[<-hsh j hj];exact eK hk)
 have n1:(js.map fun j=>codeN (kk.getD j [])).Nodup:=by
  have:=fV.mp sl.nd;refine fV.mpr (kA (fun {a b} ma mb h e=>h ?_) this);exact code_inj ((hsh _ (sl.lt a ma)).trans (hsh _ (sl.lt b mb)).symm) (h3' _ (sl.lt a ma)) e
 rw[fK n1 (p5 wu (j2 wu _))];intro z;rw[i8 wu,aX,aX];constructor
 ·rintro⟨j,hj,rfl⟩;have:=sl.lt j hj;exact⟨kk.getD j [],by rw[show kk.getD j []=kk[j] by simp[this]];exact bM this,rfl⟩
 ·rintro⟨k,hk,rfl⟩;obtain⟨i,hi,rfl⟩:=cD.mp hk;have:=sl.all i hi;obtain⟨j,hj,e⟩:=aX.mp this;refine⟨j,hj,?_⟩;show codeN (kk.getD j [])=_;rw[show kk.getD j []=kk.getD i []from e,show kk.getD i []=kk[i] by simp[hi]]
noncomputable def adr:V->ag
 | .ref a=>a
 | _=>0
theorem xH{av:Nat->ag}:∀(js:List Nat),cL (js.map fun j=>V.ref (av j)) (js.map fun j=>bZ (av j))
 | []=>.nil
 | j::js=>.cons rfl (xH js)
section
variable{prog:aS}{w:bA}
theorem VJ{h:bP}{l:ag}{items:Array ab}(hl:h.IsList l items):NW prog w h (.ref l) items.size (fun i v=>items[i]? = some v):=by
 intro A1 E1 s1 Q1 sz ex k;have hl1:s1.heap.IsList l items:=hl.at fun o e=>ex l o e;have lt:l<h.objs.size:=by obtain⟨o,e,_⟩:=hl;exact hl9 e
 have ne:l≠s1.heap.objs.size:=bN (jO lt sz);refine nH hl1 (k _ [s1.heap.objs.size,l] _ (fun A' hA=>Walks.list hA _ l ne items) (fun b hb=>?_) ⟨⟨_,aQ _ rfl,rfl,rfl⟩,hl1.push _⟩)
 rcases ao.mp hb with z|z
 ·exact .inl z
 ·exact .inr (by rw[au.mp z];exact lt)
end
section
variable{X:Cx}{pins:List (ag×fe)}{σ:St}{F H:Hp}{s:ae}{E:ab->ae->Prop}
theorem Gy{Q:VK}{Q1:ab->ae->Prop}{ds:List Dat}{vs:List V}{l:ag}{kk:List (List NK)}{d:Dat}{fr:Bool}(hh:X.A.handled=none)(room:X.A.units+8<dS)(I:Inv X pins σ H s)(g:Good F H)(t:nF X.K F l vs)(r:cR X.K F ds vs)
  (hk:yo ds=some kk)(h2:u9 kk=some (d,fr))(k:∀w F' H',Step F H F' H'->Rep X.K F' d w->(fr=true->iu X.K H H' d w)->Q w H')
  (fin:∀S s2,aB (aI X.prog X.w) X.A (call (.builtin "sorted") [.ref S]) (EP X pins σ Q) X.xe s2->Q1 (.ref S) s2):aB (aI X.prog X.w) X.A (call (.type "set") [.ref l]) Q1 E s:=by
 unfold u9 at h2;split at h2
 ·rename_i hb;obtain⟨b1,b2,b3,b4,b5⟩:=hb;cases h2;obtain⟨kl,kat⟩:=Hy hk;have vl:=r.length
  have hsh:∀j,j<kk.length->(kk.getD j []).map sN=D6 kk:=fun j hj=>by
   have:=bQ.mp b4 (kk.getD j []) (by rw[show kk.getD j []=kk[j] by simp[hj]];exact bM hj);simpa using this
  have h3:∀x∈D6 kk,x<3:=fun x hx=>by simpa using bQ.mp b3 x hx
  have h3':∀j,j<kk.length->∀k∈kk.getD j [],sN k<3:=fun j hj k hk=>h3 _ (by rw[<-hsh j hj];exact eK hk)
  have one:∀j,j<kk.length->vs.getD j .non=.ref (adr (vs.getD j .non))/\UR X.K F (kk.getD j []) (adr (vs.getD j .non)):=fun j hj=>by
   have hj':j<ds.length:=by omega
   obtain⟨v,e,q⟩:=r.get (af hj');have ek:=kat j hj';rw[show ds.getD j Dat.non=ds[j] by simp[hj']]at ek;obtain⟨a,rfl,ky⟩:=Lu ek q;rw[show vs.getD j V.non=.ref a by simp[e]];exact⟨rfl,ky⟩
  obtain⟨its,w1,pl,hz⟩:=I.lstR g t;have il:its.length=kk.length:=by have:=w1.length;omega
  have hty:∀s2:ae,(∀b o,s.heap.get? b=some o->s2.heap.get? b=some o)->s2.TypeIs (.ref l) "list":=fun s2 ex=>by
   obtain⟨o,e1,e2,_⟩:=pl.isList;exact⟨o,ex _ _ e1,e2⟩
  have isn:∀j,j<kk.length->kz X.prog X.w s.heap (kk.getD j []) (adr (vs.getD j .non)):=fun j hj=>Ph I g (one j hj).2;have hsz:its.toArray.size=kk.length:=by rw[aH,il]
  have itr:=VJ (prog:=X.prog) (w:=X.w) pl.isList;rw[hsz]at itr;refine D8 (kf:=fun i=>kk.getD i []) (av:=fun i=>adr (vs.getD i .non)) (n:=kk.length) hh hty PySem.F.sub_list_set PySem.F.sub_list_frozenset (by decide) itr (fun i v hv=>?_) isn b1 (by show X.A.units+1+1+1+1<dS;omega) fun h' tk y ex=>fin _ _ ?_
  ·have hi:i<kk.length:=by
    have:i<its.toArray.size:=by rcases cQ.mp hv with⟨q,_⟩;exact q
    omega
   obtain⟨u,hu,ru⟩:=w1.get (af (show i<vs.length by omega));have e1:its[i]? = some v:=by simpa using hv
   rw[hu]at e1;cases e1;have:=(one i hi).1;rw[show vs.getD i V.non=vs[i]'(by omega) by simp[show i<vs.length by omega]]at this ⊢;rw[this]at ru;exact ru
  ·have I2:Inv X pins σ H { s with heap:=h',toks:=tk }:=I.kept ex
   have n2:∀js,Sel (fun i=>kk.getD i []) kk.length js->js.length=(kT ua (kk.map codeN)).length:=fun js sl=>by
    have:=(xQ hsh h3 sl).length_eq
    rwa [aG]at this
   refine sorted_N (s:={ s with heap:=h',toks:=tk }) (kf:=fun i=>kk.getD i []) (av:=fun i=>adr (vs.getD i .non)) (n:=kk.length) (sh:=D6 kk) (by show X.A.units+1+1+1<dS;omega) (fun j hj=>(isn j hj).mono ex) hsh h3 b2
    (fun A' E' Q' e k'=>EZ hh y b1 A' E' Q' e fun vs' h1 d1 tk1 x1 x2 ⟨js,z1,z2⟩=>k' vs' h1 d1 tk1 x1 x2 ⟨js,z1,z2,by rw[n2 js z2];exact b5,by have:=z2.len;omega⟩) fun hp3 d3 tk3 l3 js e3 ex3 hl3 g3 sl pw=>?_
   have hfr:H l3=none:=I2.hok.fresh hl3;refine⟨.ref l3,_,Kn I2 ex3 hl3 g3 (xH (av:=fun i=>adr (vs.getD i .non)) js) (by rw[aG];have:=sl.len;rw[cj];omega),rfl,?_⟩
   have eu:kT ua (kk.map codeN)=js.map fun j=>codeN (kk.getD j []):=
    (se (le:=fun a b=>ua b a=false) (fun a b _ _ h h'=>wu.tot _ _ h' h) (pw.imp fun q=>wu.MP q) ((j2 wu _).imp fun q=>wu.MP q) (xQ hsh h3 sl)).symm
   have ed:(kT ua (kk.map codeN)).map (EX (D6 kk))=js.map fun j=>ds.getD j .non:=by
    rw[eu,cx];refine gh fun j hj=>?_;have hj':=sl.lt j hj;show EX (D6 kk) (codeN (kk.getD j []))=_;rw[<-hsh j hj'];exact Dr (kat j (by omega)) (h3' j hj')
   have er:(js.map fun j=>V.ref (adr (vs.getD j .non)))=js.map fun j=>vs.getD j .non:=gh fun j hj=>(one j (sl.lt j hj)).1.symm;have rs:=xT r fun j hj=>(show j<ds.length by have:=sl.lt j hj;omega)
   have mi:kd (js.map fun j=>ds.getD j .non)=true:=by
    have:∀js:List Nat,(∀j∈js,j<kk.length)->kd (js.map fun j=>ds.getD j Dat.non)=true:=fun js=>by
     induction js with
     | nil=>intro _;rfl
     | cons j js ih=>
       intro h;simp only[aq,kd,aF];exact⟨Pj (kat j (by have:=h j ja;omega)),ih fun i hi=>h i (jt _ hi)⟩
    exact this js sl.lt
   rw[er];refine k (.ref l3) _ _ (Step.alloc g hfr) ?_ fun _=>?_
   ·rw[ed];exact⟨l3,_,rfl,.inl (.inl cJ),rs.mono (cu.upd (g.sub.free hfr))⟩
   ·rw[ed];exact .lst (cu.refl _) hfr (.lK g mi rs)
 ·cases h2
end
section
variable{prog:aS}{w:bA}{A:bC}{s:ae}{S:ag}{n:Nat}
end
section
variable{X:Cx}{C:Fs}{a:aO}{xa:Ex}
theorem KE{p p2 pos pos2:fS}(hu:X.A.units+21<dS)(hcalm:X.calm=true)(hg:Gl X "sorted")(hm:X.mg "sorted"=none)(hg2:Gl X "set")(hm2:X.mg "set"=none)(ha:SE X C a xa)
  (hs:bp [a] X.env=[(false,eval a X.env)]) :
  SE X C (.Call (.Name "sorted" p) [.Call (.Name "set" p2) [a] [] pos2] [] pos) (.blt .sset [xa]):=by
 intro pins s σ H Q I h;obtain⟨ρ,d,fr,h,F,g,R,k⟩:=h;obtain⟨ds,h1,h2⟩:=eD h;obtain⟨⟨da,fa⟩,h3,h1⟩:=eD h1;cases h1;refine ie (n6 I hg hm (by decide +kernel:bootBuiltins "sorted"=some (.builtin "sorted")) (oG ?_ rfl rfl));show aB _ _ (spliced ((false,eval (.Call (.Name "set" p2) [a] [] pos2) X.env)::backTo pos [])) _ _ s;refine DN ?_;refine ie (n6 I hg2 hm2 (by decide +kernel:bootBuiltins "set"=some (.type "set")) (eX ?_ (by rw[hs];rfl) rfl));have hpa:PA X [a] (gA X.K C [xa]):=mT ha sQ (by rw[hs];rfl);have hev:jR C [xa] ρ=some [da]:=by simp only[jR,h3,ah,bE]
 refine iL (hpa pos2 pins s σ H (fun vs H1=>∃F1,Step F H F1 H1/\cR X.K F1 [da] vs) I ⟨ρ,[da],hev,F,g,R,fun vs F1 H1 eZ r1=>⟨F1,eZ,r1⟩⟩) fun us s1 ⟨vs,H1,I1,rv,F1,eZ,r1⟩=>?_;have hh:=I.ok.hd hcalm;obtain⟨v,w,rfl,rda,e⟩:=r1;cases e;obtain⟨u,rfl,ru⟩:=vals1 rv
 cases da with
 | lst ds=>
   obtain⟨l,vs,rfl,t,r'⟩:=rda;cases ru;simp only[gY,b1,BN,t4,BK,BI,bL,NR,BO,BJ]at h2;obtain⟨kk,q1,q2⟩:=eD h2;exact Gy hh (by omega) I1 eZ.good t r' q1 q2 (fun w F' H' st r f=>k w F' H' (eZ.trans st) r fun z=>iu.back (F:=F1) eZ.hh (f z)) fun S s2 q=>Fu q
 | _=>simp only[gY,b1,BN,t4,BK,BI,bL,NR,BO,BJ]at h2;cases h2
end
theorem qW:∀{ks:List Key},CH ks=true->ks.Nodup
 | [],_=>iH
 | k::ks,h=>by
   simp only[CH,aF,mw,FV,decide_eq_true_eq]at h;exact bX.mpr ⟨fun m=>h.1 k m rfl,qW h.2⟩
theorem vf:∀(more acc:List (Key×V)),((acc++more).map (·.1)).Nodup->oW acc more=acc++more
 | [],acc,_=>by show acc=_;rw[aL]
 | p::r,acc,h=>by
   have hn:(acc.any fun kv=>decide (kv.1=p.1))=false:=by
    rw[FV];intro q hq e;rw[dY,aq]at h;have:=(cV.mp h).2.2 q.1 (eK hq) p.1 ja;exact this (by simpa using e)
   show oW (putK acc p.1 p.2) r=_;rw[show putK acc p.1 p.2=acc++[p] by unfold putK;rw[hn];rfl,vf r (acc++[p]) (by rw[aC];exact h),aC];rfl
noncomputable def MD:Option aO->Option Key
 | some (.Constant (.str x) _ _)=>some (.inr x)
 | some (.Constant (.int i) _ _)=>some (.inl i)
 | _=>none
noncomputable def tS:List (Option aO)->Option (List Key)
 | []=>some []
 | k::ks=>(MD k).bind fun j=>(tS ks).map fun r=>j::r
section
variable{X:Cx}{C:Fs}{pos:fS}
noncomputable def Kd(k:Key):TE:=fun _ H Q=>Q (kV k) H
theorem OZ{k:Option aO}{j:Key}(h:MD k=some j):∃e,k=some e/\PE X e (Kd j):=by
 unfold MD at h;split at h
 ·cases h;exact⟨_,rfl,PE.imp Hg fun σ H Q q=>q⟩
 ·cases h;exact⟨_,rfl,PE.imp Hi fun σ H Q q=>q⟩
 ·cases h
theorem Ct:∀{keys:List (Option aO)} {ks:List Key} {values:List aO} {xs:List Ex},tS keys=some ks->gR (fun e x=>SE X C e x) values xs->keys.length=values.length->
  TJ X pos keys values ((ks.zip xs).map fun q=>(Kd q.1,gE X.K C q.2))
 | [],_,_,_,h,.nil,_=>by cases h;exact K4
 | [],_,_,_,_,.cons _ _,h=>by cases h
 | _::_,_,_,_,_,.nil,h=>by cases h
 | k::keys,_,_,_,h,.cons a r,hl=>by
   simp only[tS]at h;obtain⟨j,h1,h⟩:=eD h;obtain⟨q,h2,h⟩:=fM h;cases h;obtain⟨e,rfl,pk⟩:=OZ (X:=X) h1;exact G8 pk a (Ct h2 r (by simpa using hl))
theorem vB:∀{keys:List (Option aO)} {ks:List Key},tS keys=some ks->ks.length=keys.length/\keys.all (·.isSome)=true
 | [],_,h=>by cases h;exact⟨rfl,rfl⟩
 | k::keys,_,h=>by
   simp only[tS]at h;obtain⟨j,h1,h⟩:=eD h;obtain⟨q,h2,h⟩:=fM h;cases h;obtain⟨a,b⟩:=vB h2
   have hk:k.isSome=true:=by unfold MD at h1;split at h1<;>first|rfl|cases h1
   exact⟨by simp[a],by rw[dQ,hk,b];rfl⟩
theorem yh{ρ:gD}{σ:St}:∀{ks:List Key} {xs:List Ex} {ds:List Dat} {F H:Hp} {Q:List (V×V)->Hp->Prop},ks.length=xs.length->jR C xs ρ=some ds->Good F H->me X.K F σ ρ->
  (∀vs F' H',Step F H F' H'->cR X.K F' ds vs->Q ((ks.zip vs).map fun kv=>(kV kv.1,kv.2)) H')->sv ((ks.zip xs).map fun q=>(Kd q.1,gE X.K C q.2)) σ H Q
 | [],[],_,F,H,Q,_,h,g,R,k=>by
   simp only[jR]at h;cases h;exact k [] F H (Step.refl g) rfl
 | [],_::_,_,_,_,_,hl,_,_,_,_=>by cases hl
 | _::_,[],_,_,_,_,hl,_,_,_,_=>by cases hl
 | j::ks,x::xs,_,F,H,Q,hl,h,g,R,k=>by
   simp only[jR]at h;obtain⟨⟨d,fr⟩,h1,h⟩:=eD h;obtain⟨r,h2,h⟩:=fM h;cases h;show Kd j σ H fun a H1=>gE X.K C x σ H1 fun b H2=>sv _ σ H2 fun ps H3=>Q ((a,b)::ps) H3;exact⟨ρ,d,fr,h1,F,g,R,fun v F1 H1 eZ r1 _=>yh (by simpa using hl) h2 eZ.good (R.mono eZ.ff) fun vs F2 H2 iB r2=>k (v::vs) F2 H2 (eZ.trans iB) ⟨v,vs,rfl,r1.mono iB.ff,r2⟩⟩
theorem OE{keys:List (Option aO)}{ks:List Key}{values:List aO}{xs:List Ex}(hk:tS keys=some ks)(hv:gR (fun e x=>SE X C e x) values xs)(hl:keys.length=values.length)(h0:keys≠[])(h15:keys.length<=15) :
  SE X C (.Dict keys values pos) (.xv ks xs):=by
 obtain⟨kl,ka⟩:=vB hk;refine PE.imp (Lb (Ct (C:=C) hk hv hl) ka hl h0 h15) fun σ H Q ⟨ρ,d,fr,h,F,g,R,k⟩ p hp=>?_;obtain⟨ds,h1,h⟩:=eD h;split at h
 ·rename_i hc;cases h
  have g0:Good F (upd H p (.dK [])):=⟨g.sub.trans (cu.upd hp),fun a vs e=>by
   by_cases z:a=p
   ·subst z;rw[cJ]at e;cases e
   ·rw[cm z]at e;exact g.tup a vs e⟩
  have hF:F p=none:=g.sub.free hp;have xl:=mU hv;refine yh (X:=X) (by omega) h1 g0 R fun vs F2 H2 st r=>?_;have vl:=r.length;have F2p:F2 p=none:=st.un p _ cJ hF;have e1:(ks.zip vs).map (·.1)=ks:=by rw[List.map_fst_zip];omega
  have e2:(ks.zip vs).map (·.2)=vs:=by rw[List.map_snd_zip];omega
  refine⟨st.hh p _ cJ,ks.zip vs,rfl,by rw[g9];omega,?_⟩;rw[vf (ks.zip vs) [] (by rw[dW,e1];exact qW hc.2.1),dW];refine k (.ref p) (upd F2 p (.dK (ks.zip vs))) _ ⟨⟨fun a o e=>?_,fun a ws e=>?_⟩,fun a o e=>?_,fun a o e=>?_,fun a o e n=>?_⟩ ⟨p,ks.zip vs,rfl,cJ,e1,by rw[e2];exact r.mono (cu.upd F2p)⟩ bV
  ·by_cases z:a=p
   ·subst z;rw[cJ]at e ⊢;exact e
   ·rw[cm z]at e ⊢;exact st.good.sub a o e
  ·by_cases z:a=p
   ·subst z;rw[cJ]at e;cases e
   ·rw[cm z]at e ⊢;exact st.good.tup a ws e
  ·have z:a≠p:=fun z=>by rw[z,hF]at e;cases e
   rw[cm z];exact st.ff a o e
  ·have z:a≠p:=fun z=>by rw[z,hp]at e;cases e
   rw[cm z];exact st.hh a o (by rw[cm z];exact e)
  ·have z:a≠p:=fun z=>by rw[z,hp]at e;cases e
   rw[cm z];exact st.un a o (by rw[cm z];exact e) n
 ·cases h
theorem GG{k:Nat}{f:ag}{fd:fj}{ps:List bh}{x:bh}{p:fS}(j n:Nat)(G:m8 X.prog X.w X.K X.mg X.base DH k f fd ps (Ng X.K n (C j)))(hr:mI k X.A)(hg:Gl X x)(hm:X.mg x=some (.ref f))(hk:eE X.K (.ref f)=true)(hb:Binds X.K fd ps [])
  (hn:n=0)(hdb:(x == ("__debug__":bh))=false:=by decide):SE X C (.Call (.Name x p) [] [] pos) (.call j []):=
 PE.imp (Hk G hr hg hm hk hb .nil Nl hdb) fun σ H Q h=>by
  have h':=rU (X:=X) (xs:=[]) (f:=C j) (x:=.call j []) (fun ρ d fr h=>by
   exact eD h) σ H Q h
  obtain⟨ρ,ds,h1,F,g,R,k⟩:=h';simp only[jR]at h1;cases h1;show Ng X.K n (C j) ([]++[]) H Q E0;exact⟨by rw[hn];rfl,k [] F H (Step.refl g) rfl⟩
end
structure Sg where
 fns:List (bh×Nat)
 con:List (bh×Dat)
structure Sc where
 N:List bh
 nm:List (bh×jB)
 top:Bool
noncomputable def kZ:List bh:=["len","range","zip","all","any","isinstance","list","tuple","reversed","int","bool","str","sorted","set","min","max","enumerate","sum","dict","abs"]
noncomputable def uE(x:bh):List bh->Option Nat
 | []=>none
 | y::r=>if y=x then some 0 else(uE x r).map (·+ 1)
theorem ju{x:bh}:∀{N:List bh} {i:Nat},uE x N=some i->N[i]? = some x
 | [],_,h=>by cases h
 | y::r,i,h=>by
   have h:(if y=x then some 0 else(uE x r).map (·+ 1))=some i:=h;split at h
   ·cases h;rename_i e;subst e;rfl
   ·obtain⟨j,h1,rfl⟩:=fM h;exact(bD ..).trans (ju h1)
noncomputable def Ip(x:bh):Nat->List (bh×Nat)->Option (Nat×Nat)
 | _,[]=>none
 | k,y::r=>if y.1=x then some (k,y.2)else Ip x (k+1) r
theorem zd{x:bh}:∀{L:List (bh×Nat)} {k j n:Nat},Ip x k L=some (j,n)->∃i,j=k+i/\L[i]? = some (x,n)
 | [],_,_,_,h=>by cases h
 | y::r,k,j,n,h=>by
   have h:(if y.1=x then some (k,y.2)else Ip x (k+1) r)=some (j,n):=h;split at h
   ·cases h;rename_i e;subst e;exact⟨0,rfl,rfl⟩
   ·obtain⟨i,e1,e2⟩:=zd h;exact⟨i+1,by omega,(bD ..).trans e2⟩
noncomputable def n0(x:bh):Bool:=!(x == ("__debug__":bh)) && !(x == ("__classdict__":bh)) && !(x == ("__name__":bh))
noncomputable def UU:Option jB->Bool
 | some .local=>true
 | some .cell=>true
 | some .free=>true
 | _=>false
noncomputable def VE:Option jB->Bool
 | some .local=>true
 | some .cell=>true
 | _=>false
noncomputable def DV(S:Sc)(x:bh):Bool:=UU (S.nm.lookup x)
noncomputable def wt(S:Sc)(x:bh):Bool:=VE (S.nm.lookup x)
noncomputable def Me(S:Sc)(x:bh):Bool:=S.nm.lookup x == some .globalImplicit
noncomputable def fi:aO->Bool
 | .Starred _ _=>false
 | _=>true
noncomputable def qD:aO->Bool
 | .Set _ _ _=>false
 | _=>true
noncomputable def sU:aO->Bool
 | .IfExp _ _ _ _=>false
 | _=>true
noncomputable def Tf:uh->Option NZ
 | .Add=>some .add
 | .Mult=>some .mul
 | .FloorDiv=>some .fdiv
 | .Mod=>some .mod
 | .RShift=>some .shr
 | .BitAnd=>some .band
 | _=>none
noncomputable def Te:xj->Option JL
 | .Eq=>some .eq
 | .NotEq=>some .ne
 | .Gt=>some .gt
 | .Is=>some .isn
 | .In=>some .isin
 | .NotIn=>some .nin
 | _=>none
noncomputable def VY(x:bh):Option Ty:=
 if x="int" then some .int else if x="bool" then some .bool else if x="str" then some .str else if x="tuple" then some .tuple else if x="list" then some .list else none
noncomputable def QE(x:bh):Option JM:=
 if x="len" then some .len else if x="tuple" then some .tuple else if x="all" then some .all else none
noncomputable def xV(S:Sc)(sc:fX):List (bh×jB):=sc.names.map fun p=>if(p.2 == eB && S.nm.lookup p.1 == some .cell)then(p.1,lE)else p
noncomputable def lV:aO->Option bh
 | .Name x _=>some x
 | _=>none
theorem gQ{e:aO}{x:bh}(h:lV e=some x):∃p,e=.Name x p:=by
 cases e with
 | Name y p=>cases h;exact⟨p,rfl⟩
 | _=>cases h
noncomputable def namesOf:List aO->Option (List bh)
 | []=>some []
 | e::r=>(lV e).bind fun t=>(namesOf r).map fun ts=>t::ts
noncomputable def oj:aO->Option (Bool×List bh)
 | .Name t _=>some (true,[t])
 | .Tuple es _ _=>(namesOf es).map fun ts=>(false,ts)
 | _=>none
noncomputable def freeOf(sc:fX):List bh:=sc.names.filterMap fun p=>if p.2=.free then some p.1 else none
noncomputable def qY(N:List bh):List bh->Option (List Nat)
 | []=>some []
 | x::r=>(uE x N).bind fun i=>(qY N r).map fun is=>i::is
noncomputable def IQ(S:Sc)(sc:fX)(tn cn:List bh):Bool:=
 decide (sc.kind=.function) && sc.names.all (fun y=>!decide (y.2=.cell)) && sc.names.all (fun y=>!decide (y.2=.local) || decide (sc.names.lookup y.1=some .local))
  && sc.names.all (fun y=>!decide (y.2=.free) || decide (S.nm.lookup y.1=some .cell) || decide (S.nm.lookup y.1=some .free))
  && cn.all (fun x=>(decide (S.nm.lookup x=some .cell) || decide (S.nm.lookup x=some .free)) && decide (sc.names.lookup x=some .free))
  && decide (tn++cn).Nodup && tn.all fun x=>decide (sc.names.lookup x=some .local)
noncomputable def inner(S:Sc)(sc:fX)(tn cn:List bh):Sc:=⟨tn++cn,xV S sc,false⟩
noncomputable def yZ(f:Ex->Ex->Ex):List Ex->Option Ex
 | []=>none
 | x::r=>match r with
   | []=>some x
   | _::_=>(yZ f r).map (f x)
noncomputable def tm(f:aO->Option Ex):List aO->Option (List Ex)
 | []=>some []
 | e::r=>if fi e=true then(f e).bind fun x=>(tm f r).map fun xs=>x::xs else none
noncomputable def nv{α:Type}:List α->Option α
 | []=>none
 | a::r=>if r.isEmpty=true then some a else none
theorem jr{α:Type}{l:List α}{a:α}(h:nv l=some a):l=[a]:=by
 match l,h with
 | [b],h=>cases h;rfl
noncomputable def Hr{α:Type}:List α->Option (α×α)
 | []=>none
 | a::r=>(nv r).map fun b=>(a,b)
theorem ym{α:Type}{l:List α}{p:α×α}(h:Hr l=some p):l=[p.1,p.2]:=by
 cases l with
 | nil=>cases h
 | cons a r=>
   obtain⟨b,h1,rfl⟩:=fM h;rw[jr h1]
structure Ca where
 fn:aO
 args:List aO
 kws:List qO
 pos:fS
noncomputable def Qx:aO->Option Ca
 | .Call fn args kws p=>some ⟨fn,args,kws,p⟩
 | _=>none
theorem Dv{e:aO}{c:Ca}(h:Qx e=some c):e=.Call c.fn c.args c.kws c.pos:=by
 cases e with
 | Call fn args kws p=>cases h;rfl
 | _=>cases h
noncomputable def BA(e:aO):Option (bh×List aO):=(Qx e).bind fun c=>if c.kws.isEmpty=true then(lV c.fn).map fun x=>(x,c.args)else none
theorem vD{e:aO}{x:bh}{args:List aO}(h:BA e=some (x,args)):∃p q,e=.Call (.Name x p) args [] q:=by
 obtain⟨⟨fn,as,kws,q⟩,h0,h1⟩:=eD h;obtain rfl:=Dv h0;split at h1
 ·rename_i hk;obtain⟨y,h2,h3⟩:=fM h1;cases h3;obtain⟨p,h4⟩:=gQ h2;obtain rfl:fn=.Name x p:=h4;exact⟨p,q,congrArg (fun k=>Expr.Call _ _ k _) (kc.mp hk)⟩
 ·cases h1
noncomputable def isTup:aO->Bool
 | .Tuple _ _ _=>true
 | _=>false
theorem HX{e:aO}(h:isTup e=true):∃es k p,e=.Tuple es k p:=by
 cases e with
 | Tuple es k p=>exact⟨es,k,p,rfl⟩
 | _=>cases h
noncomputable def NJ(S:Sc)(f:aO->Option Ex)(tg:aO)(x:bh)(args:List aO):Option Iw:=
 if Me S x=true then(tm f args).bind fun xs=>
  if x="range" then(nv xs).map fun a=>.rng [a]
  else if(decide (x="zip") && isTup tg)=true then(Hr xs).map fun p=>.zip [p.1,p.2]
  else none
 else none
noncomputable def PY(x:bh):Bool:=decide (x="range") || decide (x="zip")
noncomputable def HU(e:aO):Option (bh×List aO):=(BA e).bind fun c=>if PY c.1=true then some c else none
noncomputable def cI(S:Sc)(f:aO->Option Ex)(tg iter:aO):Option Iw:=match HU iter with
 | some c=>NJ S f tg c.1 c.2
 | none=>(f iter).map .itv
noncomputable def V0(f:aO->Option Ex):List aO->Option (List Ex)
 | []=>some []
 | c::r=>if(r.isEmpty && sU c)=true then(f c).map fun x=>[x]else none
noncomputable def IW(f:aO->Option Ex):Option aO->Option (Option Ex)
 | none=>some none
 | some e=>(f e).map some
noncomputable def QC:Const->Option Dat
 | .int i=>some (.int i)
 | .bool b=>some (.bl b)
 | .none=>some .non
 | .str x=>some (.str x)
 | _=>none
noncomputable def NG(G:Sg)(S:Sc)(x:bh):Option Ex:=if n0 x=true then(if DV S x=true then(uE x S.N).map .var else if Me S x=true then(G.con.lookup x).map .con else none)else none
noncomputable def QD(f:aO->Option Ex)(es:List aO):BoolOp->Option Ex
 | .And=>(tm f es).bind (yZ .and)
 | .Or=>(tm f es).bind (yZ .or)
noncomputable def NP(f:aO->Option Ex)(a:aO)(ops:List xj)(bs:List aO):Option Ex:=(f a).bind fun xa=>match nv ops with
 | some op=>(nv bs).bind fun b=>if qD b=true then(Te op).bind fun o=>(f b).map fun xb=>.cmp o xa xb else none
 | none=>none
noncomputable def NN(f:aO->Option Ex)(ks:List (Option aO))(vs:List aO):Option Ex:=
 if(decide (ks.length=vs.length) && decide (ks.length<=15) && decide (ks≠[]))=true then(tS ks).bind fun kk=>(tm f vs).map fun xs=>.xv kk xs else none
noncomputable def om:aO->Option (Option aO×Option aO×Option aO)
 | .Slice lo hi st _=>some (lo,hi,st)
 | _=>none
noncomputable def S9(f:aO->Option Ex)(a b:aO):Option Ex:=(f a).bind fun xa=>match om b with
 | some t=>if t.2.2.isNone=true then(IW f t.1).bind fun xl=>(IW f t.2.1).map fun xh=>.sl xa xl xh else none
 | none=>(f b).map fun xb=>.ix xa xb
noncomputable def NH(G:Sg)(S:Sc)(f:aO->Option Ex)(o:aO)(m:bh)(ap:fS)(args:List aO)(cp:fS):Option Ex:=
 if(ap.endLine == cp.line)=true then(tm f args).bind fun xs=>if baseOk o=true then(f o).bind fun xo=>(QA m args.length).map fun mt=>.lW mt xo xs else none
 else none
noncomputable def VZ(S:Sc)(f:aO->Option Ex)(args:List aO):Option Ex:=(Hr args).bind fun p=>(lV p.2).bind fun t=>
 if(Me S "isinstance" && Me S t && fi p.1)=true then(VY t).bind fun ty=>(f p.1).map fun xa=>.blt (.isi ty) [xa]else none
noncomputable def Qz(S:Sc)(f:aO->Option Ex)(x y:bh)(b:JM)(args:List aO):Option Ex:=(nv args).bind fun e=>(BA e).bind fun c=>if c.1=y then(nv c.2).bind fun a=>
 if(Me S x && Me S y && fi a)=true then(f a).map fun xa=>.blt b [xa]else none else none
noncomputable def Td(G:Sg)(S:Sc)(x:bh)(xs:List Ex):Option Ex:=
 if(n0 x && Me S x)=true then match Ip x 0 G.fns with
  | some jn=>if xs.length=jn.2 then some (.call jn.1 xs)else none
  | none=>match nv xs with
    | some xa=>(QE x).map fun b=>.blt b [xa]
    | none=>none
 else none
noncomputable def BB(G:Sg)(S:Sc)(f:aO->Option Ex)(x:bh)(args:List aO):Option Ex:=
 if x="isinstance" then VZ S f args else match(if x="sorted" then Qz S f "sorted" "set" .sset args else none)with
  | some z=>some z
  | none=>(tm f args).bind (Td G S x)
noncomputable def wR:aO->Option (aO×bh×fS)
 | .Attribute o m ap=>some (o,m,ap)
 | _=>none
theorem vL{e:aO}{t:aO×bh×fS}(h:wR e=some t):e=.Attribute t.1 t.2.1 t.2.2:=by
 cases e with
 | Attribute o m ap=>cases h;rfl
 | _=>cases h
noncomputable def Ja(G:Sg)(S:Sc)(f:aO->Option Ex)(fn:aO)(args:List aO)(cp:fS):Option Ex:=match wR fn with
 | some t=>NH G S f t.1 t.2.1 t.2.2 args cp
 | none=>(lV fn).bind fun x=>BB G S f x args
structure Gn where
 tg:aO
 it:aO
 ifs:List aO
noncomputable def Ny(gs:List Comprehension):Option Gn:=(nv gs).bind fun g=>if g.is_async=0 then some ⟨g.target,g.iter,g.ifs⟩else none
noncomputable def NO(S:Sc)(f:Sc->aO->Option Ex)(elt:aO)(g:Gn)(sc:fX):Option Ex:=(oj g.tg).bind fun t=>(qY S.N (freeOf sc)).bind fun caps=>
 if(IQ S sc t.2 (freeOf sc) && qD g.it)=true then
  (cI S (f S) g.tg g.it).bind fun it=>(V0 (f (inner S sc t.2 (freeOf sc))) g.ifs).bind fun xs=>(f (inner S sc t.2 (freeOf sc)) elt).map fun xe=>.comp t.2.length t.1 caps it xs xe
 else none
noncomputable def cE(G:Sg):Nat->Sc->aO->Option Ex
 | 0,_,_=>none
 | n+1,S,e=>match e with
   | .Constant c _ _=>(QC c).map .con
   | .Name x _=>NG G S x
   | .BinOp a op b _=>(Tf op).bind fun o=>(cE G n S a).bind fun xa=>(cE G n S b).map fun xb=>.bin o xa xb
   | .BoolOp op es _=>if es.all sU=true then QD (cE G n S) es op else none
   | .Compare a ops bs _=>NP (cE G n S) a ops bs
   | .IfExp c a b _=>if sU c=true then(cE G n S c).bind fun xc=>(cE G n S a).bind fun xa=>(cE G n S b).map fun xb=>.ite xc xa xb else none
   | .Tuple es _ _=>(tm (cE G n S) es).map .tup
   | .List es _=>(tm (cE G n S) es).map .lst
   | .Dict ks vs _=>NN (cE G n S) ks vs
   | .Subscript a b _=>S9 (cE G n S) a b
   | .Call fn args kws cp=>if kws.isEmpty=true then Ja G S (cE G n S) fn args cp else none
   | .ListComp elt gs sc _=>(Ny gs).bind fun g=>NO S (cE G n) elt g sc
   | _=>none
def CV(K:Fg)(d:Dat)(v:V):Prop:=(∀F,Rep K F d v)/\∀a,v=.ref a->∃o,K.lookup a=some o/\o.cls=.type "tuple"/\o.dict=none
structure pE(G:Sg)(C:Fs)(S:Sc)(X:Cx):Prop where
 N:X.N=S.N
 nm:X.env.scope.names=S.nm
 kind:X.env.scope.kind=.function
 calm:X.calm=true
 un:X.A.units+21<dS
 xe:X.xe=fun _ _=>False
 fn:S.top=true->∀x,X.fn x=true
 fns:∀(j:Nat) x n,G.fns[j]? = some (x,n)->∃k f fd ps,m8 X.prog X.w X.K X.mg X.base DH k f fd ps (Ng X.K n (C j))/\mI k X.A/\X.mg x=some (.ref f)/\eE X.K (.ref f)=true/\Binds X.K fd ps []
 blt:∀x∈kZ,X.mg x=none
 con:∀x d,G.con.lookup x=some d->∃v u,X.mg x=some u/\RelV v u/\CV X.K d v
inductive Args (P:aO->Ex->Prop):List aO->List Ex->Prop
 | nil:Args P [] []
 | cons {e:aO} {es:List aO} {x:Ex} {xs:List Ex}:fi e=true->P e x->Args P es xs->Args P (e::es) (x::xs)
theorem cM{α:Type}{b:Bool}{x:Option α}{y:α}(h:(if b=true then x else none)=some y):b=true/\x=some y:=by
 split at h
 ·exact⟨by assumption,h⟩
 ·cases h
section
variable{G:Sg}{C:Fs}{S:Sc}{X:Cx}{a b c e:aO}{xa xb xc:Ex}{pos:fS}{es:List aO}{xs:List Ex}{x:bh}{f:aO->Option Ex}
theorem rG(T:pE G C S X)(h:DV S x=true):NU X.env.scope x:=by
 unfold DV at h;unfold NU;rw[T.nm]
 cases q:S.nm.lookup x with
 | none=>rw[q]at h;cases h
 | some k=>rw[q]at h;cases k<;>first|(simp;done)|cases h
theorem rP(T:pE G C S X)(h:wt S x=true):L2.Loc X.env.scope x:=by
 unfold wt at h;unfold L2.Loc;rw[T.nm]
 cases q:S.nm.lookup x with
 | none=>rw[q]at h;cases h
 | some k=>rw[q]at h;cases k<;>first|(simp;done)|cases h
theorem mZ(T:pE G C S X)(h:Me S x=true):Gl X x:=by
 unfold Gl qr;rw[T.nm];exact beq_iff_eq.mp h
theorem kI(h:n0 x=true):(x == ("__debug__":bh))=false/\(x == ("__classdict__":bh))=false/\x≠"__name__":=by
 unfold n0 at h;simp only[aF,mw]at h;exact⟨h.1.1,h.1.2,fun z=>by have:=h.2;rw[z]at this;revert this;decide⟩
theorem dZ{env:uq}(h:fi e=true):bp (e::es) env=(false,eval e env)::bp es env:=by
 cases e<;>first|rfl|cases h
theorem sD{env:uq}{pos:fS}:∀{es:List aO},es.all fi=true->(backTo pos (bp es env)).any (·.1)=false
 | [],_=>rfl
 | e::es,h=>by
   rw[dQ,aF]at h;rw[dZ h.1];have q:=sD (pos:=pos) (env:=env) h.2;unfold backTo at q ⊢;rw[aq,pO,q];rfl
theorem jV{P:aO->Ex->Prop}(hf:∀e x,f e=some x->P e x):∀{es:List aO} {xs:List Ex},tm f es=some xs->Args P es xs
 | [],_,h=>by cases h;exact .nil
 | e::r,_,h=>by
   obtain⟨hs,h⟩:=cM h;obtain⟨x,h1,h⟩:=eD h;obtain⟨xs,h2,rfl⟩:=fM h;exact .cons hs (hf _ _ h1) (jV hf h2)
theorem Args.sa:∀{es:List aO} {xs:List Ex},Args (SE X C) es xs->SA X C es xs
 | _,_,.nil=>sQ
 | _,_,.cons hs h r=>mT h r.sa (dZ hs)
theorem Args.sf:∀{es:List aO} {xs:List Ex},Args (SE X C) es xs->SF X C es xs
 | _,_,.nil=>Ot
 | _,_,.cons hs h r=>Ky h r.sf (dZ hs)
theorem Args.star{P:aO->Ex->Prop}:∀{es:List aO} {xs:List Ex},Args P es xs->es.all fi=true
 | _,_,.nil=>rfl
 | _,_,.cons hs _ r=>by rw[dQ,hs,r.star];rfl
theorem Args.len{P:aO->Ex->Prop}:∀{es:List aO} {xs:List Ex},Args P es xs->xs.length=es.length
 | _,_,.nil=>rfl
 | _,_,.cons _ _ r=>congrArg (·+ 1) r.len
theorem Args.pair{P:aO->Ex->Prop}:∀{es:List aO} {xs:List Ex},Args P es xs->gR P es xs
 | _,_,.nil=>.nil
 | _,_,.cons _ h r=>.cons h r.pair
theorem Args.one{P:aO->Ex->Prop}{z:Ex}(h:Args P es [z]):∃a,es=[a]/\fi a=true/\P a z:=by
 cases h with
 | cons s p r=>cases r;exact⟨_,rfl,s,p⟩
theorem Args.two{P:aO->Ex->Prop}{z w:Ex}(h:Args P es [z,w]):∃a b,es=[a,b]/\fi a=true/\fi b=true/\P a z/\P b w:=by
 cases h with
 | cons s p r=>
   obtain⟨b,rfl,s',p'⟩:=r.one;exact⟨_,b,rfl,s,s',p,p'⟩
theorem OI{z w:Ex}(s:fi a=true)(s':fi b=true)(ha:SE X C a z)(hb:SE X C b w):SA X C [a,b] [z,w]:=mT ha (mT hb sQ (dZ s')) (dZ s)
theorem Gw{env:uq}(s:fi a=true)(s':fi b=true):bp [a,b] env=[(false,eval a env),(false,eval b env)]:=(dZ s).trans (congrArg _ (dZ s'))
theorem MI{op:uh}{o:NZ}(h:Tf op=some o):kM X (binaryOp op) (gB X.K (gm o)):=by
 cases op<;>first|(cases h;first|exact Lo|exact Li|exact Hm|exact Lj|exact Lg|exact Ln)|cases h
theorem Dx{op:xj}{o:JL}(hu:X.A.units+21<dS)(h:Te op=some o):kM X (compareOp op) (gB X.K (rz o)):=by
 cases op<;>first|(cases h;first|exact Pc (by omega)|exact O6 (by omega)|exact Pb|exact Lk|exact Pa hu|exact Lh hu)|cases h
theorem Hw{op:xj}(h:qD b=true):behindInMarks op b=false:=by
 cases b<;>first|rfl|cases h
def Q7(X:Cx)(C:Fs)(e:aO)(x:Ex):Prop:=SE X C e x/\(sU e=true->ST X C e x)
theorem vw:∀{es:List aO} {xs:List Ex} {x:Ex},Args (Q7 X C) es xs->es.all sU=true->yZ .and xs=some x->SE X C (.BoolOp .And es pos) x/\SW X C (.BoolOp .And es pos) x
 | _,_,_,.nil,_,h=>by cases h
 | _,_,_,.cons _ p .nil,n,h=>by
   rw[dQ,aF]at n;cases h;exact⟨Ck p.1,Ke (p.2 n.1)⟩
 | _,_,_,.cons _ p (.cons s q r),n,h=>by
   rw[dQ,aF]at n;obtain⟨z,h1,rfl⟩:=fM h;obtain⟨i1,i2⟩:=vw (.cons s q r) n.2 h1;exact⟨OH p.1 i1,Oc (p.2 n.1) i2⟩
theorem yY:∀{es:List aO} {xs:List Ex} {x:Ex},Args (Q7 X C) es xs->es.all sU=true->yZ .or xs=some x->SE X C (.BoolOp .Or es pos) x/\SW X C (.BoolOp .Or es pos) x
 | _,_,_,.nil,_,h=>by cases h
 | _,_,_,.cons _ p .nil,n,h=>by
   rw[dQ,aF]at n;cases h;exact⟨Ck p.1,Ob (p.2 n.1)⟩
 | _,_,_,.cons _ p (.cons s q r),n,h=>by
   rw[dQ,aF]at n;obtain⟨z,h1,rfl⟩:=fM h;obtain⟨i1,i2⟩:=yY (.cons s q r) n.2 h1;exact⟨RK p.1 i1,RG (p.2 n.1) i2⟩
theorem KJ{bt:JM}{p:fS}(T:pE G C S X)(hb:QE x=some bt)(hp:n0 x=true)(hg:Me S x=true)(hs:fi e=true)(he:SE X C e xa):SE X C (.Call (.Name x p) [e] [] pos) (.blt bt [xa]):=by
 have h1:bp [e] X.env=(false,eval e X.env)::bp [] X.env:=dZ hs;have ha:SA X C [e] [xa]:=mT he sQ h1;obtain⟨d1,d2,d3⟩:=kI hp;have gl:=mZ T hg;unfold QE at hb;split at hb
 ·rename_i q;subst q;cases hb;exact Cj Fe gl (T.blt _ (by decide +kernel)) PySem.boot_len ha d3 d1 h1 rfl
 split at hb
 ·rename_i q;subst q;cases hb;exact KL zr gl (T.blt _ (by decide +kernel)) (by decide +kernel) ha d3 d1 h1 rfl
 split at hb
 ·rename_i q;subst q;cases hb;exact Cj (Fh T.calm) gl (T.blt _ (by decide +kernel)) (by decide +kernel) ha d3 d1 h1 rfl
 ·cases hb
theorem MF{p:fS}{z:Ex}(T:pE G C S X)(ha:Args (SE X C) es xs)(h:Td G S x xs=some z):SE X C (.Call (.Name x p) es [] pos) z:=by
 obtain⟨hp,h⟩:=cM h;rw[aF]at hp;obtain⟨d1,d2,d3⟩:=kI hp.1
 cases hj:Ip x 0 G.fns with
 | some jn=>
   obtain⟨j,n⟩:=jn;rw[hj]at h;have h:(if xs.length=n then some (Ex.call j xs)else none)=some z:=h;split at h
   ·rename_i hn;cases h;obtain⟨i,e1,e2⟩:=zd hj;obtain⟨k,f,fd,ps,F,hr,hm,hk,hb⟩:=T.fns i x n e2;rw[lu]at e1;subst e1
    cases ha with
    | nil=>exact GG j n F hr (mZ T hp.2) hm hk hb hn.symm d1
    | cons hs he r=>exact KI j n F hr (mZ T hp.2) hm hk hb (mT he r.sa (dZ hs)) hn d1 (dZ hs) (sD r.star)
   ·cases h
 | none=>
   rw[hj]at h
   cases ho:nv xs with
   | some xa=>
     obtain rfl:=jr ho;obtain⟨b,h1,rfl⟩:=fM h;obtain⟨e,rfl,hs,he⟩:=ha.one;exact KJ T h1 hp.1 hp.2 hs he
   | none=>
     rw[ho]at h;cases h
theorem Qy{t:bh}{ty:Ty}(h:VY t=some ty):bootBuiltins t=some (.type (tyName ty))/\t∈kZ/\(t == ("__debug__":bh))=false/\t≠"__name__":=by
 unfold VY at h
 repeat' (split at h;(rename_i q;subst q;cases h;exact⟨by decide +kernel,by decide +kernel,by decide +kernel,by decide +kernel⟩))
 cases h
theorem NM{tg iter:aO}{it:Iw}(T:pE G C S X)(hf:∀e x,f e=some x->SE X C e x)(h:cI S f tg iter=some it):SI X C tg iter it/\∀a,it=.itv a->SE X C iter a:=by
 unfold cI at h
 cases hi:HU iter with
 | none=>
   rw[hi]at h;obtain⟨x,h1,rfl⟩:=fM h;exact⟨Oo (hf _ _ h1),fun a z=>by cases z;exact hf _ _ h1⟩
 | some c=>
   rw[hi]at h;obtain⟨x,args⟩:=c;have h:NJ S f tg x args=some it:=h;obtain⟨c',h1,h2⟩:=eD hi;obtain⟨_,h2⟩:=cM h2;obtain rfl:c'=(x,args):=bw h2;obtain⟨p,q,rfl⟩:=vD h1;obtain⟨hg,h3⟩:=cM h;clear h h1 h2 hi;obtain⟨xs,h4,hq⟩:=eD h3;have ha:=jV hf h4;clear h3 h4;have gl:=mZ T hg;split at hq
   ·rename_i e;subst e;obtain⟨xa,h6,rfl⟩:=fM hq;obtain rfl:=jr h6;obtain⟨a,rfl,hs,he⟩:=ha.one;exact⟨Kv gl (T.blt _ (by decide +kernel)) (mT he sQ (dZ hs)) (dZ hs),fun a z=>nomatch z⟩
   split at hq
   ·rename_i e;simp only[aF,decide_eq_true_eq]at e;obtain⟨rfl,ht⟩:=e;obtain⟨p,h6,rfl⟩:=fM hq;obtain rfl:=ym h6;obtain⟨ts,k,tp,rfl⟩:=HX ht;obtain⟨a,b,rfl,hs,hs',he,hb⟩:=ha.two;exact⟨Om gl (T.blt _ (by decide +kernel)) (OI hs hs' he hb) (Gw hs hs') (dZ hs'),fun a z=>nomatch z⟩
   ·cases hq
theorem kJ(h:qD e=true):∀v,foldedSetIterable e X.env v=pure v:=fun v=>by
 cases e<;>first|rfl|cases h
theorem zq{N:List bh}:∀{cn:List bh} {is:List Nat},qY N cn=some is->is.map (fun j=>N[j]?)=cn.map some
 | [],_,h=>by cases h;rfl
 | x::r,_,h=>by
   obtain⟨i,h1,h⟩:=eD h;obtain⟨is,h2,rfl⟩:=fM h;rw[aq,aq,ju h1,zq h2]
theorem lookup_mem{x:bh}{k:jB}:∀{L:List (bh×jB)},L.lookup x=some k->(x,k)∈L
 | [],h=>by cases h
 | (y,j)::r,h=>by
   rw[eR]at h;split at h
   ·rename_i q;cases h;rw[eq_of_beq q];exact ja
   ·exact jt _ (lookup_mem h)
structure DG(S:Sc)(sc:fX)(tn cn:List bh):Prop where
 kind:sc.kind=.function
 nocell:∀y∈sc.names,y.2≠.cell
 locs:∀y∈sc.names,y.2=.local->sc.names.lookup y.1=some .local
 frees:∀y∈sc.names,y.2=.free->S.nm.lookup y.1=some .cell\/S.nm.lookup y.1=some .free
 capk:∀x∈cn,(S.nm.lookup x=some .cell\/S.nm.lookup x=some .free)/\sc.names.lookup x=some .free
 nd:(tn++cn).Nodup
 tl:∀x∈tn,sc.names.lookup x=some .local
theorem IP{sc:fX}{tn cn:List bh}(h:IQ S sc tn cn=true):DG S sc tn cn:=by
 unfold IQ at h;simp only[aF,bQ,decide_eq_true_eq,kG,mw,decide_eq_false_iff_not]at h;obtain⟨⟨⟨⟨⟨⟨h1,h2⟩,h3⟩,h4⟩,h5⟩,h6⟩,h7⟩:=h;refine⟨h1,h2,fun y hy e=>?_,fun y hy e=>?_,h5,h6,h7⟩
 ·rcases h3 y hy with z|z
  ·exact absurd e z
  ·exact z
 ·rcases h4 y hy with(z|z)|z
  ·exact absurd e z
  ·exact .inl z
  ·exact .inr z
theorem wL{sc:fX}{tn cn:List bh}{caps:List Nat}(T:pE G C S X)(h:DG S sc tn cn)(hc:qY S.N cn=some caps):jb X sc tn cn caps where
 kind:=h.kind
 nocell:=h.nocell
 locs:=h.locs
 frees:=fun y hy e=>by unfold qr;rw[T.nm];exact h.frees y hy e
 nofree:=fun x e=>lookup_mem e
 caps:=by rw[T.N];exact zq hc
 capk:=fun x hx=>by unfold qr;rw[T.nm];exact(h.capk x hx).1
 capn:=fun x hx=>(h.capk x hx).2
theorem qt{sc:fX}{tn cn:List bh}(T:pE G C S X)(h:DG S sc tn cn)(cl:List (bh×ag))(s₂:ae)(H₂:Hp)(Ca:ag)(ex:List ag):pE G C (inner S sc tn cn) (eT X sc cl (tn++cn) s₂ H₂ Ca ex) where
 N:=rfl
 nm:=by
  show(relabel sc X.env).names=xV S sc;unfold relabel xV qr;rw[T.nm,T.kind];refine gh fun p _=>?_;obtain⟨n,k⟩:=p;dsimp only;rw[show(xC == xC)=true from rfl,eV]
 kind:=h.kind
 calm:=T.calm
 un:=T.un
 xe:=rfl
 fn:=fun z=>nomatch z
 fns:=T.fns
 blt:=T.blt
 con:=T.con
end
section
variable{G:Sg}{C:Fs}{S:Sc}{X:Cx}{a b c e:aO}{xa xb xc:Ex}{pos:fS}{es:List aO}{xs:List Ex}{x:bh}{f:aO->Option Ex}
theorem Hf{Y:Cx}{i:Nat}{t:bh}{p:fS}(T:pE G C S Y)(hN:S.N.Nodup)(hi:S.N[i]? = some t)(hl:S.nm.lookup t=some .local):PG Y (.Name t p) (ku i):=by
 refine Cz (by rw[T.N];exact hN) (by rw[T.N];exact hi) ?_ (.inr (by rw[T.nm];exact hl));unfold L2.Loc;rw[T.nm];exact .inl hl
theorem p8{sc:fX}{x:bh}(h:sc.names.lookup x=some .local):(xV S sc).lookup x=some .local:=by
 unfold xV;generalize sc.names=L at h
 induction L with
 | nil=>cases h
 | cons p r ih=>
   obtain⟨y,k⟩:=p;rw[eR]at h;rw[aq];by_cases hc:(k == eB && S.nm.lookup y == some .cell)=true
   ·dsimp only;rw[if_pos hc,eR];split at h
    ·cases h;simp at hc
    ·exact ih h
   ·dsimp only;rw[if_neg hc,eR];split at h
    ·exact h
    ·exact ih h
theorem mW{env:uq}:∀{es:List aO} {tn:List bh},namesOf es=some tn->(assignEach es env).length=es.length/\(assignEach es env).findIdx? (·.1)=none/\tn.length=es.length
 | [],tn,h=>by cases h;exact⟨rfl,rfl,rfl⟩
 | e::es,tn,h=>by
   obtain⟨t,h0,h⟩:=eD h;obtain⟨tn',h1,rfl⟩:=fM h;obtain⟨p,rfl⟩:=gQ h0;obtain⟨q1,q2,q3⟩:=mW (env:=env) h1;have e1:assignEach (.Name t p::es) env=(false,assign (.Name t p) env)::assignEach es env:=rfl;rw[e1];refine⟨by simp[q1],?_,by simp[q3]⟩;rw[List.findIdx?_cons];simp[q2]
noncomputable def gK:Nat->Nat->Fl
 | _,0=>EN
 | k,n+1=>vt (ku k) (gK (k+1) n)
theorem Dd:∀n k x σ H Q Q',(∀σ2 H2,Q σ2 H2->Q' σ2 H2)->gK k n x σ H Q->gK k n x σ H Q'
 | 0,_=>EM
 | n+1,k=>Bs tF (Dd n (k+1))
theorem yT{nt:Nat}:∀n k,k+n<=nt->t6 nt (gK k n)
 | 0,_,_=>D2
 | n+1,k,h=>Ap tF (Dd n (k+1)) (su (by omega)) (yT n (k+1) (by omega))
theorem Im{K:Fg}{F H:Hp}:∀(ds:List Dat) (vs:List V) (k:Nat) (σ:St) (ρ:gD) (Q:St->Hp->Prop),cR K F ds vs->me K F σ ρ->σ.length=ρ.length->(∀σ1,me K F σ1 (v9 k ds ρ)->Q σ1 H)->gK k ds.length vs σ H Q
 | [],vs,k,σ,ρ,Q,r,R,hl,q=>⟨r,q σ R⟩
 | d::ds,vs,k,σ,ρ,Q,r,R,hl,q=>by
   obtain⟨v,w,rfl,r1,r2⟩:=r;exact⟨v,w,rfl,Im ds w (k+1) _ _ Q r2 (xW hl R r1) (by simpa using hl) q⟩
theorem Gk{K:Fg}{n:Nat}:QX K n false (Ik K n (gK 0 n)):=fun F H σ ρ d x ρ1 Q g R hn hl r hb k=>by
 cases d with
 | tup ds=>
   have hb:(if ds.length=n then some (v9 0 ds ρ)else none)=some ρ1:=hb;split at hb
   ·rename_i hz;cases hb;obtain⟨a,vs,rfl,t,r⟩:=r;subst hz;exact⟨a,vs,rfl,(t.mono g.sub).sq,r.length,Im ds vs 0 σ ρ Q r R hl k⟩
   ·cases hb
 | _=>cases hb
theorem xY{Y:Cx}(T:pE G C S Y)(nd:S.N.Nodup):∀{es:List aO} {tn:List bh} (k:Nat),namesOf es=some tn->(∀i t,tn[i]? = some t->S.N[k+i]? = some t)->(∀t∈tn,S.nm.lookup t=some .local)->Rn Y es (gK k es.length)
 | [],_,_,_,_,_=>Cy
 | e::es,tn,k,h,hi,hl=>by
   obtain⟨t,h0,h⟩:=eD h;obtain⟨tn',h1,rfl⟩:=fM h;obtain⟨p,rfl⟩:=gQ h0;refine xZ (Hf T nd (hi 0 t rfl) (hl t ja)) (xY T nd (k+1) h1 (fun i t' e=>?_) fun t' m=>hl t' (jt _ m));rw[show k+1+i=k+(i+1) by omega];exact hi (i+1) t' ((bD ..).trans e)
theorem Rv{sc:fX}{tg:aO}{one:Bool}{tn:List bh}(T:pE G C S X)(ht:oj tg=some (one,tn))(h:DG S sc tn (freeOf sc)) :
  ∃g,oS tn.length g/\QX X.K tn.length one g/\∀(cl:List (bh×ag)) (s₂:ae) (H₂:Hp) (Ca:ag) (ex:List ag),PG (eT X sc cl (tn++freeOf sc) s₂ H₂ Ca ex) tg g:=by
 cases tg with
 | Name t p=>
   cases ht;refine⟨ku 0,su (by simp),Ka,fun cl s₂ H₂ Ca ex=>?_⟩;exact Hf (qt T h cl s₂ H₂ Ca ex) h.nd rfl (p8 (h.tl t (by simp)))
 | Tuple es k pos=>
   obtain⟨ts,h1,h2⟩:=fM ht;cases h2;refine⟨Ik X.K tn.length (gK 0 tn.length),D1 (yT _ 0 (by omega)),Gk,fun cl s₂ H₂ Ca ex=>?_⟩;have T':=qt T h cl s₂ H₂ Ca ex;have n:=mW (env:=(eT X sc cl (tn++freeOf sc) s₂ H₂ Ca ex).env) h1;have q:=xY T' h.nd 0 h1 (fun i t e=>by rw[lu];exact(bf (be.mp e).1).trans e) fun t m=>p8 (h.tl t m);rw[<-n.2.2]at q;exact Hd T'.calm q (n.1.trans n.2.2.symm) n.2.1
 | _=>cases ht
def Ih(G:Sg)(C:Fs)(f:Sc->aO->Option Ex):Prop:=∀S e x,f S e=some x->∀X,pE G C S X->Q7 X C e x
theorem zv{z:Ex}{p:fS}(T:pE G C S X)(h:NG G S x=some z):SE X C (.Name x p) z:=by
 obtain⟨hp,h⟩:=cM h;obtain⟨d1,d2,d3⟩:=kI hp;split at h
 ·rename_i hv;obtain⟨i,h1,rfl⟩:=fM h;exact Ov i (by rw[T.N];exact ju h1) (rG T hv) d1 d2
 ·obtain⟨hg,h⟩:=cM h;obtain⟨d,h1,rfl⟩:=fM h;obtain⟨v,u,hm,r,hd⟩:=T.con x d h1;exact KG (mZ T hg) hm r hd.1 d1
theorem I0{z:Ex}{ops:List xj}{bs:List aO}(T:pE G C S X)(hf:∀e x,f e=some x->SE X C e x)(h:NP f a ops bs=some z):SE X C (.Compare a ops bs pos) z/\ST X C (.Compare a ops bs pos) z:=by
 obtain⟨xa,h1,g1⟩:=eD h;clear h
 cases ho:nv ops with
 | some op=>
   rw[ho]at g1;obtain rfl:=jr ho;obtain⟨b,h2,g2⟩:=eD g1;obtain rfl:=jr h2;obtain⟨hs,g3⟩:=cM g2;obtain⟨o,h4,g4⟩:=eD g3;obtain⟨xb,h3,rfl⟩:=fM g4;exact⟨OF (Dx T.un h4) (hf _ _ h1) (hf _ _ h3) (Hw hs),Od (Dx T.un h4) (hf _ _ h1) (hf _ _ h3) (Hw hs)⟩
 | none=>
   rw[ho]at g1;cases g1
theorem zw{z:Ex}{ks:List (Option aO)}{vs:List aO}(hf:∀e x,f e=some x->SE X C e x)(h:NN f ks vs=some z):SE X C (.Dict ks vs pos) z:=by
 obtain⟨hc,h⟩:=cM h;simp only[aF,decide_eq_true_eq]at hc;obtain⟨kk,h1,h⟩:=eD h;obtain⟨xs,h2,rfl⟩:=fM h;exact OE h1 (jV hf h2).pair hc.1.1 hc.2 hc.1.2
theorem zt{o:Option aO}{z:Option Ex}(hf:∀e x,f e=some x->SE X C e x)(h:IW f o=some z):SO X C o z:=by
 cases o with
 | none=>cases h;exact Kq
 | some e=>
   obtain⟨y,h1,rfl⟩:=fM h;exact Kp (hf _ _ h1)
theorem Ay{lo hi st:Option aO}(h:om b=some (lo,hi,st)):∃p,b=.Slice lo hi st p:=by
 cases b with
 | Slice lo' hi' st' p=>cases h;exact⟨p,rfl⟩
 | _=>cases h
theorem AJ(h:om b=none):wW b:=by
 cases b<;>first|(intro o i;rfl)|cases h
theorem Dw{z:Ex}(T:pE G C S X)(hf:∀e x,f e=some x->SE X C e x)(h:S9 f a b=some z):SE X C (.Subscript a b pos) z:=by
 obtain⟨xa,h1,h⟩:=eD h
 cases hs:om b with
 | some t=>
   rw[hs]at h;obtain⟨lo,hi,st⟩:=t;obtain⟨hn,g1⟩:=cM h;obtain⟨xl,h2,g2⟩:=eD g1;obtain⟨xh,h3,rfl⟩:=fM g2;obtain⟨p,rfl⟩:=Ay hs
   cases st with
   | none=>exact RJ (hf _ _ h1) (zt hf h2) (zt hf h3)
   | some _=>cases hn
 | none=>
   rw[hs]at h;obtain⟨xb,h2,rfl⟩:=fM h;exact RN (VH (by have:=T.un;omega)) (hf _ _ h1) (hf _ _ h2) (AJ hs)
theorem IY{z:Ex}{o:aO}{m:bh}{ap cp:fS}(T:pE G C S X)(hf:∀e x,f e=some x->SE X C e x)(h:NH G S f o m ap es cp=some z):SE X C (.Call (.Attribute o m ap) es [] cp) z:=by
 obtain⟨hln,h⟩:=cM h;obtain⟨xs,h1,h⟩:=eD h;have ha:=jV hf h1;obtain⟨hb,h⟩:=cM h;obtain⟨xo,h0,h⟩:=eD h;obtain⟨mt,h2,rfl⟩:=fM h;have hs:=ha.star;exact MC (by have:=T.un;omega) h2 (hf _ _ h0) ha.sa ha.len (fun e z=>by subst z;exact dZ (by simpa using hs)) hb hln
theorem Mz{z:Ex}{x y:bh}{bt:JM}(T:pE G C S X)(hf:∀e x,f e=some x->SE X C e x)(h:Qz S f x y bt es=some z)
  (hl:∀a xa (p q q1 pos:fS),fi a=true->Gl X x->Gl X y->SE X C a xa->SE X C (.Call (.Name x p) [.Call (.Name y q) [a] [] q1] [] pos) (.blt bt [xa])){p:fS}:SE X C (.Call (.Name x p) es [] pos) z:=by
 obtain⟨e,h1,g1⟩:=eD h;obtain⟨⟨y',as⟩,h2,g2⟩:=eD g1;obtain⟨q,q1,rfl⟩:=vD h2;obtain rfl:=jr h1;split at g2
 ·rename_i hy;obtain rfl:y'=y:=hy;obtain⟨a,h3,g3⟩:=eD g2;obtain rfl:as=[a]:=jr h3;obtain⟨hc,g4⟩:=cM g3;simp only[aF]at hc;obtain⟨xa,h4,rfl⟩:=fM g4;exact hl a xa _ _ _ _ hc.2 (mZ T hc.1.1) (mZ T hc.1.2) (hf _ _ h4)
 ·cases g2
theorem Fi{z:Ex}{p:fS}(T:pE G C S X)(hf:∀e x,f e=some x->SE X C e x)(h:BB G S f x es=some z):SE X C (.Call (.Name x p) es [] pos) z:=by
 unfold BB at h;split at h
 ·rename_i hx;subst hx;obtain⟨⟨a,t'⟩,h1,g1⟩:=eD h;obtain rfl:es=[a,t']:=ym h1;obtain⟨t,h2,g2⟩:=eD g1;obtain⟨p2,h5⟩:=gQ h2;obtain rfl:t'=.Name t p2:=h5;obtain⟨hc,g3⟩:=cM g2;simp only[aF]at hc;obtain⟨ty,h3,g4⟩:=eD g3;obtain⟨xa,h4,rfl⟩:=fM g4;obtain⟨b1,b2,b3,b4⟩:=Qy h3;exact OC ty (mZ T hc.1.1) (T.blt _ (by decide +kernel)) (mZ T hc.1.2) (T.blt _ b2) b1 (hf _ _ h4) b4 b3 (dZ hc.2) (sD (by rfl))
 ·generalize hw:(if x="sorted" then Qz S f "sorted" "set" .sset es else none)=w at h
  cases w with
  | some w=>
    cases h;split at hw
    ·rename_i hx;subst hx;exact Mz T hf hw fun a xa _ _ _ _ hs g1 g2 ha=>KE T.un T.calm g1 (T.blt _ (by decide +kernel)) g2 (T.blt _ (by decide +kernel)) ha (by rw[dZ hs];rfl)
    ·cases hw
  | none=>
    obtain⟨xs,h1,h⟩:=eD h;exact MF T (jV hf h1) h
theorem zy{z:Ex}{fn:aO}(T:pE G C S X)(hf:∀e x,f e=some x->SE X C e x)(h:Ja G S f fn es pos=some z):SE X C (.Call fn es [] pos) z:=by
 unfold Ja at h
 cases hq:wR fn with
 | some t=>
   rw[hq]at h;obtain rfl:=vL hq;exact IY T hf h
 | none=>
   rw[hq]at h;obtain⟨x,h1,h⟩:=eD h;obtain⟨p,rfl⟩:=gQ h1;exact Fi T hf h
theorem yS{gs:List Comprehension}{g:Gn}(h:Ny gs=some g):gs=[⟨g.tg,g.it,g.ifs,0⟩]:=by
 obtain⟨c,h1,g1⟩:=eD h;obtain rfl:=jr h1;split at g1
 ·rename_i hz;cases g1;cases c;cases hz;rfl
 ·cases g1
theorem zx{F:Sc->aO->Option Ex}{elt:aO}{g:Gn}{sc:fX}{z:Ex}(ih:Ih G C F)(T:pE G C S X)(h:NO S F elt g sc=some z) :
  ∃tn caps one it xs xe gg,z=.comp tn caps one it xs xe/\∃tl:List bh,tl.length=tn/\jb X sc tl (freeOf sc) one/\SI X C g.tg g.it it/\oS tl.length gg/\QX X.K tl.length caps gg/\
   (∀(cl:List (bh×ag)) (s₂:ae) (H₂:Hp) (Ca:ag) (ex:List ag),PG (eT X sc cl (tl++freeOf sc) s₂ H₂ Ca ex) g.tg gg/\JI (eT X sc cl (tl++freeOf sc) s₂ H₂ Ca ex) g.ifs (Ri X.K C xs)/\SE (eT X sc cl (tl++freeOf sc) s₂ H₂ Ca ex) C elt xe)/\qD g.it=true:=by
 obtain⟨⟨one,tn⟩,h0,h⟩:=eD h;obtain⟨caps,h1,h⟩:=eD h;obtain⟨hc,h⟩:=cM h;simp only[aF]at hc;obtain⟨it,h2,h⟩:=eD h;obtain⟨xs,h3,h⟩:=eD h;obtain⟨xe,h4,rfl⟩:=fM h;have cb:=IP hc.1;obtain⟨gg,touch,tgc,hg⟩:=Rv T h0 cb;refine⟨_,_,_,it,xs,xe,gg,rfl,tn,rfl,wL T cb h1,(NM T (fun e x q=>(ih _ _ _ q X T).1) h2).1,touch,tgc,fun cl s₂ H₂ Ca ex=>?_,hc.2⟩;have T':=qt T cb cl s₂ H₂ Ca ex;refine⟨hg cl s₂ H₂ Ca ex,?_,(ih _ _ _ h4 _ T').1⟩;generalize g.ifs=ifs at h3
 cases ifs with
 | nil=>cases h3;exact Kg
 | cons c r=>
   obtain⟨hn,h5⟩:=cM h3;simp only[aF,kc]at hn;obtain⟨rfl,hn⟩:=hn;obtain⟨y,g1,rfl⟩:=fM h5;exact Kf ((ih _ _ _ g1 _ T').2 hn)
theorem vE:∀n,Ih G C (cE G n)
 | 0=>fun _ _ _ h=>by cases h
 | n+1=>fun S e z h X T=>by
   have ih:=fun e x h=>vE n S e x h X T;have hf:=fun e x h=>(ih e x h).1
   cases e with
   | Constant c k p=>
     obtain⟨d,h1,rfl⟩:=fM h
     have q:SE X C (.Constant c k p) (.con d):=by
      cases c<;>first|(cases h1;first|exact OD|exact RO|exact Oz|exact Oy)|cases h1
     exact⟨q,fun _=>mQ q⟩
   | Name x p=>exact⟨zv T h,fun _=>mQ (zv T h)⟩
   | BinOp a op b p=>
     obtain⟨o,h0,h⟩:=eD h;obtain⟨xa,h1,h⟩:=eD h;obtain⟨xb,h2,rfl⟩:=fM h;have q:=OG (pos:=p) (MI (X:=X) h0) (hf _ _ h1) (hf _ _ h2);exact⟨q,fun _=>mQ q⟩
   | BoolOp op es p=>
     obtain⟨hn,h⟩:=cM h
     cases op with
     | And=>
       obtain⟨xs,h1,h⟩:=eD h;have q:=vw (pos:=p) (jV ih h1) hn h;exact⟨q.1,fun _=>q.2.pt⟩
     | Or=>
       obtain⟨xs,h1,h⟩:=eD h;have q:=yY (pos:=p) (jV ih h1) hn h;exact⟨q.1,fun _=>q.2.pt⟩
   | Compare a ops bs p=>
     have q:=I0 (pos:=p) T hf h;exact⟨q.1,fun _=>q.2⟩
   | IfExp c a b p=>
     obtain⟨hn,h⟩:=cM h;obtain⟨xc,h1,h⟩:=eD h;obtain⟨xa,h2,h⟩:=eD h;obtain⟨xb,h3,rfl⟩:=fM h;exact⟨OB ((ih _ _ h1).2 hn) (hf _ _ h2) (hf _ _ h3),fun z=>by cases z⟩
   | Tuple es k p=>
     obtain⟨xs,h1,rfl⟩:=fM h;have q:=Ox (x1:=k) (pos:=p) (jV hf h1).sf;exact⟨q,fun _=>mQ q⟩
   | List es p=>
     obtain⟨xs,h1,rfl⟩:=fM h;have q:=OA (pos:=p) (jV hf h1).sf;exact⟨q,fun _=>mQ q⟩
   | Dict ks vs p=>exact⟨zw hf h,fun _=>mQ (zw hf h)⟩
   | Subscript a b p=>exact⟨Dw T hf h,fun _=>mQ (Dw T hf h)⟩
   | Call fn args kws cp=>
     obtain⟨hk,h⟩:=cM h
     cases kws with
     | nil=>exact⟨zy T hf h,fun _=>mQ (zy T hf h)⟩
     | cons _ _=>cases hk
   | ListComp elt gs sc p=>
     obtain⟨g,h1,h⟩:=eD h;obtain rfl:=yS h1;obtain⟨_,_,_,it,xs,xe,gg,rfl,tl,rfl,k1,k2,k3,k4,k5,k6⟩:=zx (vE n) T h;have q:=KH (pos:=p) T.calm k1 k2 k3 k4 (fun cl s₂ H₂ Ca ex=>(k5 cl s₂ H₂ Ca ex).1) (fun cl s₂ H₂ Ca ex=>(k5 cl s₂ H₂ Ca ex).2.1) (fun cl s₂ H₂ Ca ex=>(k5 cl s₂ H₂ Ca ex).2.2) (kJ k6);exact⟨q,fun _=>mQ q⟩
   | _=>cases h
end
noncomputable def p4:aO->Bool
 | .ListComp _ _ _ _=>false
 | .SetComp _ _ _ _=>false
 | .DictComp _ _ _ _ _=>false
 | _=>true
noncomputable def Gs(S:Sc)(sc:fX)(cp:fS)(t:bh)(p:fS):Bool:=S.nm.lookup t == some .local && p.line == cp.line && !(sc.names.any fun(n,k)=>n == t && (k == .local || k == .cell))
noncomputable def Tc(m:bh)(k:Nat):Option FH:=
 if m="append"/\k=1 then some .app else if m="insert"/\k=2 then some .ins else if m="extend"/\k=1 then some .ext else none
noncomputable def GU(S:Sc)(e:aO):Option Nat:=(lV e).bind fun x=>if(n0 x && DV S x)=true then uE x S.N else none
noncomputable def Ta(G:Sg)(S:Sc)(f:aO->Option Ex):Option aO->Option Sx
 | none=>none
 | some e=>match GU S e with
   | some i=>some (.nY i)
   | none=>(f e).map .ret
noncomputable def Gv:aO->Option (bh×aO)
 | .Subscript a ix _=>(lV a).map fun x=>(x,ix)
 | _=>none
noncomputable def QF(S:Sc)(f:aO->Option Ex)(t e:aO):Option Sx:=match lV t with
 | some x=>if wt S x=true then(uE x S.N).bind fun i=>(f e).map fun xe=>.set i xe else none
 | none=>match Gv t with
   | some (x,ix)=>if(DV S x && n0 x && (om ix).isNone && p4 e)=true then(uE x S.N).bind fun i=>(f e).bind fun xe=>(f ix).map fun xi=>.mut .seti i [xe,xi]else none
   | none=>(oj t).bind fun tn=>if(tn.2.all (wt S) && !isTup e && !tn.1)=true then(qY S.N tn.2).bind fun ts=>(f e).map fun xe=>.DX ts xe else none
structure Mc where
 x:bh
 m:bh
 ap:fS
 args:List aO
 cp:fS
noncomputable def Pw(e:aO):Option Mc:=(Qx e).bind fun c=>(wR c.fn).bind fun t=>(lV t.1).bind fun x=>if c.kws.isEmpty=true then some ⟨x,t.2.1,t.2.2,c.args,c.pos⟩else none
noncomputable def cExp(S:Sc)(f:aO->Option Ex)(e:aO):Option Sx:=match Pw e with
 | some c=>if(DV S c.x && n0 c.x && (c.ap.endLine == c.cp.line))=true then(uE c.x S.N).bind fun i=>(tm f c.args).bind fun xs=>(Tc c.m xs.length).map fun op=>.mut op i xs else none
 | none=>none
noncomputable def yk(f:jl->Option Sx)(ss:List jl):List Sx:=ss.map fun s=>(f s).getD .Nf
noncomputable def cS(G:Sg)(S:Sc):Nat->jl->Option Sx
 | 0,_=>none
 | n+1,st=>match st with
   | .Return v _=>Ta G S (cE G n S) v
   | .Assign ts e _=>(nv ts).bind fun t=>QF S (cE G n S) t e
   | .Expr e _=>cExp S (cE G n S) e
   | .If c a b _=>if sU c=true then(cE G n S c).map fun xc=>.ifs xc (yk (cS G S n) a) (yk (cS G S n) b)else none
   | .For tg iter body els _=>if els.isEmpty=true then(oj tg).bind fun t=>if(t.2.all (wt S) && qD iter)=true then(qY S.N t.2).bind fun ts=>(cI S (cE G n S) tg iter).map fun it=>.loop t.1 ts it (yk (cS G S n) body)else none else none
   | _=>none
section
variable{G:Sg}{C:Fs}{S:Sc}{X:Cx}{e:aO}{pos:fS}{f:aO->Option Ex}
theorem j3{f:jl->Option Sx}(hf:∀s y,f s=some y->SS X C s y):∀(ss:List jl),MS X C ss (yk f ss)
 | []=>Kh
 | s::r=>Gx (by
    show SS X C s ((f s).getD .Nf)
    cases q:f s with
    | none=>exact Of
    | some y=>exact hf _ _ q) (j3 hf r)
theorem AY{t:Option aO}{line:Nat}(h:p4 e=true):swapsWith e t line X.env=pure false:=by
 cases e<;>first|rfl|cases h
theorem He{i:Nat}{t:bh}{p:fS}(T:pE G C S X)(ht:S.top=true)(hN:S.N.Nodup)(hi:S.N[i]? = some t)(hl:wt S t=true):PG X (.Name t p) (ku i):=
 Cz (by rw[T.N];exact hN) (by rw[T.N];exact hi) (rP T hl) (.inl (T.fn ht t))
theorem yp(T:pE G C S X)(htop:S.top=true)(hN:S.N.Nodup):∀{es:List aO} {tn:List bh} {ts:List Nat},namesOf es=some tn->tn.all (wt S)=true->qY S.N tn=some ts->Rn X es (UD ts)/\ts.length=es.length
 | [],tn,ts,h,_,hc=>by
   cases h;cases hc;exact⟨Cy,rfl⟩
 | e::es,tn,ts,h,hl,hc=>by
   obtain⟨t,h0,h⟩:=eD h;obtain⟨tn',h1,rfl⟩:=fM h;obtain⟨p,rfl⟩:=gQ h0;obtain⟨i,h2,hc⟩:=eD hc;obtain⟨is,h3,rfl⟩:=fM hc;rw[dQ,aF]at hl;obtain⟨q1,q2⟩:=yp T htop hN h1 hl.2 h3;exact⟨xZ (He T htop hN (ju h2) hl.1) q1,congrArg (·+ 1) q2⟩
theorem Gm{tg:aO}{one:Bool}{tn:List bh}{ts:List Nat}(T:pE G C S X)(htop:S.top=true)(hN:S.N.Nodup)(ht:oj tg=some (one,tn))(hl:tn.all (wt S)=true)(hc:qY S.N tn=some ts) :
  ∃g,QW X.K one ts g/\PG X tg g:=by
 cases tg with
 | Name t p=>
   cases ht;obtain⟨i,h1,hc⟩:=eD hc;cases hc;exact⟨ku i,J9,He T htop hN (ju h1) (by simpa using hl)⟩
 | Tuple es k p=>
   obtain⟨tn',h1,h⟩:=fM ht;cases h;obtain⟨q1,q2⟩:=yp T htop hN h1 hl hc;exact⟨_,Gj,Hd T.calm q1 ((mW h1).1.trans q2.symm) (mW h1).2.1⟩
 | _=>cases ht
theorem MB{v:Option aO}{y:Sx}(T:pE G C S X)(hf:∀e x,f e=some x->SE X C e x)(h:Ta G S f v=some y):SS X C (.Return v pos) y:=by
 cases v with
 | none=>cases h
 | some e=>
   have h:(match GU S e with|some i=>some (Sx.nY i)|none=>(f e).map .ret)=some y:=h
   cases hw:GU S e with
   | some i=>
     rw[hw]at h;cases h;obtain⟨x,h1,h2⟩:=eD hw;obtain⟨p,rfl⟩:=gQ h1;obtain⟨hc,h2⟩:=cM h2;rw[aF]at hc;obtain⟨d1,d2,d3⟩:=kI hc.1;exact Kj (by rw[T.N];exact ju h2) (rG T hc.2) d1 d2
   | none=>
     rw[hw]at h;obtain⟨xe,h1,rfl⟩:=fM h;exact Og (hf _ _ h1)
theorem D4{e:aO}{line:Nat}{env:uq}{a ix:aO}{sp:fS}(h:p4 e=true):swapsWithSole [.Subscript a ix sp] e line env=pure false/\swappedStores [.Subscript a ix sp] e env=pure none:=by
 cases e<;>first|exact⟨rfl,rfl⟩|cases h
theorem D0{e:aO}{line:Nat}{env:uq}{es:List aO}{k:Nat}{tp:fS}(h:isTup e=false):swapsWithSole [.Tuple es k tp] e line env=pure false/\swappedStores [.Tuple es k tp] e env=pure none:=by
 cases e<;>first|exact⟨rfl,rfl⟩|cases h
theorem Gu{t ix:aO}{x:bh}(h:Gv t=some (x,ix)):∃p sp,t=.Subscript (.Name x p) ix sp:=by
 cases t with
 | Subscript a ix' sp=>
   obtain⟨x',h1,h2⟩:=fM h;cases h2;obtain⟨p,rfl⟩:=gQ h1;exact⟨p,sp,rfl⟩
 | _=>cases h
theorem Rw{t:aO}{tn:List bh}(h:oj t=some (false,tn)):∃es k tp,t=.Tuple es k tp:=by
 cases t with
 | Tuple es k tp=>exact⟨es,k,tp,rfl⟩
 | _=>cases h
theorem VI{o ix:aO}{p:fS}{env:uq}(h:om ix=none):∀v,assign (.Subscript o ix p) env v=(do
   let ov <-holding [v] (eval o env);let iv <-holding [v,ov] (eval ix env)
   standAt p
   holding [v,ov,iv] (setItem ov iv v)
   release [v,ov,iv] []):=fun v=>by
 cases ix<;>first|rfl|cases h
theorem Qu{n:Nat}{z:Ex}(hc:¬p4 e=true)(h:cE G n S e=some z):∃elt gs sc cp,e=.ListComp elt gs sc cp:=by
 cases n with
 | zero=>cases h
 | succ n=>
   cases e with
   | ListComp elt gs sc cp=>exact⟨_,_,_,_,rfl⟩
   | SetComp _ _ _ _=>cases h
   | DictComp _ _ _ _ _=>cases h
   | _=>exact absurd rfl hc
theorem MA{n i:Nat}{x:bh}{p:fS}{xe:Ex}(T:pE G C S X)(top:S.top=true)(nd:S.N.Nodup)(hl:wt S x=true)(h1:uE x S.N=some i)(h2:cE G n S e=some xe):SS X C (.Assign [.Name x p] e pos) (.set i xe):=by
 have hN:X.N.Nodup:=by rw[T.N];exact nd
 have hi:X.N[i]? = some x:=by rw[T.N];exact ju h1
 have q:=(vE n S e xe h2 X T).1;by_cases hc:p4 e=true
 ·exact Gz hN hi (rP T hl) q (AY hc) (.inl (T.fn top x))
 ·obtain⟨elt,gs,sc,cp,rfl⟩:=Qu hc h2
  have hsw:swapsWith (.ListComp elt gs sc cp) (some (.Name x p)) pos.line X.env=pure (Gs S sc cp x p):=by
   unfold swapsWith Gs;have hb:X.env.blockKind=.function:=by unfold Env.blockKind;rw[T.kind];rfl
   simp only[pure_bind,hb,qr,T.nm];rfl
  cases hb:Gs S sc cp x p with
  | false=>
    rw[hb]at hsw;exact Gz hN hi (rP T hl) q hsw (.inl (T.fn top x))
  | true=>
    rw[hb]at hsw
    cases n with
    | zero=>cases h2
    | succ n=>
      obtain⟨g,h3,h4⟩:=eD h2;obtain rfl:=yS h3;obtain⟨_,_,_,it,xs,xe,gg,rfl,tl,rfl,k1,k2,k3,k4,k5,k6⟩:=zx (vE n) T h4;exact Au hN hi (rP T hl) T.calm k1 k2 k3 k4 (fun cl s₂ H₂ Ca ex=>(k5 cl s₂ H₂ Ca ex).1) (fun cl s₂ H₂ Ca ex=>(k5 cl s₂ H₂ Ca ex).2.1) (fun cl s₂ H₂ Ca ex=>(k5 cl s₂ H₂ Ca ex).2.2) hsw (kJ k6) (.inl (T.fn top x))
theorem MJ{n:Nat}{t:aO}{y:Sx}(T:pE G C S X)(top:S.top=true)(nd:S.N.Nodup)(h:QF S (cE G n S) t e=some y):SS X C (.Assign [t] e pos) y:=by
 have hf:=fun e x (h:cE G n S e=some x)=>(vE n S e x h X T).1;unfold QF at h
 cases ht:lV t with
 | some x=>
   rw[ht]at h;obtain⟨p,rfl⟩:=gQ ht;obtain⟨hl,g1⟩:=cM h;obtain⟨i,h1,g2⟩:=eD g1;obtain⟨xe,h2,rfl⟩:=fM g2;exact MA T top nd hl h1 h2
 | none=>
   rw[ht]at h
   cases hs:Gv t with
   | some z=>
     obtain⟨x,ix⟩:=z;rw[hs]at h;obtain⟨p,sp,rfl⟩:=Gu hs;obtain⟨hc,g1⟩:=cM h;simp only[aF,iM]at hc;obtain⟨⟨⟨hv,hp⟩,hsl⟩,hnc⟩:=hc;obtain⟨i,h1,g2⟩:=eD g1;obtain⟨xe,h2,g3⟩:=eD g2;obtain⟨xi,h3,rfl⟩:=fM g3;obtain⟨d1,d2,d3⟩:=kI hp;have hi:X.N[i]? = some x:=by rw[T.N];exact ju h1
     have sw:=D4 (line:=pos.line) (env:=X.env) (a:=.Name x p) (ix:=ix) (sp:=sp) hnc;have hvar:=wj (pos:=p) hi (rG T hv) d1 d2;exact Ki (G7 (hf _ _ h2) (OS hvar (hf _ _ h3) set_list (VI hsl)) sw.1 sw.2 rfl)
   | none=>
     rw[hs]at h;obtain⟨⟨one,tn⟩,h0,g1⟩:=eD h;obtain⟨hl,g2⟩:=cM g1;simp only[aF,mw]at hl;obtain⟨ts,h1,g3⟩:=eD g2;obtain⟨xe,h3,rfl⟩:=fM g3;obtain⟨g,t1,t2⟩:=Gm T top nd h0 hl.1.1 h1;obtain rfl:one=false:=hl.2;obtain⟨es,k,tp,rfl⟩:=Rw h0;have sw:=D0 (line:=pos.line) (env:=X.env) (es:=es) (k:=k) (tp:=tp) hl.1.2;exact Oe (hf _ _ h3) t1 t2 sw.1 sw.2 rfl
theorem LD{c:Mc}(h:Pw e=some c):∃p,e=.Call (.Attribute (.Name c.x p) c.m c.ap) c.args [] c.cp:=by
 obtain⟨⟨fn,as,kws,cp⟩,h0,g0⟩:=eD h;obtain⟨⟨o,m,ap⟩,h1,g1⟩:=eD g0;obtain⟨x,h2,g2⟩:=eD g1;obtain⟨hk,g3⟩:=cM g2;cases g3;obtain⟨p,h4⟩:=gQ h2;obtain rfl:o=.Name x p:=h4;obtain rfl:kws=[]:=kc.mp hk;obtain rfl:fn=.Attribute (.Name x p) m ap:=vL h1;exact⟨p,Dv h0⟩
theorem MG{y:Sx}(T:pE G C S X)(hf:∀e x,f e=some x->SE X C e x)(h:cExp S f e=some y):SS X C (.Expr e pos) y:=by
 unfold cExp at h
 cases hm:Pw e with
 | none=>
   rw[hm]at h;cases h
 | some c=>
   rw[hm]at h;obtain⟨p,rfl⟩:=LD hm;obtain⟨x,m,ap,args,cp⟩:=c;obtain⟨hc,g1⟩:=cM h;simp only[aF]at hc;obtain⟨⟨hv,hp⟩,hln⟩:=hc;obtain⟨i,h1,g2⟩:=eD g1;obtain⟨xs,h2,g3⟩:=eD g2;obtain⟨op,h3,rfl⟩:=fM g3;obtain⟨d1,d2,d3⟩:=kI hp;have ha:=jV hf h2;have hvar:=wj (pos:=p) (by rw[T.N];exact ju h1) (rG T hv) d1 d2;clear h g1 g2 g3 hm h2;unfold Tc at h3;split at h3
   ·rename_i hm;obtain⟨rfl,hk⟩:=hm;cases h3;obtain⟨xa,rfl⟩:=zR.mp hk;obtain⟨e,rfl,hs,he⟩:=ha.one;have h1':bp [e] X.env=(false,eval e X.env)::bp [] X.env:=dZ hs;exact Cc (by simp) (by simp) (by simp) P5 (wg (CB mq uo PySem.F.type_list_append Er hvar ha.sf rfl (by rw[h1'];rfl) hln h1' rfl) rfl)
   split at h3
   ·rename_i hm;obtain⟨rfl,hk⟩:=hm;cases h3
    match xs,hk,ha with
    | [xa,xb],_,ha=>
      obtain⟨a,b,rfl,hs,hs',_,_⟩:=ha.two;have h1':bp [a,b] X.env=(false,eval a X.env)::bp [b] X.env:=dZ hs;have h2':bp [b] X.env=(false,eval b X.env)::bp [] X.env:=dZ hs';exact Cc (by simp) (by simp) (by simp) P4 (wg (CB mq um PySem.F.type_list_insert Ep hvar ha.sf rfl (by rw[h1',h2'];rfl) hln h1' (by rw[h2'];rfl)) rfl)
   split at h3
   ·rename_i hm;obtain⟨rfl,hk⟩:=hm;cases h3;obtain⟨xa,rfl⟩:=zR.mp hk;obtain⟨e,rfl,hs,he⟩:=ha.one;have h1':bp [e] X.env=(false,eval e X.env)::bp [] X.env:=dZ hs;exact Oh (wg (CB mq lR PySem.F.type_list_extend Pr hvar ha.sf rfl (by rw[h1'];rfl) hln h1' rfl) rfl)
   ·cases h3
theorem NF(T:pE G C S X)(top:S.top=true)(nd:S.N.Nodup):∀(n:Nat) (st:jl) (y:Sx),cS G S n st=some y->SS X C st y
 | 0,_,_,h=>by cases h
 | n+1,st,y,h=>by
   have ih:=fun e x (h:cE G n S e=some x)=>vE n S e x h X T;have hf:=fun e x h=>(ih e x h).1;have hs:=NF T top nd n
   cases st with
   | Return v p=>exact MB T hf h
   | Assign ts e p=>
     obtain⟨t,h1,g1⟩:=eD h;obtain rfl:=jr h1;exact MJ T top nd g1
   | Expr e p=>exact MG T hf h
   | If c a b p=>
     obtain⟨hn,g1⟩:=cM h;obtain⟨xc,h1,rfl⟩:=fM g1;exact RH ((ih _ _ h1).2 hn) (j3 hs _) (j3 hs _)
   | For tg iter body els p=>
     obtain⟨he,g1⟩:=cM h;obtain rfl:=kc.mp he;obtain⟨⟨one,tn⟩,h0,g2⟩:=eD g1;obtain⟨hc,g3⟩:=cM g2;rw[aF]at hc;obtain⟨ts,h1,g4⟩:=eD g3;obtain⟨it,h2,rfl⟩:=fM g4;obtain⟨g,tgs,hg⟩:=Gm T top nd h0 hc.1 h1;obtain⟨k1,k2⟩:=NM T hf h2;have hp:Ft (aI X.prog X.w) X.A X.env X.xe:=by rw[T.xe];exact PassesOwn.never
     cases it with
     | itv a=>exact Kk hp T.calm (k2 a rfl) hg tgs (j3 hs _) (kJ hc.2)
     | rng es=>exact Av hp T.calm k1 (fun a z=>nomatch z) hg tgs (j3 hs _) (kJ hc.2)
     | zip es=>exact Av hp T.calm k1 (fun a z=>nomatch z) hg tgs (j3 hs _) (kJ hc.2)
     | enu a=>exact Av hp T.calm k1 (fun a z=>nomatch z) hg tgs (j3 hs _) (kJ hc.2)
   | _=>cases h
end
structure Df where
 name:bh
 st:jl
 N:List bh
 ps:List bh
 body:List Sx
noncomputable def Cn(D:List Df):Nat->Fs
 | 0=>fun _ _=>none
 | n+1=>fun j ds=>match D[j]? with
   | some d=>FE (Cn D n) d.ps.length d.N.length d.body ds
   | none=>none
noncomputable def Kx(D:List Df)(con:List (bh×Dat)):Sg:=⟨D.map fun d=>(d.name,d.ps.length),con⟩
structure mJ(G:Sg)(d:Df):Prop where
 sc:qk d.N d.ps (dn d.st)
 cmp:yk (cS G ⟨d.N,(dn d.st).names,true⟩ 40) (fZ d.st)=d.body
section
variable{P:aS}{w:bA}{K:Fg}{mg:bh->Option ab}{base:bP}
structure At(K:Fg)(mg:bh->Option ab)(d:Df)(f:ag)(fd:fj):Prop where
 fn:TV K d.name d.name d.st f fd
 mgf:mg d.name=some (.ref f)
 bd:∀us:List ab,us.length=d.ps.length->bindArgs fd ⟨us,[]⟩=pure (d.ps.zip us)
theorem Ts{h:bP}{d:Df}{f:ag}{oc:ab}{od an:Option ag}{osl:Array (Option ab)}{kV doc pm cdv ct:ab}(X:K.In h)(G:h.Ns mainGlobals mg)(a:jk K mainGlobals d.name=some (some (.ref f)))
  (l:K.lookup f=some ⟨oc,od,.func (dz d.name d.name (iF d.st) (fZ d.st) (dn d.st) .none kV doc pm an cdv ct),osl⟩)(c:kP K cdv d.name=true)(k:eE K (.ref f)=true)
  (hb:∀(kV doc pm:ab) (an:Option ag) (cdv ct:ab) (us:List ab),us.length=d.ps.length->bindArgs (dz d.name d.name (iF d.st) (fZ d.st) (dn d.st) .none kV doc pm an cdv ct) ⟨us,[]⟩=pure (d.ps.zip us)):∃f fd,At K mg d f fd:=
 ⟨f,_,Qa l c k,ud X G a,hb _ _ _ _ _ _⟩
theorem gZ{h:bP}{d:Df}{nm:bh}{f:ag}{oc:ab}{od an:Option ag}{osl:Array (Option ab)}{kV doc pm cdv ct:ab}(hn:d.name=nm)(X:K.In h)(G:h.Ns mainGlobals mg)(a:jk K mainGlobals nm=some (some (.ref f)))
  (l:K.lookup f=some ⟨oc,od,.func (dz d.name d.name (iF d.st) (fZ d.st) (dn d.st) .none kV doc pm an cdv ct),osl⟩)(c:kP K cdv nm=true)(k:eE K (.ref f)=true)
  (hb:∀(kV doc pm:ab) (an:Option ag) (cdv ct:ab) (us:List ab),us.length=d.ps.length->bindArgs (dz d.name d.name (iF d.st) (fZ d.st) (dn d.st) .none kV doc pm an cdv ct) ⟨us,[]⟩=pure (d.ps.zip us)):∃f fd,At K mg d f fd:=by
 subst hn;exact Ts X G a l c k hb
structure Here(K:Fg)(mg:bh->Option ab)(D:List Df)(con:List (bh×Dat)):Prop where
 ok:∀d∈D,mJ (Kx D con) d
 fn:∀d∈D,∃f fd,At K mg d f fd
 blt:∀x∈kZ,mg x=none
 con:∀x d,con.lookup x=some d->∃v u,mg x=some u/\RelV v u/\CV K d v
theorem Jl{D:List Df}{con:List (bh×Dat)}(T:Here K mg D con):∀(n j:Nat) (d:Df) (f:ag) (fd:fj),D[j]? = some d->At K mg d f fd->m8 P w K mg base DH n f fd d.ps (Ng K d.ps.length (Cn D n j))
 | 0,j,d,f,fd,hj,_=>by
   have no:∀vs H Q E,¬Ng K d.ps.length (Cn D 0 j) vs H Q E:=fun vs H Q E h=>by
    obtain⟨_,ds,z,fr,h,_⟩:=h;cases h
   exact⟨fun vs H Q E h=>absurd h (no vs H Q E),fun A outer s H args us vs Q E _ _ _ _ h=>absurd h (no vs H Q E)⟩
 | n+1,j,d,f,fd,hj,at_=>by
   have ok:=T.ok d (bq hj)
   have e:Cn D (n+1) j=FE (Cn D n) d.ps.length d.N.length d.body:=by
    funext ds;simp only[Cn,hj]
   rw[e];have hpl:d.ps.length<=d.N.length:=by have:=congrArg rZ ok.sc.pre;rw[gp]at this;omega
   refine Qd at_.fn ok.sc hpl fun cdv A outer s H E hr=>?_
   have S:pE (Kx D con) (Cn D n) ⟨d.N,(dn d.st).names,true⟩ (zj DH P w K mg base d.N d.name (dn d.st) f cdv A outer s H E).Rb:=by
    refine⟨rfl,rfl,ok.sc.kind,rfl,?_,rfl,fun _ _=>rfl,fun i x m hi=>?_,T.blt,T.con⟩
    ·have:=hr.units;show(A.deeper _).units+21<dS;omega
    ·have hi':∃d',D[i]? = some d'/\x=d'.name/\m=d'.ps.length:=by
      unfold Kx at hi;rw[bx]at hi;obtain⟨d',e1,e2⟩:=fM hi;cases e2;exact⟨d',e1,rfl,rfl⟩
     obtain⟨d',e1,rfl,rfl⟩:=hi';obtain⟨f',fd',at'⟩:=T.fn d' (bq e1);exact⟨n,f',fd',d'.ps,Jl T n i d' f' fd' e1 at',hr,at'.mgf,at'.fn.kp,.all at'.bd⟩
   exact ok.cmp▸j3 (NF S rfl ok.sc.nd 40) _
noncomputable def Ce(K:Fg):Sp:=fun vs H Q _=>∃(a:ag) (ns:List Int),vs=[.ref a]/\nF K H a (ns.map V.int)/\ns.length<=63/\∀H',Q (.bl true) H'
theorem Ej(ns:List Int){F:Hp}:cR K F (ns.map Dat.int) (ns.map V.int):=by
 induction ns with
 | nil=>exact rfl
 | cons n r ih=>exact⟨_,_,rfl,rfl,ih⟩
theorem PF{D:List Df}{con:List (bh×Dat)}(T:Here K mg D con){j n:Nat}{d:Df}{f:ag}{fd:fj}(hj:D[j]? = some d)(at_:At K mg d f fd)(hp:d.ps.length=1)
  (hm:∀ns:List Int,ns.length<=63->∃fr,Cn D n j [.lst (ns.map Dat.int)]=some (.bl true,fr)):m8 P w K mg base DH n f fd d.ps (Ce K):=
 m8.imp (Jl T n j d f fd hj at_) fun vs H Q E z4=>by
  obtain⟨a,ns,e,hS,hl,q⟩:=z4;subst e;obtain⟨fr,h⟩:=hm ns hl;refine⟨by rw[hp];rfl,_,_,fr,h,H,⟨cu.refl _,fun _ _ z=>z⟩,⟨_,_,rfl,⟨a,_,rfl,hS,Ej ns⟩,rfl⟩,fun v F' H' _ r _=>?_⟩;rw[show v=.bl true from r];exact q H'
theorem PD{D:List Df}{con:List (bh×Dat)}{l:iU}{fa:ag}{x:bh}(T:Here K mg D con){j n:Nat}{d:Df}(hj:D[j]? = some d)(hps:d.ps=[x])(hfa:mg d.name=some (.ref fa))
  (hm:∀ns:List Int,ns.length<=63->∃fr,Cn D n j [.lst (ns.map Dat.int)]=some (.bl true,fr)) :
  ∃fd:fj,(∀(s:ae) (u:ab),uu s fd ⟨[u],[]⟩ [(x,u)])/\∀base:bP,K.In base->base.Ns mainGlobals mg->m8 l.prog w K mg base DH n fa fd [x] (Ce K):=by
 obtain⟨f,fd,at_⟩:=T.fn d (bq hj);have e:=hfa.symm.trans at_.mgf
 cases e;refine⟨fd,fun s u=>?_,fun base _ _=>?_⟩
 ·have:=at_.bd [u] (by rw[hps];rfl)
  rw[hps]at this;exact .of_eq this
 ·have:=PF (P:=l.prog) (w:=w) (base:=base) T hj at_ (by rw[hps];rfl) hm
  rw[hps]at this;exact this
theorem walk{l:iU}{n:Nat}{x:bh}{q:aS}{loose:List bh}{XP:(bh->Option ab)->bP->Prop}{YP:bA->bP->Prop}{d:DefRec}{K:Params->Fg}(hn:l.most=some 63)(hk:mI n callerA)(hdf:d.params.defaults=[])
  (hY:∀(w:bA) (h:bP),YP w h->(K w.params).In h)
  (F:∀(w:bA) (mg:bh->Option ab) (fa:ag) (h:bP),(K w.params).In h->h.Ns mainGlobals mg->mg d.name=some (.ref fa)->
   ∃fd:fj,(∀(s:ae) (u:ab),uu s fd ⟨[u],[]⟩ [(x,u)])/\∀base:bP,(K w.params).In base->base.Ns mainGlobals mg->m8 l.prog w (K w.params) mg base DH n fa fd [x] (Ce (K w.params))) :
  ue q loose XP YP l.row.toRowW d [] (fun f vs=>DM f vs):=
 L2.J4 (n:=63) (k:=n) (x:=x) (CX:=fun _=>DH) (sp:=fun w=>Ce (K w.params)) hn (by decide) hdf hk hY F (fun _ _ a ns hl _ hS=>⟨a,ns,rfl,hS,hl,fun _=>rfl⟩) fun _ _ _ _ _ z=>z
end
theorem MO{K:Fg}{h:bP}{mg:bh->Option ab}(X:K.In h)(G:h.Ns mainGlobals mg)(z:kZ.map (fun x=>jk K mainGlobals x)=cT 20 (some none)):∀x∈kZ,mg x=none:=fun x hx=>by
 have q:jk K mainGlobals x∈kZ.map (fun x=>jk K mainGlobals x):=aX.mpr ⟨x,hx,rfl⟩;rw[z]at q;exact PySem.W.mg_none_of X G (List.eq_of_mem_replicate q)
theorem all_nil{P:Df->Prop}:∀d∈([]:List Df),P d:=fun d h=>by cases h
theorem all_cons{P:Df->Prop}{d:Df}{L:List Df}(h:P d)(hs:∀d∈L,P d):∀d'∈d::L,P d':=fun d' m=>by
 rcases ao.mp m with e|m
 ·subst e;exact h
 ·exact hs d' m
end M
namespace K09
open PySem L2 M
noncomputable def top(i:Nat):jl:=PySem.Challenge.pw_dots_k09_edges_of_great_letters.main.body.getD i (.Pass ⟨0,0,0,0⟩)
noncomputable def b0:List Sx:=[.ret (.comp 1 true [] (.itv (.tup [.con (.str (aa "out")),.con (.str (aa "done")),.con (.str (aa "num"))])) [] (.tup [.var 0,.con (.str (aa " ")),.tup [.con (.int 0)],.con (.str (aa "out"))]))]
noncomputable def b1:List Sx:=[.ifs (.cmp .eq (.var 1) (.tup [])) [.ret (.lst [])] [],.set 2 (.lst [.tup [.con (.str (aa "num")),.con (.str (aa "")),.ix (.var 0) (.con (.int 3)),.con (.str (aa "let"))]]),.loop false [3,4] (.zip [.con (.str (aa "0123456789")),.var 1]) [.mut .app 2 [.tup [.con (.str (aa "out")),.var 3,.bin .add (.ix (.var 0) (.con (.int 2))) (.tup [.var 4]),.con (.str (aa "num"))]],.mut .app 2 [.tup [.con (.str (aa "done")),.var 3,.bin .add (.ix (.var 0) (.con (.int 2))) (.tup [.var 4]),.con (.str (aa "num"))]],.mut .app 2 [.tup [.con (.str (aa "num")),.var 3,.tup [.var 4],.con (.str (aa "num"))]]],.nY 2]
noncomputable def b2:List Sx:=[.set 1 (.lst []),.loop false [2,3,4] (.itv (.var 0)) [.loop false [5,6,7] (.itv (.con (.tup [.tup [.str (aa "w"),.str (aa "out"),.str (aa "done")],.tup [.str (aa "w"),.str (aa "let"),.str (aa "done")],.tup [.str (aa "b"),.str (aa "out"),.str (aa "in")],.tup [.str (aa "b"),.str (aa "let"),.str (aa "in")],.tup [.str (aa "m"),.str (aa "in"),.str (aa "in")],.tup [.str (aa "e"),.str (aa "in"),.str (aa "done")]]))) [.ifs (.cmp .isin (.var 5) (.var 4)) [.mut .app 1 [.tup [.var 6,.var 2,.var 3,.var 7]]] []]],.nY 1]
noncomputable def b3:List Sx:=[.ret (.comp 4 false [1] (.itv (.var 0)) [] (.tup [.var 0,.bin .add (.lW .upper (.ix (.var 1) (.con (.int 0))) []) (.sl (.var 1) (some (.con (.int 1))) none),.bin .add (.var 4) (.var 2),.var 3]))]
noncomputable def b4:List Sx:=[.set 2 (.lst []),.loop false [3,4,5] (.itv (.var 0)) [.loop false [6,7,8] (.itv (.con (.tup [.tup [.str (aa "w"),.str (aa "out"),.str (aa "done")],.tup [.str (aa "w"),.str (aa "let"),.str (aa "done")],.tup [.str (aa "b"),.str (aa "out"),.str (aa "all")],.tup [.str (aa "b"),.str (aa "let"),.str (aa "all")],.tup [.str (aa "m"),.str (aa "all"),.str (aa "all")],.tup [.str (aa "e"),.str (aa "all"),.str (aa "done")]]))) [.ifs (.and (.cmp .isin (.var 6) (.var 5)) (.or (.cmp .ne (.var 6) (.con (.str (aa "w")))) (.cmp .gt (.blt .len [.var 3]) (.con (.int 1))))) [.set 9 (.ite (.cmp .eq (.var 7) (.con (.str (aa "all")))) (.tup []) (.var 1)),.mut .app 2 [.tup [.var 7,.lW .upper (.var 3) [],.bin .add (.var 9) (.var 4),.var 8]]] []]],.nY 2]
noncomputable def b5:List Sx:=[.set 1 (.ix (.var 0) (.con (.int 0))),.set 2 (.ix (.var 0) (.con (.int 1))),.set 3 (.call 2 [.var 1]),.ifs (.cmp .ne (.ix (.var 2) (.con (.int 0))) (.tup [])) [.set 3 (.bin .add (.var 3) (.call 3 [.var 3,.ix (.var 2) (.con (.int 0))]))] [],.ifs (.cmp .ne (.ix (.var 2) (.con (.int 1))) (.tup [])) [.set 3 (.bin .add (.var 3) (.call 4 [.var 1,.ix (.var 2) (.con (.int 1))]))] [],.ifs (.cmp .eq (.ix (.var 0) (.con (.int 2))) (.tup [])) [.set 3 (.comp 1 true [] (.itv (.var 3)) [.cmp .ne (.ix (.var 0) (.con (.int 0))) (.con (.str (aa "let")))] (.var 0))] [],.ret (.blt .sset [.bin .add (.bin .add (.var 3) (.call 0 [])) (.call 1 [.var 2,.ix (.var 0) (.con (.int 2))])])]
noncomputable def b6:List Sx:=[.set 3 (.con (.int 0)),.ifs (.cmp .gt (.blt .len [.var 0]) (.con (.int 0))) [.set 3 (.bin .mod (.ix (.var 0) (.bin .mod (.var 1) (.blt .len [.var 0]))) (.con (.int 2147483629)))] [],.ret (.bin .mod (.bin .mod (.bin .mul (.bin .mod (.bin .mul (.bin .add (.var 3) (.con (.int 1))) (.bin .add (.bin .mul (.bin .mul (.con (.int 31)) (.var 1)) (.var 1)) (.con (.int 7919)))) (.con (.int 2147483647))) (.con (.int 48271))) (.con (.int 2147483629))) (.var 2))]
noncomputable def b7:List Sx:=[.ifs (.or (.blt (.isi .tuple) [.var 1]) (.blt (.isi .list) [.var 1])) [.ifs (.or (.cmp .ne (.blt (.isi .tuple) [.var 0]) (.blt (.isi .tuple) [.var 1])) (.cmp .ne (.blt (.isi .list) [.var 0]) (.blt (.isi .list) [.var 1]))) [.ret (.con (.bl false))] [],.ret (.and (.cmp .eq (.blt .len [.var 0]) (.blt .len [.var 1])) (.blt .all [.comp 2 false [] (.zip [.var 0,.var 1]) [] (.call 7 [.var 0,.var 1])]))] [],.ifs (.cmp .isn (.var 1) (.con .non)) [.ret (.cmp .isn (.var 0) (.con .non))] [],.ifs (.or (.blt (.isi .bool) [.var 1]) (.blt (.isi .bool) [.var 0])) [.ret (.and (.blt (.isi .bool) [.var 1]) (.and (.blt (.isi .bool) [.var 0]) (.cmp .eq (.var 0) (.var 1))))] [],.ifs (.blt (.isi .int) [.var 1]) [.ret (.and (.blt (.isi .int) [.var 0]) (.cmp .eq (.var 0) (.var 1)))] [],.ret (.and (.blt (.isi .str) [.var 0]) (.cmp .eq (.var 0) (.var 1)))]
noncomputable def b8:List Sx:=[.ret (.blt .tuple [.comp 1 true [3,1,0] (.rng [.var 2]) [] (.bin .add (.con (.int 1)) (.call 6 [.var 3,.bin .add (.var 2) (.var 0),.var 1]))])]
noncomputable def b9:List Sx:=[.ret (.lW .join (.con (.str (aa ""))) [.comp 1 true [0] (.rng [.con (.int 4)]) [.cmp .eq (.bin .band (.bin .shr (.var 1) (.var 0)) (.con (.int 1))) (.con (.int 1))] (.ix (.con (.str (aa "wbme"))) (.var 0))])]
noncomputable def We:List Sx:=[.set 3 (.call 6 [.var 0,.bin .add (.var 1) (.con (.int 1)),.con (.int 26)]),.set 4 (.ix (.lst [.con (.int 1),.con (.int 3),.con (.int 5),.con (.int 7)]) (.call 6 [.var 0,.bin .add (.var 1) (.con (.int 2)),.con (.int 4)])),.set 5 (.ix (.lst [.con (.int 1),.con (.int 2),.con (.int 2),.con (.int 3),.con (.int 3),.con (.int 6)]) (.call 6 [.var 0,.bin .add (.var 1) (.con (.int 3)),.con (.int 6)])),.set 7 (.comp 1 true [3,4] (.rng [.var 5]) [] (.ix (.con (.str (aa "abcdefghijklmnopqrstuvwxyz"))) (.bin .mod (.bin .add (.var 1) (.bin .mul (.var 2) (.var 0))) (.con (.int 26))))),.set 8 (.lst []),.loop true [6] (.rng [.var 5]) [.set 9 (.bin .add (.con (.int 1)) (.bin .fdiv (.call 6 [.var 0,.bin .add (.bin .add (.var 1) (.con (.int 10))) (.var 6),.con (.int 5)]) (.con (.int 4)))),.mut .app 8 [.tup [.ix (.var 7) (.var 6),.call 8 [.var 0,.bin .add (.bin .add (.var 1) (.con (.int 20))) (.bin .mul (.con (.int 5)) (.var 6)),.var 9,.var 2],.con (.str (aa "wbme"))]]],.loop true [6] (.rng [.call 6 [.var 0,.bin .add (.var 1) (.con (.int 4)),.con (.int 5)]]) [.set 10 (.bin .add (.bin .add (.var 1) (.con (.int 60))) (.bin .mul (.con (.int 15)) (.var 6))),.set 11 (.lW .join (.con (.str (aa ""))) [.comp 1 true [10,7,5,0] (.rng [.bin .add (.con (.int 1)) (.call 6 [.var 0,.bin .add (.var 10) (.con (.int 4)),.con (.int 3)])]) [] (.ix (.var 2) (.call 6 [.var 4,.bin .add (.var 1) (.var 0),.var 3]))]),.set 12 (.call 8 [.var 0,.bin .add (.var 10) (.con (.int 5)),.ix (.lst [.con (.int 1),.con (.int 1),.con (.int 2),.con (.int 4)]) (.call 6 [.var 0,.bin .add (.var 10) (.con (.int 9)),.con (.int 4)]),.var 2]),.set 13 (.tup [.var 11,.var 12,.call 9 [.bin .add (.con (.int 1)) (.call 6 [.var 0,.bin .add (.var 10) (.con (.int 10)),.con (.int 15)])]]),.ifs (.cmp .nin (.sl (.var 13) none (some (.con (.int 2)))) (.comp 1 true [] (.itv (.var 8)) [] (.sl (.var 0) none (some (.con (.int 2)))))) [.mut .ins 8 [.call 6 [.var 0,.bin .add (.var 10) (.con (.int 11)),.bin .add (.blt .len [.var 8]) (.con (.int 1))],.var 13]] []],.nY 8]
noncomputable def Wd:List Sx:=[.set 3 (.lst [.tup [],.tup [],.tup [],.tup []]),.set 4 (.tup []),.ifs (.cmp .eq (.call 6 [.var 0,.var 1,.con (.int 4)]) (.con (.int 1))) [.mut .seti 3 [.call 8 [.var 0,.bin .add (.var 1) (.con (.int 1)),.bin .add (.con (.int 1)) (.call 6 [.var 0,.bin .add (.var 1) (.con (.int 3)),.con (.int 2)]),.var 2],.con (.int 0)],.ifs (.cmp .eq (.call 6 [.var 0,.bin .add (.var 1) (.con (.int 4)),.con (.int 2)]) (.con (.int 1))) [.mut .seti 3 [.call 8 [.var 0,.bin .add (.var 1) (.con (.int 5)),.bin .add (.con (.int 1)) (.call 6 [.var 0,.bin .add (.var 1) (.con (.int 7)),.con (.int 2)]),.var 2],.con (.int 1)]] []] [],.ifs (.cmp .eq (.call 6 [.var 0,.bin .add (.var 1) (.con (.int 8)),.con (.int 4)]) (.con (.int 1))) [.mut .seti 3 [.call 8 [.var 0,.bin .add (.var 1) (.con (.int 9)),.bin .add (.con (.int 1)) (.call 6 [.var 0,.bin .add (.var 1) (.con (.int 11)),.con (.int 2)]),.var 2],.con (.int 2)],.mut .seti 3 [.call 8 [.var 0,.bin .add (.var 1) (.con (.int 12)),.bin .add (.con (.int 1)) (.call 6 [.var 0,.bin .add (.var 1) (.con (.int 14)),.con (.int 2)]),.var 2],.con (.int 3)],.set 4 (.call 8 [.var 0,.bin .add (.var 1) (.con (.int 15)),.ix (.lst [.con (.int 1),.con (.int 2),.con (.int 3),.con (.int 10)]) (.call 6 [.var 0,.bin .add (.var 1) (.con (.int 25)),.con (.int 4)]),.var 2])] [],.ret (.tup [.blt .tuple [.var 3],.var 4])]
noncomputable def W9:List Sx:=[.set 2 (.ix (.lst [.con (.int 4),.con (.int 4),.con (.int 12),.con (.int 63)]) (.call 6 [.var 0,.var 1,.con (.int 4)])),.set 3 (.call 10 [.var 0,.var 1,.var 2]),.DX [4,5] (.call 11 [.var 0,.bin .add (.var 1) (.con (.int 150)),.var 2]),.ret (.tup [.blt .tuple [.var 3],.var 4,.var 5])]
noncomputable def Wc:List Sx:=[.ifs (.and (.cmp .eq (.var 1) (.con (.str (aa "out")))) (.cmp .gt (.blt .len [.ix (.var 0) (.con (.int 2))]) (.con (.int 0)))) [.ret (.lst [.con (.str (aa "out")),.con (.str (aa "let"))])] [],.ret (.lst [.var 1])]
noncomputable def UO:List Sx:=[.DX [2,3,4] (.var 1),.set 5 (.bin .add (.lW .upper (.ix (.var 2) (.con (.int 0))) []) (.sl (.var 2) (some (.con (.int 1))) none)),.set 6 (.lst []),.loop true [7] (.itv (.var 4)) [.DX [8,9] (.ix (.xv [.inr (aa "w"),.inr (aa "b"),.inr (aa "m"),.inr (aa "e")] [.tup [.con (.str (aa "out")),.con (.str (aa "done"))],.tup [.con (.str (aa "out")),.con (.str (aa "in"))],.tup [.con (.str (aa "in")),.con (.str (aa "in"))],.tup [.con (.str (aa "in")),.con (.str (aa "done"))]]) (.var 7)),.loop true [10] (.itv (.call 13 [.var 0,.var 8])) [.mut .app 6 [.tup [.var 10,.var 2,.var 3,.var 9]],.ifs (.cmp .ne (.ix (.ix (.var 0) (.con (.int 1))) (.con (.int 0))) (.tup [])) [.mut .app 6 [.tup [.var 10,.var 5,.bin .add (.ix (.ix (.var 0) (.con (.int 1))) (.con (.int 0))) (.var 3),.var 9]]] []]],.nY 6]
noncomputable def Wb:List Sx:=[.DX [2,3,4] (.var 1),.set 5 (.lW .upper (.var 2) []),.set 6 (.lst []),.loop true [7] (.itv (.var 4)) [.ifs (.and (.cmp .eq (.var 7) (.con (.str (aa "w")))) (.cmp .gt (.blt .len [.var 2]) (.con (.int 1)))) [.mut .ext 6 [.comp 1 true [3,0,5] (.itv (.call 13 [.var 0,.con (.str (aa "out"))])) [] (.tup [.var 0,.var 3,.bin .add (.ix (.ix (.var 2) (.con (.int 1))) (.con (.int 1))) (.var 1),.con (.str (aa "done"))])]] [],.ifs (.cmp .eq (.var 7) (.con (.str (aa "b")))) [.mut .ext 6 [.comp 1 true [3,0,5] (.itv (.call 13 [.var 0,.con (.str (aa "out"))])) [] (.tup [.var 0,.var 3,.bin .add (.ix (.ix (.var 2) (.con (.int 1))) (.con (.int 1))) (.var 1),.con (.str (aa "all"))])]] [],.ifs (.cmp .eq (.var 7) (.con (.str (aa "m")))) [.mut .app 6 [.tup [.con (.str (aa "all")),.var 5,.var 3,.con (.str (aa "all"))]]] [],.ifs (.cmp .eq (.var 7) (.con (.str (aa "e")))) [.mut .app 6 [.tup [.con (.str (aa "all")),.var 5,.var 3,.con (.str (aa "done"))]]] []],.nY 6]
noncomputable def QP:List Sx:=[.set 1 (.lst [.tup [.con (.str (aa "out")),.con (.str (aa " ")),.tup [.con (.int 0)],.con (.str (aa "out"))],.tup [.con (.str (aa "done")),.con (.str (aa " ")),.tup [.con (.int 0)],.con (.str (aa "out"))],.tup [.con (.str (aa "num")),.con (.str (aa " ")),.tup [.con (.int 0)],.con (.str (aa "out"))]]),.loop true [2] (.rng [.blt .len [.ix (.var 0) (.con (.int 2))]]) [.set 3 (.ix (.con (.str (aa "0123456789"))) (.var 2)),.mut .app 1 [.tup [.con (.str (aa "num")),.var 3,.tup [.ix (.ix (.var 0) (.con (.int 2))) (.var 2)],.con (.str (aa "num"))]],.loop true [4] (.itv (.lst [.con (.str (aa "out")),.con (.str (aa "done"))])) [.mut .app 1 [.tup [.var 4,.var 3,.bin .add (.ix (.ix (.var 0) (.con (.int 1))) (.con (.int 2))) (.tup [.ix (.ix (.var 0) (.con (.int 2))) (.var 2)]),.con (.str (aa "num"))]]]],.ifs (.cmp .gt (.blt .len [.ix (.var 0) (.con (.int 2))]) (.con (.int 0))) [.mut .app 1 [.tup [.con (.str (aa "num")),.con (.str (aa "")),.ix (.ix (.var 0) (.con (.int 1))) (.con (.int 3)),.con (.str (aa "let"))]]] [],.loop true [5] (.itv (.ix (.var 0) (.con (.int 0)))) [.mut .ext 1 [.call 14 [.var 0,.var 5]],.ifs (.cmp .ne (.ix (.ix (.var 0) (.con (.int 1))) (.con (.int 1))) (.tup [])) [.mut .ext 1 [.call 15 [.var 0,.var 5]]] []],.ret (.blt .sset [.var 1])]
noncomputable def FG:List Sx:=[.set 1 (.call 12 [.var 0,.con (.int 0)]),.set 2 (.ix (.lst [.con (.int 4),.con (.int 63)]) (.call 6 [.var 0,.con (.int 200),.con (.int 2)])),.set 3 (.call 8 [.var 0,.con (.int 201),.bin .add (.con (.int 1)) (.call 6 [.var 0,.con (.int 204),.con (.int 2)]),.var 2]),.set 4 (.tup []),.ifs (.cmp .eq (.call 6 [.var 0,.con (.int 205),.con (.int 2)]) (.con (.int 0))) [.set 4 (.ix (.lst [.var 3,.call 8 [.var 0,.con (.int 206),.bin .add (.con (.int 1)) (.call 6 [.var 0,.con (.int 209),.con (.int 2)]),.var 2]]) (.call 6 [.var 0,.con (.int 210),.con (.int 2)]))] [],.set 1 (.tup [.ix (.var 1) (.con (.int 0)),.bin .add (.tup [.var 3,.var 4]) (.sl (.ix (.var 1) (.con (.int 1))) (some (.con (.int 2))) none),.ix (.var 1) (.con (.int 2))]),.ret (.call 7 [.call 5 [.var 1],.call 16 [.var 1]])]
noncomputable def d0:Df:=⟨"blank_edges",top 4,[],[],b0⟩
noncomputable def d1:Df:=⟨"figure_edges",top 5,["marks","figures","edges","figure","cell"],["marks","figures"],b1⟩
noncomputable def d2:Df:=⟨"small_edges",top 6,["forms","edges","letters","cells","places","place","state","other"],["forms"],b2⟩
noncomputable def d3:Df:=⟨"great_edges",top 7,["edges","mark"],["edges","mark"],b3⟩
noncomputable def d4:Df:=⟨"all_great_edges",top 8,["forms","mark","edges","letters","cells","places","place","state","other","ahead"],["forms","mark"],b4⟩
noncomputable def d5:Df:=⟨"edges_of",top 9,["table","forms","marks","edges"],["table"],b5⟩
noncomputable def d6:Df:=⟨"_law_draw",top 11,["_law_script","_law_k","_law_many","_law_cell"],["_law_script","_law_k","_law_many"],b6⟩
noncomputable def d7:Df:=⟨"_law_alike",top 12,["_law_found","_law_due"],["_law_found","_law_due"],b7⟩
noncomputable def d8:Df:=⟨"_law_cells",top 13,["_law_script","_law_k","_law_many","_law_few"],["_law_script","_law_k","_law_many","_law_few"],b8⟩
noncomputable def d9:Df:=⟨"_law_places",top 14,["_law_number"],["_law_number"],b9⟩
noncomputable def UM:Df:=⟨"_law_forms",top 15,["_law_script","_law_base","_law_few","_law_start","_law_step","_law_many","_law_j","_law_letters","_law_forms_here","_law_size","_law_k","_law_text","_law_cells_here","_law_form"],["_law_script","_law_base","_law_few"],We⟩
noncomputable def UL:Df:=⟨"_law_marks",top 16,["_law_script","_law_base","_law_few","_law_marks_here","_law_figures"],["_law_script","_law_base","_law_few"],Wd⟩
noncomputable def UK:Df:=⟨"_law_table",top 17,["_law_script","_law_base","_law_few","_law_forms_here","_law_marks_here","_law_figures"],["_law_script","_law_base"],W9⟩
noncomputable def UJ:Df:=⟨"_law_ways",top 18,["_law_table_here","_law_state"],["_law_table_here","_law_state"],Wc⟩
noncomputable def UI:Df:=⟨"_law_form_edges",top 19,["_law_table_here","_law_form","_law_letters","_law_cells_here","_law_places_here","_law_great","_law_edges_here","_law_sign","_law_begin","_law_other","_law_state"],["_law_table_here","_law_form"],UO⟩
noncomputable def UH:Df:=⟨"_law_all_edges",top 20,["_law_table_here","_law_form","_law_letters","_law_cells_here","_law_places_here","_law_text","_law_edges_here","_law_sign"],["_law_table_here","_law_form"],Wb⟩
noncomputable def UG:Df:=⟨"_law_edges",top 21,["_law_table_here","_law_edges_here","_law_k","_law_sign","_law_state","_law_form"],["_law_table_here"],QP⟩
noncomputable def UE:Df:=⟨"law",top 22,["_law_script","_law_table_here","_law_few","_law_great","_law_mark"],["_law_script"],FG⟩
noncomputable def D:List Df:=[d0,d1,d2,d3,d4,d5,d6,d7,d8,d9,UM,UL,UK,UJ,UI,UH,UG,UE]
noncomputable def con:List (bh×Dat):=[(aa "FIGURES",(.str (aa "0123456789"))),(aa "WAYS",(.tup [(.tup [(.str (aa "w")),(.str (aa "out")),(.str (aa "done"))]),(.tup [(.str (aa "w")),(.str (aa "let")),(.str (aa "done"))]),(.tup [(.str (aa "b")),(.str (aa "out")),(.str (aa "in"))]),(.tup [(.str (aa "b")),(.str (aa "let")),(.str (aa "in"))]),(.tup [(.str (aa "m")),(.str (aa "in")),(.str (aa "in"))]),(.tup [(.str (aa "e")),(.str (aa "in")),(.str (aa "done"))])])),(aa "ALL_GREAT_WAYS",(.tup [(.tup [(.str (aa "w")),(.str (aa "out")),(.str (aa "done"))]),(.tup [(.str (aa "w")),(.str (aa "let")),(.str (aa "done"))]),(.tup [(.str (aa "b")),(.str (aa "out")),(.str (aa "all"))]),(.tup [(.str (aa "b")),(.str (aa "let")),(.str (aa "all"))]),(.tup [(.str (aa "m")),(.str (aa "all")),(.str (aa "all"))]),(.tup [(.str (aa "e")),(.str (aa "all")),(.str (aa "done"))])]))]
noncomputable def G:Sg:=Kx D con
theorem WR:mJ G d0:=⟨⟨rfl,rfl,rfl,by decide +kernel,rfl,by decide +kernel,by decide +kernel⟩,by kernel_rfl⟩
theorem WQ:mJ G d1:=⟨⟨rfl,rfl,rfl,by decide +kernel,rfl,by decide +kernel,by decide +kernel⟩,by kernel_rfl⟩
theorem WO:mJ G d2:=⟨⟨rfl,rfl,rfl,by decide +kernel,rfl,by decide +kernel,by decide +kernel⟩,by kernel_rfl⟩
theorem WN:mJ G d3:=⟨⟨rfl,rfl,rfl,by decide +kernel,rfl,by decide +kernel,by decide +kernel⟩,by kernel_rfl⟩
theorem WM:mJ G d4:=⟨⟨rfl,rfl,rfl,by decide +kernel,rfl,by decide +kernel,by decide +kernel⟩,by kernel_rfl⟩
theorem WL:mJ G d5:=⟨⟨rfl,rfl,rfl,by decide +kernel,rfl,by decide +kernel,by decide +kernel⟩,by kernel_rfl⟩
theorem WK:mJ G d6:=⟨⟨rfl,rfl,rfl,by decide +kernel,rfl,by decide +kernel,by decide +kernel⟩,by kernel_rfl⟩
theorem WJ:mJ G d7:=⟨⟨rfl,rfl,rfl,by decide +kernel,rfl,by decide +kernel,by decide +kernel⟩,by kernel_rfl⟩
theorem WI:mJ G d8:=⟨⟨rfl,rfl,rfl,by decide +kernel,rfl,by decide +kernel,by decide +kernel⟩,by kernel_rfl⟩
theorem WH:mJ G d9:=⟨⟨rfl,rfl,rfl,by decide +kernel,rfl,by decide +kernel,by decide +kernel⟩,by kernel_rfl⟩
theorem Vv:mJ G UM:=⟨⟨rfl,rfl,rfl,by decide +kernel,rfl,by decide +kernel,by decide +kernel⟩,by kernel_rfl⟩
theorem Vu:mJ G UL:=⟨⟨rfl,rfl,rfl,by decide +kernel,rfl,by decide +kernel,by decide +kernel⟩,by kernel_rfl⟩
theorem Vt:mJ G UK:=⟨⟨rfl,rfl,rfl,by decide +kernel,rfl,by decide +kernel,by decide +kernel⟩,by kernel_rfl⟩
theorem Vs:mJ G UJ:=⟨⟨rfl,rfl,rfl,by decide +kernel,rfl,by decide +kernel,by decide +kernel⟩,by kernel_rfl⟩
theorem Vr:mJ G UI:=⟨⟨rfl,rfl,rfl,by decide +kernel,rfl,by decide +kernel,by decide +kernel⟩,by kernel_rfl⟩
theorem Vq:mJ G UH:=⟨⟨rfl,rfl,rfl,by decide +kernel,rfl,by decide +kernel,by decide +kernel⟩,by kernel_rfl⟩
theorem Vp:mJ G UG:=⟨⟨rfl,rfl,rfl,by decide +kernel,rfl,by decide +kernel,by decide +kernel⟩,by kernel_rfl⟩
theorem Vo:mJ G UE:=⟨⟨rfl,rfl,rfl,by decide +kernel,rfl,by decide +kernel,by decide +kernel⟩,by kernel_rfl⟩
theorem Sd:∀d∈D,mJ G d:=all_cons WR (all_cons WQ (all_cons WO (all_cons WN (all_cons WM (all_cons WL (all_cons WK (all_cons WJ (all_cons WI (all_cons WH (all_cons Vv (all_cons Vu (all_cons Vt (all_cons Vs (all_cons Vr (all_cons Vq (all_cons Vp (all_cons Vo (all_nil))))))))))))))))))
noncomputable def Bd(d:Df):Prop:=∀(kV doc pm:ab) (an:Option ag) (cdv ct:ab) (us:List ab),us.length=d.ps.length->bindArgs (dz d.name d.name (iF d.st) (fZ d.st) (dn d.st) .none kV doc pm an cdv ct) ⟨us,[]⟩=pure (d.ps.zip us)
theorem Sj{us:List ab}(h:us.length=0):us=[]:=gr.mp h
theorem JC{n:Nat}{us:List ab}(h:us.length=n+1):∃a r,us=a::r/\r.length=n:=by
 cases us with
 | nil=>cases h
 | cons a r=>exact⟨a,r,rfl,Nat.succ.inj h⟩
theorem V2{d:Df}(hp:d.ps.length=0)(h:∀(kV doc pm:ab) (an:Option ag) (cdv ct:ab),bindArgs (dz d.name d.name (iF d.st) (fZ d.st) (dn d.st) .none kV doc pm an cdv ct) ⟨[],[]⟩=pure (d.ps.zip [])):Bd d:=by
 intro kV doc pm an cdv ct us hl;rw[hp]at hl;obtain rfl:=Sj hl;exact h kV doc pm an cdv ct
theorem Jh{d:Df}(hp:d.ps.length=1)(h:∀(kV doc pm:ab) (an:Option ag) (cdv ct x0:ab),bindArgs (dz d.name d.name (iF d.st) (fZ d.st) (dn d.st) .none kV doc pm an cdv ct) ⟨[x0],[]⟩=pure (d.ps.zip [x0])):Bd d:=by
 intro kV doc pm an cdv ct us hl;rw[hp]at hl;obtain⟨x0,r0,e0,h0⟩:=JC hl;subst e0;obtain rfl:=Sj h0;exact h kV doc pm an cdv ct x0
theorem zG{d:Df}(hp:d.ps.length=2)(h:∀(kV doc pm:ab) (an:Option ag) (cdv ct x0 x1:ab),bindArgs (dz d.name d.name (iF d.st) (fZ d.st) (dn d.st) .none kV doc pm an cdv ct) ⟨[x0,x1],[]⟩=pure (d.ps.zip [x0,x1])):Bd d:=by
 intro kV doc pm an cdv ct us hl;rw[hp]at hl;obtain⟨x0,r0,e0,h0⟩:=JC hl;subst e0;obtain⟨x1,r1,e1,h1⟩:=JC h0;subst e1;obtain rfl:=Sj h1;exact h kV doc pm an cdv ct x0 x1
theorem QL{d:Df}(hp:d.ps.length=3)(h:∀(kV doc pm:ab) (an:Option ag) (cdv ct x0 x1 x2:ab),bindArgs (dz d.name d.name (iF d.st) (fZ d.st) (dn d.st) .none kV doc pm an cdv ct) ⟨[x0,x1,x2],[]⟩=pure (d.ps.zip [x0,x1,x2])):Bd d:=by
 intro kV doc pm an cdv ct us hl;rw[hp]at hl;obtain⟨x0,r0,e0,h0⟩:=JC hl;subst e0;obtain⟨x1,r1,e1,h1⟩:=JC h0;subst e1;obtain⟨x2,r2,e2,h2⟩:=JC h1;subst e2;obtain rfl:=Sj h2;exact h kV doc pm an cdv ct x0 x1 x2
theorem V1{d:Df}(hp:d.ps.length=4)(h:∀(kV doc pm:ab) (an:Option ag) (cdv ct x0 x1 x2 x3:ab),bindArgs (dz d.name d.name (iF d.st) (fZ d.st) (dn d.st) .none kV doc pm an cdv ct) ⟨[x0,x1,x2,x3],[]⟩=pure (d.ps.zip [x0,x1,x2,x3])):Bd d:=by
 intro kV doc pm an cdv ct us hl;rw[hp]at hl;obtain⟨x0,r0,e0,h0⟩:=JC hl;subst e0;obtain⟨x1,r1,e1,h1⟩:=JC h0;subst e1;obtain⟨x2,r2,e2,h2⟩:=JC h1;subst e2;obtain⟨x3,r3,e3,h3⟩:=JC h2;subst e3;obtain rfl:=Sj h3;exact h kV doc pm an cdv ct x0 x1 x2 x3
theorem W8:Bd d0:=V2 rfl fun _ _ _ _ _ _=>rfl
theorem W7:Bd d1:=zG rfl fun _ _ _ _ _ _ _ _=>rfl
theorem W5:Bd d2:=Jh rfl fun _ _ _ _ _ _ _=>rfl
theorem W3:Bd d3:=zG rfl fun _ _ _ _ _ _ _ _=>rfl
theorem W0:Bd d4:=zG rfl fun _ _ _ _ _ _ _ _=>rfl
theorem WZ:Bd d5:=Jh rfl fun _ _ _ _ _ _ _=>rfl
theorem WY:Bd d6:=QL rfl fun _ _ _ _ _ _ _ _ _=>rfl
theorem WX:Bd d7:=zG rfl fun _ _ _ _ _ _ _ _=>rfl
theorem WW:Bd d8:=V1 rfl fun _ _ _ _ _ _ _ _ _ _=>rfl
theorem WV:Bd d9:=Jh rfl fun _ _ _ _ _ _ _=>rfl
theorem Wa:Bd UM:=QL rfl fun _ _ _ _ _ _ _ _ _=>rfl
theorem V9:Bd UL:=QL rfl fun _ _ _ _ _ _ _ _ _=>rfl
theorem V8:Bd UK:=zG rfl fun _ _ _ _ _ _ _ _=>rfl
theorem V7:Bd UJ:=zG rfl fun _ _ _ _ _ _ _ _=>rfl
theorem V6:Bd UI:=zG rfl fun _ _ _ _ _ _ _ _=>rfl
theorem V5:Bd UH:=zG rfl fun _ _ _ _ _ _ _ _=>rfl
theorem V4:Bd UG:=Jh rfl fun _ _ _ _ _ _ _=>rfl
theorem V3:Bd UE:=Jh rfl fun _ _ _ _ _ _ _=>rfl
end K09
namespace M
open PySem L2
@[simp] theorem Io:full []=[]:=rfl
@[simp] theorem ER{d:Dat}{b:Bool}{ρ:dk}:full (some (d,b)::ρ)=some d::full ρ:=rfl
@[simp] theorem ET{ρ:dk}:full (none::ρ)=none::full ρ:=rfl
section
variable{C:Fs}{ρ:gD}{a b c:Ex}{i j:Int}
@[simp] theorem lh:gm .add (.int i) (.int j)=some (.int (i+j),false):=rfl
@[simp] theorem BD:gm .sub (.int i) (.int j)=some (.int (i - j),false):=rfl
theorem tY(h:0<j):gm .mod (.int i) (.int j)=some (.int (i % j),false):=if_pos h
@[simp] theorem zF:gm .band (.int i) (.int j)=some (.int (rY i j),false):=rfl
@[simp] theorem BG:gm .bor (.int i) (.int j)=some (.int (Ju i j),false):=rfl
theorem QJ(h:0<=j):gm .shr (.int i) (.int j)=some (.int (i / 2 ^ j.toNat),false):=if_pos h
@[simp] theorem Mt:dt .lt (.int i) (.int j)=some (decide (i<j)):=rfl
@[simp] theorem Mu:dt .le (.int i) (.int j)=some (decide (i<=j)):=rfl
@[simp] theorem Mv:dt .gt (.int i) (.int j)=some (decide (j<i)):=rfl
@[simp] theorem Mw:dt .ge (.int i) (.int j)=some (decide (j<=i)):=rfl
@[simp] theorem E8:dt .eq (.int i) (.int j)=some (i == j):=rfl
@[simp] theorem E5:dt .ne (.int i) (.int j)=some (!(i == j)):=rfl
@[simp] theorem E9{x y:Bool}:dt .eq (.bl x) (.bl y)=some (x == y):=rfl
@[simp] theorem E7{x y:Bool}:dt .ne (.bl x) (.bl y)=some (!(x == y)):=rfl
@[simp] theorem Gh{x:Bool}:km (.bl x)=some x:=rfl
@[simp] theorem tW{xs:List Dat}:gY .len [.lst xs]=some (.int xs.length,false):=rfl
@[simp] theorem tV{xs:List Dat}:gY .len [.tup xs]=some (.int xs.length,false):=rfl
@[simp] theorem zC{xs:List Dat}:gY .list [.lst xs]=some (.lst xs,kd xs):=rfl
@[simp] theorem zB{xs:List Dat}:gY .list [.tup xs]=some (.lst xs,kd xs):=rfl
@[simp] theorem wQ{xs:List Dat}:gY .tuple [.lst xs]=some (.tup xs,false):=rfl
@[simp] theorem wO{xs:List Dat}:gY .tuple [.tup xs]=some (.tup xs,false):=rfl
@[simp] theorem Jb{xs:List Dat}:gY .listrev [.lst xs]=some (.lst xs.reverse,kd xs.reverse):=rfl
@[simp] theorem Jc{t:Ty}{d:Dat}:gY (.isi t) [d]=some (.bl (iq t d),false):=rfl
@[simp] theorem Nv{xs:List Dat}:JE (.lst xs) (.int i)=lN xs i:=rfl
@[simp] theorem Sl{xs:List Dat}:JE (.tup xs) (.int i)=lN xs i:=rfl
@[simp] theorem P2:im (.int i)=true:=rfl
@[simp] theorem Sy{x:Bool}:im (.bl x)=true:=rfl
@[simp] theorem PZ{x:bh}:im (.str x)=true:=rfl
@[simp] theorem P0:im .non=true:=rfl
@[simp] theorem P1{xs:List Dat}:im (.lst xs)=false:=rfl
@[simp] theorem ee(ns:List Int):kd (ns.map Dat.int)=true:=by
 induction ns with
 | nil=>rfl
 | cons n r ih=>show(true && kd (r.map Dat.int))=true;rw[ih];rfl
@[simp] theorem SM{ρ:dk}{i:Nat}{d:Dat}{b:Bool}:full (ρ.set i (some (d,b)))=(full ρ).set i (some d):=by
 unfold full;rw[List.map_set];rfl
end
section
variable{C:Fs}{e:Ex}{s:Sx}{ss:List Sx}{ρ ρ1:dk}{d:Dat}{fr:Bool}{i:Nat}
theorem gC{np nl:Nat}{body:List Sx}{ds:List Dat}(h:ds.length=np)(hx:cY C body (ds.map (fun d=>some (d,false))++cT (nl - np) none)=some (.rt d fr)):FE C np nl body ds=some (d,fr):=by
 unfold FE;rw[if_pos h,hx];rfl
end
section
variable{i j:Int}
theorem tX(h1:-18446744073709551616<i)(h2:i<18446744073709551616):gm .mul (.int i) (.int j)=some (.int (i * j),false):=if_pos (.inl ⟨h1,h2⟩)
theorem BF(h1:-18446744073709551616<j)(h2:j<18446744073709551616):gm .mul (.int i) (.int j)=some (.int (i * j),false):=if_pos (.inr ⟨h1,h2⟩)
theorem zE(h1:0<j)(h2:j<1073741824):gm .fdiv (.int i) (.int j)=some (.int (i / j),false):=if_pos ⟨h1,h2⟩
theorem QK(h1:0<=j)(h2:j<=1000000)(h3:-18446744073709551616<i)(h4:i<18446744073709551616):gm .shl (.int i) (.int j)=some (.int (i * 2 ^ j.toNat),false):=if_pos ⟨h1,h2,by omega⟩
theorem S4{p:Prop}[Decidable p](h:p):decide p=true:=decide_eq_true h
theorem S5{p:Prop}[Decidable p](h:¬p):decide p=false:=decide_eq_false h
theorem IC{C:Fs}{e:Ex}{ρ:dk}{d:Dat}{f:Bool}(h:eP C e (full ρ)=some (d,f))(hi:(im d || f)=true):Bv C e ρ=some (d,f,ρ):=by
 unfold Bv;rw[h];exact if_pos hi
theorem rR{C:Fs}{i:Nat}{e:Ex}{ρ:dk}:ko C (.set i e) ρ=(eP C e (full ρ)).bind fun x=>if(im x.1 || x.2)=true then some (.nx (ρ.set i (some (x.1,x.2 && !im x.1))))else(eP C e (xq (lL e.fv ρ))).map fun y=>.nx ((lL e.fv ρ).set i (some (y.1,y.2 && !im y.1))):=by
 show(Bv C e ρ).map _=_;unfold Bv
 cases eP C e (full ρ)with
 | none=>rfl
 | some x=>
   show jT _ (if(im x.1 || x.2)=true then _ else _)=if(im x.1 || x.2)=true then _ else _
   cases im x.1 || x.2 with
   | true=>rfl
   | false=>exact Option.map_map ..
theorem Mj{C:Fs}{e:Ex}{ρ:dk}:ko C (.ret e) ρ=(eP C e (full ρ)).map fun x=>.rt x.1 x.2:=rfl
theorem qi{C:Fs}{i:Nat}{ρ:dk}:ko C (.nY i) ρ=((ρ[i]?).join).map fun x=>.rt x.1 x.2:=rfl
theorem rS{C:Fs}{e:Ex}{a b:List Sx}{ρ:dk}:ko C (.ifs e a b) ρ=(eP C e (full ρ)).bind fun x=>(km x.1).bind fun z=>if z=true then cY C a ρ else cY C b ρ:=rfl
theorem cG{C:Fs}{s:Sx}{ss:List Sx}{ρ:dk}:cY C (s::ss) ρ=(ko C s ρ).bind (KD (cY C ss)):=rfl
theorem Qe{C:Fs}{ρ:dk}:cY C [] ρ=some (.nx ρ):=rfl
section
variable{k:dk->Option Out}{ρ:dk}
theorem di:KD k (.nx ρ)=k ρ:=rfl
theorem KC{d:Dat}{fr:Bool}:KD k (.rt d fr)=some (.rt d fr):=rfl
end
theorem Pq{op:FH}{i:Nat}{ρ:dk}{ds:List Dat}{d:Dat}:LA op i ρ ds (some (d,true))=(ip op d ds).map fun d'=>.nx (ρ.set i (some (d',true))):=rfl
theorem Ml{C:Fs}{op:FH}{i:Nat}{es:List Ex}{ρ:dk}:ko C (.mut op i es) ρ=(oD C es (full ρ)).bind fun x=>if x.2=true then LA op i ρ x.1 ((ρ[i]?).join)else none:=rfl
theorem jQ{ds:List Dat}{d:Dat}(h:ds.length<1000000):ip .app (.lst ds) [d]=some (.lst (ds++[d])):=if_pos (by rw[cj];omega)
theorem tK{C:Fs}{one:Bool}{ts:List Nat}{es:List Ex}{body:List Sx}{ρ:dk}:ko C (.loop one ts (.rng es) body) ρ=(Bw C (.rng es) (full ρ)).bind fun ds=>eJ (eU one ts) (cY C body) ds ρ:=by
 show((Bw C (.rng es) (full ρ)).map _).bind _=_;cases Bw C (.rng es) (full ρ)<;>rfl
theorem iE{C:Fs}{one:Bool}{ts:List Nat}{e:Ex}{body:List Sx}{ρ:dk}:ko C (.loop one ts (.itv e) body) ρ=(eP C e (full ρ)).bind fun x=>if(im x.1 || x.2)=true then(gw x.1).bind fun ds=>eJ (eU one ts) (cY C body) ds ρ
  else(eP C e (xq (lL e.fv ρ))).bind fun y=>(gw y.1).bind fun ds=>eJ (eU one ts) (cY C body) ds (lL e.fv ρ):=by
 show((Bv C e ρ).bind fun x=>(gw x.1).map fun ds=>(ds,x.2.2)).bind _=_;unfold Bv
 cases eP C e (full ρ)with
 | none=>rfl
 | some x=>
   show dC (dC (if(im x.1 || x.2)=true then _ else _) _) _=if(im x.1 || x.2)=true then _ else _
   cases im x.1 || x.2 with
   | true=>show((gw x.1).map _).bind _=(gw x.1).bind _;cases gw x.1<;>rfl
   | false=>
     show dC (dC (jT _ (eP C e (xq (lL e.fv ρ)))) _) _=dC (eP C e (xq (lL e.fv ρ))) _
     cases eP C e (xq (lL e.fv ρ))with
     | none=>rfl
     | some y=>show((gw y.1).map _).bind _=(gw y.1).bind _;cases gw y.1<;>rfl
section
variable{t:Ty}{i:Int}{b:Bool}{x:bh}{ds:List Dat}
theorem L3:iq .int (.int i)=true:=rfl
theorem Uw:iq .int (.bl b)=true:=rfl
theorem L0:iq .int (.str x)=false:=rfl
theorem Ut:iq .int (.tup ds)=false:=rfl
theorem Uv:iq .int (.lst ds)=false:=rfl
theorem Uu:iq .int .non=false:=rfl
theorem L6:iq .bool (.int i)=false:=rfl
theorem UB:iq .bool (.bl b)=true:=rfl
theorem L4:iq .bool (.str x)=false:=rfl
theorem Ux:iq .bool (.tup ds)=false:=rfl
theorem UA:iq .bool (.lst ds)=false:=rfl
theorem Uy:iq .bool .non=false:=rfl
theorem Uo:iq .str (.int i)=false:=rfl
theorem Uq:iq .str (.bl b)=false:=rfl
theorem LV:iq .str (.str x)=true:=rfl
theorem Uk:iq .str (.tup ds)=false:=rfl
theorem Um:iq .str (.lst ds)=false:=rfl
theorem Ul:iq .str .non=false:=rfl
theorem LU:iq .tuple (.int i)=false:=rfl
theorem Uh:iq .tuple (.bl b)=false:=rfl
theorem LR:iq .tuple (.str x)=false:=rfl
theorem LQ:iq .tuple (.tup ds)=true:=rfl
theorem LS:iq .tuple (.lst ds)=false:=rfl
theorem Ug:iq .tuple .non=false:=rfl
theorem LZ:iq .list (.int i)=false:=rfl
theorem Us:iq .list (.bl b)=false:=rfl
theorem LX:iq .list (.str x)=false:=rfl
theorem LW:iq .list (.tup ds)=false:=rfl
theorem LY:iq .list (.lst ds)=true:=rfl
theorem Ur:iq .list .non=false:=rfl
theorem Sr:dt .isn (.int i) .non=some false:=rfl
theorem Ws:dt .isn (.bl b) .non=some false:=rfl
theorem So:dt .isn (.str x) .non=some false:=rfl
theorem Sn:dt .isn (.tup ds) .non=some false:=rfl
theorem Wr:dt .isn (.lst ds) .non=some false:=rfl
theorem Sq:dt .isn .non .non=some true:=rfl
theorem Vz:dt .nisn (.int i) .non=some true:=rfl
theorem VA:dt .nisn (.bl b) .non=some true:=rfl
theorem Vx:dt .nisn (.str x) .non=some true:=rfl
theorem Pn:dt .nisn (.tup ds) .non=some true:=rfl
theorem Vy:dt .nisn (.lst ds) .non=some true:=rfl
theorem Po:dt .nisn .non .non=some false:=rfl
theorem VT{y:bh}:dt .eq (.str x) (.str y)=some (x == y):=rfl
theorem VC{y:bh}:dt .ne (.str x) (.str y)=some (!(x == y)):=rfl
theorem VS{ys:List Dat}(h1:fR 19 ds=true)(h2:fR 19 ys=true):dt .eq (.tup ds) (.tup ys)=some (n8 ds ys):=by simp only[dt,IZ,NL,zu,ME,iC,h1,h2,pQ,if_true,nA]
theorem VB{ys:List Dat}(h1:fR 19 ds=true)(h2:fR 19 ys=true):dt .ne (.tup ds) (.tup ys)=some (!n8 ds ys):=by simp only[dt,IZ,NL,zu,ME,iC,h1,h2,pQ,if_true,nA]
end
end
section
variable{C:Fs}{ρ:gD}{a b c:Ex}{es:List Ex}
theorem m7{d:Dat}:eP C (.con d) ρ=some (d,false):=rfl
theorem jv{i:Nat}:eP C (.var i) ρ=((ρ[i]?).join).map fun d=>(d,false):=rfl
theorem tL{o:NZ}:eP C (.bin o a b) ρ=(eP C a ρ).bind fun x=>(eP C b ρ).bind fun y=>gm o x.1 y.1:=rfl
theorem IB{o:JL}:eP C (.cmp o a b) ρ=(eP C a ρ).bind fun x=>(eP C b ρ).bind fun y=>(dt o x.1 y.1).map fun r=>(.bl r,false):=rfl
theorem QS{k:Option (Dat×Bool)}{x:Bool}:QT k (.bl x)=if x=true then k else some (.bl false,false):=rfl
theorem Qj:eP C (.and a b) ρ=(eP C a ρ).bind fun x=>QT (eP C b ρ) x.1:=rfl
theorem R8{k:Option (Dat×Bool)}{x:Bool}:Vl k (.bl x)=if x=true then some (.bl true,false)else k:=rfl
theorem SV:eP C (.or a b) ρ=(eP C a ρ).bind fun x=>Vl (eP C b ρ) x.1:=rfl
theorem Qg:eP C (.not a) ρ=(eP C a ρ).bind fun x=>(km x.1).map fun b=>(.bl (!b),false):=rfl
theorem Qh:eP C (.ite c a b) ρ=(eP C c ρ).bind fun x=>(km x.1).bind fun z=>if z=true then eP C a ρ else eP C b ρ:=rfl
theorem Qf:eP C (.tup es) ρ=(oD C es ρ).bind fun x=>if x.1.length<=1000000 then some (.tup x.1,x.2)else none:=rfl
theorem Bu:eP C (.lst es) ρ=(oD C es ρ).bind fun x=>if x.1.length<=1000000 then some (.lst x.1,x.2)else none:=rfl
theorem Di:eP C (.ix a b) ρ=(eP C a ρ).bind fun x=>(eP C b ρ).bind fun y=>(JE x.1 y.1).map fun d=>(d,false):=rfl
theorem Dz:QM C ρ none=some none:=rfl
theorem zH:QM C ρ (some a)=Hl (eP C a ρ):=rfl
theorem CD{i:Int}{f:Bool}:Hl (some (.int i,f))=some (some i):=rfl
theorem NA{b c:Option Ex}:eP C (.sl a b c) ρ=(eP C a ρ).bind fun x=>(QM C ρ b).bind fun l=>(QM C ρ c).bind fun h=>Kt x.1 l h:=rfl
theorem ou{f:Nat}:eP C (.call f es) ρ=(jR C es ρ).bind fun ds=>C f ds:=rfl
theorem Qi{f:JM}:eP C (.blt f es) ρ=(jR C es ρ).bind fun ds=>gY f ds:=rfl
theorem lM:jR C [] ρ=some []:=rfl
theorem j5{e:Ex}:jR C (e::es) ρ=(eP C e ρ).bind fun x=>(jR C es ρ).map fun r=>x.1::r:=rfl
theorem wJ:oD C [] ρ=some ([],true):=rfl
theorem IA{e:Ex}:oD C (e::es) ρ=(eP C e ρ).bind fun x=>(oD C es ρ).map fun r=>(x.1::r.1,(x.2 || im x.1) && r.2):=rfl
theorem Mm{m:MU}{o:Ex}:eP C (.lW m o es) ρ=(eP C o ρ).bind fun x=>(jR C es ρ).bind fun ds=>kY m x.1 ds:=rfl
theorem wI:Bw C (.itv a) ρ=(eP C a ρ).bind fun x=>gw x.1:=rfl
theorem rT:Bw C (.rng es) ρ=(jR C es ρ).bind GS:=rfl
theorem yJ{xs:List Dat}:gw (.lst xs)=some xs:=rfl
theorem HV{xs:List Dat}:gw (.tup xs)=some xs:=rfl
theorem kC{nt:Nat}{one:Bool}{caps:List Nat}{it:Iw}{elt:Ex}{ifs:List Ex}{items ys:List Dat}{fr:Bool}(hi:Bw C it ρ=some items)(hl:items.length<=1000000)(hm:oX (jK C nt one (gP nt caps ρ) ifs elt) items=some (ys,fr)) :
  eP C (.comp nt one caps it ifs elt) ρ=some (.lst ys,fr):=by
 show(Bw C it ρ).bind _=_;rw[hi];show(if items.length<=1000000 then _ else none)=_;rw[if_pos hl];exact congrArg (jT fun ys:List Dat×Bool=>(Dat.lst ys.1,ys.2)) hm
theorem mG{ρ0:gD}{elt:Ex}{d:Dat}:jK C 1 true ρ0 [] elt d=(eP C elt (ρ0.set 0 (some d))).map some:=rfl
theorem IM{ρ0:gD}{elt i:Ex}{d x:Dat}{f t:Bool}(h:eP C i (ρ0.set 0 (some d))=some (x,f))(ht:km x=some t):jK C 1 true ρ0 [i] elt d=if t=true then(eP C elt (ρ0.set 0 (some d))).map some else some none:=by
 unfold jK;simp only[Dy,ah,vx,h,ht];cases t<;>rfl
theorem vA{ρ0:gD}{elt:Ex}{x y:Dat}:jK C 2 false ρ0 [] elt (.tup [x,y])=(eP C elt ((ρ0.set 0 (some x)).set 1 (some y))).map some:=rfl
theorem ot{f:Dat->Option (Option (Dat×Bool))}{g:Dat->Dat}{ds:List Dat}(h:∀d∈ds,∃b,f d=some (some (g d,b)))(hi:∀d∈ds,im (g d)=true):oX f ds=some (ds.map g,true):=by
 induction ds with
 | nil=>rfl
 | cons d ds ih=>
   obtain⟨b,hb⟩:=h d ja;simp only[oX,hb,ah,ih (fun e he=>h e (jt _ he)) fun e he=>hi e (jt _ he),bE,aq,hi d ja,Bool.or_true,eV]
theorem yz{f:Dat->Option (Option (Dat×Bool))}{y:Dat}{ds:List Dat}(hy:im y=true)(h:∀d∈ds,∃b,f d=some (some (y,b))):oX f ds=some (cT ds.length y,true):=by
 have:=ot (f:=f) (g:=fun _=>y) h fun _ _=>hy;rw[this,List.map_const']
theorem o6:∀k:Nat,o7 (cT k (.bl true))=some (cT k true)
 | 0=>rfl
 | k+1=>by simp only[pB,o7,o6 k,bE]
theorem tf:∀{xs:List Dat} {d:Dat},d∈jf xs xs->∃x∈xs,d=.tup [x,x]
 | [],d,h=>by simp[jf]at h
 | x::xs,d,h=>by
   simp only[jf,ao]at h
   rcases h with rfl|h
   ·exact⟨x,ja,rfl⟩
   ·obtain⟨y,h1,h2⟩:=tf h;exact⟨y,jt _ h1,h2⟩
end
mutual
noncomputable def same:Dat->Dat->Bool
 | .non,y9=>match y9 with
   | .non=>true
   | _=>false
 | .bl a,y9=>match y9 with
   | .bl b=>a == b
   | _=>false
 | .int i,y9=>match y9 with
   | .int j=>i == j
   | _=>false
 | .str x,y9=>match y9 with
   | .str y=>x == y
   | _=>false
 | .tup xs,y9=>match y9 with
   | .tup ys=>sL xs ys
   | _=>false
 | .lst xs,y9=>match y9 with
   | .lst ys=>sL xs ys
   | _=>false
 | _,_=>false
noncomputable def sL:List Dat->List Dat->Bool
 | [],[]=>true
 | x::xs,y::ys=>same x y && sL xs ys
 | _,_=>false
end
mutual
theorem Cm:∀(x y:Dat),same x y=true->x=y
 | .non,y,h=>by cases y<;>first|rfl|(simp[same]at h)
 | .bl a,y,h=>by cases y<;>first|(simp[same]at h;rw[h])|(simp[same]at h)
 | .int a,y,h=>by cases y<;>first|(simp[same]at h;rw[h])|(simp[same]at h)
 | .str a,y,h=>by cases y<;>first|(simp[same]at h;rw[h])|(simp[same]at h)
 | .tup a,y,h=>by cases y<;>first|(simp[same]at h;rw[sJ _ _ h])|(simp[same]at h)
 | .lst a,y,h=>by cases y<;>first|(simp[same]at h;rw[sJ _ _ h])|(simp[same]at h)
theorem sJ:∀(x y:List Dat),sL x y=true->x=y
 | [],y,h=>by cases y<;>first|rfl|(simp[sL]at h)
 | x::xs,y,h=>by
   cases y with
   | nil=>simp[sL]at h
   | cons y ys=>
     simp[sL]at h;rw[Cm _ _ h.1,sJ _ _ h.2]
end
noncomputable def sP:Option (Dat×Bool)->Option (Dat×Bool)->Bool
 | some (d,b),some (e,c)=>same d e && b == c
 | none,none=>true
 | _,_=>false
theorem sO{x y:Option (Dat×Bool)}(h:sP x y=true):x=y:=by
 cases x with
 | none=>cases y<;>first|rfl|(simp[sP]at h)
 | some x=>
   cases y with
   | none=>simp[sP]at h
   | some y=>
     obtain⟨d,b⟩:=x;obtain⟨e,c⟩:=y;simp[sP]at h;rw[Cm _ _ h.1,h.2]
theorem Jk{ns:List Int}{k:Int}(h:0<ns.length):lN (ns.map Dat.int) (k % ns.length)=some (.int (ns.getD (k % ns.length).toNat 0)):=by
 have h1:0<=k % (ns.length:Int):=kS _ (by omega);have h2:k % (ns.length:Int)<ns.length:=jq _ (by omega);generalize k % (ns.length:Int)=j at h1 h2 ⊢;obtain⟨n,rfl⟩:=jy h1;have h3:n<ns.length:=by omega
 refine oy ?_;rw[bx,af h3];simp[h3]
noncomputable def vC(ns:List Int)(k:Int):Int:=if 0<ns.length then(ns.getD (k % ns.length).toNat 0) % 2147483629 else 0
noncomputable def FF(ns:List Int)(k m:Int):Int:=(vC ns k+1) * (31 * k * k+7919) % 2147483647 * 48271 % 2147483629 % m
theorem IV(ns:List Int)(k:Int):0<=vC ns k/\vC ns k<2147483629:=by
 unfold vC;split
 ·exact⟨kS _ (by omega),jq _ (by omega)⟩
 ·omega
theorem IG(ns:List Int)(k m:Int)(hm:0<m):0<=FF ns k m/\FF ns k m<m:=⟨kS _ (by omega),jq _ hm⟩
noncomputable abbrev T(l:List Nat):bh:=⟨l.toArray⟩
theorem Tx(x:bh):T x.cps.toList=x:=rfl
theorem NV(a b:List Nat):T a++T b=T (a++b):=by
 show Str.mk _=_;simp[T]
theorem Tw{a b:List Nat}(h:T a=T b):a=b:=by
 have:=congrArg (fun x:bh=>x.cps.toList) h;simpa using this
theorem TC(a b:List Nat):(T a == T b)=decide (a=b):=by
 by_cases h:a=b
 ·subst h;simp
 ·rw[decide_eq_false h];exact beq_false_of_ne fun e=>h (Tw e)
theorem qZ(a:List Nat):(T a).length=a.length:=by show(a.toArray).size=_;simp
theorem Ku{l:List Nat}:kU (T l)=l.map fun c=>T [c]:=by
 unfold kU;simp[T]
theorem len_T{l:List Nat}(h:l.length<=1000000):gY .len [.str (T l)]=some (.int l.length,false):=by
 show(if(T l).length<=aP then some (Dat.int (T l).length,false)else none)=_;rw[qZ,if_pos (by rw[cj];omega)]
theorem PV{l:List Nat}{i:Nat}(hl:l.length<=1000000)(h:i<l.length):JE (.str (T l)) (.int (i:Nat))=some (.str (T [l[i]])):=by
 show(if(T l).length<=aP then(lN (T l).cps.toList (i:Int)).map fun c=>Dat.str ⟨#[c]⟩else none)=_;rw[qZ,if_pos (by rw[cj];omega)];rw[show lN (T l).cps.toList (i:Int)=some l[i]from oy (by simp[h])];rfl
theorem B7:∀ws:List (List Nat),sx (ws.map fun l=>Dat.str (T l))=some (ws.map T)
 | []=>rfl
 | x::r=>by simp only[aq,sx,B7 r,bE]
theorem PQ:∀ws:List (List Nat),rj (T []) (ws.map T)=T ws.flatten:=by
 intro ws;rw[show rj (T []) (ws.map T)=Str.join (T []) (ws.map T)from StrLaws.glued_eq_join _ _]
 induction ws with
 | nil=>rfl
 | cons x r ih=>
   cases r with
   | nil=>show T x=_;simp
   | cons y r=>
     show(T x++T []++Str.join (T []) ((y::r).map T))=_;rw[ih,NV,NV];simp
theorem LC{ws:List (List Nat)}(h:(ws.map (·.length)).sum<=1000000):kY .join (.str (T [])) [.lst (ws.map fun l=>Dat.str (T l))]=some (.str (T ws.flatten),false):=by
 simp only[kY,Rf,Np,Ue,LF,LG,B7,ah];rw[if_pos,PQ];rw[qZ,cx];have e:(List.map ((fun x:bh=>x.length) ∘ T) ws)=ws.map (·.length):=gh fun l _=>qZ l;rw[e];simpa using h
theorem vy:∀(a b:List Int),n8 (a.map Dat.int) (b.map Dat.int)=decide (a=b)
 | [],[]=>rfl
 | [],b::bs=>by simp[n8]
 | a::as,[]=>by simp[n8]
 | a::as,b::bs=>by
   simp only[aq,n8,nA,vy as bs];by_cases h:a=b
   ·subst h;by_cases h2:as=bs<;>simp[h2]
   ·simp[h]
theorem v8(k:Nat):∀a:List Int,fR k (a.map Dat.int)=true
 | []=>by simp[fR]
 | a::as=>by simp[fR,iC,v8 k as]
theorem Qb{z:Option (Dat×Bool)}{ρ:dk}:full (z::ρ)=z.map (·.1)::full ρ:=rfl
theorem RI{xs:List Dat}{lo hi:Option Int}:Kt (.tup xs) lo hi=some (.tup (cutD xs lo hi),false):=rfl
theorem tZ{xs ys:List Dat}(h:xs.length+ys.length<=1000000):gm .add (.tup xs) (.tup ys)=some (.tup (xs++ys),false):=if_pos (qa h)
theorem BC{b:Bool}:gY .int [.bl b]=some (.int (if b then 1 else 0),false):=rfl
theorem ve{ds es:List Dat}(h:ds.length+es.length<=1000000):ip .ext (.lst ds) [.lst es]=some (.lst (ds++es)):=if_pos (qa h)
end M
local macro_rules | `(tactic| walk_at "py") => do let xs ← ("M.cG M.Qe M.di M.KC M.rR M.Mj M.qi M.rS M.Ml M.Pq M.jQ M.wJ M.IA M.Mm M.m7 M.jv M.tL M.IB M.Qj M.SV M.QS M.R8 M.Qg M.Qh M.Qf M.Bu M.Di M.NA M.Dz M.zH M.CD M.ou M.Qi M.lM M.j5 M.wI M.rT M.yJ M.HV List.length_cons List.length_nil Nat.reduceAdd Nat.reduceLeDiff M.Qb Option.map_none M.ER M.ET M.Io List.getElem?_cons_succ List.getElem?_cons_zero List.set_cons_succ List.set_cons_zero Option.join_some Option.map_some Option.bind_some M.lh M.BD M.tX M.BF M.tY M.zE M.zF M.BG M.Mt M.Mu M.Mv M.Mw M.E8 M.E5 M.E9 M.E7 M.Gh M.tW M.tV M.zC M.zB M.wQ M.wO M.Jb M.Jc M.Nv M.Sl M.P2 M.Sy M.PZ M.P0 M.P1 M.ee Bool.true_or Bool.false_or Bool.or_true Bool.or_false Bool.true_and Bool.and_true Bool.false_and Bool.and_false Bool.not_true Bool.not_false if_true if_false Bool.false_eq_true M.S4 M.S5 List.length_map List.map_cons List.map_nil List.cons_append List.nil_append List.replicate_succ List.replicate_zero Nat.reduceSub reduceIte reduceCtorEq beq_self_eq_true Option.some.injEq M.Out.nx.injEq M.Out.rt.injEq exists_eq_left' M.L3 M.L0 M.L6 M.L4 M.LV M.LU M.LR M.LQ M.LS M.LZ M.LX M.LW M.LY M.Sr M.So M.Sn M.Sq M.Pn M.Po M.VT M.VC M.RI M.BC".splitOn " ").toArray.mapM (fun n => `(Lean.Parser.Tactic.simpLemma| $(Lean.mkIdent n.toName):term)); `(tactic| simp (disch := omega) only [$xs,*, *])
namespace M
open PySem L2
noncomputable def j4:List Nat:=[97,98,99,100,101,102,103,104,105,106,107,108,109,110,111,112,113,114,115,116,117,118,119,120,121,122]
theorem Xc:aa "abcdefghijklmnopqrstuvwxyz"=T j4:=by decide +kernel
noncomputable def uI:List Nat:=[119,98,109,101]
theorem Xb:aa "wbme"=T uI:=by decide +kernel
theorem Wx:aa ""=T []:=by decide +kernel
noncomputable abbrev Fm:=List Nat×List Int×List Nat
noncomputable abbrev dG(t:Fm):Dat:=.tup [.str (T t.1),.tup (t.2.1.map Dat.int),.str (T t.2.2)]
theorem o4{ns:List Int}{k m:Int}(hm:0<m):∃d:Nat,FF ns k m=d/\(d:Int)<m:=by
 obtain⟨h1,h2⟩:=IG ns k m hm;obtain⟨d,e⟩:=jy h1;exact⟨d,e,by omega⟩
theorem pV{m:Nat}(h:m<=1000000):GS [.int (m:Nat)]=some ((aT m).map fun k:Nat=>Dat.int k):=by
 show(if _ then _ else none)=_;rw[if_pos (by omega)];simp
theorem SQ(xs:List Nat):(xs.map fun c=>[c]).flatten=xs:=by
 induction xs with
 | nil=>rfl
 | cons a r ih=>rw[aq,qR,ih];rfl
theorem U8(xs:List Nat):((xs.map fun c=>[c]).map (·.length)).sum=xs.length:=by
 induction xs with
 | nil=>rfl
 | cons a r ih=>rw[aq,aq,pL,ih];simp;omega
def pf(C:Fs)(i:Nat)(ns:List Int):Prop:=∀k m:Int,-(2 ^ 60)<k/\k<2 ^ 60->0<m->C i [.lst (ns.map Dat.int),.int k,.int m]=some (.int (FF ns k m),false)
noncomputable def Bz(dr:Nat):List Sx:=[(.ret (.blt .tuple [(.comp 1 true [3,1,0] (.rng [(.var 2)]) [] (.bin .add (.con (.int (1))) (.call dr [(.var 3),(.bin .add (.var 2) (.var 0)),(.var 1)])))]))]
noncomputable def eL(ns:List Int)(k:Int)(many:Nat)(few:Int):List Int:=(aT many).map fun j:Nat=>1+FF ns (k+(j:Int)) few
theorem Fc{C:Fs}{dr:Nat}{ns:List Int}(hd:pf C dr ns){k few:Int}{many:Nat}(hk:-1000000<k/\k<1000000)(hm:many<=1000)(hf:0<few) :
  FE C 4 4 (Bz dr) [.lst (ns.map Dat.int),.int k,.int (many:Nat),.int few]=some (.tup ((eL ns k many few).map Dat.int),false):=by
 refine gC (C:=C) (np:=4) (nl:=4) (body:=Bz dr) rfl ?_;unfold Bz
 have hc:eP C (.comp 1 true [3,1,0] (.rng [(.var 2)]) [] (.bin .add (.con (.int (1))) (.call dr [(.var 3),(.bin .add (.var 2) (.var 0)),(.var 1)]))) [some (.lst (ns.map Dat.int)),some (.int k),some (.int (many:Nat)),some (.int few)]=some (.lst ((eL ns k many few).map Dat.int),true):=by
  refine kC (items:=(aT many).map fun k:Nat=>Dat.int k) ?_ (by rw[aG,bW];omega) ?_
  ·rw[rT,j5,lM,jv];exact pV (by omega)
  have:=ot (f:=jK C 1 true (gP 1 [3,1,0] [some (.lst (ns.map Dat.int)),some (.int k),some (.int (many:Nat)),some (.int few)]) [] (.bin .add (.con (.int (1))) (.call dr [(.var 3),(.bin .add (.var 2) (.var 0)),(.var 1)]))) (g:=fun d=>match d with | .int x=>.int (1+FF ns (k+((x.toNat:Nat):Int)) few)|_=>.non) (ds:=(aT many).map fun k:Nat=>Dat.int k) ?_ ?_
  ·rw[this,cx];unfold eL;rw[cx];rfl
  ·intro d hd';obtain⟨j,hj,rfl⟩:=aX.mp hd';refine⟨false,?_⟩;have hj2:=br.mp hj;have r:=hd (k+(j:Int)) few (by omega) hf;rw[mG];simp only[gP,jj,aq,cF,fG,dW,du,m7,ou,j5,lM,tL,jv,bT,bD,cZ,bE,ah,lh,r];rfl
  ·intro d hd';obtain⟨j,_,rfl⟩:=aX.mp hd';rfl
 have ht:gY .tuple [.lst ((eL ns k many few).map Dat.int)]=some (.tup ((eL ns k many few).map Dat.int),false):=rfl;walk_at "py"
def CellsOk(C:Fs)(i:Nat)(ns:List Int):Prop:=∀(k few:Int) (many:Nat),-1000000<k/\k<1000000->many<=1000->0<few->C i [.lst (ns.map Dat.int),.int k,.int (many:Nat),.int few]=some (.tup ((eL ns k many few).map Dat.int),false)
noncomputable def AN(k:Nat):List Nat:=(aT 4).filterMap fun i=>if k / 2 ^ i % 2=1 then uI[i]? else none
noncomputable def Cu:List Sx:=[(.ret (.lW .join (.con (.str (aa ""))) [(.comp 1 true [0] (.rng [(.con (.int (4)))]) [(.cmp .eq (.bin .band (.bin .shr (.var 1) (.var 0)) (.con (.int (1)))) (.con (.int (1))))] (.ix (.con (.str (aa "wbme"))) (.var 0)))]))]
theorem RX(C:Fs):((aT 16).all fun k=>sP (FE C 1 1 Cu [.int (k:Nat)]) (some (.str (T (AN k)),false)) && decide ((AN k).length<=4))=true:=by kernel_rfl
def t7(C:Fs)(i:Nat):Prop:=∀k:Nat,k<16->C i [.int (k:Nat)]=some (.str (T (AN k)),false)
theorem AK{C:Fs}{k:Nat}(h:k<16):FE C 1 1 Cu [.int (k:Nat)]=some (.str (T (AN k)),false):=by
 have:=bQ.mp (RX C) k (br.mpr h);rw[aF]at this;exact sO this.1
theorem OQ{k:Nat}(h:k<16):(AN k).length<=4:=by
 have:=bQ.mp (RX (fun _ _=>none)) k (br.mpr h);rw[aF]at this;exact of_decide_eq_true this.2
structure mV(f:Fm):Prop where
 ne:f.1≠[]
 low:∀c∈f.1,c∈j4
 ll:f.1.length<=6
 cl:f.2.1.length<=4
 pl:f.2.2.length<=4
 c1:0<f.2.1.length
 c3:f.2.1.length≠3
 cr:∀c∈f.2.1,1<=c/\c<=63
 pp:∃k,1<=k/\k<16/\f.2.2=AN k
noncomputable abbrev ent(f:Fm):List Nat×List Int:=(f.1,f.2.1)
structure FC(ls:List Nat)(fs:List Fm):Prop where
 nd:(fs.map ent).Nodup
 sub:∀f∈fs,∀c∈f.1,c∈ls
 own:∀c∈ls,∃g∈fs,g.1=[c]/\g.2.2=uI
theorem iZ{ns:List Int}{k few:Int}{many:Nat}(h:0<few/\few<=63):∀c∈eL ns k many few,1<=c/\c<=63:=fun c hc=>by
 obtain⟨j,_,rfl⟩:=aX.mp hc;have:=IG ns (k+(j:Int)) few h.1;omega
theorem TL:uI=AN 15:=by decide
noncomputable def SU(dr ce:Nat):List Sx:=[(.set 9 (.bin .add (.con (.int (1))) (.bin .fdiv (.call dr [(.var 0),(.bin .add (.bin .add (.var 1) (.con (.int (10)))) (.var 6)),(.con (.int (5)))]) (.con (.int (4)))))),(.mut .app 8 [(.tup [(.ix (.var 7) (.var 6)),(.call ce [(.var 0),(.bin .add (.bin .add (.var 1) (.con (.int (20)))) (.bin .mul (.con (.int (5))) (.var 6))),(.var 9),(.var 2)]),(.con (.str (aa "wbme")))])])]
noncomputable def Rj(dr ce pl:Nat):List Sx:=[(.set 10 (.bin .add (.bin .add (.var 1) (.con (.int (60)))) (.bin .mul (.con (.int (15))) (.var 6)))),(.set 11 (.lW .join (.con (.str (aa ""))) [(.comp 1 true [10,7,5,0] (.rng [(.bin .add (.con (.int (1))) (.call dr [(.var 0),(.bin .add (.var 10) (.con (.int (4)))),(.con (.int (3)))]))]) [] (.ix (.var 2) (.call dr [(.var 4),(.bin .add (.var 1) (.var 0)),(.var 3)])))])),(.set 12 (.call ce [(.var 0),(.bin .add (.var 10) (.con (.int (5)))),(.ix (.lst [(.con (.int (1))),(.con (.int (1))),(.con (.int (2))),(.con (.int (4)))]) (.call dr [(.var 0),(.bin .add (.var 10) (.con (.int (9)))),(.con (.int (4)))])),(.var 2)])),(.set 13 (.tup [(.var 11),(.var 12),(.call pl [(.bin .add (.con (.int (1))) (.call dr [(.var 0),(.bin .add (.var 10) (.con (.int (10)))),(.con (.int (15)))]))])])),(.ifs (.cmp .nin (.sl (.var 13) none (some (.con (.int (2))))) (.comp 1 true [] (.itv (.var 8)) [] (.sl (.var 0) none (some (.con (.int (2))))))) [(.mut .ins 8 [(.call dr [(.var 0),(.bin .add (.var 10) (.con (.int (11)))),(.bin .add (.blt .len [(.var 8)]) (.con (.int (1))))]),(.var 13)])] [])]
noncomputable def m6(dr ce pl:Nat):List Sx:=[(.set 3 (.call dr [(.var 0),(.bin .add (.var 1) (.con (.int (1)))),(.con (.int (26)))])),(.set 4 (.ix (.lst [(.con (.int (1))),(.con (.int (3))),(.con (.int (5))),(.con (.int (7)))]) (.call dr [(.var 0),(.bin .add (.var 1) (.con (.int (2)))),(.con (.int (4)))]))),(.set 5 (.ix (.lst [(.con (.int (1))),(.con (.int (2))),(.con (.int (2))),(.con (.int (3))),(.con (.int (3))),(.con (.int (6)))]) (.call dr [(.var 0),(.bin .add (.var 1) (.con (.int (3)))),(.con (.int (6)))]))),(.set 7 (.comp 1 true [3,4] (.rng [(.var 5)]) [] (.ix (.con (.str (aa "abcdefghijklmnopqrstuvwxyz"))) (.bin .mod (.bin .add (.var 1) (.bin .mul (.var 2) (.var 0))) (.con (.int (26))))))),(.set 8 (.lst [])),(.loop true [6] (.rng [(.var 5)]) (SU dr ce)),(.loop true [6] (.rng [(.call dr [(.var 0),(.bin .add (.var 1) (.con (.int (4)))),(.con (.int (5)))])]) (Rj dr ce pl)),(.nY 8)]
theorem fT{ns:List Int}{k few:Int}{many:Nat}:(eL ns k many few).length=many:=by simp[eL]
theorem Nx(f:Fm):im (dG f)=true:=by
 show(true && (kd (f.2.1.map Dat.int) && (true && true)))=true;rw[ee];rfl
theorem oZ:∀fs:List Fm,kd (fs.map dG)=true
 | []=>rfl
 | f::fs=>by rw[aq];show(im (dG f) && kd (fs.map dG))=true;rw[Nx,oZ fs];rfl
theorem HH{C:Fs}{dr ce:Nat}{ns:List Int}{base few:Int}{ls:List Nat}(hd:pf C dr ns)(hc:CellsOk C ce ns)(hb:0<=base/\base<=10000)(hf:0<few/\few<=63)(hl:∀c∈ls,c∈j4)(hn:ls.length<=6)(s3 s4 s5:Dat) :
  ∀(js:List Nat) (acc:List Fm) (z6 z9:Option (Dat×Bool)),(∀j∈js,j<ls.length)->acc.length+js.length<=100->(∀f∈acc,mV f)->
  ∃(acc':List Fm) (z6' z9':Option (Dat×Bool)),eJ (eU true [6]) (cY C (SU dr ce)) (js.map fun j:Nat=>Dat.int j) [some (.lst (ns.map Dat.int),false),some (.int base,false),some (.int few,false),some (s3,false),some (s4,false),some (s5,false),z6,some (.lst (ls.map fun c=>.str (T [c])),true),some (.lst (acc.map dG),true),z9,none,none,none,none] =
   some (.nx [some (.lst (ns.map Dat.int),false),some (.int base,false),some (.int few,false),some (s3,false),some (s4,false),some (s5,false),z6',some (.lst (ls.map fun c=>.str (T [c])),true),some (.lst (acc'.map dG),true),z9',none,none,none,none])/\acc'.length=acc.length+js.length/\(∀f∈acc',mV f)/\∃gs:List Fm,acc'=acc++gs/\gs.map (·.1)=js.map (fun j=>[ls.getD j 0])/\∀g∈gs,g.2.2=uI
 | [],acc,z6,z9,_,_,ha=>⟨acc,z6,z9,rfl,rfl,ha,[],by simp,rfl,fun g hg=>by cases hg⟩
 | j::js,acc,z6,z9,hj,hlen,ha=>by
   have hjl:=hj j ja;obtain⟨q,e,b⟩:=o4 (ns:=ns) (k:=base+10+(j:Int)) (m:=5) (by omega);have r:=hd (base+10+(j:Int)) 5 (by omega) (by omega);rw[e]at r;have e2:(1:Int)+(q:Int) / 4=((1+q / 4:Nat):Int):=by omega
   have rc:=hc (base+20+5 * (j:Int)) few (1+q / 4) (by omega) (by omega) hf.1;let f:Fm:=([ls[j]],eL ns (base+20+5 * (j:Int)) (1+q / 4) few,uI)
   have hfo:mV f:=⟨by simp[f],fun c h=>by simp[f]at h;rw[h];exact hl _ (bM hjl),by simp[f],by simp only[f];rw[fT];omega,by simp[f,uI],by simp only[f];rw[fT];omega,by simp only[f];rw[fT];omega,iZ hf,15,by omega,by omega,TL⟩
   have hx:lN (ls.map fun c=>Dat.str (T [c])) (j:Int)=some (.str (T [ls[j]])):=oy (by simp[hjl]);have him:im (.tup ((eL ns (base+20+5 * (j:Int)) (1+q / 4) few).map Dat.int))=true:=ee _
   have hmt:ip .app (.lst (acc.map dG)) [Dat.tup [Dat.str (T [ls[j]]),Dat.tup ((eL ns (base+20+5 * (j:Int)) (1+q / 4) few).map Dat.int),Dat.str (T uI)]]=some (.lst ((acc++[f]).map dG)):=by
    rw[jQ (by rw[aG];simp at hlen;omega),dY];rfl
   obtain⟨acc',z6',z9',h1,h2,h3,gs,g1,g2,g3⟩:=HH (C:=C) hd hc hb hf hl hn s3 s4 s5 js (acc++[f]) (some (.int (j:Nat),false)) (some (.int ((1+q / 4:Nat):Int),false)) (fun i m=>hj i (jt _ m)) (by simp at hlen ⊢;omega) (fun g hg=>by
    rcases aD.mp hg with hg|hg
    ·exact ha g hg
    ·rw[au.mp hg];exact hfo)
   refine⟨acc',z6',z9',?_,by rw[h2];simp;omega,h3,f::gs,by rw[g1];simp,?_,?_⟩
   rotate_left
   ·rw[aq,aq,g2];simp[f,hjl]
   ·intro g hg
    rcases ao.mp hg with rfl|hg
    ·rfl
    ·exact g3 g hg
   have hb1:∀z9,cY C (SU dr ce) [some (.lst (ns.map Dat.int),false),some (.int base,false),some (.int few,false),some (s3,false),some (s4,false),some (s5,false),some (.int (j:Nat),false),some (.lst (ls.map fun c=>.str (T [c])),true),some (.lst (acc.map dG),true),z9,none,none,none,none] =
     some (.nx [some (.lst (ns.map Dat.int),false),some (.int base,false),some (.int few,false),some (s3,false),some (s4,false),some (s5,false),some (.int (j:Nat),false),some (.lst (ls.map fun c=>.str (T [c])),true),some (.lst ((acc++[f]).map dG),true),some (.int ((1+q / 4:Nat):Int),false),none,none,none,none]):=by
    intro z9;unfold SU;rw[Xb];clear h1
    cases z9 with
    | none=>walk_at "py"
    | some z=>
      obtain⟨za,zb⟩:=z;walk_at "py"
   simp only[aq,eJ,eU,lH,du,ah,hb1];exact h1
theorem yN{α β:Type}(g:α->β)(x:α)(i:Int)(xs:List α):insI (g x) i (xs.map g)=(insI x i xs).map g:=by
 unfold insI;rw[aG,dY,aq,pN,xm]
theorem yy{α:Type}{x y:α}{i:Int}{xs:List α}(h:y∈insI x i xs):y=x\/y∈xs:=by
 unfold insI at h
 rcases aD.mp h with h|h
 ·exact .inr (bY h)
 ·rcases ao.mp h with h|h
  ·exact .inl h
  ·exact .inr (dv h)
theorem yE{α:Type}{x:α}{i:Int}{xs:List α}:(insI x i xs).length=xs.length+1:=by
 unfold insI;rw[ak,bo,gp,nr];omega
theorem HY{α:Type}{x y:α}{i:Int}{xs:List α}(h:y∈xs):y∈insI x i xs:=by
 unfold insI;rw[<-bu (HT.gG xs.length 0 (some i)) xs]at h
 rcases aD.mp h with h|h
 ·exact aY _ h
 ·exact aA _ (jt _ h)
theorem AZ{α:Type}{x:α}{i:Int}{xs:List α}(h:x∉xs)(nd:xs.Nodup):(insI x i xs).Nodup:=by
 unfold insI;have e:=bu (HT.gG xs.length 0 (some i)) xs;have nd':(xs.take (HT.gG xs.length 0 (some i))++xs.drop (HT.gG xs.length 0 (some i))).Nodup:=by rw[e];exact nd
 obtain⟨n1,n2,n3⟩:=cV.mp nd';refine cV.mpr ⟨n1,bX.mpr ⟨fun m=>h (dv m),n2⟩,fun a ha b hb z=>?_⟩;subst z
 rcases ao.mp hb with rfl|hb
 ·exact h (bY ha)
 ·exact n3 a ha a hb rfl
theorem uD(a b c:Dat):Kt (.tup [a,b,c]) none (some 2)=some (.tup [a,b],false):=rfl
theorem xN(f:Fm):iC 20 (.tup [.str (T f.1),.tup (f.2.1.map Dat.int)])=true:=by
 show(true && (fR 18 (f.2.1.map Dat.int) && true))=true;rw[v8];rfl
theorem HG{C:Fs}{dr ce pl:Nat}{ns:List Int}{base few:Int}{ls:List Nat}(hd:pf C dr ns)(hc:CellsOk C ce ns)(hp:t7 C pl)(hb:0<=base/\base<=10000)(hf:0<few/\few<=63)(hl:∀c∈ls,c∈j4)(hn:0<ls.length/\ls.length<=6)(s3 s4:Dat) :
  ∀(js:List Nat) (acc:List Fm) (z6 z9 z10 z11 z12 z13:Option (Dat×Bool)),(∀j∈js,j<5)->acc.length+js.length<=100->(∀f∈acc,mV f)->FC ls acc->
  ∃(acc':List Fm) (z6' z9' z10' z11' z12' z13':Option (Dat×Bool)),eJ (eU true [6]) (cY C (Rj dr ce pl)) (js.map fun j:Nat=>Dat.int j) [some (.lst (ns.map Dat.int),false),some (.int base,false),some (.int few,false),some (s3,false),some (s4,false),some (.int (ls.length:Nat),false),z6,some (.lst (ls.map fun c=>.str (T [c])),true),some (.lst (acc.map dG),true),z9,z10,z11,z12,z13] =
   some (.nx [some (.lst (ns.map Dat.int),false),some (.int base,false),some (.int few,false),some (s3,false),some (s4,false),some (.int (ls.length:Nat),false),z6',some (.lst (ls.map fun c=>.str (T [c])),true),some (.lst (acc'.map dG),true),z9',z10',z11',z12',z13'])/\acc.length<=acc'.length/\acc'.length<=acc.length+js.length/\(∀f∈acc',mV f)/\FC ls acc'
 | [],acc,z6,z9,z10,z11,z12,z13,_,_,ha,hol=>⟨acc,z6,z9,z10,z11,z12,z13,rfl,aK _,aK _,ha,hol⟩
 | j::js,acc,z6,z9,z10,z11,z12,z13,hj,hlen,ha,hol=>by
   have hj5:=hj j ja;generalize hkk:base+60+15 * (j:Int)=kk;have hkb:0<=kk/\kk<=20000:=by omega
   obtain⟨q4,e4,b4⟩:=o4 (ns:=ns) (k:=kk+4) (m:=3) (by omega);have r4:=hd (kk+4) 3 (by omega) (by omega);rw[e4]at r4;obtain⟨q9,e9,b9⟩:=o4 (ns:=ns) (k:=kk+9) (m:=4) (by omega);have r9:=hd (kk+9) 4 (by omega) (by omega);rw[e9]at r9;obtain⟨q10,e10,We⟩:=o4 (ns:=ns) (k:=kk+10) (m:=15) (by omega);have r10:=hd (kk+10) 15 (by omega) (by omega);rw[e10]at r10;have rp:=hp (1+q10) (by omega);have e10':(1:Int)+(q10:Int)=((1+q10:Nat):Int):=by omega
   have hplen:=OQ (k:=1+q10) (by omega);have hpp:∃k,1<=k/\k<16/\AN (1+q10)=AN k:=⟨1+q10,by omega,by omega,rfl⟩
   generalize AN (1+q10)=P at rp hplen hpp
   obtain⟨nc,hnc,hnc2⟩:∃nc:Nat,lN [Dat.int 1,Dat.int 1,Dat.int 2,Dat.int 4] (q9:Int)=some (.int (nc:Nat))/\nc<=4/\0<nc/\nc≠3:=by
    rcases(by omega:q9=0\/q9=1\/q9=2\/q9=3)with rfl|rfl|rfl|rfl
    ·exact⟨1,rfl,by omega,by omega,by omega⟩
    ·exact⟨1,rfl,by omega,by omega,by omega⟩
    ·exact⟨2,rfl,by omega,by omega,by omega⟩
    ·exact⟨4,rfl,by omega,by omega,by omega⟩
   have rc:=hc (kk+5) few nc (by omega) (by omega) hf.1;have hcl:(eL ns (kk+5) nc few).length<=4/\0<(eL ns (kk+5) nc few).length/\(eL ns (kk+5) nc few).length≠3:=by rw[fT];exact hnc2
   have hcr:∀c∈eL ns (kk+5) nc few,1<=c/\c<=63:=iZ hf;generalize eL ns (kk+5) nc few=CL at rc hcl hcr;let ch:Nat->Nat:=fun i=>ls.getD (FF ns (kk+(i:Int)) (ls.length:Int)).toNat 97;let W:List Nat:=(aT (1+q4)).map ch;have hW:W.length=1+q4:=by simp[W]
   have hWs:∀c∈W,c∈ls:=fun c hc'=>by
    obtain⟨i,_,rfl⟩:=aX.mp hc';obtain⟨q,e,b⟩:=o4 (ns:=ns) (k:=kk+(i:Int)) (m:=(ls.length:Int)) (by omega);show ls.getD _ 97∈ls;rw[e];have hq:q<ls.length:=by omega
    simp only[jP,dw,af hq,jU];exact bM hq
   have hWl:∀c∈W,c∈j4:=fun c hc'=>hl c (hWs c hc')
   have hcomp:∀y3 y4 y6 y8 y9 y11 y12 y13,eP C (.comp 1 true [10,7,5,0] (.rng [(.bin .add (.con (.int (1))) (.call dr [(.var 0),(.bin .add (.var 10) (.con (.int (4)))),(.con (.int (3)))]))]) [] (.ix (.var 2) (.call dr [(.var 4),(.bin .add (.var 1) (.var 0)),(.var 3)]))) [some (.lst (ns.map Dat.int)),some (.int base),some (.int few),y3,y4,some (.int (ls.length:Nat)),y6,some (.lst (ls.map fun c=>.str (T [c]))),y8,y9,some (.int kk),y11,y12,y13]=some (.lst ((W.map fun c=>[c]).map fun l=>.str (T l)),true):=by
    intro y3 y4 y6 y8 y9 y11 y12 y13;refine kC (items:=(aT (1+q4)).map fun k:Nat=>Dat.int k) ?_ (by rw[aG,bW];omega) ?_
    ·simp only[rT,j5,lM,tL,m7,ou,jv,bT,bD,cZ,bE,ah,lh,r4];rw[show(1:Int)+(q4:Int)=((1+q4:Nat):Int) by omega];exact pV (by omega)
    have:=ot (f:=jK C 1 true (gP 1 [10,7,5,0] [some (.lst (ns.map Dat.int)),some (.int base),some (.int few),y3,y4,some (.int (ls.length:Nat)),y6,some (.lst (ls.map fun c=>.str (T [c]))),y8,y9,some (.int kk),y11,y12,y13]) [] (.ix (.var 2) (.call dr [(.var 4),(.bin .add (.var 1) (.var 0)),(.var 3)]))) (g:=fun d=>match d with | .int x=>.str (T [ch x.toNat])|_=>.non) (ds:=(aT (1+q4)).map fun k:Nat=>Dat.int k) ?_ ?_
    ·rw[this,cx,cx,cx];rfl
    ·intro d hd';obtain⟨i,hi,rfl⟩:=aX.mp hd';refine⟨false,?_⟩;have hi2:=br.mp hi;obtain⟨q,e,b⟩:=o4 (ns:=ns) (k:=kk+(i:Int)) (m:=(ls.length:Int)) (by omega);have r:=hd (kk+(i:Int)) (ls.length:Int) (by omega) (by omega);rw[e]at r;have hq:q<ls.length:=by omega
     have hx:lN (ls.map fun c=>Dat.str (T [c])) (q:Int)=some (.str (T [ls[q]])):=oy (by simp[hq]);rw[mG];simp only[gP,jj,aq,cF,fG,dW,du,Di,m7,ou,j5,lM,tL,jv,bT,bD,cZ,bE,ah,lh,r,Nv,hx];show _=some (some (Dat.str (T [ch i]),false));have:ch i=ls[q]:=by show ls.getD _ 97=_;rw[e];simp[hq]
     rw[this]
    ·intro d hd';obtain⟨i,_,rfl⟩:=aX.mp hd';rfl
   have hjn:=LC (ws:=W.map fun c=>[c]) (by rw[U8];omega);rw[SQ]at hjn;let f:Fm:=(W,CL,P)
   have hfo:mV f:=⟨by intro e;rw[show f.1=W from rfl]at e;rw[e]at hW;simp at hW;omega,hWl,by show W.length<=6;omega,hcl.1,hplen,hcl.2.1,hcl.2.2,hcr,hpp⟩
   have hcomp2:∀y3 y4 y6 y7 y9 y10 y11 y12 y13,eP C (.comp 1 true [] (.itv (.var 8)) [] (.sl (.var 0) none (some (.con (.int (2)))))) [some (.lst (ns.map Dat.int)),some (.int base),some (.int few),y3,y4,some (.int (ls.length:Nat)),y6,y7,some (.lst (acc.map dG)),y9,y10,y11,y12,y13]=some (.lst (acc.map fun f=>.tup [.str (T f.1),.tup (f.2.1.map Dat.int)]),true):=by
    intro y3 y4 y6 y7 y9 y10 y11 y12 y13;refine kC (items:=acc.map dG) ?_ (by rw[aG];simp at hlen;omega) ?_
    ·simp only[wI,jv,bT,bD,cZ,bE,ah,yJ]
    have:=ot (f:=jK C 1 true (gP 1 [] [some (.lst (ns.map Dat.int)),some (.int base),some (.int few),y3,y4,some (.int (ls.length:Nat)),y6,y7,some (.lst (acc.map dG)),y9,y10,y11,y12,y13]) [] (.sl (.var 0) none (some (.con (.int (2)))))) (g:=fun d=>match d with | .tup [a,b,c]=>.tup [a,b]|_=>.non) (ds:=acc.map dG) ?_ ?_
    ·rw[this,cx];rfl
    ·intro d hd';obtain⟨g,hg,rfl⟩:=aX.mp hd';refine⟨false,?_⟩;rw[mG];simp only[gP,jj,aq,cF,fG,dW,du,NA,jv,Dz,zH,CD,m7,bT,cZ,bE,ah,uD]
    ·intro d hd';obtain⟨g,hg,rfl⟩:=aX.mp hd';show(true && (kd (g.2.1.map Dat.int) && true))=true;rw[ee];rfl
   have hnin:dt .nin (.tup [.str (T W),.tup (CL.map Dat.int)]) (.lst (acc.map fun f=>.tup [.str (T f.1),.tup (f.2.1.map Dat.int)]))=some (!decide (ent f∈acc.map ent)):=by
    have hs:fR 20 (acc.map fun f=>Dat.tup [.str (T f.1),.tup (f.2.1.map Dat.int)])=true:=by
     clear hcomp2 hlen ha hol
     induction acc with
     | nil=>rfl
     | cons g r ih=>rw[aq];show(iC 20 _ && fR 20 _)=true;rw[xN,ih];rfl
    refine(if_pos (by rw[show iC 20 (.tup [.str (T W),.tup (CL.map Dat.int)])=true from xN f,hs];rfl)).trans ?_
    congr 2
    clear hcomp2 hlen ha hol hs
    induction acc with
    | nil=>rfl
    | cons g r ih=>
      rw[aq,pO,ih]
      have e1:nA (.tup [.str (T g.1),.tup (g.2.1.map Dat.int)]) (.tup [.str (T W),.tup (CL.map Dat.int)])=decide (ent g=ent f):=by
       show((T g.1 == T W) && (n8 (g.2.1.map Dat.int) (CL.map Dat.int) && true))=_;rw[TC,vy,eV];by_cases h1:g.1=W
       ·by_cases h2:g.2.1=CL
        ·rw[decide_eq_true h1,decide_eq_true h2,decide_eq_true (show ent g=ent f from Prod.ext h1 h2)];rfl
        ·rw[decide_eq_false h2,lJ,decide_eq_false (fun z=>h2 (Prod.ext_iff.mp z).2)]
       ·rw[decide_eq_false h1,oI,decide_eq_false (fun z=>h1 (Prod.ext_iff.mp z).1)]
      rw[e1];by_cases h:ent g=ent f
      ·simp[h]
      ·have h':¬ent f=ent g:=fun z=>h z.symm;simp[h,h']
   obtain⟨bb,hbb0⟩:∃bb:Bool,bb=!decide (ent f∈acc.map ent):=⟨_,rfl⟩
   rw[<-hbb0]at hnin;have hbb:=hnin;have him13:im (.tup [.str (T W),.tup (CL.map Dat.int),.str (T P)])=true:=Nx f;have himc:im (.tup (CL.map Dat.int))=true:=ee CL;have hs2:=uD (.str (T W)) (.tup (CL.map Dat.int)) (.str (T P));have hlen8:gY .len [.lst (acc.map dG)]=some (.int (acc.length:Nat),false):=by rw[tW,aG]
   obtain⟨q11,e11,Wd⟩:=o4 (ns:=ns) (k:=kk+11) (m:=(acc.length:Int)+1) (by omega);have r11:=hd (kk+11) ((acc.length:Int)+1) (by omega) (by omega);rw[e11]at r11
   have hmt:ip .ins (.lst (acc.map dG)) [.int (q11:Int),.tup [.str (T W),.tup (CL.map Dat.int),.str (T P)]]=some (.lst ((insI f (q11:Int) acc).map dG)):=by
    simp only[ip,Al,Ak,Aj,Ai];rw[if_pos (by rw[aG,cj];simp at hlen;omega),<-yN]
   have opt:∀z:Option (Dat×Bool),z=none\/∃d b,z=some (d,b):=fun z=>by
    cases z with
    | none=>exact .inl rfl
    | some q=>exact .inr ⟨q.1,q.2,rfl⟩
   have key:∃acc1:List Fm,acc.length<=acc1.length/\acc1.length<=acc.length+1/\(∀g∈acc1,mV g)/\FC ls acc1/\∀z9 z10 z11 z12 z13,cY C (Rj dr ce pl) [some (.lst (ns.map Dat.int),false),some (.int base,false),some (.int few,false),some (s3,false),some (s4,false),some (.int (ls.length:Nat),false),some (.int (j:Nat),false),some (.lst (ls.map fun c=>.str (T [c])),true),some (.lst (acc.map dG),true),z9,z10,z11,z12,z13] =
     some (.nx [some (.lst (ns.map Dat.int),false),some (.int base,false),some (.int few,false),some (s3,false),some (s4,false),some (.int (ls.length:Nat),false),some (.int (j:Nat),false),some (.lst (ls.map fun c=>.str (T [c])),true),some (.lst (acc1.map dG),true),z9,some (.int kk,false),some (.str (T W),false),some (.tup (CL.map Dat.int),false),some (.tup [.str (T W),.tup (CL.map Dat.int),.str (T P)],false)]):=by
    cases bb with
    | false=>
      refine⟨acc,aK _,by omega,ha,hol,fun z9 z10 z11 z12 z13=>?_⟩;unfold Rj;rw[Wx];clear ha hj hlen hW hWl hl hfo hol hbb0 hWs hcr hpp hcl;walk_at "py"
    | true=>
      have hnm:ent f∉acc.map ent:=by
       have:decide (ent f∈acc.map ent)=false:=by simpa using hbb0.symm
       exact of_decide_eq_false this
      refine⟨insI f (q11:Int) acc,by rw[yE];omega,by rw[yE];omega,fun g hg=>?_,⟨?_,fun g hg=>?_,fun c hc'=>?_⟩,fun z9 z10 z11 z12 z13=>?_⟩
      ·rcases yy hg with rfl|hg
       ·exact hfo
       ·exact ha g hg
      ·rw[<-yN];exact AZ hnm hol.nd
      ·rcases yy hg with rfl|hg
       ·exact hWs
       ·exact hol.sub g hg
      ·obtain⟨g,hg,q⟩:=hol.own c hc';exact⟨g,HY hg,q⟩
      ·unfold Rj;rw[Wx];clear ha hj hlen hW hWl hl hfo hol hbb0 hWs hcr hpp hcl hnm;walk_at "py"
   obtain⟨acc1,k1,k2,k3,k5,k4⟩:=key;obtain⟨acc',z6',z9',z10',z11',z12',z13',h1,h2,h3,h4⟩:=HG (C:=C) hd hc hp hb hf hl hn s3 s4 js acc1 (some (.int (j:Nat),false)) z9 (some (.int kk,false)) (some (.str (T W),false)) (some (.tup (CL.map Dat.int),false)) (some (.tup [.str (T W),.tup (CL.map Dat.int),.str (T P)],false)) (fun i m=>hj i (jt _ m)) (by simp at hlen ⊢;omega) k3 k5;refine⟨acc',z6',z9',z10',z11',z12',z13',?_,by omega,by simp;omega,h4⟩;simp only[aq,eJ,eU,lH,du,ah,k4];exact h1
theorem EV{C:Fs}{dr ce pl:Nat}{ns:List Int}{base few:Int}(hd:pf C dr ns)(hc:CellsOk C ce ns)(hp:t7 C pl)(hb:0<=base/\base<=10000)(hf:0<few/\few<=63) :
  ∃fs:List Fm,FE C 3 14 (m6 dr ce pl) [.lst (ns.map Dat.int),.int base,.int few]=some (.lst (fs.map dG),true)/\fs≠[]/\fs.length<=10/\(∀f∈fs,mV f)/\∃ls:List Nat,FC ls fs:=by
 obtain⟨q1,e1,b1⟩:=o4 (ns:=ns) (k:=base+1) (m:=26) (by omega);have r1:=hd (base+1) 26 (by omega) (by omega);rw[e1]at r1;obtain⟨q2,e2,b2⟩:=o4 (ns:=ns) (k:=base+2) (m:=4) (by omega);have r2:=hd (base+2) 4 (by omega) (by omega);rw[e2]at r2;obtain⟨q3,e3,b3⟩:=o4 (ns:=ns) (k:=base+3) (m:=6) (by omega);have r3:=hd (base+3) 6 (by omega) (by omega);rw[e3]at r3;obtain⟨q4,e4,b4⟩:=o4 (ns:=ns) (k:=base+4) (m:=5) (by omega);have r4:=hd (base+4) 5 (by omega) (by omega);rw[e4]at r4
 obtain⟨st,hst,hst2⟩:∃st:Int,lN [Dat.int 1,Dat.int 3,Dat.int 5,Dat.int 7] (q2:Int)=some (.int st)/\0<=st/\st<=7/\(st=1\/st=3\/st=5\/st=7):=by
  rcases(by omega:q2=0\/q2=1\/q2=2\/q2=3)with rfl|rfl|rfl|rfl
  ·exact⟨1,rfl,by omega,by omega,by omega⟩
  ·exact⟨3,rfl,by omega,by omega,by omega⟩
  ·exact⟨5,rfl,by omega,by omega,by omega⟩
  ·exact⟨7,rfl,by omega,by omega,by omega⟩
 obtain⟨mm,hmm,hmm2⟩:∃mm:Nat,lN [Dat.int 1,Dat.int 2,Dat.int 2,Dat.int 3,Dat.int 3,Dat.int 6] (q3:Int)=some (.int (mm:Nat))/\0<mm/\mm<=6:=by
  rcases(by omega:q3=0\/q3=1\/q3=2\/q3=3\/q3=4\/q3=5)with rfl|rfl|rfl|rfl|rfl|rfl
  ·exact⟨1,rfl,by omega⟩
  ·exact⟨2,rfl,by omega⟩
  ·exact⟨2,rfl,by omega⟩
  ·exact⟨3,rfl,by omega⟩
  ·exact⟨3,rfl,by omega⟩
  ·exact⟨6,rfl,by omega⟩
 let ch:Nat->Nat:=fun i=>j4.getD (((q1:Int)+st * (i:Int)) % 26).toNat 97
 have hmem:∀i,ch i∈j4:=fun i=>by
  show j4.getD _ 97∈j4;have h1:0<=((q1:Int)+st * (i:Int)) % 26:=kS _ (by omega);have h2:((q1:Int)+st * (i:Int)) % 26<26:=jq _ (by omega);generalize ((q1:Int)+st * (i:Int)) % 26=z at h1 h2;obtain⟨q,rfl⟩:=jy h1;have hq:q<j4.length:=by show q<26;omega
  simp only[jP,dw,af hq,jU];exact bM hq
 let ls:List Nat:=(aT mm).map ch;have hls:ls.length=mm:=by simp[ls]
 have hll:∀c∈ls,c∈j4:=fun c hc'=>by
  obtain⟨i,_,rfl⟩:=aX.mp hc';exact hmem i
 have hcomp:∀y6 y7 y8 y9 y10 y11 y12 y13,eP C (.comp 1 true [3,4] (.rng [(.var 5)]) [] (.ix (.con (.str (T j4))) (.bin .mod (.bin .add (.var 1) (.bin .mul (.var 2) (.var 0))) (.con (.int (26)))))) [some (.lst (ns.map Dat.int)),some (.int base),some (.int few),some (.int (q1:Nat)),some (.int st),some (.int (mm:Nat)),y6,y7,y8,y9,y10,y11,y12,y13]=some (.lst (ls.map fun c=>.str (T [c])),true):=by
  intro y6 y7 y8 y9 y10 y11 y12 y13;refine kC (items:=(aT mm).map fun k:Nat=>Dat.int k) ?_ (by rw[aG,bW];omega) ?_
  ·simp only[rT,j5,lM,jv,bT,bD,cZ,bE,ah];exact pV (by omega)
  have:=ot (f:=jK C 1 true (gP 1 [3,4] [some (.lst (ns.map Dat.int)),some (.int base),some (.int few),some (.int (q1:Nat)),some (.int st),some (.int (mm:Nat)),y6,y7,y8,y9,y10,y11,y12,y13]) [] (.ix (.con (.str (T j4))) (.bin .mod (.bin .add (.var 1) (.bin .mul (.var 2) (.var 0))) (.con (.int (26)))))) (g:=fun d=>match d with | .int x=>.str (T [ch x.toNat])|_=>.non) (ds:=(aT mm).map fun k:Nat=>Dat.int k) ?_ ?_
  ·rw[this,cx,cx];rfl
  ·intro d hd';obtain⟨i,hi,rfl⟩:=aX.mp hd';refine⟨false,?_⟩;have hi2:=br.mp hi;have h1:0<=((q1:Int)+st * (i:Int)) % 26:=kS _ (by omega);have h2:((q1:Int)+st * (i:Int)) % 26<26:=jq _ (by omega)
   have hcc:∃q:Nat,((q1:Int)+st * (i:Int)) % 26=q/\q<26:=by
    obtain⟨q,e⟩:=jy h1;exact⟨q,e,by omega⟩
   obtain⟨q,e,b⟩:=hcc;have hq:q<j4.length:=by show q<26;omega
   have hx:=PV (l:=j4) (i:=q) (by decide) hq;have hmul:gm .mul (.int st) (.int (i:Nat))=some (.int (st * (i:Int)),false):=tX (by omega) (by omega);have hmod:gm .mod (.int ((q1:Int)+st * (i:Int))) (.int 26)=some (.int (q:Nat),false):=by rw[tY (by omega),e]
   rw[mG];simp only[gP,jj,aq,cF,fG,dW,du,Di,m7,tL,jv,bT,bD,cZ,bE,ah,lh,hmul,hmod,hx];show _=some (some (Dat.str (T [ch i]),false));have:ch i=j4[q]:=by show j4.getD _ 97=_;rw[e];simp[hq]
   rw[this]
  ·intro d hd';obtain⟨i,_,rfl⟩:=aX.mp hd';rfl
 obtain⟨a1,z6,z9,L1,k1,k2,gs,w1,w2,w3⟩:=HH (C:=C) hd hc hb hf hll (by omega) (.int (q1:Nat)) (.int st) (.int (mm:Nat)) (aT mm) [] none none (fun j hj=>by rw[hls];exact br.mp hj) (by simp;omega) (fun f hf'=>by cases hf')
 obtain⟨a2,y6,y9,y10,y11,y12,y13,L2,k3,k4,k5⟩:=HG (C:=C) (pl:=pl) hd hc hp hb hf hll (by omega) (.int (q1:Nat)) (.int st) (aT q4) a1 z6 z9 none none none none (fun j hj=>by have:=br.mp hj;omega) (by rw[k1];simp;omega) k2 (by
  rw[dW]at w1;subst w1
  have hnd:ls.Nodup:=by
   have:∀(q1:Fin 26) (s:Fin 4) (m:Fin 7),((aT m.val).map fun i:Nat=>j4.getD (((q1.val:Int)+(([1,3,5,7]:List Int).getD s.val 1) * (i:Int)) % 26).toNat 97).Nodup:=by decide +kernel
   have h0:=fun s=>this ⟨q1,by omega⟩ s ⟨mm,by omega⟩
   rcases hst2.2.2 with e|e|e|e
   ·rw[show ls=(aT mm).map (fun i:Nat=>j4.getD (((q1:Int)+1 * (i:Int)) % 26).toNat 97) by simp only[ls,ch,e]];exact h0 0
   ·rw[show ls=(aT mm).map (fun i:Nat=>j4.getD (((q1:Int)+3 * (i:Int)) % 26).toNat 97) by simp only[ls,ch,e]];exact h0 1
   ·rw[show ls=(aT mm).map (fun i:Nat=>j4.getD (((q1:Int)+5 * (i:Int)) % 26).toNat 97) by simp only[ls,ch,e]];exact h0 2
   ·rw[show ls=(aT mm).map (fun i:Nat=>j4.getD (((q1:Int)+7 * (i:Int)) % 26).toNat 97) by simp only[ls,ch,e]];exact h0 3
  have w2':a1.map (·.1)=ls.map fun c=>[c]:=by
   rw[w2];refine nu (by simp[hls]) fun i h1 h2=>?_;simp at h1 h2;simp[h2]
  have mem1:∀f∈a1,∃c∈ls,f.1=[c]:=fun f hf'=>by
   have:f.1∈a1.map (·.1):=aX.mpr ⟨f,hf',rfl⟩;rw[w2']at this;obtain⟨c,h1,h2⟩:=aX.mp this;exact⟨c,h1,h2.symm⟩
  refine⟨?_,fun f hf' c hc'=>?_,fun c hc'=>?_⟩
  ·have h1:(a1.map (·.1)).Nodup:=by
    rw[w2'];exact uV (S:=(·≠·)) (fun c=>[c]) (fun a b h z=>h (by simpa using z)) hnd
   have h2:(a1.map ent).map (·.1)=a1.map (·.1):=by rw[cx];rfl
   rw[<-h2]at h1;exact List.Pairwise.of_map (S:=(·≠·)) (·.1) (fun a b h z=>h (by rw[z])) h1
  ·obtain⟨c',h1,h2⟩:=mem1 f hf';rw[h2]at hc';rw[au.mp hc'];exact h1
  ·have:[c]∈ls.map fun c=>[c]:=aX.mpr ⟨c,hc',rfl⟩;rw[<-w2']at this;obtain⟨g,h1,h2⟩:=aX.mp this
   exact⟨g,h1,h2,w3 g h1⟩)
 rw[hls]at L2;have g1:=pV (m:=mm) (by omega);have g2:=pV (m:=q4) (by omega);have hb0:m6 dr ce pl=[(m6 dr ce pl).getD 0 .pass,(m6 dr ce pl).getD 1 .pass,(m6 dr ce pl).getD 2 .pass,(m6 dr ce pl).getD 3 .pass,(m6 dr ce pl).getD 4 .pass,.loop true [6] (.rng [(.var 5)]) (SU dr ce),.loop true [6] (.rng [(.call dr [(.var 0),(.bin .add (.var 1) (.con (.int (4)))),(.con (.int (5)))])]) (Rj dr ce pl),.nY 8]:=rfl;refine⟨a2,gC (C:=C) (np:=3) (nl:=14) (body:=m6 dr ce pl) rfl ?_,?_,?_,k5.1,ls,k5.2⟩
 ·rw[hb0];simp only[m6,List.getD_cons_zero,List.getD_cons_succ];rw[Xc];clear hb0 hls k1 k2 k3 k4 k5 hll hmem w1 w2 w3;have hn:Dat.lst ([]:List Dat)=.lst (([]:List Fm).map dG):=rfl;walk_at "py";simp only[tK];walk_at "py";simp only[tK];walk_at "py"
 ·intro e;rw[e]at k3;rw[k1]at k3;simp at k3;omega
 ·rw[k1]at k4;simp at k4;omega
noncomputable def Bh(dr ce:Nat):List Sx:=[(.set 3 (.lst [(.tup []),(.tup []),(.tup []),(.tup [])])),(.set 4 (.tup [])),(.ifs (.cmp .eq (.call dr [(.var 0),(.var 1),(.con (.int (4)))]) (.con (.int (1)))) [(.mut .seti 3 [(.call ce [(.var 0),(.bin .add (.var 1) (.con (.int (1)))),(.bin .add (.con (.int (1))) (.call dr [(.var 0),(.bin .add (.var 1) (.con (.int (3)))),(.con (.int (2)))])),(.var 2)]),(.con (.int (0)))]),(.ifs (.cmp .eq (.call dr [(.var 0),(.bin .add (.var 1) (.con (.int (4)))),(.con (.int (2)))]) (.con (.int (1)))) [(.mut .seti 3 [(.call ce [(.var 0),(.bin .add (.var 1) (.con (.int (5)))),(.bin .add (.con (.int (1))) (.call dr [(.var 0),(.bin .add (.var 1) (.con (.int (7)))),(.con (.int (2)))])),(.var 2)]),(.con (.int (1)))])] [])] []),(.ifs (.cmp .eq (.call dr [(.var 0),(.bin .add (.var 1) (.con (.int (8)))),(.con (.int (4)))]) (.con (.int (1)))) [(.mut .seti 3 [(.call ce [(.var 0),(.bin .add (.var 1) (.con (.int (9)))),(.bin .add (.con (.int (1))) (.call dr [(.var 0),(.bin .add (.var 1) (.con (.int (11)))),(.con (.int (2)))])),(.var 2)]),(.con (.int (2)))]),(.mut .seti 3 [(.call ce [(.var 0),(.bin .add (.var 1) (.con (.int (12)))),(.bin .add (.con (.int (1))) (.call dr [(.var 0),(.bin .add (.var 1) (.con (.int (14)))),(.con (.int (2)))])),(.var 2)]),(.con (.int (3)))]),(.set 4 (.call ce [(.var 0),(.bin .add (.var 1) (.con (.int (15)))),(.ix (.lst [(.con (.int (1))),(.con (.int (2))),(.con (.int (3))),(.con (.int (10)))]) (.call dr [(.var 0),(.bin .add (.var 1) (.con (.int (25)))),(.con (.int (4)))])),(.var 2)]))] []),(.ret (.tup [(.blt .tuple [(.var 3)]),(.var 4)]))]
noncomputable abbrev tI(l:List Int):Dat:=.tup (l.map Dat.int)
theorem fN(l:List Int):im (.tup (l.map Dat.int))=true:=ee l
theorem Vj(a b c d x:Dat):ip .seti (.lst [a,b,c,d]) [x,.int 0]=some (.lst [x,b,c,d]):=rfl
theorem Vi(a b c d x:Dat):ip .seti (.lst [a,b,c,d]) [x,.int 1]=some (.lst [a,x,c,d]):=rfl
theorem put2(a b c d x:Dat):ip .seti (.lst [a,b,c,d]) [x,.int 2]=some (.lst [a,b,x,d]):=rfl
theorem put3(a b c d x:Dat):ip .seti (.lst [a,b,c,d]) [x,.int 3]=some (.lst [a,b,c,x]):=rfl
structure Se(m0 m1 m2 m3 fg:List Int):Prop where
 l0:m0.length<=2
 l1:m1.length<=2
 l2:m2.length<=2
 l3:m3.length<=2
 lf:fg.length<=10
 r0:∀c∈m0,1<=c/\c<=63
 r1:∀c∈m1,1<=c/\c<=63
 r2:∀c∈m2,1<=c/\c<=63
 r3:∀c∈m3,1<=c/\c<=63
 rf:∀c∈fg,1<=c/\c<=63
 k1:m1≠[]->m0≠[]
 k2:m2=[]↔fg=[]
 k3:m3=[]↔fg=[]
theorem Eu{C:Fs}{dr ce:Nat}{ns:List Int}{base few:Int}(hd:pf C dr ns)(hc:CellsOk C ce ns)(hb:0<=base/\base<=20000)(hf:0<few/\few<=63) :
  ∃(m0 m1 m2 m3 fg:List Int) (fr:Bool),FE C 3 5 (Bh dr ce) [.lst (ns.map Dat.int),.int base,.int few]=some (.tup [.tup [tI m0,tI m1,tI m2,tI m3],tI fg],fr)/\Se m0 m1 m2 m3 fg:=by
 have w1:=hd base 4 (by omega) (by omega);have w2:=hd (base+4) 2 (by omega) (by omega);have w3:=hd (base+8) 4 (by omega) (by omega);generalize FF ns base 4=v1 at w1;generalize FF ns (base+4) 2=v2 at w2;generalize FF ns (base+8) 4=v3 at w3
 have two:∀k:Int,0<=k->k<=30000->∃q:Nat,C dr [.lst (ns.map Dat.int),.int k,.int 2]=some (.int (q:Nat),false)/\q<2:=fun k h1 h2=>by
  obtain⟨q,e,b⟩:=o4 (ns:=ns) (k:=k) (m:=2) (by omega);have r:=hd k 2 (by omega) (by omega);rw[e]at r;exact⟨q,r,by omega⟩
 obtain⟨q3,r3,b3⟩:=two (base+3) (by omega) (by omega);obtain⟨q7,r7,b7⟩:=two (base+7) (by omega) (by omega);obtain⟨q11,r11,Wd⟩:=two (base+11) (by omega) (by omega);obtain⟨q14,r14,UO⟩:=two (base+14) (by omega) (by omega);obtain⟨q25,e25,b25⟩:=o4 (ns:=ns) (k:=base+25) (m:=4) (by omega);have r25:=hd (base+25) 4 (by omega) (by omega);rw[e25]at r25
 obtain⟨nf,hnf,hnf2⟩:∃nf:Nat,lN [Dat.int 1,Dat.int 2,Dat.int 3,Dat.int 10] (q25:Int)=some (.int (nf:Nat))/\nf<=10/\0<nf:=by
  rcases(by omega:q25=0\/q25=1\/q25=2\/q25=3)with rfl|rfl|rfl|rfl
  ·exact⟨1,rfl,by omega,by omega⟩
  ·exact⟨2,rfl,by omega,by omega⟩
  ·exact⟨3,rfl,by omega,by omega⟩
  ·exact⟨10,rfl,by omega,by omega⟩
 have c1:=hc (base+1) few (1+q3) (by omega) (by omega) hf.1;have c5:=hc (base+5) few (1+q7) (by omega) (by omega) hf.1;have c9:=hc (base+9) few (1+q11) (by omega) (by omega) hf.1;have c12:=hc (base+12) few (1+q14) (by omega) (by omega) hf.1;have c15:=hc (base+15) few nf (by omega) (by omega) hf.1;have l1:=fT (ns:=ns) (k:=base+1) (few:=few) (many:=1+q3);have l5:=fT (ns:=ns) (k:=base+5) (few:=few) (many:=1+q7);have l9:=fT (ns:=ns) (k:=base+9) (few:=few) (many:=1+q11);have l12:=fT (ns:=ns) (k:=base+12) (few:=few) (many:=1+q14);have l15:=fT (ns:=ns) (k:=base+15) (few:=few) (many:=nf);have R1:∀c∈eL ns (base+1) (1+q3) few,1<=c/\c<=63:=iZ hf;have R5:∀c∈eL ns (base+5) (1+q7) few,1<=c/\c<=63:=iZ hf;have R9:∀c∈eL ns (base+9) (1+q11) few,1<=c/\c<=63:=iZ hf;have R12:∀c∈eL ns (base+12) (1+q14) few,1<=c/\c<=63:=iZ hf;have R15:∀c∈eL ns (base+15) nf few,1<=c/\c<=63:=iZ hf;generalize eL ns (base+1) (1+q3) few=K1 at c1 l1 R1;generalize eL ns (base+5) (1+q7) few=K5 at c5 l5 R5;generalize eL ns (base+9) (1+q11) few=K9 at c9 l9 R9;generalize eL ns (base+12) (1+q14) few=K12 at c12 l12 R12;generalize eL ns (base+15) nf few=K15 at c15 l15 R15;have a3:(1:Int)+(q3:Int)=((1+q3:Nat):Int):=by omega
 have a7:(1:Int)+(q7:Int)=((1+q7:Nat):Int):=by omega
 have a11:(1:Int)+(q11:Int)=((1+q11:Nat):Int):=by omega
 have a14:(1:Int)+(q14:Int)=((1+q14:Nat):Int):=by omega
 generalize g1:(v1 == 1)=u1;generalize g2:(v2 == 1)=u2;generalize g3:(v3 == 1)=u3;have i1:=fN K1;have i5:=fN K5;have i9:=fN K9;have i12:=fN K12;have i15:=fN K15;have i0:im (.tup [])=true:=rfl;have p0:=Vj;have p1:=Vi;have p2:=put2;have p3:=put3;have i4:∀a b c d:Dat,im (.tup [a,b,c,d])=(im a && (im b && (im c && (im d && true)))):=fun _ _ _ _=>rfl;have ht:∀ds,gY .tuple [.lst ds]=some (.tup ds,false):=fun _=>rfl;have L1:K1.length<=2:=by omega
 have L5:K5.length<=2:=by omega
 have L9:K9.length<=2:=by omega
 have L12:K12.length<=2:=by omega
 have L15:K15.length<=10:=by omega
 have N1:K1≠[]:=fun e=>by rw[e]at l1;simp at l1;omega
 have N9:K9≠[]:=fun e=>by rw[e]at l9;simp at l9;omega
 have N12:K12≠[]:=fun e=>by rw[e]at l12;simp at l12;omega
 have N15:K15≠[]:=fun e=>by rw[e]at l15;simp at l15;omega
 have E0:∀c∈([]:List Int),1<=c/\c<=63:=fun c h=>by cases h
 have NB:∀{a b:List Int},a≠[]->b≠[]->(a=[]↔b=[]):=fun h1 h2=>⟨fun z=>absurd z h1,fun z=>absurd z h2⟩
 have fin:∀u1 u2 u3:Bool,Se (if u1 then K1 else []) (if u1 && u2 then K5 else []) (if u3 then K9 else []) (if u3 then K12 else []) (if u3 then K15 else []):=fun u1 u2 u3=>by
  cases u1<;>cases u2<;>cases u3
  all_goals
   refine⟨by first|exact L1|simp,by first|exact L5|simp,by first|exact L9|simp,by first|exact L12|simp,by first|exact L15|simp,by first|exact R1|exact E0,by first|exact R5|exact E0,by first|exact R9|exact E0,by first|exact R12|exact E0,by first|exact R15|exact E0,by first|exact fun _=>N1|simp,by first|exact NB N9 N15|simp,by first|exact NB N12 N15|simp⟩
 clear l1 l5 l9 l12 l15 R1 R5 R9 R12 R15 N1 N9 N12 N15 E0 NB L1 L5 L9 L12 L15;refine⟨if u1 then K1 else [],if u1 && u2 then K5 else [],if u3 then K9 else [],if u3 then K12 else [],if u3 then K15 else [],?_⟩;have fin':=fin u1 u2 u3;clear fin;cases u1<;>cases u2<;>cases u3
 all_goals
  refine⟨true,gC (C:=C) (np:=3) (nl:=5) (body:=Bh dr ce) rfl ?_,fin'⟩;clear fin';unfold Bh;walk_at "py"
  all_goals first|exact⟨rfl,trivial⟩|rfl
noncomputable def Aq(dr fo ma:Nat):List Sx:=[(.set 2 (.ix (.lst [(.con (.int (4))),(.con (.int (4))),(.con (.int (12))),(.con (.int (63)))]) (.call dr [(.var 0),(.var 1),(.con (.int (4)))]))),(.set 3 (.call fo [(.var 0),(.var 1),(.var 2)])),(.DX [4,5] (.call ma [(.var 0),(.bin .add (.var 1) (.con (.int (150)))),(.var 2)])),(.ret (.tup [(.blt .tuple [(.var 3)]),(.var 4),(.var 5)]))]
def DF(C:Fs)(i:Nat)(ns:List Int):Prop:=∀base few:Int,0<=base/\base<=10000->0<few/\few<=63->∃fs:List Fm,C i [.lst (ns.map Dat.int),.int base,.int few]=some (.lst (fs.map dG),true)/\fs≠[]/\fs.length<=10/\(∀f∈fs,mV f)/\∃ls:List Nat,FC ls fs
def DE(C:Fs)(i:Nat)(ns:List Int):Prop:=∀base few:Int,0<=base/\base<=20000->0<few/\few<=63->∃(m0 m1 m2 m3 fg:List Int) (fr:Bool),C i [.lst (ns.map Dat.int),.int base,.int few]=some (.tup [.tup [tI m0,tI m1,tI m2,tI m3],tI fg],fr)/\Se m0 m1 m2 m3 fg
theorem B5{C:Fs}{e:Ex}{ρ:dk}{a b:Dat}{f:Bool}{i j:Nat}(h:eP C e (full ρ)=some (.tup [a,b],f))(hi:im (.tup [a,b])=true):ko C (.DX [i,j] e) ρ=some (.nx ((ρ.set i (some (a,false))).set j (some (b,false)))):=by
 show(Bv C e ρ).bind _=_;rw[IC h (by rw[hi];rfl)];rfl
theorem D3{C:Fs}{dr fo ma:Nat}{ns:List Int}{base:Int}(hd:pf C dr ns)(hfo:DF C fo ns)(hma:DE C ma ns)(hb:0<=base/\base<=10000) :
  ∃(fs:List Fm) (m0 m1 m2 m3 fg:List Int) (fr:Bool),FE C 2 6 (Aq dr fo ma) [.lst (ns.map Dat.int),.int base]=some (.tup [.tup (fs.map dG),.tup [tI m0,tI m1,tI m2,tI m3],tI fg],fr)/\fs≠[]/\fs.length<=10/\(∀f∈fs,mV f)/\(∃ls:List Nat,FC ls fs)/\Se m0 m1 m2 m3 fg:=by
 obtain⟨q,e,b⟩:=o4 (ns:=ns) (k:=base) (m:=4) (by omega);have r:=hd base 4 (by omega) (by omega);rw[e]at r
 obtain⟨few,hfew,hf0⟩:∃few:Int,lN [Dat.int 4,Dat.int 4,Dat.int 12,Dat.int 63] (q:Int)=some (.int few)/\0<few/\few<=63:=by
  rcases(by omega:q=0\/q=1\/q=2\/q=3)with rfl|rfl|rfl|rfl
  ·exact⟨4,rfl,by omega,by omega⟩
  ·exact⟨4,rfl,by omega,by omega⟩
  ·exact⟨12,rfl,by omega,by omega⟩
  ·exact⟨63,rfl,by omega,by omega⟩
 obtain⟨fs,h1,h2,h3,h4,h5⟩:=hfo base few hb hf0;obtain⟨m0,m1,m2,m3,fg,fr,g1,g2⟩:=hma (base+150) few (by omega) hf0;refine⟨fs,m0,m1,m2,m3,fg,true,gC (C:=C) (np:=2) (nl:=6) (body:=Aq dr fo ma) rfl ?_,h2,h3,h4,h5,g2⟩
 have hi:im (.tup [.tup [tI m0,tI m1,tI m2,tI m3],tI fg])=true:=by
  show((kd (m0.map Dat.int) && (kd (m1.map Dat.int) && (kd (m2.map Dat.int) && (kd (m3.map Dat.int) && true)))) && (kd (fg.map Dat.int) && true))=true;rw[ee,ee,ee,ee,ee];rfl
 have hi2:im (.tup [tI m0,tI m1,tI m2,tI m3])=true:=by
  show(kd (m0.map Dat.int) && (kd (m1.map Dat.int) && (kd (m2.map Dat.int) && (kd (m3.map Dat.int) && true))))=true;rw[ee,ee,ee,ee];rfl
 have hi3:im (tI fg)=true:=ee fg;have hi4:im (.tup (fs.map dG))=true:=oZ fs;have hl:im (.lst (fs.map dG))=false:=rfl;have ht:gY .tuple [.lst (fs.map dG)]=some (.tup (fs.map dG),false):=rfl
 have hu:∀y4 y5,ko C (.DX [4,5] (.call ma [(.var 0),(.bin .add (.var 1) (.con (.int (150)))),(.var 2)])) [some (.lst (ns.map Dat.int),false),some (.int base,false),some (.int few,false),some (.lst (fs.map dG),true),y4,y5]=some (.nx [some (.lst (ns.map Dat.int),false),some (.int base,false),some (.int few,false),some (.lst (fs.map dG),true),some (.tup [tI m0,tI m1,tI m2,tI m3],false),some (tI fg,false)]):=fun y4 y5=>by
  refine B5 (f:=fr) ?_ hi;clear hi hi2 hi3 hi4;walk_at "py"
 unfold Aq;walk_at "py"
end M
namespace K09
open PySem L2 M
theorem nX{n:Nat}{ns:List Int}:pf (Cn D (n+1)) 6 ns:=by
 intro k m hk hm;refine gC (C:=Cn D n) (np:=3) (nl:=4) (body:=b6) rfl ?_;unfold b6;have hb:=IV ns k;by_cases h:0<ns.length
 ·have hc:vC ns k=ns.getD (k % ns.length).toNat 0 % 2147483629:=if_pos h;have ha:=Jk (k:=k) h;unfold FF;rw[hc]at hb ⊢;walk_at "py"
 ·have hc:vC ns k=0:=if_neg h;unfold FF;rw[hc]at hb ⊢;walk_at "py"
theorem qv{n:Nat}{ns:List Int}:CellsOk (Cn D (n+2)) 8 ns:=fun k few many h1 h2 h3=>Fc (C:=Cn D (n+1)) (dr:=6) nX h1 h2 h3
theorem AF{n:Nat}:t7 (Cn D (n+1)) 9:=fun k h=>AK (C:=Cn D n) h
theorem Ef{n:Nat}{ns:List Int}:DF (Cn D (n+3)) 10 ns:=fun base few h1 h2=>EV (C:=Cn D (n+2)) (dr:=6) (ce:=8) (pl:=9) nX qv AF h1 h2
theorem Ec{n:Nat}{ns:List Int}:DE (Cn D (n+3)) 11 ns:=fun base few h1 h2=>Eu (C:=Cn D (n+2)) (dr:=6) (ce:=8) nX qv h1 h2
theorem Ea{n:Nat}{ns:List Int}:∃(fs:List Fm) (m0 m1 m2 m3 fg:List Int) (fr:Bool),Cn D (n+4) 12 [.lst (ns.map Dat.int),.int 0]=some (.tup [.tup (fs.map dG),.tup [tI m0,tI m1,tI m2,tI m3],tI fg],fr)/\fs≠[]/\fs.length<=10/\(∀f∈fs,mV f)/\(∃ls:List Nat,FC ls fs)/\Se m0 m1 m2 m3 fg:=
 D3 (C:=Cn D (n+3)) (dr:=6) (fo:=10) (ma:=11) nX Ef Ec (by omega)
inductive Pl:Nat->Dat->Prop
 | int {k:Nat} (i:Int):Pl k (.int i)
 | str {k:Nat} (x:bh):Pl k (.str x)
 | tup {k:Nat} {ds:List Dat} (h:∀d∈ds,Pl k d) (hl:ds.length<=1000):Pl (k+1) (.tup ds)
 | lst {k:Nat} {ds:List Dat} (h:∀d∈ds,Pl k d) (hl:ds.length<=1000):Pl (k+1) (.lst ds)
theorem rE(ds:List Dat):(jf ds ds).length=ds.length:=by rw[pS];omega
theorem qw{n:Nat}:∀(k:Nat) (d:Dat),Pl k d->Cn D (n+k+1) 7 [d,d]=some (.bl true,false)
 | k,_,.int i=>by
   refine gC (C:=Cn D (n+k)) (np:=2) (nl:=2) (body:=b7) rfl ?_;unfold b7;walk_at "py"
 | k,_,.str x=>by
   refine gC (C:=Cn D (n+k)) (np:=2) (nl:=2) (body:=b7) rfl ?_;unfold b7;walk_at "py"
 | k+1,_,.tup (ds:=ds) h hl=>by
   refine gC (C:=Cn D (n+k+1)) (np:=2) (nl:=2) (body:=b7) rfl ?_
   have h1:eP (Cn D (n+k+1)) (.comp 2 false [] (.zip [.var 0,.var 1]) [] (.call 7 [.var 0,.var 1])) [some (.tup ds),some (.tup ds)]=some (.lst (cT ds.length (.bl true)),true):=by
    refine kC (items:=jf ds ds) rfl (by rw[rE];omega) ?_
    have:=yz (f:=jK (Cn D (n+k+1)) 2 false (gP 2 [] [some (.tup ds),some (.tup ds)]) [] (.call 7 [.var 0,.var 1])) (y:=.bl true) (ds:=jf ds ds) rfl (fun d hd=>by
     obtain⟨x,hx,rfl⟩:=tf hd;refine⟨false,?_⟩;have r:=qw (n:=n) k x (h x hx);rw[vA]
     simp only[gP,pB,DQ,cF,fG,dW,du,lH,ou,j5,lM,jv,bT,bD,cZ,bE,ah,r])
    rw[this,rE]
   have h2:gY .all [.lst (cT ds.length (.bl true))]=some (.bl true,false):=by
    simp only[gY,M.b1,BN,t4,BK,BI,bL,NR,BO,BJ,o6,bE]
    congr 3
    simp
   unfold b7;clear h hl;generalize cT ds.length (Dat.bl true)=W at h1 h2;walk_at "py"
 | k+1,_,.lst (ds:=ds) h hl=>by
   refine gC (C:=Cn D (n+k+1)) (np:=2) (nl:=2) (body:=b7) rfl ?_
   have h1:eP (Cn D (n+k+1)) (.comp 2 false [] (.zip [.var 0,.var 1]) [] (.call 7 [.var 0,.var 1])) [some (.lst ds),some (.lst ds)]=some (.lst (cT ds.length (.bl true)),true):=by
    refine kC (items:=jf ds ds) rfl (by rw[rE];omega) ?_
    have:=yz (f:=jK (Cn D (n+k+1)) 2 false (gP 2 [] [some (.lst ds),some (.lst ds)]) [] (.call 7 [.var 0,.var 1])) (y:=.bl true) (ds:=jf ds ds) rfl (fun d hd=>by
     obtain⟨x,hx,rfl⟩:=tf hd;refine⟨false,?_⟩;have r:=qw (n:=n) k x (h x hx);rw[vA]
     simp only[gP,pB,DQ,cF,fG,dW,du,lH,ou,j5,lM,jv,bT,bD,cZ,bE,ah,r])
    rw[this,rE]
   have h2:gY .all [.lst (cT ds.length (.bl true))]=some (.bl true,false):=by
    simp only[gY,M.b1,BN,t4,BK,BI,bL,NR,BO,BJ,o6,bE]
    congr 3
    simp
   unfold b7;clear h hl;generalize cT ds.length (Dat.bl true)=W at h1 h2;walk_at "py"
noncomputable abbrev Ed:=bh×List Nat×List Int×bh
noncomputable abbrev cH(e:Ed):Dat:=.tup [.str e.1,.str (T e.2.1),.tup (e.2.2.1.map Dat.int),.str e.2.2.2]
noncomputable abbrev JG(e:Ed):List NK:=[.inl (.inr e.1),.inl (.inr (T e.2.1)),.inr (e.2.2.1.map jg),.inl (.inr e.2.2.2)]
theorem CZ:∀l:List Int,qd (l.map Dat.int)=some (l.map jg)
 | []=>rfl
 | a::r=>by
   show(EC (.int a)).bind _=_;rw[CZ r];rfl
theorem Nm(e:Ed):Pk (cH e)=some (JG e):=by
 simp only[cH,Pk,Ls,Rc,CZ,bE,ah]
theorem Hx:∀es:List Ed,yo (es.map cH)=some (es.map JG)
 | []=>rfl
 | e::es=>by
   rw[aq,yo,Nm,Hx es];rfl
theorem allI:∀l:List Int,(l.map (jg:Int->Key)).all sK=true
 | []=>rfl
 | a::r=>by rw[aq,dQ,allI r];rfl
theorem Ci(e:Ed):(JG e).map sN=[1,1,2,1]:=by
 simp only[aq,cF,sN,allI,if_true]
noncomputable abbrev Mx(e:Ed):List (List Int):=codeN (JG e)
noncomputable def mR(es:List Ed):List Dat:=(kT ua (es.map Mx)).map (EX [1,1,2,1])
theorem Qq(e:Ed):EX [1,1,2,1] (Mx e)=cH e:=by
 have:=Dr (Nm e) (fun x hx=>by
  have:sN x∈(JG e).map sN:=eK hx;rw[Ci]at this;simp at this
  omega)
 rw[Ci]at this;exact this
theorem N7{α:Type}{a b:α}(h:a≠b):∀{l:List α},a∈l->b∈l->2<=l.length
 | [],h1,_=>by cases h1
 | [x],h1,h2=>by
   rw[au]at h1 h2;exact absurd (h1.trans h2.symm) h
 | _::_::_,_,_=>by simp
theorem Ah{l l':List (List (List Int))}(h:∀z,z∈l↔z∈l'):kT ua l=kT ua l':=
 F9 wu (p5 wu (j2 wu l)) ((j2 wu l).imp fun q=>wu.MP q) fun z=>by rw[i8 wu];exact h z
theorem GB{es es':List Ed}(h:∀e,e∈es↔e∈es'):mR es=mR es':=by
 unfold mR;rw[Ah (l:=es.map Mx) (l':=es'.map Mx) fun z=>by rw[aX,aX];exact⟨fun⟨e,a,b⟩=>⟨e,(h e).mp a,b⟩,fun⟨e,a,b⟩=>⟨e,(h e).mpr a,b⟩⟩]
theorem Kl{es:List Ed}{d:Dat}(h:d∈mR es):∃e∈es,d=cH e:=by
 obtain⟨c,hc,rfl⟩:=aX.mp h;obtain⟨e,he,rfl⟩:=aX.mp ((i8 wu).mp hc);exact⟨e,he,Qq e⟩
theorem Pp{α:Type}[BEq α][LawfulBEq α]{l l':List α}(hn:l.Nodup)(h:∀x∈l,x∈l'):l.length<=l'.length:=by
 induction l generalizing l' with
 | nil=>exact dJ _
 | cons a r ih=>
   obtain⟨h1,h2⟩:=bX.mp hn;have ha:=h a ja;have:=ih (l':=l'.erase a) h2 fun x hx=>(List.mem_erase_of_ne (fun e:x=a=>h1 (e▸hx))).mpr (h x (jt _ hx));rw[List.length_erase_of_mem ha]at this;have:0<l'.length:=List.length_pos_of_mem ha;simp;omega
theorem Km{es:List Ed}:(mR es).length<=es.length:=by
 unfold mR;rw[aG];have:=Pp (p5 wu (j2 wu (es.map Mx))) fun x hx=>(i8 wu).mp hx
 rwa [aG]at this
theorem Cb{es:List Ed}{a b:Ed}(hl:es.length<=300)(ha:a∈es)(hb:b∈es)(hab:Mx a≠Mx b):gY .sset [.lst (es.map cH)]=some (.lst (mR es),true):=by
 cases es with
 | nil=>cases ha
 | cons e r=>
   have hs:D6 ((e::r).map JG)=[1,1,2,1]:=Ci e
   have h2:2<=(kT ua (((e::r).map JG).map codeN)).length:=by
    rw[cx];exact N7 hab ((i8 wu).mpr (eK ha)) ((i8 wu).mpr (eK hb))
   have h3:(((e::r).map JG).all fun k=>decide (k.map sN=D6 ((e::r).map JG)))=true:=by
    rw[bQ];intro k hk;obtain⟨q,_,rfl⟩:=aX.mp hk;rw[hs];exact decide_eq_true (Ci q)
   show(yo ((e::r).map cH)).bind u9=_;rw[Hx];show u9 ((e::r).map JG)=_;unfold u9;rw[if_pos ⟨by rw[aG];exact hl,by rw[hs];rfl,by rw[hs];rfl,h3,h2⟩,hs,cx];rfl
theorem RW{e:Ed}(h:e.2.2.1.length<=1000):Pl 2 (cH e):=by
 refine .tup (fun d hd=>?_) (by simp);simp only[ao,ba,or_false]at hd
 rcases hd with rfl|rfl|rfl|rfl
 ·exact .str _
 ·exact .str _
 ·refine .tup (fun d hd=>?_) (by rw[aG];exact h);obtain⟨i,_,rfl⟩:=aX.mp hd;exact .int i
 ·exact .str _
theorem OP{es:List Ed}(h:∀e∈es,e.2.2.1.length<=1000)(hl:es.length<=300):Pl 3 (.lst (mR es)):=by
 refine .lst (fun d hd=>?_) (by have:=Km (es:=es);omega);obtain⟨e,he,rfl⟩:=Kl hd;exact RW (h e he)
structure Tb where
 fs:List Fm
 m0:List Int
 m1:List Int
 m2:List Int
 m3:List Int
 fg:List Int
structure CI(t:Tb):Prop where
 ho:∀f∈t.fs,mV f
 hl:t.fs.length<=10
 h0:t.m0.length<=2
 h1:t.m1.length<=2
 h2:t.m2.length<=2
 h3:t.m3.length<=2
 hf:t.fg.length<=10
noncomputable abbrev nE(t:Tb):Dat:=.tup [tI t.m0,tI t.m1,tI t.m2,tI t.m3]
noncomputable abbrev tb(t:Tb):Dat:=.tup [.tup (t.fs.map dG),nE t,tI t.fg]
noncomputable abbrev zz(t:Tb):Bool:=decide (0<(t.fg.length:Int))
theorem ne_nil(m:List Int):dt .ne (tI m) (.tup [])=some (!m.isEmpty):=by
 cases m with
 | nil=>rfl
 | cons a r=>
   have h:fR 19 ((a::r).map Dat.int)=true:=v8 19 (a::r);rw[VB h rfl];rfl
theorem eq_nil(m:List Int):dt .eq (tI m) (.tup [])=some m.isEmpty:=by
 cases m with
 | nil=>rfl
 | cons a r=>
   have h:fR 19 ((a::r).map Dat.int)=true:=v8 19 (a::r);rw[VS h rfl];rfl
theorem HM(m:List Int):gY .len [tI m]=some (.int (m.length:Nat),false):=by rw[tV,aG]
theorem fN(m:List Int):im (tI m)=true:=ee m
theorem qN(a b:List Int)(h:a.length+b.length<=1000):gm .add (tI a) (tI b)=some (tI (a++b),false):=by
 rw[tZ (by rw[aG,aG];omega),<-dY]
noncomputable abbrev kN:bh:=aa "out"
noncomputable abbrev rW:bh:=aa "let"
noncomputable def wy(z:Bool)(st:bh):List bh:=if(st == kN && z)=true then [kN,rW]else [st]
theorem Xa(t:Tb):lN [Dat.tup (t.fs.map dG),nE t,tI t.fg] 0=some (Dat.tup (t.fs.map dG)):=rfl
theorem Rk(t:Tb):lN [Dat.tup (t.fs.map dG),nE t,tI t.fg] 1=some (nE t):=rfl
theorem at2(t:Tb):lN [Dat.tup (t.fs.map dG),nE t,tI t.fg] 2=some (tI t.fg):=rfl
theorem xS{n:Nat}{t:Tb}(st:bh):Cn D (n+1) 13 [tb t,.str st]=some (.lst ((wy (zz t) st).map Dat.str),true):=by
 refine gC (C:=Cn D n) (np:=2) (nl:=2) (body:=Wc) rfl ?_;have hc:dt .eq (.str st) (.str kN)=some (st == kN):=rfl;have h2:=at2 t;have h3:=HM t.fg;have h4:dt .gt (.int (t.fg.length:Nat)) (.int 0)=some (zz t):=rfl;unfold wy;generalize zz t=z at h4 ⊢;generalize (st == kN)=b at hc ⊢;generalize ((t.fg.length:Nat):Int)=L at h3 h4;unfold tb;generalize nE t=M0 at h2 ⊢;generalize tI t.fg=F0 at h2 h3 ⊢;generalize Dat.tup (t.fs.map dG)=FS at h2 ⊢;unfold Wc;cases b<;>cases z<;>walk_at "py"<;>rfl
noncomputable def W4:List (Nat×bh×bh):=[(119,"out","done"),(98,"out","in"),(109,"in","in"),(101,"in","done")]
noncomputable abbrev TY:Ex:=.ix (.xv [(.inr (aa "w")),(.inr (aa "b")),(.inr (aa "m")),(.inr (aa "e"))] [(.tup [(.con (.str (aa "out"))),(.con (.str (aa "done")))]),(.tup [(.con (.str (aa "out"))),(.con (.str (aa "in")))]),(.tup [(.con (.str (aa "in"))),(.con (.str (aa "in")))]),(.tup [(.con (.str (aa "in"))),(.con (.str (aa "done")))])]) (.var 7)
theorem Qp(C:Fs)(a0 a1 a2 a3 a4 a5 a6 a8 a9 a10:Option Dat):(W4.all fun w=>sP (eP C TY [a0,a1,a2,a3,a4,a5,a6,some (.str (T [w.1])),a8,a9,a10]) (some (.tup [.str w.2.1,.str w.2.2],false)))=true:=by kernel_rfl
noncomputable def Bp:List Sx:=[.mut .app 6 [.tup [.var 10,.var 2,.var 3,.var 9]],.ifs (.cmp .ne (.ix (.ix (.var 0) (.con (.int 1))) (.con (.int 0))) (.tup [])) [.mut .app 6 [.tup [.var 10,.var 5,.bin .add (.ix (.ix (.var 0) (.con (.int 1))) (.con (.int 0))) (.var 3),.var 9]]] []]
noncomputable def Ez:List Sx:=[.DX [8,9] TY,.loop true [10] (.itv (.call 13 [.var 0,.var 8])) Bp]
theorem QR:UO=[.DX [2,3,4] (.var 1),.set 5 (.bin .add (.lW .upper (.ix (.var 2) (.con (.int 0))) []) (.sl (.var 2) (some (.con (.int 1))) none)),.set 6 (.lst []),.loop true [7] (.itv (.var 4)) Ez,.nY 6]:=rfl
theorem kn(a b c:bh)(m:List Int):im (.tup [.str a,.str b,tI m,.str c])=true:=by
 have h:kd (m.map Dat.int)=true:=ee m;simp[im,kd,h]
theorem L8{C:Fs}{t:Tb}{f:Fm}{G:List Nat}(a1 a4:Dat)(tw w1 w2 s:bh)(es:List Ed)(hf:t.m0.length+f.2.1.length<=1000)(hl:es.length<900) :
  cY C Bp [some (tb t,false),some (a1,false),some (.str (T f.1),false),some (tI f.2.1,false),some (a4,false),some (.str (T G),false),some (.lst (es.map cH),true),some (.str tw,false),some (.str w1,false),some (.str w2,false),some (.str s,false)] =
   some (.nx [some (tb t,false),some (a1,false),some (.str (T f.1),false),some (tI f.2.1,false),some (a4,false),some (.str (T G),false),some (.lst ((es++((s,f.1,f.2.1,w2)::if t.m0.isEmpty=true then []else [(s,G,t.m0++f.2.1,w2)])).map cH),true),some (.str tw,false),some (.str w1,false),some (.str w2,false),some (.str s,false)]):=by
 have m1:ip .app (.lst (es.map cH)) [.tup [.str s,.str (T f.1),tI f.2.1,.str w2]]=some (.lst (es.map cH++[.tup [.str s,.str (T f.1),tI f.2.1,.str w2]])):=jQ (by rw[aG];omega);have m2:ip .app (.lst (es.map cH++[.tup [.str s,.str (T f.1),tI f.2.1,.str w2]])) [.tup [.str s,.str (T G),tI (t.m0++f.2.1),.str w2]]=some (.lst (es.map cH++[.tup [.str s,.str (T f.1),tI f.2.1,.str w2]]++[.tup [.str s,.str (T G),tI (t.m0++f.2.1),.str w2]])):=jQ (by rw[ak,aG,Ac];omega);have i1:=kn s (T f.1) w2 f.2.1;have i2:=kn s (T G) w2 (t.m0++f.2.1);have j1:=fN f.2.1;have a0:=Rk t;have a2:lN [tI t.m0,tI t.m1,tI t.m2,tI t.m3] 0=some (tI t.m0):=rfl;have hn:=ne_nil t.m0;have hadd:=qN t.m0 f.2.1 hf
 have e1:(es++((s,f.1,f.2.1,w2)::if t.m0.isEmpty=true then []else [(s,G,t.m0++f.2.1,w2)])).map cH=if t.m0.isEmpty=true then es.map cH++[.tup [.str s,.str (T f.1),tI f.2.1,.str w2]]else es.map cH++[.tup [.str s,.str (T f.1),tI f.2.1,.str w2]]++[.tup [.str s,.str (T G),tI (t.m0++f.2.1),.str w2]]:=by
  split<;>simp
 rw[e1];generalize t.m0.isEmpty=b at hn ⊢;generalize tI (t.m0++f.2.1)=C3 at *;generalize tI f.2.1=C1 at *;generalize es.map cH=ES at *;generalize T f.1=lt at *;generalize T G=gt at *;unfold tb nE at *;generalize tI t.m0=M0 at *;generalize tI t.m1=M1 at *;generalize tI t.m2=M2 at *;generalize tI t.m3=M3 at *;generalize tI t.fg=F0 at *;generalize Dat.tup (t.fs.map dG)=FS at *;clear hl hf e1;unfold Bp;cases b
 ·walk_at "py"
 ·walk_at "py"
noncomputable abbrev Dl(t:Tb)(f:Fm)(G:List Nat)(a1 a4:Dat)(es:List Ed)(r:dk):dk:=some (tb t,false)::some (a1,false)::some (.str (T f.1),false)::some (tI f.2.1,false)::some (a4,false)::some (.str (T G),false)::some (.lst (es.map cH),true)::r
noncomputable def sE(t:Tb)(f:Fm)(G:List Nat)(w2 s:bh):List Ed:=(s,f.1,f.2.1,w2)::if t.m0.isEmpty=true then []else [(s,G,t.m0++f.2.1,w2)]
theorem GI(t:Tb)(f:Fm)(G:List Nat)(w2 s:bh):(sE t f G w2 s).length<=2:=by unfold sE;split<;>simp
theorem CY{C:Fs}{t:Tb}{f:Fm}{G:List Nat}(a1 a4:Dat)(tw w1 w2:bh)(hf:t.m0.length+f.2.1.length<=1000):∀(ss:List bh) (es:List Ed) (z:Option (Dat×Bool)),es.length+2 * ss.length<900->
  ∃y,eJ (eU true [10]) (cY C Bp) (ss.map Dat.str) (Dl t f G a1 a4 es [some (.str tw,false),some (.str w1,false),some (.str w2,false),z])=some (.nx (Dl t f G a1 a4 (es++ss.flatMap (sE t f G w2)) [some (.str tw,false),some (.str w1,false),some (.str w2,false),y]))
 | [],es,z,_=>⟨z,by rw[dc,aL];rfl⟩
 | s::ss,es,z,hl=>by
   rw[bo]at hl;have hb:cY C Bp (Dl t f G a1 a4 es [some (.str tw,false),some (.str w1,false),some (.str w2,false),some (.str s,false)])=some (.nx (Dl t f G a1 a4 (es++sE t f G w2 s) [some (.str tw,false),some (.str w1,false),some (.str w2,false),some (.str s,false)])):=L8 (C:=C) (t:=t) (f:=f) (G:=G) a1 a4 tw w1 w2 s es hf (by omega);have h2:=GI t f G w2 s;obtain⟨y,hr⟩:=CY (C:=C) a1 a4 tw w1 w2 hf ss (es++sE t f G w2 s) (some (.str s,false)) (by rw[ak];omega);refine⟨y,?_⟩;show(cY C Bp (Dl t f G a1 a4 es [some (.str tw,false),some (.str w1,false),some (.str w2,false),some (.str s,false)])).bind _=_;rw[hb,ck,<-aC];exact hr
theorem si(z:Bool)(st:bh):(wy z st).length<=2:=by unfold wy;split<;>simp
theorem F6(t:Tb)(f:Fm)(G:List Nat)(w:Nat×bh×bh):((wy (zz t) w.2.1).flatMap (sE t f G w.2.2)).length<=4:=by
 rw[pC];have h:=GI t f G w.2.2
 have:∀l:List bh,(l.map fun s=>(sE t f G w.2.2 s).length).sum<=2 * l.length:=fun l=>by
  induction l with
  | nil=>simp
  | cons a r ih=>have:=h a;rw[aq,pL,bo];omega
 have h1:=this (wy (zz t) w.2.1);have h2:=si (zz t) w.2.1;omega
theorem QH{n:Nat}{t:Tb}{f:Fm}{G:List Nat}{w:Nat×bh×bh}(hw:w∈W4)(a1 a4:Dat)(hf:t.m0.length+f.2.1.length<=1000)(es:List Ed)(hl:es.length<800)(z8 z9 z10:Option (Dat×Bool)) :
  ∃y8 y9 y10,cY (Cn D (n+1)) Ez (Dl t f G a1 a4 es [some (.str (T [w.1]),false),z8,z9,z10])=some (.nx (Dl t f G a1 a4 (es++(wy (zz t) w.2.1).flatMap (sE t f G w.2.2)) [some (.str (T [w.1]),false),y8,y9,y10])):=by
 have hd:=sO (bQ.mp (Qp (Cn D (n+1)) (some (tb t)) (some a1) (some (.str (T f.1))) (some (tI f.2.1)) (some a4) (some (.str (T G))) (some (.lst (es.map cH))) (z8.map (·.1)) (z9.map (·.1)) (z10.map (·.1))) w hw);have hr:=xS (n:=n) (t:=t) w.2.1;have h2:=si (zz t) w.2.1;obtain⟨y,hi⟩:=CY (C:=Cn D (n+1)) (t:=t) (f:=f) (G:=G) a1 a4 (T [w.1]) w.2.1 w.2.2 hf (wy (zz t) w.2.1) es z10 (by omega);refine⟨some (.str w.2.1,false),some (.str w.2.2,false),y,?_⟩;unfold Ez;rw[cG,B5 (C:=Cn D (n+1)) (a:=.str w.2.1) (b:=.str w.2.2) (f:=false) hd rfl];show(cY (Cn D (n+1)) [_] (Dl t f G a1 a4 es [some (.str (T [w.1]),false),some (.str w.2.1,false),some (.str w.2.2,false),z10]))=_;have he:eP (Cn D (n+1)) (.call 13 [.var 0,.var 8]) (full (Dl t f G a1 a4 es [some (.str (T [w.1]),false),some (.str w.2.1,false),some (.str w.2.2,false),z10]))=some (.lst ((wy (zz t) w.2.1).map Dat.str),true):=hr;rw[cG,iE,he];show((eJ (eU true [10]) (cY (Cn D (n+1)) Bp) ((wy (zz t) w.2.1).map Dat.str) _).bind _)=_;rw[hi];rfl
theorem F7:∀c∈uI,∃w∈W4,w.1=c/\(W4.filter fun w=>w.1 == c)=[w]:=by
 intro c hc;simp only[uI,ao,ba,or_false]at hc
 rcases hc with rfl|rfl|rfl|rfl
 ·exact⟨_,.head _,rfl,rfl⟩
 ·exact⟨_,.tail _ (.head _),rfl,rfl⟩
 ·exact⟨_,.tail _ (.tail _ (.head _)),rfl,rfl⟩
 ·exact⟨_,.tail _ (.tail _ (.tail _ (.head _))),rfl,rfl⟩
noncomputable abbrev cE(t:Tb)(f:Fm)(G:List Nat)(c:Nat):List Ed:=(W4.filter fun w=>w.1 == c).flatMap fun w=>(wy (zz t) w.2.1).flatMap (sE t f G w.2.2)
theorem HL{n:Nat}{t:Tb}{f:Fm}{G:List Nat}(a1 a4:Dat)(hf:t.m0.length+f.2.1.length<=1000):∀(cs:List Nat) (es:List Ed) (z7 z8 z9 z10:Option (Dat×Bool)),(∀c∈cs,c∈uI)->es.length+4 * cs.length<800->
  ∃(y7 y8 y9 y10:Option (Dat×Bool)),eJ (eU true [7]) (cY (Cn D (n+1)) Ez) (cs.map fun c=>Dat.str (T [c])) (Dl t f G a1 a4 es [z7,z8,z9,z10])=some (.nx (Dl t f G a1 a4 (es++cs.flatMap (cE t f G)) [y7,y8,y9,y10]))
 | [],es,z7,z8,z9,z10,_,_=>⟨z7,z8,z9,z10,by rw[dc,aL];rfl⟩
 | c::cs,es,z7,z8,z9,z10,h,hl=>by
   rw[bo]at hl;obtain⟨w,hw,e1,e2⟩:=F7 c (h c ja);obtain⟨x8,x9,x10,hb⟩:=QH (n:=n) (t:=t) (f:=f) (G:=G) hw a1 a4 hf es (by omega) z8 z9 z10;have h4:=F6 t f G w
   have ep:cE t f G c=(wy (zz t) w.2.1).flatMap (sE t f G w.2.2):=by
    show List.flatMap _ (W4.filter _)=_;rw[e2,ck,dc,aL]
   rw[<-ep]at hb h4;obtain⟨y7,y8,y9,y10,hr⟩:=HL (n:=n) (t:=t) (f:=f) (G:=G) a1 a4 hf cs (es++cE t f G c) (some (.str (T [c]),false)) x8 x9 x10 (fun c hc=>h c (jt _ hc)) (by rw[ak];omega);refine⟨y7,y8,y9,y10,?_⟩;rw[e1]at hb;show(cY (Cn D (n+1)) Ez (Dl t f G a1 a4 es [some (.str (T [c]),false),z8,z9,z10])).bind _=_;rw[hb,ck,<-aC];exact hr
theorem AM:∀k,k<16->∀c∈AN k,c∈uI:=by decide
theorem Wy:(j4.all fun c=>decide (rh c=[c - 32]))=true:=by kernel_rfl
theorem up1{c:Nat}(h:c∈j4):rh c=[c - 32]:=of_decide_eq_true (bQ.mp Wy c h)
theorem G9(u:List Nat)(f:Nat->List Nat):(xw (T u) fun _ c=>f c)=(u.flatMap f).toArray:=by
 apply Array.ext';simp only[xw,T];rw[Array.toList_flatten,Array.toList_mapIdx];simp only[DP]
 have e:∀(u:List Nat),(u.mapIdx fun _ c=>(f c).toArray)=u.map fun c=>(f c).toArray:=fun u=>by
  apply nu<;>simp
 rw[e,cx,List.flatMap_def]
 congr 1
theorem B4{u:List Nat}(h:∀c∈u,c∈j4)(hl:u.length<=1000):kY .upper (.str (T u)) []=some (.str (T (u.map (·- 32))),false):=by
 show(if(T u).length<=1000000 then some (Dat.str (qp (T u)),false)else none)=_;rw[qZ,if_pos (by omega)]
 have:qp (T u)=T (u.map (·- 32)):=by
  show(⟨xw (T u) fun _ c=>rh c⟩:bh)=_;rw[G9];show T _=T _
  congr 1
  clear hl
  induction u with
  | nil=>rfl
  | cons a r ih=>
    rw[ck,up1 (h a ja),ih fun c m=>h c (jt _ m)];rfl
 rw[this]
theorem uY{C:Fs}{e:Ex}{ρ:dk}{a b c:Dat}{f:Bool}{i j k:Nat}(h:eP C e (full ρ)=some (.tup [a,b,c],f))(hi:im (.tup [a,b,c])=true):ko C (.DX [i,j,k] e) ρ=some (.nx (((ρ.set i (some (a,false))).set j (some (b,false))).set k (some (c,false)))):=by
 show(Bv C e ρ).bind _=_;rw[IC h (by rw[hi];rfl)];rfl
noncomputable def gT(l:List Nat):List Nat:=(T [l.headD 0 - 32]++iO (T l) (some 1) none).cps.toList
theorem yO{f:Fm}(ho:mV f):∃(c0:Nat) (S1:bh),JE (.str (T f.1)) (.int 0)=some (.str (T [c0]))/\kY .upper (.str (T [c0])) []=some (.str (T [c0 - 32]),false)/\Kt (.str (T f.1)) (some 1) none=some (.str S1,false)/\gm .add (.str (T [c0 - 32])) (.str S1)=some (.str (T (gT f.1)),false):=by
 obtain⟨c0,r0,hc⟩:∃c r,f.1=c::r:=by
  cases q:f.1 with
  | nil=>exact absurd q ho.ne
  | cons c r=>exact⟨c,r,rfl⟩
 have hlen:=ho.ll;have hlow:c0∈j4:=ho.low c0 (by rw[hc];exact ja);refine⟨c0,iO (T f.1) (some 1) none,?_,B4 (u:=[c0]) (fun c hc=>by rw[au.mp hc];exact hlow) (by simp),if_pos (by rw[qZ,cj];omega),?_⟩
 ·rw[hc];exact PV (l:=c0::r0) (i:=0) (by rw[<-hc];omega) (by simp)
 ·have hle:=xx (T f.1) (some 1) none;have e3:(T f.1).length=f.1.length:=qZ _;have e1:(T [c0 - 32]).length=1:=qZ _;have hh:f.1.headD 0=c0:=by rw[hc];rfl
  show(if(T [c0 - 32]).length+(iO (T f.1) (some 1) none).length<=aP then some (Dat.str (T [c0 - 32]++iO (T f.1) (some 1) none),false)else none)=_;rw[if_pos (by rw[e1,cj];omega)];unfold gT;rw[hh,Tx]
noncomputable abbrev fE(t:Tb)(f:Fm):List Ed:=f.2.2.flatMap (cE t f (gT f.1))
theorem HZ(f:Fm):im (.tup [.str (T f.1),tI f.2.1,.str (T f.2.2)])=true:=by
 have:im (tI f.2.1)=true:=fN _;simp only[im,kd,eV,pP]at this ⊢;exact this
theorem Eg{n:Nat}{t:Tb}{f:Fm}(ht:t.m0.length<=2)(ho:mV f):Cn D (n+2) 14 [tb t,dG f]=some (.lst ((fE t f).map cH),true):=by
 refine gC (C:=Cn D (n+1)) (np:=2) (nl:=11) (body:=UO) rfl ?_;obtain⟨k,k1,k2,hk⟩:=ho.pp;have hsub:∀c∈f.2.2,c∈uI:=by rw[hk];exact AM k k2
 have hpl:=ho.pl;have hcl:=ho.cl;obtain⟨c0,S1,g1,g2,g3,g4⟩:=yO ho;obtain⟨y7,y8,y9,y10,hl⟩:=HL (n:=n) (t:=t) (f:=f) (G:=gT f.1) (dG f) (.str (T f.2.2)) (by omega) f.2.2 [] none none none none hsub (by simp;omega);rw[QR,cG,uY (C:=Cn D (n+1)) (a:=.str (T f.1)) (b:=tI f.2.1) (c:=.str (T f.2.2)) (f:=false) rfl (HZ f)];show cY (Cn D (n+1)) [_,_,_,_] [some (tb t,false),some (dG f,false),some (.str (T f.1),false),some (tI f.2.1,false),some (.str (T f.2.2),false),none,none,none,none,none,none]=_
 have s1:ko (Cn D (n+1)) (.set 5 (.bin .add (.lW .upper (.ix (.var 2) (.con (.int 0))) []) (.sl (.var 2) (some (.con (.int 1))) none))) [some (tb t,false),some (dG f,false),some (.str (T f.1),false),some (tI f.2.1,false),some (.str (T f.2.2),false),none,none,none,none,none,none]=some (.nx [some (tb t,false),some (dG f,false),some (.str (T f.1),false),some (tI f.2.1,false),some (.str (T f.2.2),false),some (.str (T (gT f.1)),false),none,none,none,none,none]):=by
  clear hl hsub hpl hcl hk;generalize T (gT f.1)=GT at *;generalize T f.1=LT at *;generalize tI f.2.1=C1 at *;generalize dG f=FM at *;generalize tb t=TB at *;walk_at "py"
 rw[cG,s1,ah,di,cG];show((ko (Cn D (n+1)) (.set 6 (.lst [])) _).bind _)=_;rw[show ko (Cn D (n+1)) (.set 6 (.lst [])) [some (tb t,false),some (dG f,false),some (.str (T f.1),false),some (tI f.2.1,false),some (.str (T f.2.2),false),some (.str (T (gT f.1)),false),none,none,none,none,none]=some (.nx (Dl t f (gT f.1) (dG f) (.str (T f.2.2)) [] [none,none,none,none]))from rfl,ah,di,cG,iE];show((eJ (eU true [7]) (cY (Cn D (n+1)) Ez) (f.2.2.map fun c=>Dat.str (T [c])) (Dl t f (gT f.1) (dG f) (.str (T f.2.2)) [] [none,none,none,none])).bind _)=_;rw[hl];rfl
noncomputable abbrev uT(l:List Nat):List Nat:=l.map (·- 32)
noncomputable abbrev gA(t:Tb)(f:Fm)(o:bh)(s:bh):Ed:=(s,uT f.1,t.m1++f.2.1,o)
noncomputable abbrev CX(o:bh):Ex:=.comp 1 true [3,0,5] (.itv (.call 13 [.var 0,.con (.str kN)])) [] (.tup [.var 0,.var 3,.bin .add (.ix (.ix (.var 2) (.con (.int 1))) (.con (.int 1))) (.var 1),.con (.str o)])
theorem IS{n:Nat}{t:Tb}{f:Fm}(o:bh)(hf:t.m1.length+f.2.1.length<=1000)(a1 a4 x6 x7:Option Dat) :
  eP (Cn D (n+1)) (CX o) [some (tb t),a1,some (.str (T f.1)),some (tI f.2.1),a4,some (.str (T (uT f.1))),x6,x7]=some (.lst (((wy (zz t) kN).map (gA t f o)).map cH),true):=by
 have hr:=xS (n:=n) (t:=t) kN;have h2:=si (zz t) kN;refine kC (items:=(wy (zz t) kN).map Dat.str) ?_ (by rw[aG];omega) ?_
 ·have he:eP (Cn D (n+1)) (.call 13 [.var 0,.con (.str kN)]) [some (tb t),a1,some (.str (T f.1)),some (tI f.2.1),a4,some (.str (T (uT f.1))),x6,x7]=some (.lst ((wy (zz t) kN).map Dat.str),true):=hr;rw[wI,he];rfl
 ·have:=ot (f:=jK (Cn D (n+1)) 1 true (gP 1 [3,0,5] [some (tb t),a1,some (.str (T f.1)),some (tI f.2.1),a4,some (.str (T (uT f.1))),x6,x7]) [] (.tup [.var 0,.var 3,.bin .add (.ix (.ix (.var 2) (.con (.int 1))) (.con (.int 1))) (.var 1),.con (.str o)])) (g:=fun d=>match d with | .str s=>cH (gA t f o s)|_=>.non) (ds:=(wy (zz t) kN).map Dat.str) ?_ ?_
  ·rw[this,cx,cx];rfl
  ·intro d hd;obtain⟨s,_,rfl⟩:=aX.mp hd;refine⟨true,?_⟩;rw[mG];show(eP (Cn D (n+1)) (.tup [.var 0,.var 3,.bin .add (.ix (.ix (.var 2) (.con (.int 1))) (.con (.int 1))) (.var 1),.con (.str o)]) [some (.str s),some (tI f.2.1),some (tb t),some (.str (T (uT f.1)))]).map some=_;have ha:=qN t.m1 f.2.1 hf;have i1:=Rk t;have i2:lN [tI t.m0,tI t.m1,tI t.m2,tI t.m3] 1=some (tI t.m1):=rfl;have i3:=fN (t.m1++f.2.1);show _=some (some (Dat.tup [.str s,.str (T (uT f.1)),tI (t.m1++f.2.1),.str o],true));clear hr hd h2 hf;generalize tI (t.m1++f.2.1)=C3 at *;generalize tI f.2.1=C1 at *;generalize T (uT f.1)=U at *;unfold tb nE at *;generalize tI t.m0=M0 at *;generalize tI t.m1=M1 at *;generalize tI t.m2=M2 at *;generalize tI t.m3=M3 at *;generalize tI t.fg=F0 at *;generalize Dat.tup (t.fs.map dG)=FS at *;walk_at "py"
  ·intro d hd;obtain⟨s,_,rfl⟩:=aX.mp hd;exact kn _ _ _ _
noncomputable abbrev jc:bh:=aa "all"
noncomputable abbrev iw:bh:=aa "done"
noncomputable def aE(t:Tb)(f:Fm)(c:Nat):List Ed:=if c=119 then(if decide (1<(f.1.length:Int))=true then(wy (zz t) kN).map (gA t f iw)else [])else if c=98 then(wy (zz t) kN).map (gA t f jc)else if c=109 then [(jc,uT f.1,f.2.1,jc)]else [(jc,uT f.1,f.2.1,iw)]
noncomputable def Ey:List Sx:=[.ifs (.and (.cmp .eq (.var 7) (.con (.str (aa "w")))) (.cmp .gt (.blt .len [.var 2]) (.con (.int 1)))) [.mut .ext 6 [CX iw]] [],.ifs (.cmp .eq (.var 7) (.con (.str (aa "b")))) [.mut .ext 6 [CX jc]] [],.ifs (.cmp .eq (.var 7) (.con (.str (aa "m")))) [.mut .app 6 [.tup [.con (.str jc),.var 5,.var 3,.con (.str jc)]]] [],.ifs (.cmp .eq (.var 7) (.con (.str (aa "e")))) [.mut .app 6 [.tup [.con (.str jc),.var 5,.var 3,.con (.str iw)]]] []]
theorem QQ:Wb=[.DX [2,3,4] (.var 1),.set 5 (.lW .upper (.var 2) []),.set 6 (.lst []),.loop true [7] (.itv (.var 4)) Ey,.nY 6]:=rfl
noncomputable abbrev NC(t:Tb)(f:Fm)(a1 a4:Dat)(es:List Ed)(z:Option (Dat×Bool)):dk:=[some (tb t,false),some (a1,false),some (.str (T f.1),false),some (tI f.2.1,false),some (a4,false),some (.str (T (uT f.1)),false),some (.lst (es.map cH),true),z]
theorem VR:([119,98,109,101].all fun c=>([("w",119),("b",98),("m",109),("e",101)]:List (String×Nat)).all fun q=>decide (dt .eq (.str (T [c])) (.str (aa q.1))=some (decide (c=q.2))))=true:=by decide +kernel
theorem qI:∀es:List Ed,kd (es.map cH)=true
 | []=>rfl
 | e::es=>by rw[aq,kd,kn,qI es];rfl
theorem Jn(t:Tb)(f:Fm)(c:Nat):(aE t f c).length<=2:=by
 have:=si (zz t) kN;unfold aE
 repeat' split
 all_goals simp
 all_goals omega
theorem QG{n:Nat}{t:Tb}{f:Fm}(ho:mV f)(hm:t.m1.length<=2)(a1 a4:Dat){c:Nat}(hc:c∈uI)(es:List Ed)(hl:es.length<800) :
  cY (Cn D (n+1)) Ey (NC t f a1 a4 es (some (.str (T [c]),false)))=some (.nx (NC t f a1 a4 (es++aE t f c) (some (.str (T [c]),false)))):=by
 have hcl:=ho.cl;have hll:=ho.ll;have c1:=IS (n:=n) (t:=t) (f:=f) iw (by omega) (some a1) (some a4) (some (.lst (es.map cH))) (some (.str (T [c])));have c2:=IS (n:=n) (t:=t) (f:=f) jc (by omega) (some a1) (some a4) (some (.lst (es.map cH))) (some (.str (T [c])));have hlen:gY .len [.str (T f.1)]=some (.int (f.1.length:Nat),false):=len_T (by omega);have hg:dt .gt (.int (f.1.length:Nat)) (.int 1)=some (decide (1<(f.1.length:Int))):=rfl;have w2:=si (zz t) kN
 have hx:∀W:List Ed,W.length<=2->ip .ext (.lst (es.map cH)) [.lst (W.map cH)]=some (.lst ((es++W).map cH)):=fun W hW=>by
  rw[ve (by rw[aG,aG];omega),<-dY]
 have ha:∀e:Ed,ip .app (.lst (es.map cH)) [cH e]=some (.lst ((es++[e]).map cH)):=fun e=>by
  rw[jQ (by rw[aG];omega),dY];rfl
 have q1:=hx ((wy (zz t) kN).map (gA t f iw)) (by rw[aG];exact w2);have q2:=hx ((wy (zz t) kN).map (gA t f jc)) (by rw[aG];exact w2);have q3:ip .app (.lst (es.map cH)) [.tup [.str jc,.str (T (uT f.1)),tI f.2.1,.str jc]]=some (.lst ((es++[(jc,uT f.1,f.2.1,jc)]).map cH)):=ha (jc,uT f.1,f.2.1,jc);have q4:ip .app (.lst (es.map cH)) [.tup [.str jc,.str (T (uT f.1)),tI f.2.1,.str iw]]=some (.lst ((es++[(jc,uT f.1,f.2.1,iw)]).map cH)):=ha (jc,uT f.1,f.2.1,iw);have i1:=qI ((wy (zz t) kN).map (gA t f iw));have i2:=qI ((wy (zz t) kN).map (gA t f jc));have i3:=fN f.2.1;have eq:∀q∈([("w",119),("b",98),("m",109),("e",101)]:List (String×Nat)),dt .eq (.str (T [c])) (.str (aa q.1))=some (decide (c=q.2)):=fun q hq=>of_decide_eq_true (bQ.mp (bQ.mp VR c hc) q hq);have k1:=eq ("w",119) (by simp);have k2:=eq ("b",98) (by simp);have k3:=eq ("m",109) (by simp);have k4:=eq ("e",101) (by simp);have c119:decide ((119:Nat)=119)=true:=rfl;unfold aE;generalize decide (1<(f.1.length:Int))=b at hg ⊢;generalize ((f.1.length:Nat):Int)=L at hlen hg;clear hx ha eq hl hcl hll hm w2 ho c119;unfold Ey NC;simp only[uI,ao,ba,or_false]at hc
 rcases hc with rfl|rfl|rfl|rfl
 ·replace k1:dt .eq (.str (T [119])) (.str (aa "w"))=some true:=k1;replace k2:dt .eq (.str (T [119])) (.str (aa "b"))=some false:=k2;replace k3:dt .eq (.str (T [119])) (.str (aa "m"))=some false:=k3;replace k4:dt .eq (.str (T [119])) (.str (aa "e"))=some false:=k4;rw[if_pos rfl];cases b
  ·rw[if_neg bI,aL];clear c1 c2 q1 q2 q3 q4 i1 i2;generalize es.map cH=ES at *;generalize T (uT f.1)=U at *;generalize tI f.2.1=C1 at *;generalize T [119]=S at *;generalize T f.1=LT at *;generalize tb t=TB at *;walk_at "py"
  ·rw[if_pos rfl];clear c2 q2 q3 q4 i2;generalize (es++(wy (zz t) kN).map (gA t f iw)).map cH=E2 at *;generalize ((wy (zz t) kN).map (gA t f iw)).map cH=W at *;generalize es.map cH=ES at *;generalize T (uT f.1)=U at *;generalize tI f.2.1=C1 at *;generalize T [119]=S at *;generalize T f.1=LT at *;generalize tb t=TB at *;walk_at "py"
 ·replace k1:dt .eq (.str (T [98])) (.str (aa "w"))=some false:=k1;replace k2:dt .eq (.str (T [98])) (.str (aa "b"))=some true:=k2;replace k3:dt .eq (.str (T [98])) (.str (aa "m"))=some false:=k3;replace k4:dt .eq (.str (T [98])) (.str (aa "e"))=some false:=k4;rw[if_neg (by decide),if_pos rfl];clear c1 q1 q3 q4 i1;generalize (es++(wy (zz t) kN).map (gA t f jc)).map cH=E2 at *;generalize ((wy (zz t) kN).map (gA t f jc)).map cH=W at *;generalize es.map cH=ES at *;generalize T (uT f.1)=U at *;generalize tI f.2.1=C1 at *;generalize T [98]=S at *;generalize T f.1=LT at *;generalize tb t=TB at *;walk_at "py"
 ·replace k1:dt .eq (.str (T [109])) (.str (aa "w"))=some false:=k1;replace k2:dt .eq (.str (T [109])) (.str (aa "b"))=some false:=k2;replace k3:dt .eq (.str (T [109])) (.str (aa "m"))=some true:=k3;replace k4:dt .eq (.str (T [109])) (.str (aa "e"))=some false:=k4;rw[if_neg (by decide),if_neg (by decide),if_pos rfl];clear c1 c2 q1 q2 q4 i1 i2;have i4:=kn jc (T (uT f.1)) jc f.2.1;generalize (es++[(jc,uT f.1,f.2.1,jc)]).map cH=E2 at *;generalize es.map cH=ES at *;generalize T (uT f.1)=U at *;generalize tI f.2.1=C1 at *;generalize T [109]=S at *;generalize T f.1=LT at *;generalize tb t=TB at *;walk_at "py"
 ·replace k1:dt .eq (.str (T [101])) (.str (aa "w"))=some false:=k1;replace k2:dt .eq (.str (T [101])) (.str (aa "b"))=some false:=k2;replace k3:dt .eq (.str (T [101])) (.str (aa "m"))=some false:=k3;replace k4:dt .eq (.str (T [101])) (.str (aa "e"))=some true:=k4;rw[if_neg (by decide),if_neg (by decide),if_neg (by decide)];clear c1 c2 q1 q2 q3 i1 i2;have i4:=kn jc (T (uT f.1)) iw f.2.1;generalize (es++[(jc,uT f.1,f.2.1,iw)]).map cH=E2 at *;generalize es.map cH=ES at *;generalize T (uT f.1)=U at *;generalize tI f.2.1=C1 at *;generalize T [101]=S at *;generalize T f.1=LT at *;generalize tb t=TB at *;walk_at "py"
theorem HK{n:Nat}{t:Tb}{f:Fm}(ho:mV f)(hm:t.m1.length<=2)(a1 a4:Dat):∀(cs:List Nat) (es:List Ed) (z:Option (Dat×Bool)),(∀c∈cs,c∈uI)->es.length+2 * cs.length<800->
  ∃y,eJ (eU true [7]) (cY (Cn D (n+1)) Ey) (cs.map fun c=>Dat.str (T [c])) (NC t f a1 a4 es z)=some (.nx (NC t f a1 a4 (es++cs.flatMap (aE t f)) y))
 | [],es,z,_,_=>⟨z,by rw[dc,aL];rfl⟩
 | c::cs,es,z,h,hl=>by
   rw[bo]at hl;have hb:=QG (n:=n) (t:=t) ho hm a1 a4 (h c ja) es (by omega);have h2:=Jn t f c;obtain⟨y,hr⟩:=HK (n:=n) (t:=t) ho hm a1 a4 cs (es++aE t f c) (some (.str (T [c]),false)) (fun c hc=>h c (jt _ hc)) (by rw[ak];omega);refine⟨y,?_⟩;show(cY (Cn D (n+1)) Ey (NC t f a1 a4 es (some (.str (T [c]),false)))).bind _=_;rw[hb,ck,<-aC];exact hr
noncomputable abbrev JH(t:Tb)(f:Fm):List Ed:=f.2.2.flatMap (aE t f)
theorem Ga{f:Fm}(ho:mV f):kY .upper (.str (T f.1)) []=some (.str (T (uT f.1)),false):=B4 ho.low (by have:=ho.ll;omega)
theorem GQ{n:Nat}{t:Tb}{f:Fm}(hm:t.m1.length<=2)(ho:mV f):Cn D (n+2) 15 [tb t,dG f]=some (.lst ((JH t f).map cH),true):=by
 refine gC (C:=Cn D (n+1)) (np:=2) (nl:=8) (body:=Wb) rfl ?_;obtain⟨k,k1,k2,hk⟩:=ho.pp;have hsub:∀c∈f.2.2,c∈uI:=by rw[hk];exact AM k k2
 have hpl:=ho.pl;have hu:=Ga ho;obtain⟨y,hl⟩:=HK (n:=n) (t:=t) ho hm (dG f) (.str (T f.2.2)) f.2.2 [] none hsub (by simp;omega);rw[QQ,cG,uY (C:=Cn D (n+1)) (a:=.str (T f.1)) (b:=tI f.2.1) (c:=.str (T f.2.2)) (f:=false) rfl (HZ f)];show cY (Cn D (n+1)) [_,_,_,_] [some (tb t,false),some (dG f,false),some (.str (T f.1),false),some (tI f.2.1,false),some (.str (T f.2.2),false),none,none,none]=_
 have s1:ko (Cn D (n+1)) (.set 5 (.lW .upper (.var 2) [])) [some (tb t,false),some (dG f,false),some (.str (T f.1),false),some (tI f.2.1,false),some (.str (T f.2.2),false),none,none,none]=some (.nx [some (tb t,false),some (dG f,false),some (.str (T f.1),false),some (tI f.2.1,false),some (.str (T f.2.2),false),some (.str (T (uT f.1)),false),none,none]):=by
  clear hl hsub hpl hk;generalize T (uT f.1)=U at *;generalize T f.1=LT at *;generalize tI f.2.1=C1 at *;generalize dG f=FM at *;generalize tb t=TB at *;walk_at "py"
 rw[cG,s1,ah,di,cG];rw[show ko (Cn D (n+1)) (.set 6 (.lst [])) [some (tb t,false),some (dG f,false),some (.str (T f.1),false),some (tI f.2.1,false),some (.str (T f.2.2),false),some (.str (T (uT f.1)),false),none,none]=some (.nx (NC t f (dG f) (.str (T f.2.2)) [] none))from rfl,ah,di,cG,iE];show((eJ (eU true [7]) (cY (Cn D (n+1)) Ey) (f.2.2.map fun c=>Dat.str (T [c])) (NC t f (dG f) (.str (T f.2.2)) [] none)).bind _)=_;rw[hl];rfl
noncomputable abbrev fA:bh:=aa "num"
noncomputable abbrev Q6:bh:=aa "0123456789"
noncomputable def iD:List Nat:=[48,49,50,51,52,53,54,55,56,57]
theorem TX:Q6=T iD:=by decide +kernel
noncomputable def pD:List Ed:=[("out",[32],[0],"out"),("done",[32],[0],"out"),("num",[32],[0],"out")]
noncomputable def lF(t:Tb)(k:Nat)(c:Int):List Ed:=[(fA,[iD.getD k 0],[c],fA),(kN,[iD.getD k 0],t.m2++[c],fA),(iw,[iD.getD k 0],t.m2++[c],fA)]
noncomputable def Bo:List Sx:=[.mut .app 1 [.tup [.var 4,.var 3,.bin .add (.ix (.ix (.var 0) (.con (.int 1))) (.con (.int 2))) (.tup [.ix (.ix (.var 0) (.con (.int 2))) (.var 2)]),.con (.str fA)]]]
noncomputable def vk:List Sx:=[.set 3 (.ix (.con (.str Q6)) (.var 2)),.mut .app 1 [.tup [.con (.str fA),.var 3,.tup [.ix (.ix (.var 0) (.con (.int 2))) (.var 2)],.con (.str fA)]],.loop true [4] (.itv (.lst [.con (.str kN),.con (.str iw)])) Bo]
noncomputable abbrev oP(t:Tb)(es:List Ed)(z2 z3 z4 z5:Option (Dat×Bool)):dk:=[some (tb t,false),some (.lst (es.map cH),true),z2,z3,z4,z5]
theorem o8{es:List Ed}(e:Ed)(hl:es.length<900):ip .app (.lst (es.map cH)) [cH e]=some (.lst ((es++[e]).map cH)):=by
 rw[jQ (by rw[aG];omega),dY];rfl
theorem C9{C:Fs}{t:Tb}(h2:t.m2.length<=2){k:Nat}{c:Int}(hk:t.fg[k]? = some c)(x:List Nat)(s:bh)(es:List Ed)(hl:es.length<900)(z5:Option (Dat×Bool)) :
  cY C Bo (oP t es (some (.int k,false)) (some (.str (T x),false)) (some (.str s,false)) z5)=some (.nx (oP t (es++[(s,x,t.m2++[c],fA)]) (some (.int k,false)) (some (.str (T x),false)) (some (.str s,false)) z5)):=by
 have a1:lN (t.fg.map Dat.int) (k:Int)=some (.int c):=oy (by rw[bx,hk];rfl);have a2:gm .add (tI t.m2) (.tup [.int c])=some (tI (t.m2++[c]),false):=qN t.m2 [c] (by simp;omega);have a3:ip .app (.lst (es.map cH)) [.tup [.str s,.str (T x),tI (t.m2++[c]),.str fA]]=some (.lst ((es++[(s,x,t.m2++[c],fA)]).map cH)):=o8 (s,x,t.m2++[c],fA) hl;have a4:=Rk t;have a5:=at2 t;have a6:lN [tI t.m0,tI t.m1,tI t.m2,tI t.m3] 2=some (tI t.m2):=rfl;have a7:=kn s (T x) fA (t.m2++[c]);have a8:=fN (t.m2++[c]);clear h2 hk hl;unfold oP tb nE at *;generalize (es++[(s,x,t.m2++[c],fA)]).map cH=E2 at *;generalize tI (t.m2++[c])=C2 at *;generalize es.map cH=ES at *;generalize tI t.m0=M0 at *;generalize tI t.m1=M1 at *;generalize tI t.m2=M2 at *;generalize tI t.m3=M3 at *;unfold tI at *;generalize t.fg.map Dat.int=F0 at *;generalize Dat.tup (t.fs.map dG)=FS at *;generalize T x=X at *;generalize ((k:Nat):Int)=K at *;unfold Bo;walk_at "py"
theorem MN{C:Fs}{t:Tb}(h2:t.m2.length<=2)(hf:t.fg.length<=10){k:Nat}{c:Int}(hk:t.fg[k]? = some c)(es:List Ed)(hl:es.length<800)(z3 z4 z5:Option (Dat×Bool)) :
  ∃y3 y4,cY C vk (oP t es (some (.int k,false)) z3 z4 z5)=some (.nx (oP t (es++lF t k c) (some (.int k,false)) y3 y4 z5)):=by
 have hk10:k<10:=by have:=(be.mp hk).1;omega
 have f1:JE (.str Q6) (.int (k:Int))=some (.str (T [iD.getD k 0])):=by
  rw[TX];have:=PV (l:=iD) (i:=k) (by decide) (by exact hk10);rw[this,dw,af (show k<iD.length from hk10)];rfl
 refine⟨some (.str (T [iD.getD k 0]),false),some (.str iw,false),?_⟩;have a1:lN (t.fg.map Dat.int) (k:Int)=some (.int c):=oy (by rw[bx,hk];rfl);have a3:ip .app (.lst (es.map cH)) [.tup [.str fA,.str (T [iD.getD k 0]),.tup [.int c],.str fA]]=some (.lst ((es++[(fA,[iD.getD k 0],[c],fA)]).map cH)):=o8 (fA,[iD.getD k 0],[c],fA) (by omega)
 have s1:ko C (.set 3 (.ix (.con (.str Q6)) (.var 2))) (oP t es (some (.int k,false)) z3 z4 z5)=some (.nx (oP t es (some (.int k,false)) (some (.str (T [iD.getD k 0]),false)) z4 z5)):=by
  clear a1 a3 hk hl;unfold oP;generalize T [iD.getD k 0]=X at *;generalize tb t=TB;generalize es.map cH=ES;generalize ((k:Nat):Int)=K at *;walk_at "py"
 have s2:ko C (.mut .app 1 [.tup [.con (.str fA),.var 3,.tup [.ix (.ix (.var 0) (.con (.int 2))) (.var 2)],.con (.str fA)]]) (oP t es (some (.int k,false)) (some (.str (T [iD.getD k 0]),false)) z4 z5)=some (.nx (oP t (es++[(fA,[iD.getD k 0],[c],fA)]) (some (.int k,false)) (some (.str (T [iD.getD k 0]),false)) z4 z5)):=by
  have a5:=at2 t;have a7:im (.tup [.str fA,.str (T [iD.getD k 0]),.tup [.int c],.str fA])=true:=rfl;have a8:im (.tup [.int c])=true:=rfl;clear f1 hk hl s1;unfold oP tb nE at *;generalize (es++[(fA,[iD.getD k 0],[c],fA)]).map cH=E2 at *;generalize T [iD.getD k 0]=X at *;generalize es.map cH=ES at *;generalize Dat.tup [tI t.m0,tI t.m1,tI t.m2,tI t.m3]=MK at *;unfold tI at *;generalize t.fg.map Dat.int=F0 at *;generalize Dat.tup (t.fs.map dG)=FS at *;generalize ((k:Nat):Int)=K at *;walk_at "py"
 unfold vk;rw[cG,s1,ah,di,cG,s2,ah,di,cG,iE];show dC ((cY C Bo (oP t (es++[(fA,[iD.getD k 0],[c],fA)]) (some (.int k,false)) (some (.str (T [iD.getD k 0]),false)) (some (.str kN,false)) z5)).bind (Gg (eJ (eU true [4]) (cY C Bo) [.str iw]))) _=_;rw[C9 h2 hk _ _ _ (by rw[ak];simp;omega)];show dC ((cY C Bo (oP t (es++[(fA,[iD.getD k 0],[c],fA)]++[(kN,[iD.getD k 0],t.m2++[c],fA)]) (some (.int k,false)) (some (.str (T [iD.getD k 0]),false)) (some (.str iw,false)) z5)).bind (Gg (eJ (eU true [4]) (cY C Bo) []))) _=_;rw[C9 h2 hk _ _ _ (by simp;omega)];have e:es++[(fA,[iD.getD k 0],[c],fA)]++[(kN,[iD.getD k 0],t.m2++[c],fA)]++[(iw,[iD.getD k 0],t.m2++[c],fA)]=es++lF t k c:=by unfold lF;simp
 rw[e];rfl
theorem CW{C:Fs}{t:Tb}(h2:t.m2.length<=2)(hf:t.fg.length<=10):∀(ks:List Nat) (es:List Ed) (z2 z3 z4 z5:Option (Dat×Bool)),(∀k∈ks,k<t.fg.length)->es.length+3 * ks.length<800->
  ∃y2 y3 y4,eJ (eU true [2]) (cY C vk) (ks.map fun k:Nat=>Dat.int k) (oP t es z2 z3 z4 z5)=some (.nx (oP t (es++ks.flatMap fun k=>lF t k (t.fg.getD k 0)) y2 y3 y4 z5))
 | [],es,z2,z3,z4,z5,_,_=>⟨z2,z3,z4,by rw[dc,aL];rfl⟩
 | k::ks,es,z2,z3,z4,z5,h,hl=>by
   rw[bo]at hl;have hkl:=h k ja;have hk:t.fg[k]? = some (t.fg.getD k 0):=by rw[af hkl];simp[hkl]
   obtain⟨x3,x4,hb⟩:=MN (C:=C) h2 hf hk es (by omega) z3 z4 z5;obtain⟨y2,y3,y4,hr⟩:=CW (C:=C) h2 hf ks (es++lF t k (t.fg.getD k 0)) (some (.int k,false)) x3 x4 z5 (fun k hk=>h k (jt _ hk)) (by rw[ak];show _+3+_<_;omega);refine⟨y2,y3,y4,?_⟩;show(cY C vk (oP t es (some (.int k,false)) z3 z4 z5)).bind _=_;rw[hb,ck,<-aC];exact hr
noncomputable def vj:List Sx:=[.mut .ext 1 [.call 14 [.var 0,.var 5]],.ifs (.cmp .ne (.ix (.ix (.var 0) (.con (.int 1))) (.con (.int 1))) (.tup [])) [.mut .ext 1 [.call 15 [.var 0,.var 5]]] []]
theorem QO:QP=[QP[0],.loop true [2] (.rng [.blt .len [.ix (.var 0) (.con (.int 2))]]) vk,QP[2],.loop true [5] (.itv (.ix (.var 0) (.con (.int 0)))) vj,.ret (.blt .sset [.var 1])]:=rfl
noncomputable def dE(t:Tb)(f:Fm):List Ed:=fE t f++if t.m1.isEmpty=true then []else JH t f
theorem QB(t:Tb)(f:Fm)(G:List Nat){c:Nat}(hc:c∈uI):(cE t f G c).length<=4:=by
 obtain⟨w,hw,e1,e2⟩:=F7 c hc;show(List.flatMap _ (W4.filter _)).length<=4;rw[e2,ck,dc,aL];exact F6 t f G w
theorem oN{α β:Type}{g:α->List β}{m:Nat}:∀{l:List α},(∀x∈l,(g x).length<=m)->(l.flatMap g).length<=m * l.length
 | [],_=>by simp
 | a::r,h=>by
   rw[ck,ak,bo,Nat.mul_add];have:=h a ja;have:=oN (l:=r) fun x hx=>h x (jt _ hx);omega
theorem RU{f:Fm}(ho:mV f):∀c∈f.2.2,c∈uI:=by
 obtain⟨k,k1,k2,hk⟩:=ho.pp;rw[hk];exact AM k k2
theorem Ir{t:Tb}{f:Fm}(ho:mV f):(fE t f).length<=16:=by
 have h1:(fE t f).length<=4 * f.2.2.length:=oN (g:=cE t f (gT f.1)) (m:=4) (l:=f.2.2) fun c hc=>QB t f _ (RU ho c hc);have h2:=ho.pl;omega
theorem DC{t:Tb}{f:Fm}(ho:mV f):(JH t f).length<=8:=by
 have h1:(JH t f).length<=2 * f.2.2.length:=oN (g:=aE t f) (m:=2) (l:=f.2.2) fun c _=>Jn t f c;have h2:=ho.pl;omega
theorem II{t:Tb}{f:Fm}(ho:mV f):(dE t f).length<=24:=by
 have h1:=Ir (t:=t) ho;have h2:=DC (t:=t) ho;unfold dE;rw[ak];generalize (fE t f).length=x at *;split
 ·rw[kF];omega
 ·omega
theorem MM{n:Nat}{t:Tb}(ht:CI t){f:Fm}(ho:mV f)(es:List Ed)(hl:es.length<800)(z2 z3 z4:Option (Dat×Bool)) :
  cY (Cn D (n+2)) vj (oP t es z2 z3 z4 (some (dG f,false)))=some (.nx (oP t (es++dE t f) z2 z3 z4 (some (dG f,false)))):=by
 have r1:=Eg (n:=n) (t:=t) ht.h0 ho;have r2:=GQ (n:=n) (t:=t) ht.h1 ho;have l1:=Ir (t:=t) ho;have l2:=DC (t:=t) ho
 have hx:∀(A W:List Ed),A.length+W.length<=1000->ip .ext (.lst (A.map cH)) [.lst (W.map cH)]=some (.lst ((A++W).map cH)):=fun A W h=>by
  rw[ve (by rw[aG,aG];omega),<-dY]
 have m1:=hx es (fE t f) (by omega);have m2:=hx (es++fE t f) (JH t f) (by rw[ak];omega);have i1:=qI (fE t f);have i2:=qI (JH t f);have a0:=Rk t;have a2:lN [tI t.m0,tI t.m1,tI t.m2,tI t.m3] 1=some (tI t.m1):=rfl;have hn:=ne_nil t.m1
 have e1:(es++dE t f).map cH=if t.m1.isEmpty=true then(es++fE t f).map cH else(es++fE t f++JH t f).map cH:=by
  unfold dE;split<;>simp
 unfold oP;rw[e1];generalize t.m1.isEmpty=b at hn ⊢;generalize (es++fE t f++JH t f).map cH=E3 at *;generalize (es++fE t f).map cH=E2 at *;generalize (JH t f).map cH=W2 at *;generalize (fE t f).map cH=W1 at *;generalize es.map cH=ES at *;generalize dG f=FM at *;unfold tb nE at *;generalize tI t.m0=M0 at *;generalize tI t.m1=M1 at *;generalize tI t.m2=M2 at *;generalize tI t.m3=M3 at *;generalize tI t.fg=F0 at *;generalize Dat.tup (t.fs.map dG)=FS at *;clear hx l1 l2 hl e1 ho ht;unfold vj;cases b
 ·walk_at "py"
 ·walk_at "py"
theorem CU{n:Nat}{t:Tb}(ht:CI t):∀(gs:List Fm) (es:List Ed) (z2 z3 z4 z5:Option (Dat×Bool)),(∀f∈gs,mV f)->es.length+24 * gs.length<800->
  ∃y5,eJ (eU true [5]) (cY (Cn D (n+2)) vj) (gs.map dG) (oP t es z2 z3 z4 z5)=some (.nx (oP t (es++gs.flatMap (dE t)) z2 z3 z4 y5))
 | [],es,z2,z3,z4,z5,_,_=>⟨z5,by rw[dc,aL];rfl⟩
 | g::gs,es,z2,z3,z4,z5,h,hl=>by
   rw[bo]at hl;have hb:=MM (n:=n) ht (h g ja) es (by omega) z2 z3 z4;have h4:=II (t:=t) (h g ja);obtain⟨y5,hr⟩:=CU (n:=n) ht gs (es++dE t g) z2 z3 z4 (some (dG g,false)) (fun f hf=>h f (jt _ hf)) (by rw[ak];omega);refine⟨y5,?_⟩;show(cY (Cn D (n+2)) vj (oP t es z2 z3 z4 (some (dG g,false)))).bind _=_;rw[hb,ck,<-aC];exact hr
noncomputable abbrev xt(t:Tb):List Ed:=(aT t.fg.length).flatMap fun k=>lF t k (t.fg.getD k 0)
noncomputable abbrev CS(t:Tb):List Ed:=if zz t=true then [(fA,[],t.m3,rW)]else []
noncomputable abbrev By(t:Tb):List Ed:=pD++xt t++CS t++t.fs.flatMap (dE t)
theorem Dm{t:Tb}(ht:CI t):(By t).length<=274:=by
 have h1:=oN (g:=dE t) (m:=24) (l:=t.fs) fun f hf=>II (ht.ho f hf);have h2:(xt t).length<=3 * (aT t.fg.length).length:=oN (g:=fun k=>lF t k (t.fg.getD k 0)) (m:=3) (l:=aT t.fg.length) fun k _=>aK 3;have h3:(CS t).length<=1:=by unfold CS;split<;>simp
 have h4:=ht.hl;have h5:=ht.hf;rw[bW]at h2;rw[ak,ak,ak];show 3+_+_+_<=_;omega
theorem NQ:Mx ("out",[32],[0],"out")≠Mx ("done",[32],[0],"out"):=by decide +kernel
theorem BL:aa " "=T [32]:=by decide +kernel
theorem Ww:aa ""=T []:=by decide +kernel
theorem KO{n:Nat}{t:Tb}(ht:CI t):Cn D (n+3) 16 [tb t]=some (.lst (mR (By t)),true):=by
 refine gC (C:=Cn D (n+2)) (np:=1) (nl:=6) (body:=QP) rfl ?_;have hdl:=Dm ht;have h5:=ht.hf;have h4:=ht.hl;have h2:(xt t).length<=3 * (aT t.fg.length).length:=oN (g:=fun k=>lF t k (t.fg.getD k 0)) (m:=3) (l:=aT t.fg.length) fun k _=>aK 3;have h3:(CS t).length<=1:=by unfold CS;split<;>simp
 rw[bW]at h2;obtain⟨y2,y3,y4,la⟩:=CW (C:=Cn D (n+2)) (t:=t) ht.h2 ht.hf (aT t.fg.length) pD none none none none (fun k hk=>br.mp hk) (by rw[bW];show 3+_<_;omega);obtain⟨y5,lb⟩:=CU (n:=n) ht t.fs (pD++xt t++CS t) y2 y3 y4 none ht.ho (by rw[ak,ak];show 3+_+_+_<_;omega)
 have hs:gY .sset [.lst ((By t).map cH)]=some (.lst (mR (By t)),true):=
  Cb (a:=("out",[32],[0],"out")) (b:=("done",[32],[0],"out")) (by omega) (by simp[By,pD]) (by simp[By,pD]) NQ
 have l0:ko (Cn D (n+2)) QP[0] [some (tb t,false),none,none,none,none,none]=some (.nx (oP t pD none none none none)):=by
  show ko (Cn D (n+2)) (.set 1 (.lst [(.tup [(.con (.str (aa "out"))),(.con (.str (aa " "))),(.tup [(.con (.int (0)))]),(.con (.str (aa "out")))]),(.tup [(.con (.str (aa "done"))),(.con (.str (aa " "))),(.tup [(.con (.int (0)))]),(.con (.str (aa "out")))]),(.tup [(.con (.str (aa "num"))),(.con (.str (aa " "))),(.tup [(.con (.int (0)))]),(.con (.str (aa "out")))])])) _=_;rw[BL];rfl
 have l1:ko (Cn D (n+2)) (.loop true [2] (.rng [.blt .len [.ix (.var 0) (.con (.int 2))]]) vk) (oP t pD none none none none)=some (.nx (oP t (pD++xt t) y2 y3 y4 none)):=by
  rw[tK]
  have:Bw (Cn D (n+2)) (.rng [.blt .len [.ix (.var 0) (.con (.int 2))]]) (full (oP t pD none none none none))=some ((aT t.fg.length).map fun k:Nat=>Dat.int k):=by
   show GS [.int (((t.fg.map Dat.int).length:Nat):Int)]=_;rw[aG];show(if((t.fg.length:Nat):Int)<=1000000/\-1000000<=((t.fg.length:Nat):Int)then some ((aT ((t.fg.length:Nat):Int).toNat).map fun k:Nat=>Dat.int k)else none)=_;rw[if_pos (by omega),jP]
  rw[this];exact la
 have l2:ko (Cn D (n+2)) QP[2] (oP t (pD++xt t) y2 y3 y4 none)=some (.nx (oP t (pD++xt t++CS t) y2 y3 y4 none)):=by
  show ko (Cn D (n+2)) (.ifs (.cmp .gt (.blt .len [.ix (.var 0) (.con (.int 2))]) (.con (.int 0))) [.mut .app 1 [.tup [.con (.str fA),.con (.str (aa "")),.ix (.ix (.var 0) (.con (.int 1))) (.con (.int 3)),.con (.str rW)]]] []) _=_;rw[Ww];have a3:ip .app (.lst ((pD++xt t).map cH)) [.tup [.str fA,.str (T []),tI t.m3,.str rW]]=some (.lst ((pD++xt t++[(fA,[],t.m3,rW)]).map cH)):=o8 (fA,[],t.m3,rW) (by rw[ak];show 3+_<_;omega);have a4:=Rk t;have a5:=at2 t;have a6:lN [tI t.m0,tI t.m1,tI t.m2,tI t.m3] 3=some (tI t.m3):=rfl;have a7:=kn fA (T []) rW t.m3;have a8:=fN t.m3;have h3:=HM t.fg;have h4:dt .gt (.int (t.fg.length:Nat)) (.int 0)=some (zz t):=rfl
  have e1:(pD++xt t++CS t).map cH=if zz t=true then(pD++xt t++[(fA,[],t.m3,rW)]).map cH else(pD++xt t).map cH:=by
   unfold CS;split<;>simp
  unfold oP;rw[e1];generalize zz t=z at h4 ⊢;generalize (pD++xt t++[(fA,[],t.m3,rW)]).map cH=E2 at *;generalize (pD++xt t).map cH=ES at *;generalize ((t.fg.length:Nat):Int)=L at h3 h4;unfold tb nE at *;generalize tI t.m0=M0 at *;generalize tI t.m1=M1 at *;generalize tI t.m2=M2 at *;generalize tI t.m3=M3 at *;generalize tI t.fg=F0 at *;generalize Dat.tup (t.fs.map dG)=FS at *;generalize T []=TN at *;clear la lb hs l0 l1 hdl h5 h2 e1;cases z
  ·walk_at "py"
  ·walk_at "py"
 have l3:ko (Cn D (n+2)) (.loop true [5] (.itv (.ix (.var 0) (.con (.int 0)))) vj) (oP t (pD++xt t++CS t) y2 y3 y4 none)=some (.nx (oP t (By t) y2 y3 y4 y5)):=by
  rw[iE];have:eP (Cn D (n+2)) (.ix (.var 0) (.con (.int 0))) (full (oP t (pD++xt t++CS t) y2 y3 y4 none))=some (.tup (t.fs.map dG),false):=rfl;rw[this];have hi:im (.tup (t.fs.map dG))=true:=oZ t.fs;simp only[ah,gw,hi,nM,if_true];exact lb
 rw[QO];show cY (Cn D (n+2)) _ [some (tb t,false),none,none,none,none,none]=_;rw[cG,l0,ah,di,cG,l1,ah,di,cG,l2,ah,di,cG,l3,ah,di];show dC (jT _ (gY .sset [.lst ((By t).map cH)])) _=_;rw[hs];rfl
noncomputable def W6:List (Nat×bh×bh):=[(119,"out","done"),(119,"let","done"),(98,"out","in"),(98,"let","in"),(109,"in","in"),(101,"in","done")]
noncomputable abbrev B3(w:Nat×bh×bh):Dat:=.tup [.str (T [w.1]),.str w.2.1,.str w.2.2]
noncomputable abbrev Dg(f:Fm)(w:Nat×bh×bh):List Ed:=if w.1∈f.2.2 then [(w.2.1,f.1,f.2.1,w.2.2)]else []
noncomputable abbrev E6(f:Fm):List Ed:=W6.flatMap (Dg f)
noncomputable def Sz:List Sx:=[.ifs (.cmp .isin (.var 5) (.var 4)) [.mut .app 1 [.tup [.var 6,.var 2,.var 3,.var 7]]] []]
theorem J2:(Dat.tup [(.tup [(.str (aa "w")),(.str (aa "out")),(.str (aa "done"))]),(.tup [(.str (aa "w")),(.str (aa "let")),(.str (aa "done"))]),(.tup [(.str (aa "b")),(.str (aa "out")),(.str (aa "in"))]),(.tup [(.str (aa "b")),(.str (aa "let")),(.str (aa "in"))]),(.tup [(.str (aa "m")),(.str (aa "in")),(.str (aa "in"))]),(.tup [(.str (aa "e")),(.str (aa "in")),(.str (aa "done"))])])=.tup (W6.map B3):=by
 have h1:aa "w"=T [119]:=by decide +kernel
 have h2:aa "b"=T [98]:=by decide +kernel
 have h3:aa "m"=T [109]:=by decide +kernel
 have h4:aa "e"=T [101]:=by decide +kernel
 rw[h1,h2,h3,h4];rfl
theorem Su:((aT 16).all fun k=>W6.all fun w=>decide (dt .isin (.str (T [w.1])) (.str (T (AN k)))=some (decide (w.1∈AN k))))=true:=by decide +kernel
theorem LP{f:Fm}(ho:mV f){w:Nat×bh×bh}(hw:w∈W6):dt .isin (.str (T [w.1])) (.str (T f.2.2))=some (decide (w.1∈f.2.2)):=by
 obtain⟨k,_,k2,hk⟩:=ho.pp;rw[hk];have:=bQ.mp (bQ.mp Su k (br.mpr k2)) w hw;exact of_decide_eq_true this
theorem Th{C:Fs}{f:Fm}(ho:mV f){w:Nat×bh×bh}(hw:w∈W6)(a0:Dat)(es:List Ed)(hl:es.length<1000) :
  cY C Sz [some (a0,false),some (.lst (es.map cH),true),some (.str (T f.1),false),some (.tup (f.2.1.map Dat.int),false),some (.str (T f.2.2),false),some (.str (T [w.1]),false),some (.str w.2.1,false),some (.str w.2.2,false)] =
   some (.nx [some (a0,false),some (.lst ((es++Dg f w).map cH),true),some (.str (T f.1),false),some (.tup (f.2.1.map Dat.int),false),some (.str (T f.2.2),false),some (.str (T [w.1]),false),some (.str w.2.1,false),some (.str w.2.2,false)]):=by
 have hc:=LP ho hw;have i1:im (.tup (f.2.1.map Dat.int))=true:=ee _;by_cases hm:w.1∈f.2.2
 ·rw[decide_eq_true hm]at hc;rw[show Dg f w=[(w.2.1,f.1,f.2.1,w.2.2)]from if_pos hm,dY];have ha:ip .app (.lst (es.map cH)) [.tup [.str w.2.1,.str (T f.1),.tup (f.2.1.map Dat.int),.str w.2.2]]=some (.lst (es.map cH++[.tup [.str w.2.1,.str (T f.1),.tup (f.2.1.map Dat.int),.str w.2.2]])):=jQ (by rw[aG];omega);have i4:im (.tup [.str w.2.1,.str (T f.1),.tup (f.2.1.map Dat.int),.str w.2.2])=true:=by simp only[im,kd,eV,pP]at i1 ⊢;exact i1
  show _=some (Out.nx [some (a0,false),some (.lst (es.map cH++[.tup [.str w.2.1,.str (T f.1),.tup (f.2.1.map Dat.int),.str w.2.2]]),true),_,_,_,_,_,_]);generalize es.map cH=ES at ha ⊢;generalize f.2.1.map Dat.int=cs at i1 i4 ha ⊢;generalize T f.1=lt at ha i4 ⊢;generalize T f.2.2=pl at hc ⊢;generalize T [w.1]=tw at hc ⊢;clear hl hm ho hw;unfold Sz;walk_at "py"
 ·rw[decide_eq_false hm]at hc;rw[show Dg f w=[]from if_neg hm,aL];generalize es.map cH=ES;generalize f.2.1.map Dat.int=cs at i1 ⊢;generalize T f.1=lt;generalize T f.2.2=pl at hc ⊢;generalize T [w.1]=tw at hc ⊢;clear hl hm ho hw;unfold Sz;walk_at "py"
theorem HJ{C:Fs}{f:Fm}(ho:mV f)(a0:Dat):∀(ws:List (Nat×bh×bh)) (es:List Ed) (z5 z6 z7:Option (Dat×Bool)),(∀w∈ws,w∈W6)->es.length+ws.length<1000->
  ∃y5 y6 y7:Option (Dat×Bool),eJ (eU false [5,6,7]) (cY C Sz) (ws.map B3) [some (a0,false),some (.lst (es.map cH),true),some (.str (T f.1),false),some (.tup (f.2.1.map Dat.int),false),some (.str (T f.2.2),false),z5,z6,z7] =
   some (.nx [some (a0,false),some (.lst ((es++ws.flatMap (Dg f)).map cH),true),some (.str (T f.1),false),some (.tup (f.2.1.map Dat.int),false),some (.str (T f.2.2),false),y5,y6,y7])
 | [],es,z5,z6,z7,_,_=>⟨z5,z6,z7,by simp only[cF,dc,aL,eJ]⟩
 | w::ws,es,z5,z6,z7,h,hl=>by
   have hb:=Th (C:=C) ho (h w ja) a0 es (by omega)
   have h1:(Dg f w).length<=1:=by
    unfold Dg;split<;>simp
   obtain⟨y5,y6,y7,hr⟩:=HJ (C:=C) ho a0 ws (es++Dg f w) (some (.str (T [w.1]),false)) (some (.str w.2.1,false)) (some (.str w.2.2,false)) (fun v hv=>h v (jt _ hv)) (by rw[ak];rw[bo]at hl;omega);refine⟨y5,y6,y7,?_⟩;have hbd:eU false [5,6,7] (B3 w) [some (a0,false),some (.lst (es.map cH),true),some (.str (T f.1),false),some (.tup (f.2.1.map Dat.int),false),some (.str (T f.2.2),false),z5,z6,z7]=some [some (a0,false),some (.lst (es.map cH),true),some (.str (T f.1),false),some (.tup (f.2.1.map Dat.int),false),some (.str (T f.2.2),false),some (.str (T [w.1]),false),some (.str w.2.1,false),some (.str w.2.2,false)]:=rfl;rw[aq];simp only[eJ,hbd,ah,hb];rw[ck,<-aC];exact hr
noncomputable def Rh:List Sx:=[.loop false [5,6,7] (.itv (.con (.tup (W6.map B3)))) Sz]
theorem Tp:b2=[.set 1 (.lst []),.loop false [2,3,4] (.itv (.var 0)) Rh,.nY 1]:=by
 unfold Rh;rw[<-J2];rfl
theorem Rr:im (.tup (W6.map B3))=true:=by decide +kernel
theorem O4{C:Fs}{f:Fm}(ho:mV f)(a0:Dat)(es:List Ed)(hl:es.length<900)(z5 z6 z7:Option (Dat×Bool)) :
  ∃y5 y6 y7:Option (Dat×Bool),cY C Rh [some (a0,false),some (.lst (es.map cH),true),some (.str (T f.1),false),some (.tup (f.2.1.map Dat.int),false),some (.str (T f.2.2),false),z5,z6,z7] =
   some (.nx [some (a0,false),some (.lst ((es++E6 f).map cH),true),some (.str (T f.1),false),some (.tup (f.2.1.map Dat.int),false),some (.str (T f.2.2),false),y5,y6,y7]):=by
 obtain⟨y5,y6,y7,h⟩:=HJ (C:=C) ho a0 W6 es z5 z6 z7 (fun w hw=>hw) (by show _+6<_;omega);refine⟨y5,y6,y7,?_⟩;unfold Rh;rw[cG,iE,m7,ah];have hi:gw (.tup (W6.map B3))=some (W6.map B3):=rfl;simp only[hi,ah,Rr,nM,if_true];rw[h];rfl
theorem IF(f:Fm):(E6 f).length<=6:=by
 show(W6.flatMap (Dg f)).length<=6;rw[pC];have h:∀w,(Dg f w).length<=1:=fun w=>by unfold Dg;split<;>simp
 have h1:=h (119,"out","done");have h2:=h (119,"let","done");have h3:=h (98,"out","in");have h4:=h (98,"let","in");have h5:=h (109,"in","in");have h6:=h (101,"in","done");simp only[W6,aq,cF,pL,List.sum_nil];omega
theorem Nt{C:Fs}(a0:Dat):∀(gs:List Fm) (es:List Ed) (z2 z3 z4 z5 z6 z7:Option (Dat×Bool)),(∀f∈gs,mV f)->es.length+6 * gs.length<900->
  ∃y2 y3 y4 y5 y6 y7:Option (Dat×Bool),eJ (eU false [2,3,4]) (cY C Rh) (gs.map dG) [some (a0,false),some (.lst (es.map cH),true),z2,z3,z4,z5,z6,z7]=some (.nx [some (a0,false),some (.lst ((es++gs.flatMap E6).map cH),true),y2,y3,y4,y5,y6,y7])
 | [],es,z2,z3,z4,z5,z6,z7,_,_=>⟨z2,z3,z4,z5,z6,z7,by simp only[cF,dc,aL,eJ]⟩
 | g::gs,es,z2,z3,z4,z5,z6,z7,h,hl=>by
   rw[bo]at hl;obtain⟨x5,x6,x7,hb⟩:=O4 (C:=C) (h g ja) a0 es (by omega) z5 z6 z7;have h6:=IF g;obtain⟨y2,y3,y4,y5,y6,y7,hr⟩:=Nt (C:=C) a0 gs (es++E6 g) (some (.str (T g.1),false)) (some (.tup (g.2.1.map Dat.int),false)) (some (.str (T g.2.2),false)) x5 x6 x7 (fun f hf=>h f (jt _ hf)) (by rw[ak];omega);refine⟨y2,y3,y4,y5,y6,y7,?_⟩;have hbd:eU false [2,3,4] (dG g) [some (a0,false),some (.lst (es.map cH),true),z2,z3,z4,z5,z6,z7]=some [some (a0,false),some (.lst (es.map cH),true),some (.str (T g.1),false),some (.tup (g.2.1.map Dat.int),false),some (.str (T g.2.2),false),z5,z6,z7]:=rfl;rw[aq];simp only[eJ,hbd,ah,hb];rw[ck,<-aC];exact hr
theorem Eb{n:Nat}{fs:List Fm}(ho:∀f∈fs,mV f)(hl:fs.length<=10):Cn D (n+1) 2 [.tup (fs.map dG)]=some (.lst ((fs.flatMap E6).map cH),true):=by
 refine gC (C:=Cn D n) (np:=1) (nl:=8) (body:=b2) rfl ?_;obtain⟨y2,y3,y4,y5,y6,y7,h⟩:=Nt (C:=Cn D n) (.tup (fs.map dG)) fs [] none none none none none none ho (by show 0+_<_;omega);rw[Tp];show cY (Cn D n) _ [some (.tup (fs.map dG),false),none,none,none,none,none,none,none]=_
 have l1:ko (Cn D n) (.loop false [2,3,4] (.itv (.var 0)) Rh) [some (.tup (fs.map dG),false),some (.lst [],true),none,none,none,none,none,none]=some (.nx [some (.tup (fs.map dG),false),some (.lst ((fs.flatMap E6).map cH),true),y2,y3,y4,y5,y6,y7]):=by
  rw[iE,jv];have hi:gw (.tup (fs.map dG))=some (fs.map dG):=rfl;have hm:im (.tup (fs.map dG))=true:=oZ fs;simp only[full,aq,cF,bT,cZ,bE,ah,hi,hm,nM,if_true];exact h
 rw[cG,show ko (Cn D n) (.set 1 (.lst [])) [some (.tup (fs.map dG),false),none,none,none,none,none,none,none]=some (.nx [some (.tup (fs.map dG),false),some (.lst [],true),none,none,none,none,none,none])from by rw[rR,Bu,wJ];rfl];rw[ah,di,cG,l1,ah,di,cG,qi];rfl
theorem Ei{n:Nat}:Cn D (n+1) 0 []=some (.lst (pD.map cH),true):=by
 have:sP (Cn D (n+1) 0 []) (some (.lst (pD.map cH),true))=true:=by kernel_rfl
 exact sO this
noncomputable abbrev JF(m:List Int)(e:Ed):Ed:=(e.1,gT e.2.1,m++e.2.2.1,e.2.2.2)
structure Ud(e:Ed):Prop where
 ho:∃f,mV f/\e.2.1=f.1
 hl:e.2.2.1.length<=6
noncomputable abbrev GX:Ex:=.tup [.var 0,.bin .add (.lW .upper (.ix (.var 1) (.con (.int 0))) []) (.sl (.var 1) (some (.con (.int 1))) none),.bin .add (.var 4) (.var 2),.var 3]
theorem EK{C:Fs}{m:List Int}(hm:m.length<=2){e:Ed}(he:Ud e):eP C GX [some (.str e.1),some (.str (T e.2.1)),some (tI e.2.2.1),some (.str e.2.2.2),some (tI m)]=some (cH (JF m e),true):=by
 obtain⟨f,hf,ef⟩:=he.ho;have hl:=he.hl;obtain⟨c0,S1,g1,g2,g3,g4⟩:=yO hf;rw[<-ef]at g1 g3 g4;have ha:=qN m e.2.2.1 (by omega);have i1:=fN (m++e.2.2.1);show _=some (Dat.tup [.str e.1,.str (T (gT e.2.1)),tI (m++e.2.2.1),.str e.2.2.2],true);clear hl hm he ef;generalize T (gT e.2.1)=X at *;generalize T e.2.1=Y at *;generalize tI (m++e.2.2.1)=C3 at *;generalize tI e.2.2.1=C1 at *;generalize tI m=M0 at *;generalize T [c0 - 32]=U at *;generalize T [c0]=V at *;walk_at "py"
theorem vq{C:Fs}{m:List Int}(hm:m.length<=2)(x0:Dat):∀es:List Ed,(∀e∈es,Ud e)->oX (jK C 4 false (gP 4 [1] [some x0,some (tI m)]) [] GX) (es.map cH)=some ((es.map (JF m)).map cH,true)
 | [],_=>rfl
 | e::es,h=>by
   have hc:jK C 4 false (gP 4 [1] [some x0,some (tI m)]) [] GX (cH e)=some (some (cH (JF m e),true)):=by
    show(eP C GX [some (.str e.1),some (.str (T e.2.1)),some (tI e.2.2.1),some (.str e.2.2.2),some (tI m)]).map some=_;rw[EK hm (h e ja)];rfl
   rw[aq];unfold oX;rw[hc,vq hm x0 es fun e he=>h e (jt _ he)];rfl
theorem Ee{n:Nat}{m:List Int}(hm:m.length<=2){es:List Ed}(h:∀e∈es,Ud e)(hl:es.length<=1000):Cn D (n+1) 3 [.lst (es.map cH),tI m]=some (.lst ((es.map (JF m)).map cH),true):=by
 refine gC (C:=Cn D n) (np:=2) (nl:=2) (body:=b3) rfl ?_
 have hc:eP (Cn D n) (.comp 4 false [1] (.itv (.var 0)) [] GX) [some (.lst (es.map cH)),some (tI m)]=some (.lst ((es.map (JF m)).map cH),true):=
  kC (items:=es.map cH) rfl (by rw[aG];omega) (vq hm _ es h)
 show dC (jT _ (eP (Cn D n) (.comp 4 false [1] (.itv (.var 0)) [] GX) [some (.lst (es.map cH)),some (tI m)])) _=_;rw[hc];rfl
noncomputable def A6:List (Nat×bh×bh):=[(119,"out","done"),(119,"let","done"),(98,"out","all"),(98,"let","all"),(109,"all","all"),(101,"all","done")]
noncomputable abbrev bg(f:Fm)(w:Nat×bh×bh):Bool:=decide (w.1∈f.2.2) && (decide (w.1≠119) || decide (1<(f.1.length:Int)))
noncomputable def EO(m:List Int)(f:Fm)(w:Nat×bh×bh):List Ed:=if bg f w=true then [(w.2.1,uT f.1,(if(w.2.1 == jc)=true then []else m)++f.2.1,w.2.2)]else []
noncomputable abbrev H6(m:List Int)(f:Fm):List Ed:=A6.flatMap (EO m f)
noncomputable abbrev CN:Ex:=.and (.cmp .isin (.var 6) (.var 5)) (.or (.cmp .ne (.var 6) (.con (.str (aa "w")))) (.cmp .gt (.blt .len [.var 3]) (.con (.int 1))))
noncomputable def UC:List Sx:=[.ifs CN [.set 9 (.ite (.cmp .eq (.var 7) (.con (.str jc))) (.tup []) (.var 1)),.mut .app 2 [.tup [.var 7,.lW .upper (.var 3) [],.bin .add (.var 9) (.var 4),.var 8]]] []]
theorem Ji:(Dat.tup [(.tup [(.str (aa "w")),(.str (aa "out")),(.str (aa "done"))]),(.tup [(.str (aa "w")),(.str (aa "let")),(.str (aa "done"))]),(.tup [(.str (aa "b")),(.str (aa "out")),(.str (aa "all"))]),(.tup [(.str (aa "b")),(.str (aa "let")),(.str (aa "all"))]),(.tup [(.str (aa "m")),(.str (aa "all")),(.str (aa "all"))]),(.tup [(.str (aa "e")),(.str (aa "all")),(.str (aa "done"))])])=.tup (A6.map B3):=by
 have h1:aa "w"=T [119]:=by decide +kernel
 have h2:aa "b"=T [98]:=by decide +kernel
 have h3:aa "m"=T [109]:=by decide +kernel
 have h4:aa "e"=T [101]:=by decide +kernel
 rw[h1,h2,h3,h4];rfl
theorem Sv:((aT 16).all fun k=>A6.all fun w=>decide (dt .isin (.str (T [w.1])) (.str (T (AN k)))=some (decide (w.1∈AN k))) && decide (dt .ne (.str (T [w.1])) (.str (aa "w"))=some (decide (w.1≠119))))=true:=by decide +kernel
noncomputable abbrev e4(a0:Dat)(m:List Int)(f:Fm)(es:List Ed)(r:dk):dk:=some (a0,false)::some (tI m,false)::some (.lst (es.map cH),true)::some (.str (T f.1),false)::some (tI f.2.1,false)::some (.str (T f.2.2),false)::r
theorem Tg{C:Fs}{f:Fm}(ho:mV f){m:List Int}(hm:m.length<=2){w:Nat×bh×bh}(hw:w∈A6)(a0:Dat)(es:List Ed)(hl:es.length<800)(z9:Option (Dat×Bool)) :
  ∃y9,cY C UC (e4 a0 m f es [some (.str (T [w.1]),false),some (.str w.2.1,false),some (.str w.2.2,false),z9])=some (.nx (e4 a0 m f (es++EO m f w) [some (.str (T [w.1]),false),some (.str w.2.1,false),some (.str w.2.2,false),y9])):=by
 obtain⟨k,_,k2,hk⟩:=ho.pp;have hq:=bQ.mp (bQ.mp Sv k (br.mpr k2)) w hw;rw[aF]at hq;have c1:=of_decide_eq_true hq.1;have c2:=of_decide_eq_true hq.2;rw[<-hk]at c1;have hll:=ho.ll;have hcl:=ho.cl;have c3:gY .len [.str (T f.1)]=some (.int (f.1.length:Nat),false):=len_T (by omega);have c4:dt .gt (.int (f.1.length:Nat)) (.int 1)=some (decide (1<(f.1.length:Int))):=rfl
 have cc:eP C CN (full (e4 a0 m f es [some (.str (T [w.1]),false),some (.str w.2.1,false),some (.str w.2.2,false),z9]))=some (.bl (bg f w),false):=by
  unfold bg e4;generalize decide (w.1∈f.2.2)=p at *;generalize decide (w.1≠119)=q at *;generalize decide (1<(f.1.length:Int))=r at *;generalize ((f.1.length:Nat):Int)=L at *;generalize T [w.1]=tw at *;generalize T f.2.2=pl at *;generalize T f.1=lt at *;generalize tI f.2.1=C1 at *;generalize tI m=M0 at *;generalize es.map cH=ES at *;clear hll hcl hl hm hk hq ho;cases p<;>cases q<;>cases r<;>walk_at "py"
 unfold UC;rw[cG,rS,cc];show ∃y9,dC (if bg f w=true then cY C [_,_] _ else cY C [] _) _=_
 cases hb:bg f w with
 | false=>
   refine⟨z9,?_⟩;rw[if_neg bI];unfold EO;rw[if_neg (by rw[hb];exact bI),aL];rfl
 | true=>
   rw[if_pos rfl];refine⟨some (tI (if(w.2.1 == jc)=true then []else m),false),?_⟩;unfold EO;rw[if_pos hb];have hu:=Ga ho;have ce:dt .eq (.str w.2.1) (.str jc)=some (w.2.1 == jc):=rfl
   have ha:=qN (if(w.2.1 == jc)=true then []else m) f.2.1 (by
    split
    ·rw[kF];omega
    ·omega)
   have hp:=o8 (es:=es) (w.2.1,uT f.1,(if(w.2.1 == jc)=true then []else m)++f.2.1,w.2.2) (by omega);have i1:=kn w.2.1 (T (uT f.1)) w.2.2 ((if(w.2.1 == jc)=true then []else m)++f.2.1);have i2:=fN ((if(w.2.1 == jc)=true then []else m)++f.2.1);have i3:=fN m;have i4:im (.tup [])=true:=rfl;have hp:ip .app (.lst (es.map cH)) [.tup [.str w.2.1,.str (T (uT f.1)),tI ((if(w.2.1 == jc)=true then []else m)++f.2.1),.str w.2.2]]=some (.lst ((es++[(w.2.1,uT f.1,(if(w.2.1 == jc)=true then []else m)++f.2.1,w.2.2)]).map cH)):=hp;have e1:tI (if(w.2.1 == jc)=true then []else m)=if(w.2.1 == jc)=true then .tup []else tI m:=by split<;>rfl
   rw[e1]at ha;show dC (cY C [_,_] (e4 a0 m f es _)) _=some (Out.nx (e4 a0 m f _ [_,_,_,some (tI (if(w.2.1 == jc)=true then []else m),false)]));rw[e1];unfold e4;generalize (es++[(w.2.1,uT f.1,(if(w.2.1 == jc)=true then []else m)++f.2.1,w.2.2)]).map cH=E2 at *;generalize tI ((if(w.2.1 == jc)=true then []else m)++f.2.1)=C3 at *;generalize (w.2.1 == jc)=al at *;generalize T (uT f.1)=U at *;generalize T [w.1]=tw at *;generalize T f.2.2=pl at *;generalize T f.1=lt at *;generalize tI f.2.1=C1 at *;generalize tI m=M0 at *;generalize es.map cH=ES at *;clear cc c1 c2 c3 c4 hll hcl hl hm hk hq ho hb e1;cases al
   ·simp only[aJ,if_false]at ha ⊢;walk_at "py"
   ·simp only[if_true]at ha ⊢;walk_at "py"
theorem HI{C:Fs}{f:Fm}(ho:mV f){m:List Int}(hm:m.length<=2)(a0:Dat):∀(ws:List (Nat×bh×bh)) (es:List Ed) (z6 z7 z8 z9:Option (Dat×Bool)),(∀w∈ws,w∈A6)->es.length+ws.length<800->
  ∃y6 y7 y8 y9:Option (Dat×Bool),eJ (eU false [6,7,8]) (cY C UC) (ws.map B3) (e4 a0 m f es [z6,z7,z8,z9])=some (.nx (e4 a0 m f (es++ws.flatMap (EO m f)) [y6,y7,y8,y9]))
 | [],es,z6,z7,z8,z9,_,_=>⟨z6,z7,z8,z9,by simp only[cF,dc,aL,eJ]⟩
 | w::ws,es,z6,z7,z8,z9,h,hl=>by
   obtain⟨x9,hb⟩:=Tg (C:=C) ho hm (h w ja) a0 es (by omega) z9
   have h1:(EO m f w).length<=1:=by
    unfold EO;split
    ·exact aK 1
    ·exact dJ 1
   obtain⟨y6,y7,y8,y9,hr⟩:=HI (C:=C) ho hm a0 ws (es++EO m f w) (some (.str (T [w.1]),false)) (some (.str w.2.1,false)) (some (.str w.2.2,false)) x9 (fun v hv=>h v (jt _ hv)) (by rw[ak];rw[bo]at hl;omega);refine⟨y6,y7,y8,y9,?_⟩;have hbd:eU false [6,7,8] (B3 w) (e4 a0 m f es [z6,z7,z8,z9])=some (e4 a0 m f es [some (.str (T [w.1]),false),some (.str w.2.1,false),some (.str w.2.2,false),z9]):=rfl;rw[aq];simp only[eJ,hbd,ah,hb];rw[ck,<-aC];exact hr
noncomputable def Rg:List Sx:=[.loop false [6,7,8] (.itv (.con (.tup (A6.map B3)))) UC]
theorem To:b4=[.set 2 (.lst []),.loop false [3,4,5] (.itv (.var 0)) Rg,.nY 2]:=by
 unfold Rg;rw[<-Ji];rfl
theorem Tt:im (.tup (A6.map B3))=true:=by decide +kernel
theorem O3{C:Fs}{f:Fm}(ho:mV f){m:List Int}(hm:m.length<=2)(a0:Dat)(es:List Ed)(hl:es.length<700)(z6 z7 z8 z9:Option (Dat×Bool)) :
  ∃y6 y7 y8 y9:Option (Dat×Bool),cY C Rg (e4 a0 m f es [z6,z7,z8,z9])=some (.nx (e4 a0 m f (es++H6 m f) [y6,y7,y8,y9])):=by
 obtain⟨y6,y7,y8,y9,h⟩:=HI (C:=C) ho hm a0 A6 es z6 z7 z8 z9 (fun w hw=>hw) (by show _+6<_;omega);refine⟨y6,y7,y8,y9,?_⟩;unfold Rg;rw[cG,iE,m7,ah];have hi:gw (.tup (A6.map B3))=some (A6.map B3):=rfl;simp only[hi,ah,Tt,nM,if_true];rw[h];rfl
theorem Bq(m:List Int)(f:Fm):(H6 m f).length<=6:=by
 show(A6.flatMap (EO m f)).length<=6;rw[pC]
 have h:∀w,(EO m f w).length<=1:=fun w=>by
  unfold EO;split
  ·exact aK 1
  ·exact dJ 1
 have h1:=h (119,"out","done");have h2:=h (119,"let","done");have h3:=h (98,"out","all");have h4:=h (98,"let","all");have h5:=h (109,"all","all");have h6:=h (101,"all","done");simp only[A6,aq,cF,pL,List.sum_nil];omega
theorem Nr{C:Fs}{m:List Int}(hm:m.length<=2)(a0:Dat):∀(gs:List Fm) (es:List Ed) (z3 z4 z5 z6 z7 z8 z9:Option (Dat×Bool)),(∀f∈gs,mV f)->es.length+6 * gs.length<700->
  ∃y3 y4 y5 y6 y7 y8 y9:Option (Dat×Bool),eJ (eU false [3,4,5]) (cY C Rg) (gs.map dG) [some (a0,false),some (tI m,false),some (.lst (es.map cH),true),z3,z4,z5,z6,z7,z8,z9]=some (.nx [some (a0,false),some (tI m,false),some (.lst ((es++gs.flatMap (H6 m)).map cH),true),y3,y4,y5,y6,y7,y8,y9])
 | [],es,z3,z4,z5,z6,z7,z8,z9,_,_=>⟨z3,z4,z5,z6,z7,z8,z9,by simp only[cF,dc,aL,eJ]⟩
 | g::gs,es,z3,z4,z5,z6,z7,z8,z9,h,hl=>by
   rw[bo]at hl;obtain⟨x6,x7,x8,x9,hb⟩:=O3 (C:=C) (h g ja) hm a0 es (by omega) z6 z7 z8 z9;have h6:=Bq m g;obtain⟨y3,y4,y5,y6,y7,y8,y9,hr⟩:=Nr (C:=C) hm a0 gs (es++H6 m g) (some (.str (T g.1),false)) (some (tI g.2.1,false)) (some (.str (T g.2.2),false)) x6 x7 x8 x9 (fun f hf=>h f (jt _ hf)) (by rw[ak];omega);refine⟨y3,y4,y5,y6,y7,y8,y9,?_⟩;have hbd:eU false [3,4,5] (dG g) [some (a0,false),some (tI m,false),some (.lst (es.map cH),true),z3,z4,z5,z6,z7,z8,z9]=some (e4 a0 m g es [z6,z7,z8,z9]):=rfl;rw[aq];simp only[eJ,hbd,ah,hb];rw[ck,<-aC];exact hr
theorem wa{n:Nat}{m:List Int}(hm:m.length<=2){fs:List Fm}(ho:∀f∈fs,mV f)(hl:fs.length<=10):Cn D (n+1) 4 [.tup (fs.map dG),tI m]=some (.lst ((fs.flatMap (H6 m)).map cH),true):=by
 refine gC (C:=Cn D n) (np:=2) (nl:=10) (body:=b4) rfl ?_;obtain⟨y3,y4,y5,y6,y7,y8,y9,h⟩:=Nr (C:=Cn D n) hm (.tup (fs.map dG)) fs [] none none none none none none none ho (by show 0+_<_;omega);rw[To];show cY (Cn D n) _ [some (.tup (fs.map dG),false),some (tI m,false),none,none,none,none,none,none,none,none]=_
 have l1:ko (Cn D n) (.loop false [3,4,5] (.itv (.var 0)) Rg) [some (.tup (fs.map dG),false),some (tI m,false),some (.lst [],true),none,none,none,none,none,none,none]=some (.nx [some (.tup (fs.map dG),false),some (tI m,false),some (.lst ((fs.flatMap (H6 m)).map cH),true),y3,y4,y5,y6,y7,y8,y9]):=by
  rw[iE,jv];have hi:gw (.tup (fs.map dG))=some (fs.map dG):=rfl;have hm:im (.tup (fs.map dG))=true:=oZ fs;simp only[full,aq,cF,bT,cZ,bE,ah,hi,hm,nM,if_true];exact h
 rw[cG,show ko (Cn D n) (.set 2 (.lst [])) [some (.tup (fs.map dG),false),some (tI m,false),none,none,none,none,none,none,none,none]=some (.nx [some (.tup (fs.map dG),false),some (tI m,false),some (.lst [],true),none,none,none,none,none,none,none])from by rw[rR,Bu,wJ];rfl];rw[ah,di,cG,l1,ah,di,cG,qi];rfl
noncomputable abbrev pF(t:Tb)(p:Nat×Int):List Ed:=[(kN,[p.1],t.m2++[p.2],fA),(iw,[p.1],t.m2++[p.2],fA),(fA,[p.1],[p.2],fA)]
noncomputable abbrev EW(t:Tb):List (Nat×Int):=iD.zip t.fg
noncomputable def Ia:List Sx:=[.mut .app 2 [.tup [.con (.str kN),.var 3,.bin .add (.ix (.var 0) (.con (.int 2))) (.tup [.var 4]),.con (.str fA)]],.mut .app 2 [.tup [.con (.str iw),.var 3,.bin .add (.ix (.var 0) (.con (.int 2))) (.tup [.var 4]),.con (.str fA)]],.mut .app 2 [.tup [.con (.str fA),.var 3,.tup [.var 4],.con (.str fA)]]]
theorem Tr:b1=[.ifs (.cmp .eq (.var 1) (.tup [])) [.ret (.lst [])] [],.set 2 (.lst [.tup [.con (.str fA),.con (.str (aa "")),.ix (.var 0) (.con (.int 3)),.con (.str rW)]]),.loop false [3,4] (.zip [.con (.str Q6),.var 1]) Ia,.nY 2]:=rfl
noncomputable abbrev e1(t:Tb)(es:List Ed)(z3 z4:Option (Dat×Bool)):dk:=[some (nE t,false),some (tI t.fg,false),some (.lst (es.map cH),true),z3,z4]
theorem Tn{C:Fs}{t:Tb}(h2:t.m2.length<=2)(p:Nat×Int)(es:List Ed)(hl:es.length<800) :
  cY C Ia (e1 t es (some (.str (T [p.1]),false)) (some (.int p.2,false)))=some (.nx (e1 t (es++pF t p) (some (.str (T [p.1]),false)) (some (.int p.2,false)))):=by
 have a2:gm .add (tI t.m2) (.tup [.int p.2])=some (tI (t.m2++[p.2]),false):=qN t.m2 [p.2] (by show _+1<=_;omega);have a3:ip .app (.lst (es.map cH)) [.tup [.str kN,.str (T [p.1]),tI (t.m2++[p.2]),.str fA]]=some (.lst ((es++[(kN,[p.1],t.m2++[p.2],fA)]).map cH)):=o8 (kN,[p.1],t.m2++[p.2],fA) (by omega);have a4:ip .app (.lst ((es++[(kN,[p.1],t.m2++[p.2],fA)]).map cH)) [.tup [.str iw,.str (T [p.1]),tI (t.m2++[p.2]),.str fA]]=some (.lst ((es++[(kN,[p.1],t.m2++[p.2],fA)]++[(iw,[p.1],t.m2++[p.2],fA)]).map cH)):=o8 (iw,[p.1],t.m2++[p.2],fA) (by rw[ak];show _+1<_;omega);have a5:ip .app (.lst ((es++[(kN,[p.1],t.m2++[p.2],fA)]++[(iw,[p.1],t.m2++[p.2],fA)]).map cH)) [.tup [.str fA,.str (T [p.1]),.tup [.int p.2],.str fA]]=some (.lst ((es++[(kN,[p.1],t.m2++[p.2],fA)]++[(iw,[p.1],t.m2++[p.2],fA)]++[(fA,[p.1],[p.2],fA)]).map cH)):=o8 (fA,[p.1],[p.2],fA) (by rw[ak,ak];show _+1+1<_;omega);have e:es++pF t p=es++[(kN,[p.1],t.m2++[p.2],fA)]++[(iw,[p.1],t.m2++[p.2],fA)]++[(fA,[p.1],[p.2],fA)]:=by simp
 have a6:lN [tI t.m0,tI t.m1,tI t.m2,tI t.m3] 2=some (tI t.m2):=rfl;have a7:=kn kN (T [p.1]) fA (t.m2++[p.2]);have a9:=kn iw (T [p.1]) fA (t.m2++[p.2]);have a10:im (.tup [.str fA,.str (T [p.1]),.tup [.int p.2],.str fA])=true:=rfl;have a8:=fN (t.m2++[p.2]);rw[e];clear e h2 hl;unfold e1 nE at *;generalize (es++[(kN,[p.1],t.m2++[p.2],fA)]++[(iw,[p.1],t.m2++[p.2],fA)]++[(fA,[p.1],[p.2],fA)]).map cH=E4 at *;generalize (es++[(kN,[p.1],t.m2++[p.2],fA)]++[(iw,[p.1],t.m2++[p.2],fA)]).map cH=E3 at *;generalize (es++[(kN,[p.1],t.m2++[p.2],fA)]).map cH=E2 at *;generalize tI (t.m2++[p.2])=C2 at *;generalize es.map cH=ES at *;generalize tI t.m0=M0 at *;generalize tI t.m1=M1 at *;generalize tI t.m2=M2 at *;generalize tI t.m3=M3 at *;generalize tI t.fg=F0 at *;generalize T [p.1]=X at *;unfold Ia;walk_at "py"
noncomputable abbrev Wv(p:Nat×Int):Dat:=.tup [.str (T [p.1]),.int p.2]
theorem Nu{C:Fs}{t:Tb}(h2:t.m2.length<=2):∀(ps:List (Nat×Int)) (es:List Ed) (z3 z4:Option (Dat×Bool)),es.length+3 * ps.length<800->
  ∃y3 y4,eJ (eU false [3,4]) (cY C Ia) (ps.map Wv) (e1 t es z3 z4)=some (.nx (e1 t (es++ps.flatMap (pF t)) y3 y4))
 | [],es,z3,z4,_=>⟨z3,z4,by rw[dc,aL];rfl⟩
 | p::ps,es,z3,z4,hl=>by
   rw[bo]at hl;have hb:=Tn (C:=C) h2 p es (by omega);obtain⟨y3,y4,hr⟩:=Nu (C:=C) h2 ps (es++pF t p) (some (.str (T [p.1]),false)) (some (.int p.2,false)) (by rw[ak];show _+3+_<_;omega);refine⟨y3,y4,?_⟩;show(cY C Ia (e1 t es (some (.str (T [p.1]),false)) (some (.int p.2,false)))).bind _=_;rw[hb,ck,<-aC];exact hr
theorem B2:∀(l:List Nat) (g:List Int),jf ((l.map fun c=>T [c]).map Dat.str) (g.map Dat.int)=(l.zip g).map Wv
 | [],_=>by simp[jf]
 | _::_,[]=>by simp[jf]
 | c::l,x::g=>by
   have:=B2 l g;simp only[aq,jf,ji,this]
noncomputable abbrev rF(t:Tb):List Ed:=if t.fg.isEmpty=true then []else(fA,[],t.m3,rW)::(EW t).flatMap (pF t)
theorem KN{n:Nat}{t:Tb}(h2:t.m2.length<=2):Cn D (n+1) 1 [nE t,tI t.fg]=some (.lst ((rF t).map cH),true):=by
 refine gC (C:=Cn D n) (np:=2) (nl:=5) (body:=b1) rfl ?_;rw[Tr];show cY (Cn D n) _ [some (nE t,false),some (tI t.fg,false),none,none,none]=_
 have hc:eP (Cn D n) (.cmp .eq (.var 1) (.tup [])) (full [some (nE t,false),some (tI t.fg,false),none,none,none])=some (.bl t.fg.isEmpty,false):=by
  show(dt .eq (tI t.fg) (.tup [])).map _=_;rw[eq_nil];rfl
 rw[cG,rS,hc];show dC (if t.fg.isEmpty=true then cY (Cn D n) [_] _ else cY (Cn D n) [] _) _=_;unfold rF
 cases hb:t.fg.isEmpty with
 | true=>
   rw[if_pos rfl,if_pos rfl];rfl
 | false=>
   rw[if_neg bI,if_neg bI]
   have hl:(EW t).length<=10:=by
    show(iD.zip t.fg).length<=10;rw[g9];exact M8 _ _
   obtain⟨y3,y4,h⟩:=Nu (C:=Cn D n) h2 (EW t) [(fA,[],t.m3,rW)] none none (by show 1+_<_;omega)
   have l0:ko (Cn D n) (.set 2 (.lst [.tup [.con (.str fA),.con (.str (aa "")),.ix (.var 0) (.con (.int 3)),.con (.str rW)]])) [some (nE t,false),some (tI t.fg,false),none,none,none]=some (.nx (e1 t [(fA,[],t.m3,rW)] none none)):=by
    rw[Ww];have a7:=kn fA (T []) rW t.m3;have a8:=fN t.m3;have a6:lN [tI t.m0,tI t.m1,tI t.m2,tI t.m3] 3=some (tI t.m3):=rfl;show _=some (Out.nx [some (nE t,false),some (tI t.fg,false),some (.lst [.tup [.str fA,.str (T []),tI t.m3,.str rW]],true),none,none]);clear h hl hb hc h2;unfold nE at *;generalize tI t.m0=M0 at *;generalize tI t.m1=M1 at *;generalize tI t.m2=M2 at *;generalize tI t.m3=M3 at *;generalize tI t.fg=F0 at *;generalize T []=X at *;walk_at "py"
   have l1:ko (Cn D n) (.loop false [3,4] (.zip [.con (.str Q6),.var 1]) Ia) (e1 t [(fA,[],t.m3,rW)] none none)=some (.nx (e1 t ((fA,[],t.m3,rW)::(EW t).flatMap (pF t)) y3 y4)):=by
    show dC (jT (fun ds=>(ds,e1 t [(fA,[],t.m3,rW)] none none)) (some (jf ((kU Q6).map Dat.str) (t.fg.map Dat.int)))) (fun x:List Dat×dk=>eJ (eU false [3,4]) (cY (Cn D n) Ia) x.1 x.2)=_;rw[TX,Ku,B2];exact h
   show dC (some (Out.nx [some (nE t,false),some (tI t.fg,false),none,none,none])) _=_;rw[ah,di,cG,l0,ah,di,cG,l1,ah,di,cG,qi];rfl
noncomputable abbrev p6(e:Ed):Bool:=!(e.1 == rW)
theorem SR{C:Fs}:∀es:List Ed,oX (jK C 1 true (gP 1 [] ([]:gD)) [.cmp .ne (.ix (.var 0) (.con (.int 0))) (.con (.str rW))] (.var 0)) (es.map cH)=some ((es.filter p6).map cH,true)
 | []=>rfl
 | e::es=>by
   have ih:=SR (C:=C) es
   have hc:jK C 1 true (gP 1 [] ([]:gD)) [.cmp .ne (.ix (.var 0) (.con (.int 0))) (.con (.str rW))] (.var 0) (cH e)=if p6 e=true then some (some (cH e,false))else some none:=by
    rw[IM (x:=.bl (p6 e)) (f:=false) (t:=p6 e) (by
     simp only[gP,jj,cF,aL,du,IB,Di,jv,m7,bT,cZ,bE,ah]
     rfl) rfl]
    rfl
   have hi:im (cH e)=true:=by
    have h:kd (e.2.2.1.map Dat.int)=true:=ee _;simp[im,kd,h]
   rw[aq];unfold oX;rw[hc,ih]
   cases q:p6 e with
   | true=>simp[q,hi]
   | false=>simp[q]
theorem wV(A B:List Ed)(h:A.length+B.length<=1000):gm .add (.lst (A.map cH)) (.lst (B.map cH))=some (.lst ((A++B).map cH),true):=by
 show(if _ then some (Dat.lst (A.map cH++B.map cH),kd (A.map cH++B.map cH))else none)=_;rw[<-dY,qI,if_pos (by rw[aG,aG,cj];omega)]
noncomputable abbrev s0(t:Tb):List Ed:=t.fs.flatMap E6
noncomputable abbrev s1(t:Tb):List Ed:=if t.m0.isEmpty=true then s0 t else s0 t++(s0 t).map (JF t.m0)
noncomputable abbrev s2(t:Tb):List Ed:=if t.m1.isEmpty=true then s1 t else s1 t++t.fs.flatMap (H6 t.m1)
noncomputable abbrev s3(t:Tb):List Ed:=if t.fg.isEmpty=true then(s2 t).filter p6 else s2 t
noncomputable abbrev got(t:Tb):List Ed:=s3 t++pD++rF t
theorem ite_le{b:Bool}{α:Type}{x y:List α}{n:Nat}(h1:x.length<=n)(h2:y.length<=n):(if b=true then x else y).length<=n:=by
 split
 ·exact h1
 ·exact h2
theorem GN{t:Tb}(hl:t.fs.length<=10):(s0 t).length<=60:=by
 have:=oN (g:=E6) (m:=6) (l:=t.fs) fun f _=>IF f;show(t.fs.flatMap E6).length<=60;omega
theorem GL{t:Tb}(hl:t.fs.length<=10):(s1 t).length<=120:=by
 have h:=GN hl;refine ite_le (by omega) ?_;rw[ak,aG];omega
theorem GK{t:Tb}(hl:t.fs.length<=10):(s2 t).length<=180:=by
 have h:=GL hl;have h':=oN (g:=H6 t.m1) (m:=6) (l:=t.fs) fun f _=>Bq t.m1 f;refine ite_le (by omega) ?_;rw[ak];omega
theorem OJ{t:Tb}(hl:t.fs.length<=10):(s3 t).length<=180:=by
 have h:=GK hl;exact ite_le (cP (oh _ _) h) h
theorem OL(t:Tb):(rF t).length<=31:=by
 have h:(EW t).length<=10:=by
  show(iD.zip t.fg).length<=10;rw[g9];exact M8 _ _
 have h':=oN (g:=pF t) (m:=3) (l:=EW t) fun _ _=>aK 3;refine ite_le (dJ _) ?_;rw[bo];omega
theorem Vn{f:Fm}(ho:mV f):∀e∈E6 f,Ud e:=fun e he=>by
 obtain⟨w,_,h⟩:=aV.mp he;unfold Dg at h;split at h
 ·obtain rfl:=au.mp h;exact⟨⟨f,ho,rfl⟩,cP ho.cl (by decide)⟩
 ·exact absurd h ba
noncomputable abbrev e5(t:Tb)(es:List Ed):dk:=[some (tb t,false),some (.tup (t.fs.map dG),false),some (nE t,false),some (.lst (es.map cH),true)]
theorem eZ{n:Nat}{t:Tb}(ht:CI t):ko (Cn D (n+1)) (.ifs (.cmp .ne (.ix (.var 2) (.con (.int 0))) (.tup [])) [.set 3 (.bin .add (.var 3) (.call 3 [.var 3,.ix (.var 2) (.con (.int 0))]))] []) (e5 t (s0 t))=some (.nx (e5 t (s1 t))):=by
 have hl:=GN ht.hl;have r:=Ee (n:=n) ht.h0 (es:=s0 t) (fun e he=>by obtain⟨f,hf,h⟩:=aV.mp he;exact Vn (ht.ho f hf) e h) (by omega);have a:=wV (s0 t) ((s0 t).map (JF t.m0)) (by rw[aG];omega);have hn:=ne_nil t.m0;have a2:lN [tI t.m0,tI t.m1,tI t.m2,tI t.m3] 0=some (tI t.m0):=rfl
 have e1:(s1 t).map cH=if t.m0.isEmpty=true then(s0 t).map cH else(s0 t++(s0 t).map (JF t.m0)).map cH:=by
  unfold s1;split<;>rfl
 unfold e5;rw[e1];clear e1 hl;generalize t.m0.isEmpty=b at hn ⊢;generalize (s0 t++(s0 t).map (JF t.m0)).map cH=E2 at *;generalize ((s0 t).map (JF t.m0)).map cH=E3 at *;generalize (s0 t).map cH=E1 at *;unfold tb nE at *;generalize tI t.m0=M0 at *;generalize tI t.m1=M1 at *;generalize tI t.m2=M2 at *;generalize tI t.m3=M3 at *;generalize tI t.fg=F0 at *;generalize Dat.tup (t.fs.map dG)=FS at *;clear ht;cases b
 ·walk_at "py"
 ·walk_at "py"
theorem iB{n:Nat}{t:Tb}(ht:CI t):ko (Cn D (n+1)) (.ifs (.cmp .ne (.ix (.var 2) (.con (.int 1))) (.tup [])) [.set 3 (.bin .add (.var 3) (.call 4 [.var 1,.ix (.var 2) (.con (.int 1))]))] []) (e5 t (s1 t))=some (.nx (e5 t (s2 t))):=by
 have hl:=GL ht.hl;have h':=oN (g:=H6 t.m1) (m:=6) (l:=t.fs) fun f _=>Bq t.m1 f;have hfl:=ht.hl;have r:=wa (n:=n) ht.h1 ht.ho ht.hl;have a:=wV (s1 t) (t.fs.flatMap (H6 t.m1)) (by omega);have hn:=ne_nil t.m1;have a2:lN [tI t.m0,tI t.m1,tI t.m2,tI t.m3] 1=some (tI t.m1):=rfl
 have e1:(s2 t).map cH=if t.m1.isEmpty=true then(s1 t).map cH else(s1 t++t.fs.flatMap (H6 t.m1)).map cH:=by
  unfold s2;cases t.m1.isEmpty<;>rfl
 unfold e5;rw[e1];clear e1 hl h' hfl;generalize t.m1.isEmpty=b at hn ⊢;generalize (s1 t++t.fs.flatMap (H6 t.m1)).map cH=E2 at *;generalize (t.fs.flatMap (H6 t.m1)).map cH=E3 at *;generalize (s1 t).map cH=E1 at *;unfold tb nE at *;generalize tI t.m0=M0 at *;generalize tI t.m1=M1 at *;generalize tI t.m2=M2 at *;generalize tI t.m3=M3 at *;generalize tI t.fg=F0 at *;generalize Dat.tup (t.fs.map dG)=FS at *;clear ht;cases b
 ·walk_at "py"
 ·walk_at "py"
noncomputable abbrev CF:Ex:=.comp 1 true [] (.itv (.var 3)) [.cmp .ne (.ix (.var 0) (.con (.int 0))) (.con (.str rW))] (.var 0)
theorem qu{n:Nat}{t:Tb}(ht:CI t):ko (Cn D (n+1)) (.ifs (.cmp .eq (.ix (.var 0) (.con (.int 2))) (.tup [])) [.set 3 CF] []) (e5 t (s2 t))=some (.nx (e5 t (s3 t))):=by
 have hl:=GK ht.hl
 have hc:eP (Cn D (n+1)) CF [some (tb t),some (.tup (t.fs.map dG)),some (nE t),some (.lst ((s2 t).map cH))]=some (.lst (((s2 t).filter p6).map cH),true):=
  kC (items:=(s2 t).map cH) rfl (by rw[aG];omega) (SR (C:=Cn D (n+1)) _)
 have hq:eP (Cn D (n+1)) (.cmp .eq (.ix (.var 0) (.con (.int 2))) (.tup [])) (full (e5 t (s2 t)))=some (.bl t.fg.isEmpty,false):=by
  show(dt .eq (tI t.fg) (.tup [])).map _=_;rw[eq_nil];rfl
 have e1:e5 t (s3 t)=if t.fg.isEmpty=true then e5 t ((s2 t).filter p6)else e5 t (s2 t):=by
  unfold s3;cases t.fg.isEmpty<;>rfl
 rw[rS,hq,e1];show(if t.fg.isEmpty=true then cY _ [_] _ else cY _ [] _)=_
 cases t.fg.isEmpty with
 | true=>
   rw[if_pos rfl,if_pos rfl,cG,rR];show dC (dC (eP (Cn D (n+1)) CF [some (tb t),some (.tup (t.fs.map dG)),some (nE t),some (.lst ((s2 t).map cH))]) _) _=_;rw[hc];unfold e5;generalize ((s2 t).filter p6).map cH=E2 at *;generalize (s2 t).map cH=E1 at *;rfl
 | false=>rfl
theorem Eh{n:Nat}{t:Tb}(ht:CI t):Cn D (n+2) 5 [tb t]=some (.lst (mR (got t)),true):=by
 refine gC (C:=Cn D (n+1)) (np:=1) (nl:=4) (body:=b5) rfl ?_;have l1:=eZ (n:=n) ht;have l2:=iB (n:=n) ht;have l3:=qu (n:=n) ht;have r0:=Eb (n:=n) ht.ho ht.hl;have rb:=Ei (n:=n);have rf:=KN (n:=n) ht.h2;have n3:=OJ ht.hl;have nf:=OL t;have a1:=wV (s3 t) pD (by show _+3<=_;omega);have a2:=wV (s3 t++pD) (rF t) (by rw[ak];show _+3+_<=_;omega)
 have hs:gY .sset [.lst ((got t).map cH)]=some (.lst (mR (got t)),true):=
  Cb (a:=("out",[32],[0],"out")) (b:=("done",[32],[0],"out")) (by rw[ak,ak];show _+3+_<=_;omega) (aY _ (aA _ (.head _))) (aY _ (aA _ (.tail _ (.head _)))) NQ
 show cY (Cn D (n+1)) (_::_::_::.ifs (.cmp .ne (.ix (.var 2) (.con (.int 0))) (.tup [])) [.set 3 (.bin .add (.var 3) (.call 3 [.var 3,.ix (.var 2) (.con (.int 0))]))] []::.ifs (.cmp .ne (.ix (.var 2) (.con (.int 1))) (.tup [])) [.set 3 (.bin .add (.var 3) (.call 4 [.var 1,.ix (.var 2) (.con (.int 1))]))] []::.ifs (.cmp .eq (.ix (.var 0) (.con (.int 2))) (.tup [])) [.set 3 CF] []::[.ret (.blt .sset [.bin .add (.bin .add (.var 3) (.call 0 [])) (.call 1 [.var 2,.ix (.var 0) (.con (.int 2))])])]) [some (tb t,false),none,none,none]=_
 have g0:ko (Cn D (n+1)) (.set 1 (.ix (.var 0) (.con (.int 0)))) [some (tb t,false),none,none,none]=some (.nx [some (tb t,false),some (.tup (t.fs.map dG),false),none,none]):=by
  have a0:=Xa t;have i:=oZ t.fs;have i:im (.tup (t.fs.map dG))=true:=i;unfold tb at *;generalize nE t=Mk0 at *;generalize tI t.fg=F0 at *;generalize Dat.tup (t.fs.map dG)=FS at *;clear l1 l2 l3 r0 rb rf n3 nf a1 a2 hs ht;walk_at "py"
 have g1:ko (Cn D (n+1)) (.set 2 (.ix (.var 0) (.con (.int 1)))) [some (tb t,false),some (.tup (t.fs.map dG),false),none,none]=some (.nx [some (tb t,false),some (.tup (t.fs.map dG),false),some (nE t,false),none]):=by
  have a0:=Rk t
  have i:im (nE t)=true:=by
   simp only[im,kd,eV,aF];exact⟨fN _,fN _,fN _,fN _⟩
  unfold tb at *;generalize nE t=Mk0 at *;generalize tI t.fg=F0 at *;generalize Dat.tup (t.fs.map dG)=FS at *;clear l1 l2 l3 r0 rb rf n3 nf a1 a2 hs ht g0;walk_at "py"
 have g2:ko (Cn D (n+1)) (.set 3 (.call 2 [.var 1])) [some (tb t,false),some (.tup (t.fs.map dG),false),some (nE t,false),none]=some (.nx (e5 t (s0 t))):=by
  unfold e5;generalize (s0 t).map cH=E0 at *;unfold tb at *;generalize nE t=Mk0 at *;generalize tI t.fg=F0 at *;generalize Dat.tup (t.fs.map dG)=FS at *;clear l1 l2 l3 rb rf n3 nf a1 a2 hs ht g0 g1;walk_at "py"
 rw[cG,show ko (Cn D (n+1)) _ [some (tb t,false),none,none,none]=_ from g0,ah,di,cG,show ko (Cn D (n+1)) _ [some (tb t,false),some (.tup (t.fs.map dG),false),none,none]=_ from g1,ah,di,cG,show ko (Cn D (n+1)) _ [some (tb t,false),some (.tup (t.fs.map dG),false),some (nE t,false),none]=_ from g2,ah,di,cG,l1,ah,di,cG,l2,ah,di,cG,l3,ah,di];have a5:=at2 t;unfold e5;clear l1 l2 l3 g0 g1 g2 r0 n3 nf;unfold got at *;generalize mR (s3 t++pD++rF t)=R at *;generalize (s3 t++pD++rF t).map cH=E3 at *;generalize (s3 t++pD).map cH=E2 at *;generalize (s3 t).map cH=E1 at *;generalize pD.map cH=B at *;generalize (rF t).map cH=F at *;unfold tb at *;generalize nE t=Mk0 at *;generalize tI t.fg=F0 at *;generalize Dat.tup (t.fs.map dG)=FS at *;clear ht;walk_at "py"
noncomputable abbrev FC(z:Bool)(s:bh):Bool:=z || !(s == rW)
noncomputable abbrev Wz(z:Bool):List (Nat×bh×bh):=W6.filter fun w=>FC z w.2.1
noncomputable abbrev Az(z:Bool):List (Nat×bh×bh):=A6.filter fun w=>FC z w.2.1
theorem Rt:∀z:Bool,(W4.flatMap fun w=>(wy z w.2.1).map fun s=>(w.1,s,w.2.2))=Wz z
 | true=>by decide +kernel
 | false=>by decide +kernel
noncomputable def aw(z:Bool)(c:Nat):List (Nat×bh×bh):=if c=119 then(wy z kN).map fun s=>(c,s,iw)else if c=98 then(wy z kN).map fun s=>(c,s,jc)else if c=109 then [(c,jc,jc)]else [(c,jc,iw)]
theorem R7:∀z:Bool,uI.flatMap (aw z)=Az z
 | true=>by decide +kernel
 | false=>by decide +kernel
theorem kK{f:Fm}{e:Ed}:e∈E6 f↔∃w∈W6,w.1∈f.2.2/\e=(w.2.1,f.1,f.2.1,w.2.2):=by
 constructor
 ·intro h;obtain⟨w,hw,h⟩:=aV.mp h;unfold Dg at h;split at h
  ·rename_i hm;exact⟨w,hw,hm,au.mp h⟩
  ·exact absurd h ba
 ·rintro⟨w,hw,hm,rfl⟩;refine aV.mpr ⟨w,hw,?_⟩;unfold Dg;rw[if_pos hm];exact .head _
theorem HD{m:List Int}{f:Fm}{e:Ed}:e∈H6 m f↔∃w∈A6,bg f w=true/\e=(w.2.1,uT f.1,(if(w.2.1 == jc)=true then []else m)++f.2.1,w.2.2):=by
 constructor
 ·intro h;obtain⟨w,hw,h⟩:=aV.mp h;unfold EO at h;split at h
  ·rename_i hm;exact⟨w,hw,hm,au.mp h⟩
  ·exact absurd h ba
 ·rintro⟨w,hw,hm,rfl⟩;refine aV.mpr ⟨w,hw,?_⟩;unfold EO;rw[if_pos hm];exact .head _
theorem Bg{t:Tb}{f:Fm}(ho:mV f){e:Ed}:e∈fE t f↔∃w∈Wz (zz t),w.1∈f.2.2/\e∈sE t f (gT f.1) w.2.2 w.2.1:=by
 rw[<-Rt];constructor
 ·intro h;obtain⟨c,hc,h⟩:=aV.mp h;obtain⟨w,hw,h⟩:=aV.mp h;obtain⟨hw,he⟩:=dX.mp hw;obtain⟨s,hs,h⟩:=aV.mp h;have he:w.1=c:=beq_iff_eq.mp he;exact⟨(w.1,s,w.2.2),aV.mpr ⟨w,hw,aX.mpr ⟨s,hs,rfl⟩⟩,he▸hc,h⟩
 ·rintro⟨v,hv,hc,h⟩;obtain⟨w,hw,hv⟩:=aV.mp hv;obtain⟨s,hs,rfl⟩:=aX.mp hv;exact aV.mpr ⟨w.1,hc,aV.mpr ⟨w,dX.mpr ⟨hw,beq_self_eq_true _⟩,aV.mpr ⟨s,hs,h⟩⟩⟩
theorem vX{z:Bool}{s:bh}(h:s∈wy z kN):(s == jc)=false:=by
 have:∀z:Bool,(wy z kN).all (fun s=>!(s == jc))=true:=fun z=>by cases z<;>decide +kernel
 simpa using bQ.mp (this z) s h
theorem HC{t:Tb}{f:Fm}{e:Ed}{c:Nat}(hc:c∈uI):e∈aE t f c↔∃w∈aw (zz t) c,(w.1≠119\/1<f.1.length)/\e=(w.2.1,uT f.1,(if(w.2.1 == jc)=true then []else t.m1)++f.2.1,w.2.2):=by
 have hall:(jc == jc)=true:=by decide +kernel
 unfold aE aw;by_cases h1:c=119
 ·rw[if_pos h1,if_pos h1];constructor
  ·intro h;split at h
   ·rename_i hd;obtain⟨s,hs,rfl⟩:=aX.mp h;refine⟨(c,s,iw),aX.mpr ⟨s,hs,rfl⟩,.inr ?_,?_⟩
    ·have:=of_decide_eq_true hd;omega
    ·rw[vX hs];rfl
   ·exact absurd h ba
  ·rintro⟨w,hw,hd,rfl⟩;obtain⟨s,hs,rfl⟩:=aX.mp hw;have hd:1<f.1.length:=hd.resolve_left fun h=>h h1;rw[if_pos (decide_eq_true (by omega))];refine aX.mpr ⟨s,hs,?_⟩;rw[vX hs];rfl
 ·rw[if_neg h1,if_neg h1];by_cases h2:c=98
  ·rw[if_pos h2,if_pos h2];constructor
   ·intro h;obtain⟨s,hs,rfl⟩:=aX.mp h;refine⟨(c,s,jc),aX.mpr ⟨s,hs,rfl⟩,.inl h1,?_⟩;rw[vX hs];rfl
   ·rintro⟨w,hw,_,rfl⟩;obtain⟨s,hs,rfl⟩:=aX.mp hw;refine aX.mpr ⟨s,hs,?_⟩;rw[vX hs];rfl
  ·rw[if_neg h2,if_neg h2];by_cases h3:c=109
   ·rw[if_pos h3,if_pos h3];constructor
    ·intro h;obtain rfl:=au.mp h;exact⟨(c,jc,jc),.head _,.inl h1,by rw[hall];rfl⟩
    ·rintro⟨w,hw,_,rfl⟩;obtain rfl:=au.mp hw;rw[hall];exact .head _
   ·rw[if_neg h3,if_neg h3];constructor
    ·intro h;obtain rfl:=au.mp h;exact⟨(c,jc,iw),.head _,.inl h1,by rw[hall];rfl⟩
    ·rintro⟨w,hw,_,rfl⟩;obtain rfl:=au.mp hw;rw[hall];exact .head _
theorem Jj{z:Bool}{c:Nat}{w:Nat×bh×bh}(h:w∈aw z c):w.1=c:=by
 unfold aw at h;split at h
 ·obtain⟨s,_,rfl⟩:=aX.mp h;rfl
 ·split at h
  ·obtain⟨s,_,rfl⟩:=aX.mp h;rfl
  ·split at h
   ·obtain rfl:=au.mp h;rfl
   ·obtain rfl:=au.mp h;rfl
theorem Jd{f:Fm}{w:Nat×bh×bh}:bg f w=true↔w.1∈f.2.2/\(w.1≠119\/1<f.1.length):=by
 show(decide (w.1∈f.2.2) && (decide (w.1≠119) || decide (1<(f.1.length:Int))))=true↔_;rw[aF,kG,decide_eq_true_iff,decide_eq_true_iff,decide_eq_true_iff];constructor
 ·rintro⟨a,b⟩;exact⟨a,b.imp id fun h=>by omega⟩
 ·rintro⟨a,b⟩;exact⟨a,b.imp id fun h=>by omega⟩
theorem wm{t:Tb}{f:Fm}(ho:mV f){e:Ed}:e∈JH t f↔∃w∈Az (zz t),bg f w=true/\e=(w.2.1,uT f.1,(if(w.2.1 == jc)=true then []else t.m1)++f.2.1,w.2.2):=by
 rw[<-R7];constructor
 ·intro h;obtain⟨c,hc,h⟩:=aV.mp h;have h4:=RU ho c hc;obtain⟨w,hw,hd,he⟩:=(HC h4).mp h;exact⟨w,aV.mpr ⟨c,h4,hw⟩,Jd.mpr ⟨Jj hw▸hc,hd⟩,he⟩
 ·rintro⟨w,hw,hb,he⟩;obtain⟨c,h4,hw⟩:=aV.mp hw;obtain⟨hc,hd⟩:=Jd.mp hb;rw[Jj hw]at hc;exact aV.mpr ⟨c,hc,(HC h4).mpr ⟨w,hw,hd,he⟩⟩
theorem Bf{t:Tb}{e:Ed}:e∈s1 t↔∃f∈t.fs,∃w∈W6,w.1∈f.2.2/\e∈sE t f (gT f.1) w.2.2 w.2.1:=by
 unfold s1 sE
 cases t.m0.isEmpty with
 | true=>
   rw[if_pos rfl];constructor
   ·intro h;obtain⟨f,hf,h⟩:=aV.mp h;obtain⟨w,hw,hm,he⟩:=kK.mp h;exact⟨f,hf,w,hw,hm,he▸.head _⟩
   ·rintro⟨f,hf,w,hw,hm,he⟩;exact aV.mpr ⟨f,hf,kK.mpr ⟨w,hw,hm,au.mp he⟩⟩
 | false=>
   rw[if_neg bI];constructor
   ·intro h
    rcases aD.mp h with h|h
    ·obtain⟨f,hf,h⟩:=aV.mp h;obtain⟨w,hw,hm,he⟩:=kK.mp h;exact⟨f,hf,w,hw,hm,he▸.head _⟩
    ·obtain⟨e',he',rfl⟩:=aX.mp h;obtain⟨f,hf,hg⟩:=aV.mp he';obtain⟨w,hw,hm,rfl⟩:=kK.mp hg;exact⟨f,hf,w,hw,hm,.tail _ (.head _)⟩
   ·rintro⟨f,hf,w,hw,hm,he⟩
    rcases ao.mp he with he|he
    ·exact aY _ (aV.mpr ⟨f,hf,kK.mpr ⟨w,hw,hm,he⟩⟩)
    ·obtain rfl:=au.mp he;exact aA _ (aX.mpr ⟨(w.2.1,f.1,f.2.1,w.2.2),aV.mpr ⟨f,hf,kK.mpr ⟨w,hw,hm,rfl⟩⟩,rfl⟩)
theorem GJ{t:Tb}{f:Fm}{G:List Nat}{w2 s:bh}{e:Ed}(h:e∈sE t f G w2 s):e.1=s:=by
 unfold sE at h
 rcases ao.mp h with rfl|h
 ·rfl
 ·split at h
  ·exact absurd h ba
  ·obtain rfl:=au.mp h;rfl
theorem Nb(t:Tb):zz t=!t.fg.isEmpty:=by
 unfold zz
 cases t.fg with
 | nil=>rfl
 | cons a l=>exact decide_eq_true (by rw[bo];omega)
theorem Pt{t:Tb}{e:Ed}:e∈s3 t↔e∈s2 t/\FC (zz t) e.1=true:=by
 rw[Nb];unfold s3 FC
 cases t.fg.isEmpty with
 | true=>rw[if_pos rfl,dX];rfl
 | false=>rw[if_neg bI];exact⟨fun h=>⟨h,rfl⟩,fun h=>h.1⟩
theorem Et{t:Tb}(ht:CI t){e:Ed}:e∈s3 t↔e∈t.fs.flatMap (dE t):=by
 rw[Pt];constructor
 ·rintro⟨h,hk⟩
  have UN:(∃f∈t.fs,∃w∈W6,w.1∈f.2.2/\e∈sE t f (gT f.1) w.2.2 w.2.1)->e∈t.fs.flatMap (dE t):=by
   rintro⟨f,hf,w,hw,hm,he⟩;refine aV.mpr ⟨f,hf,aY _ ((Bg (ht.ho f hf)).mpr ⟨w,dX.mpr ⟨hw,?_⟩,hm,he⟩)⟩;rw[<-GJ he];exact hk
  unfold s2 at h;split at h
  ·exact UN (Bf.mp h)
  ·rename_i hn
   rcases aD.mp h with h|h
   ·exact UN (Bf.mp h)
   ·obtain⟨f,hf,h⟩:=aV.mp h;obtain⟨w,hw,hb,he⟩:=HD.mp h;refine aV.mpr ⟨f,hf,aA _ ?_⟩;rw[if_neg hn];refine(wm (ht.ho f hf)).mpr ⟨w,dX.mpr ⟨hw,?_⟩,hb,he⟩;rw[he]at hk;exact hk
 ·intro h;obtain⟨f,hf,h⟩:=aV.mp h
  rcases aD.mp h with h|h
  ·obtain⟨w,hw,hm,he⟩:=(Bg (ht.ho f hf)).mp h;obtain⟨hw,hk⟩:=dX.mp hw;have hs:e∈s1 t:=Bf.mpr ⟨f,hf,w,hw,hm,he⟩;refine⟨?_,by rw[GJ he];exact hk⟩;unfold s2;split
   ·exact hs
   ·exact aY _ hs
  ·split at h
   ·exact absurd h ba
   ·rename_i hn;obtain⟨w,hw,hb,he⟩:=(wm (ht.ho f hf)).mp h;obtain⟨hw,hk⟩:=dX.mp hw;refine⟨?_,by rw[he];exact hk⟩;unfold s2;rw[if_neg hn];exact aA _ (aV.mpr ⟨f,hf,HD.mpr ⟨w,hw,hb,he⟩⟩)
theorem Pu{t:Tb}(hf:t.fg.length<=10){e:Ed}:e∈rF t↔e∈xt t++CS t:=by
 have hz:=Nb t;unfold rF CS;rw[hz]
 cases hb:t.fg.isEmpty with
 | true=>
   rw[if_pos rfl];have:t.fg=[]:=kc.mp hb;unfold xt;rw[this];rfl
 | false=>
   rw[if_neg bI,iJ,if_pos rfl];constructor
   ·intro h
    rcases ao.mp h with rfl|h
    ·exact aA _ (.head _)
    ·obtain⟨p,hp,h⟩:=aV.mp h;obtain⟨k,hk,hp⟩:=cD.mp hp
     have hk2:k<t.fg.length:=by
      rw[g9]at hk;omega
     have hk1:k<iD.length:=by
      rw[g9]at hk;omega
     rw[rB]at hp;refine aY _ (aV.mpr ⟨k,br.mpr hk2,?_⟩);unfold lF;have e1:iD.getD k 0=p.1:=by rw[<-hp,dw,af hk1];rfl
     have e2:t.fg.getD k 0=p.2:=by rw[<-hp,dw,af hk2];rfl
     rw[e1,e2];simp only[ao,ba,or_false]at h ⊢
     rcases h with h|h|h
     ·exact .inr (.inl h)
     ·exact .inr (.inr h)
     ·exact .inl h
   ·intro h
    rcases aD.mp h with h|h
    ·obtain⟨k,hk,h⟩:=aV.mp h;have hk2:=br.mp hk;have hk1:k<iD.length:=bB hk2 hf;refine .tail _ (aV.mpr ⟨(iD.getD k 0,t.fg.getD k 0),?_,?_⟩)
     ·refine cD.mpr ⟨k,by rw[g9];omega,?_⟩;rw[rB,dw,dw,af hk1,af hk2];rfl
     ·unfold lF at h;simp only[ao,ba,or_false]at h ⊢
      rcases h with h|h|h
      ·exact .inr (.inr h)
      ·exact .inl h
      ·exact .inr (.inl h)
    ·exact au.mp h▸.head _
theorem Md{t:Tb}(ht:CI t):mR (got t)=mR (By t):=GB fun e=>by
 have h1:=Et ht (e:=e);have h2:=Pu ht.hf (e:=e);unfold got By;simp only[aD]at h1 h2 ⊢;rw[h1,h2];constructor
 ·rintro((h|h)|h|h)
  ·exact .inr h
  ·exact .inl (.inl (.inl h))
  ·exact .inl (.inl (.inr h))
  ·exact .inl (.inr h)
 ·rintro(((h|h)|h)|h)
  ·exact .inl (.inr h)
  ·exact .inr (.inl h)
  ·exact .inr (.inr h)
  ·exact .inl (.inl h)
theorem RP{t:Tb}{f:Fm}(h0:t.m0.length<=2)(hc:f.2.1.length<=4){G:List Nat}{w2 s:bh}{e:Ed}(h:e∈sE t f G w2 s):e.2.2.1.length<=6:=by
 unfold sE at h
 rcases ao.mp h with rfl|h
 ·exact cP hc (by decide)
 ·split at h
  ·exact absurd h ba
  ·obtain rfl:=au.mp h;show(t.m0++f.2.1).length<=6;rw[ak];omega
theorem Qn{t:Tb}(ht:CI t):∀e∈By t,e.2.2.1.length<=1000:=fun e he=>by
 have h0:=ht.h0;have h1:=ht.h1;have h2:=ht.h2;have h3:=ht.h3
 rcases aD.mp he with he|he
 ·rcases aD.mp he with he|he
  ·rcases aD.mp he with he|he
   ·simp only[pD,ao,ba,or_false]at he
    rcases he with rfl|rfl|rfl<;>decide
   ·obtain⟨k,_,he⟩:=aV.mp he;simp only[lF,ao,ba,or_false]at he
    rcases he with rfl|rfl|rfl
    ·show 1<=1000;decide
    ·show(t.m2++[_]).length<=1000;rw[ak];show _+1<=_;omega
    ·show(t.m2++[_]).length<=1000;rw[ak];show _+1<=_;omega
  ·unfold CS at he;split at he
   ·obtain rfl:=au.mp he;show t.m3.length<=1000;omega
   ·exact absurd he ba
 ·obtain⟨f,hf,he⟩:=aV.mp he;have hc:=(ht.ho f hf).cl
  rcases aD.mp he with he|he
  ·obtain⟨w,_,_,hs⟩:=(Bg (ht.ho f hf)).mp he;exact cP (RP h0 hc hs) (by decide)
  ·split at he
   ·exact absurd he ba
   ·obtain⟨w,_,_,rfl⟩:=(wm (ht.ho f hf)).mp he;show((if(w.2.1 == jc)=true then []else t.m1)++f.2.1).length<=1000;rw[ak];have:=ite_le (b:=w.2.1 == jc) (x:=([]:List Int)) (y:=t.m1) (n:=2) (dJ _) h1;omega
theorem found{n:Nat}{t:Tb}(ht:CI t):Cn D (n+2) 5 [tb t]=some (.lst (mR (By t)),true):=by
 rw[Eh ht,Md ht]
theorem Fk{n:Nat}{t:Tb}(ht:CI t):Cn D (n+4) 7 [.lst (mR (By t)),.lst (mR (By t))]=some (.bl true,false):=
 qw (n:=n) 3 _ (OP (Qn ht) (cP (Dm ht) (by decide)))
theorem Nw(t:Tb):im (tb t)=true:=by
 have h1:im (.tup (t.fs.map dG))=true:=oZ t.fs;have h2:=fN t.m0;have h3:=fN t.m1;have h4:=fN t.m2;have h5:=fN t.m3;have h6:=fN t.fg;unfold tb nE;generalize Dat.tup (t.fs.map dG)=FS at *;generalize tI t.m0=M0 at *;generalize tI t.m1=M1 at *;generalize tI t.m2=M2 at *;generalize tI t.m3=M3 at *;generalize tI t.fg=F0 at *;simp only[im,kd,h1,h2,h3,h4,h5,h6,eV]
theorem two{n:Nat}{ns:List Int}(k:Int)(h1:0<=k)(h2:k<=30000):∃q:Nat,Cn D (n+1) 6 [.lst (ns.map Dat.int),.int k,.int 2]=some (.int (q:Nat),false)/\q<2:=by
 obtain⟨q,e,b⟩:=o4 (ns:=ns) (k:=k) (m:=2) (by omega);have r:=nX (n:=n) (ns:=ns) k 2 (by omega) (by omega);rw[e]at r;exact⟨q,r,by omega⟩
theorem VQ{q:Nat}(h:q<2):∃few:Int,lN [Dat.int 4,.int 63] (q:Int)=some (.int few)/\0<few:=by
 rcases(by omega:q=0\/q=1)with rfl|rfl
 ·exact⟨4,rfl,by omega⟩
 ·exact⟨63,rfl,by omega⟩
theorem IU{n:Nat}{ns:List Int}(k few:Int)(q m:Nat)(h1:0<=k)(h2:k<=30000)(hq:q<m)(hm:m<=10)(hf:0<few):∃K:List Int,Cn D (n+2) 8 [.lst (ns.map Dat.int),.int k,.int (1+(q:Int)),.int few]=some (tI K,false)/\K.length<=m:=by
 refine⟨eL ns k (1+q) few,?_,?_⟩
 ·have:=qv (n:=n) (ns:=ns) k few (1+q) (by omega) (by omega) hf;have e:(((1+q:Nat):Nat):Int)=1+(q:Int):=by omega
  rw[e]at this;exact this
 ·rw[fT];omega
theorem NT(q:Nat):gm .add (.int 1) (.int (q:Int))=some (.int (1+(q:Int)),false):=rfl
theorem math(ns:List Int)(h:ns.length<=63):∃fr,Cn D 12 17 [.lst (ns.map Dat.int)]=some (.bl true,fr):=by
 refine⟨false,gC (C:=Cn D 11) (np:=1) (nl:=5) (body:=FG) rfl ?_⟩;obtain⟨fs,m0,m1,m2,m3,fg,fr,r,hn,hl,ho,_,hM⟩:=Ea (n:=7) (ns:=ns);obtain⟨q0,r0,b0⟩:=two (n:=10) (ns:=ns) 200 (by omega) (by omega);obtain⟨few,hf,hf0⟩:=VQ b0;obtain⟨q4,r4,b4⟩:=two (n:=10) (ns:=ns) 204 (by omega) (by omega);obtain⟨GR,rg,lg⟩:=IU (n:=9) (ns:=ns) 201 few q4 2 (by omega) (by omega) b4 (by omega) hf0;obtain⟨q5,r5,b5⟩:=two (n:=10) (ns:=ns) 205 (by omega) (by omega);obtain⟨q9,r9,b9⟩:=two (n:=10) (ns:=ns) 209 (by omega) (by omega);obtain⟨GA,ra,la⟩:=IU (n:=9) (ns:=ns) 206 few q9 2 (by omega) (by omega) b9 (by omega) hf0;obtain⟨q10,r10,We⟩:=two (n:=10) (ns:=ns) 210 (by omega) (by omega)
 obtain⟨GM,hgm,lm⟩:∃K:List Int,lN [tI GR,tI GA] (q10:Int)=some (tI K)/\K.length<=2:=by
  rcases(by omega:q10=0\/q10=1)with rfl|rfl
  ·exact⟨GR,rfl,lg⟩
  ·exact⟨GA,rfl,la⟩
 have c5:dt .eq (.int (q5:Int)) (.int 0)=some ((q5:Int) == 0):=rfl;have hok:∀K:List Int,K.length<=2->CI ⟨fs,GR,K,m2,m3,fg⟩:=fun K hK=>⟨ho,hl,lg,hK,hM.l2,hM.l3,hM.lf⟩
 have hend:∀(K:List Int),K.length<=2->∀(n2:Dat),cY (Cn D 11) [.set 1 (.tup [.ix (.var 1) (.con (.int 0)),.bin .add (.tup [.var 3,.var 4]) (.sl (.ix (.var 1) (.con (.int 1))) (some (.con (.int 2))) none),.ix (.var 1) (.con (.int 2))]),.ret (.call 7 [.call 5 [.var 1],.call 16 [.var 1]])] [some (.lst (ns.map Dat.int),false),some (.tup [.tup (fs.map dG),.tup [tI m0,tI m1,tI m2,tI m3],tI fg],false),some (n2,false),some (tI GR,false),some (tI K,false)]=some (.rt (.bl true) false):=fun K hK n2=>by
  have h5:=found (n:=9) (hok K hK);have h16:=KO (n:=8) (hok K hK);have h7:=Fk (n:=7) (hok K hK);have it:=Nw ⟨fs,GR,K,m2,m3,fg⟩;have a0:lN [Dat.tup (fs.map dG),.tup [tI m0,tI m1,tI m2,tI m3],tI fg] 0=some (.tup (fs.map dG)):=rfl;have a1:lN [Dat.tup (fs.map dG),.tup [tI m0,tI m1,tI m2,tI m3],tI fg] 1=some (.tup [tI m0,tI m1,tI m2,tI m3]):=rfl;have a2:lN [Dat.tup (fs.map dG),.tup [tI m0,tI m1,tI m2,tI m3],tI fg] 2=some (tI fg):=rfl;have s1:Kt (.tup [tI m0,tI m1,tI m2,tI m3]) (some 2) none=some (.tup [tI m2,tI m3],false):=rfl;have s2:gm .add (.tup [tI GR,tI K]) (.tup [tI m2,tI m3])=some (.tup [tI GR,tI K,tI m2,tI m3],false):=tZ (by show 4<=1000000;decide);unfold tb nE at *;dsimp only at h5 h16 h7 it;generalize mR (By ⟨fs,GR,K,m2,m3,fg⟩)=R at *;generalize Dat.tup (fs.map dG)=FS at *;generalize tI GR=G0 at *;generalize tI K=K0 at *;generalize tI m0=M0 at *;generalize tI m1=M1 at *;generalize tI m2=M2 at *;generalize tI m3=M3 at *;generalize tI fg=F0 at *;generalize ns.map Dat.int=NS at *;clear hok r rg ra hf hgm r0 r4 r5 r9 r10 hM ho hl hn;walk_at "py"
 have l0:ko (Cn D 11) FG[0] [some (.lst (ns.map Dat.int),false),none,none,none,none]=some (.nx [some (.lst (ns.map Dat.int),false),some (.tup [.tup (fs.map dG),.tup [tI m0,tI m1,tI m2,tI m3],tI fg],false),none,none,none]):=by
  show ko (Cn D 11) (.set 1 (.call 12 [.var 0,.con (.int 0)])) _=_;have it:=Nw ⟨fs,m0,m1,m2,m3,fg⟩;unfold tb nE at it;dsimp only at it;generalize Dat.tup [.tup (fs.map dG),.tup [tI m0,tI m1,tI m2,tI m3],tI fg]=TB at *;generalize ns.map Dat.int=NS at *;clear hend hok rg ra hf hgm r0 r4 r5 r9 r10 hM ho hl hn;walk_at "py"
 have l1:ko (Cn D 11) FG[1] [some (.lst (ns.map Dat.int),false),some (.tup [.tup (fs.map dG),.tup [tI m0,tI m1,tI m2,tI m3],tI fg],false),none,none,none]=some (.nx [some (.lst (ns.map Dat.int),false),some (.tup [.tup (fs.map dG),.tup [tI m0,tI m1,tI m2,tI m3],tI fg],false),some (.int few,false),none,none]):=by
  show ko (Cn D 11) (.set 2 (.ix (.lst [.con (.int 4),.con (.int 63)]) (.call 6 [.var 0,.con (.int 200),.con (.int 2)]))) _=_;generalize Dat.tup [.tup (fs.map dG),.tup [tI m0,tI m1,tI m2,tI m3],tI fg]=TB at *;generalize ns.map Dat.int=NS at *;generalize ((q0:Nat):Int)=Q0 at *;clear hend hok rg ra hgm r4 r5 r9 r10 hM ho hl hn l0 r;walk_at "py"
 have l2:ko (Cn D 11) FG[2] [some (.lst (ns.map Dat.int),false),some (.tup [.tup (fs.map dG),.tup [tI m0,tI m1,tI m2,tI m3],tI fg],false),some (.int few,false),none,none]=some (.nx [some (.lst (ns.map Dat.int),false),some (.tup [.tup (fs.map dG),.tup [tI m0,tI m1,tI m2,tI m3],tI fg],false),some (.int few,false),some (tI GR,false),none]):=by
  show ko (Cn D 11) (.set 3 (.call 8 [.var 0,.con (.int 201),.bin .add (.con (.int 1)) (.call 6 [.var 0,.con (.int 204),.con (.int 2)]),.var 2])) _=_;have a:=NT q4;have i:=fN GR;generalize tI GR=G0 at *;generalize Dat.tup [.tup (fs.map dG),.tup [tI m0,tI m1,tI m2,tI m3],tI fg]=TB at *;generalize ns.map Dat.int=NS at *;generalize ((q4:Nat):Int)=Q4 at *;clear hend hok ra hgm r0 r5 r9 r10 hM ho hl hn l0 l1 r hf;walk_at "py"
 have l3:ko (Cn D 11) FG[3] [some (.lst (ns.map Dat.int),false),some (.tup [.tup (fs.map dG),.tup [tI m0,tI m1,tI m2,tI m3],tI fg],false),some (.int few,false),some (tI GR,false),none]=some (.nx [some (.lst (ns.map Dat.int),false),some (.tup [.tup (fs.map dG),.tup [tI m0,tI m1,tI m2,tI m3],tI fg],false),some (.int few,false),some (tI GR,false),some (tI [],false)]):=rfl
 obtain⟨K,hK,l4⟩:∃K:List Int,K.length<=2/\ko (Cn D 11) FG[4] [some (.lst (ns.map Dat.int),false),some (.tup [.tup (fs.map dG),.tup [tI m0,tI m1,tI m2,tI m3],tI fg],false),some (.int few,false),some (tI GR,false),some (tI [],false)]=some (.nx [some (.lst (ns.map Dat.int),false),some (.tup [.tup (fs.map dG),.tup [tI m0,tI m1,tI m2,tI m3],tI fg],false),some (.int few,false),some (tI GR,false),some (tI K,false)]):=by
  have a:=NT q9;have i:=fN GM;have i2:=fN GR;have i3:=fN GA;refine⟨if((q5:Int) == 0)=true then GM else [],?_,?_⟩
  ·exact ite_le lm (dJ _)
  ·show ko (Cn D 11) (.ifs (.cmp .eq (.call 6 [.var 0,.con (.int 205),.con (.int 2)]) (.con (.int 0))) [.set 4 (.ix (.lst [.var 3,.call 8 [.var 0,.con (.int 206),.bin .add (.con (.int 1)) (.call 6 [.var 0,.con (.int 209),.con (.int 2)]),.var 2]]) (.call 6 [.var 0,.con (.int 210),.con (.int 2)]))] []) _=_;have e1:tI (if((q5:Int) == 0)=true then GM else [])=if((q5:Int) == 0)=true then tI GM else tI []:=by split<;>rfl
   rw[e1];clear e1;generalize ((q5:Int) == 0)=b at *;generalize tI GM=GM0 at *;generalize tI GR=G0 at *;generalize tI GA=GA0 at *;generalize tI []=N0 at *;generalize Dat.tup [.tup (fs.map dG),.tup [tI m0,tI m1,tI m2,tI m3],tI fg]=TB at *;generalize ns.map Dat.int=NS at *;generalize ((q5:Nat):Int)=Q5 at *;generalize ((q9:Nat):Int)=Q9 at *;generalize ((q10:Nat):Int)=Q10 at *;clear hend hok r0 r4 hM ho hl hn l0 l1 l2 l3 r hf rg;cases b
   ·walk_at "py"
   ·walk_at "py"
 have hz:=hend K hK (.int few);clear hend;show cY (Cn D 11) (FG[0]::FG[1]::FG[2]::FG[3]::FG[4]::_) [some (.lst (ns.map Dat.int),false),none,none,none,none]=_;rw[cG,l0,ah,di,cG,l1,ah,di,cG,l2,ah,di,cG,l3,ah,di,cG,l4,ah,di];exact hz
end K09
namespace M
open PySem PySem.Spec PyProof.Rows L2
section
variable{K:Fg}{mg:bh->Option ab}
def vN(K:Fg)(mg:bh->Option ab)(x:bh)(d:Dat):Prop:=∃v u,mg x=some u/\RelV v u/\CV K d v
theorem Ms:∀x d,([]:List (bh×Dat)).lookup x=some d->∃v u,mg x=some u/\RelV v u/\CV K d v:=fun x d h=>by cases h
theorem tO{y:bh}{e:Dat}{L:List (bh×Dat)}(h:vN K mg y e)(hs:∀x d,L.lookup x=some d->∃v u,mg x=some u/\RelV v u/\CV K d v) :
  ∀x d,((y,e)::L).lookup x=some d->∃v u,mg x=some u/\RelV v u/\CV K d v:=fun x d q=>by
 rw[eR]at q;split at q
 ·rename_i z;cases q;rw[eq_of_beq z];exact h
 ·exact hs x d q
theorem Mr{h:bP}{y x:bh}{t:xA}(X:K.In h)(G:h.Ns mainGlobals mg)(a:jk K mainGlobals y=some (some (.str x t))):vN K mg y (.str x):=⟨.str x,_,ud X G a,⟨t,rfl⟩,fun _=>rfl,fun _ z=>nomatch z⟩
theorem Ds{h:bP}{y:bh}{p:ag}{o:fe}{its:Array ab}{n:Nat}{ds:List Dat}{vs:List V}(X:K.In h)(G:h.Ns mainGlobals mg)(a:jk K mainGlobals y=some (some (.ref p)))(l:K.lookup p=some o)(c:o.cls=.type "tuple")(d:o.dict=none)(e:o.data=.seq its n)
  (z:its.size<=aP)(r:cL vs its.toList)(q:∀F,cR K F ds vs):vN K mg y (.tup ds):=
 ⟨.ref p,_,ud X G a,rfl,fun F=>⟨p,vs,rfl,.inr ⟨o,its,n,l,c,e,z,r⟩,q F⟩,fun b z=>by cases z;exact⟨o,l,c,d⟩⟩
theorem iV{F:Hp}{p:ag}{o:fe}{its:Array ab}{n:Nat}{ds:List Dat}{vs:List V}(l:K.lookup p=some o)(c:o.cls=.type "tuple")(e:o.data=.seq its n)(z:its.size<=aP)(r:cL vs its.toList)(q:cR K F ds vs):Rep K F (.tup ds) (.ref p):=
 ⟨p,vs,rfl,.inr ⟨o,its,n,l,c,e,z,r⟩,q⟩
end
end M
open PySem PySem.W PyProof.Rows
namespace PySem.W.Fast
theorem tw2031405905680252503:0=0:=rfl
theorem tw15465214395421845970:0=0:=rfl
theorem tw17750924559226029709:0=0:=rfl
theorem tw14034819003026408465:0=0:=rfl
theorem tw16982475031048999959:0=0:=rfl
theorem tw4285839190925605398:0=0:=rfl
theorem tw1256224940325482112:0=0:=rfl
theorem tw1540787488328907073:0=0:=rfl
theorem tw12765719308954377306:0=0:=rfl
theorem tw9948688103278191417:0=0:=rfl
theorem tw1164155361167072844:0=0:=rfl
theorem tw11227552215964512143:0=0:=rfl
theorem tw17683268252564266016:0=0:=rfl
theorem tw4263532176412710276:0=0:=rfl
theorem tw13198936315284970479:0=0:=rfl
theorem tw9199640914481860974:0=0:=rfl
theorem tw15626499478946048004:0=0:=rfl
theorem tw8986736450376589057:0=0:=rfl
theorem tw6937226249183403676:0=0:=rfl
theorem tw8458361727216145651:0=0:=rfl
theorem tw12674776896323406134:0=0:=rfl
theorem tw13042893760682970522:0=0:=rfl
theorem tw8202868121615542603:0=0:=rfl
theorem tw13066634564382184554:0=0:=rfl
theorem tw17779226359279773771:0=0:=rfl
theorem tw552243468892345442:0=0:=rfl
theorem tw6735428566686601926:0=0:=rfl
theorem tw8372072699667463387:0=0:=rfl
theorem tw6864407871521022982:0=0:=rfl
theorem tw14061408549542614792:0=0:=rfl
theorem tw15773519901599832657:0=0:=rfl
theorem tw9220028353547113721:0=0:=rfl
theorem tw9641762259946262366:0=0:=rfl
theorem tw16487563654087322984:0=0:=rfl
theorem tw8840163602551785703:0=0:=rfl
theorem tw18119695137538095432:0=0:=rfl
theorem tw6311621408217718530:0=0:=rfl
theorem tw15824191899023692395:0=0:=rfl
theorem tw14034418270843064467:0=0:=rfl
theorem tw10693600483650774986:0=0:=rfl
theorem tw171916980883501274:0=0:=rfl
theorem tw305214155281996522:0=0:=rfl
theorem tw2242829580948346825:0=0:=rfl
theorem tw3821679364785099292:0=0:=rfl
theorem tw3174415015516503243:0=0:=rfl
theorem tw12749040193925533026:0=0:=rfl
theorem tw5801493872039505213:0=0:=rfl
theorem tw1272867299578218675:0=0:=rfl
theorem tw8142774924855515587:0=0:=rfl
theorem tw3077245637887788508:0=0:=rfl
theorem tw16778492493820580133:0=0:=rfl
theorem tw718998759557691408:0=0:=rfl
theorem tw12595652869599659695:0=0:=rfl
theorem tw5610837399905795060:0=0:=rfl
theorem tw10305338134191190535:0=0:=rfl
theorem tw8766763676492194777:0=0:=rfl
theorem tw4193274293883126826:0=0:=rfl
theorem tw16530669081747970780:0=0:=rfl
theorem tw1822787178923911069:0=0:=rfl
theorem tw2249632374806680460:0=0:=rfl
theorem tw4073831682738748319:0=0:=rfl
theorem tw6251892781811675993:0=0:=rfl
theorem tw10443967536028405719:0=0:=rfl
theorem tw6019374914885961771:0=0:=rfl
theorem tw9092940656160913679:0=0:=rfl
theorem tw17790662418552782684:0=0:=rfl
theorem tw3388306583789690636:0=0:=rfl
theorem tw15921637359896414080:0=0:=rfl
theorem tw4572039894698348076:0=0:=rfl
theorem tw2980438384647553242:0=0:=rfl
theorem tw12563548873560683392:0=0:=rfl
theorem tw11409175969318049047:0=0:=rfl
theorem tw13356441646659069426:0=0:=rfl
theorem tw3492655847770250327:0=0:=rfl
theorem tw17756557833003502063:0=0:=rfl
theorem tw9521830371433038925:0=0:=rfl
theorem tw7372589310053392832:0=0:=rfl
theorem tw13178958753838359116:0=0:=rfl
theorem tw4250190416230783262:0=0:=rfl
theorem tw6564501914928883900:0=0:=rfl
theorem tw4654394220291565191:0=0:=rfl
theorem tw5737592852415473347:0=0:=rfl
theorem tw13294743836112014695:0=0:=rfl
theorem tw3326961346649081893:0=0:=rfl
theorem tw17386346730313673569:0=0:=rfl
theorem tw12023113917421224735:0=0:=rfl
theorem tw10136937994125840794:0=0:=rfl
theorem tw16742940969901214375:0=0:=rfl
theorem tw15552918538133513130:0=0:=rfl
theorem tw10308243912838361871:0=0:=rfl
theorem tw11430342926487097637:0=0:=rfl
theorem tw102917963657807673:0=0:=rfl
theorem tw8720807393854019210:0=0:=rfl
theorem tw8708766006656896466:0=0:=rfl
theorem tw3477889585124073820:0=0:=rfl
theorem tw9272310112716870549:0=0:=rfl
theorem tw7499421239936636730:0=0:=rfl
theorem tw4078427082552574881:0=0:=rfl
theorem tw13672018632498935458:0=0:=rfl
theorem tw13378591593339646016:0=0:=rfl
theorem tw9835482373781044697:0=0:=rfl
theorem tw1912650271185787711:0=0:=rfl
theorem tw15011794590127691252:0=0:=rfl
theorem tw16876512136503269297:0=0:=rfl
theorem tw6514568366380127283:0=0:=rfl
theorem tw692126426515009361:0=0:=rfl
theorem tw9030891992610735586:0=0:=rfl
theorem tw8436703875653493785:0=0:=rfl
theorem tw6791586195407491218:0=0:=rfl
theorem tw9223160684252459157:0=0:=rfl
theorem tw939610645269177003:0=0:=rfl
theorem tw16334380792545301788:0=0:=rfl
theorem tw15926307405929458926:0=0:=rfl
theorem tw4142854781789926597:0=0:=rfl
theorem tw4052695027834877637:0=0:=rfl
theorem tw8107019542284651071:0=0:=rfl
theorem tw4282554812685870321:0=0:=rfl
theorem tw7447273346245696707:0=0:=rfl
theorem tw5090284261818831811:0=0:=rfl
theorem tw7608272003575638238:0=0:=rfl
theorem tw10861394045322204271:0=0:=rfl
theorem tw603783645183408833:0=0:=rfl
theorem tw9568584568292047444:0=0:=rfl
end PySem.W.Fast
set_option maxRecDepth 100000 in
set_option maxHeartbeats 0 in
theorem PySem.Challenge.cw_dots_k09_edges_of_great_letters_holds : PySem.Challenge.rw_dots_k09_edges_of_great_letters.Holds := by
 w_on;o_law;k_head;(case hw=>w_witness2)
 k_fill
 refine M.walk (l:=jM) (n:=12) (x:="_law_script") rfl ⟨rfl,by decide,by decide⟩ rfl (fun w h Y=>PySem.W.kIn_of Y) ?F
 case F=>
  intro w mg fa h KX G hmg
  have A0:∃f fd,M.At (L2.mf KX) mg K09.d0 f fd:=by
   dsimp only[L2.mf];refine' M.gZ (nm:=aa "blank_edges") rfl KX G ?a0 ?l0 ?c0 ?k0 K09.W8
   (case a0=>k_is);(case l0=>k_is);(case c0=>k_is);(case k0=>k_is)
  have A1:∃f fd,M.At (L2.mf KX) mg K09.d1 f fd:=by
   dsimp only[L2.mf];refine' M.gZ (nm:=aa "figure_edges") rfl KX G ?a1 ?l1 ?c1 ?k1 K09.W7
   (case a1=>k_is);(case l1=>k_is);(case c1=>k_is);(case k1=>k_is)
  have A2:∃f fd,M.At (L2.mf KX) mg K09.d2 f fd:=by
   dsimp only[L2.mf];refine' M.gZ (nm:=aa "small_edges") rfl KX G ?a2 ?l2 ?c2 ?k2 K09.W5
   (case a2=>k_is);(case l2=>k_is);(case c2=>k_is);(case k2=>k_is)
  have A3:∃f fd,M.At (L2.mf KX) mg K09.d3 f fd:=by
   dsimp only[L2.mf];refine' M.gZ (nm:=aa "great_edges") rfl KX G ?a3 ?l3 ?c3 ?k3 K09.W3
   (case a3=>k_is);(case l3=>k_is);(case c3=>k_is);(case k3=>k_is)
  have A4:∃f fd,M.At (L2.mf KX) mg K09.d4 f fd:=by
   dsimp only[L2.mf];refine' M.gZ (nm:=aa "all_great_edges") rfl KX G ?a4 ?l4 ?c4 ?k4 K09.W0
   (case a4=>k_is);(case l4=>k_is);(case c4=>k_is);(case k4=>k_is)
  have A5:∃f fd,M.At (L2.mf KX) mg K09.d5 f fd:=by
   dsimp only[L2.mf];refine' M.gZ (nm:=aa "edges_of") rfl KX G ?a5 ?l5 ?c5 ?k5 K09.WZ
   (case a5=>k_is);(case l5=>k_is);(case c5=>k_is);(case k5=>k_is)
  have A6:∃f fd,M.At (L2.mf KX) mg K09.d6 f fd:=by
   dsimp only[L2.mf];refine' M.gZ (nm:=aa "_law_draw") rfl KX G ?a6 ?l6 ?c6 ?k6 K09.WY
   (case a6=>k_is);(case l6=>k_is);(case c6=>k_is);(case k6=>k_is)
  have A7:∃f fd,M.At (L2.mf KX) mg K09.d7 f fd:=by
   dsimp only[L2.mf];refine' M.gZ (nm:=aa "_law_alike") rfl KX G ?a7 ?l7 ?c7 ?k7 K09.WX
   (case a7=>k_is);(case l7=>k_is);(case c7=>k_is);(case k7=>k_is)
  have A8:∃f fd,M.At (L2.mf KX) mg K09.d8 f fd:=by
   dsimp only[L2.mf];refine' M.gZ (nm:=aa "_law_cells") rfl KX G ?a8 ?l8 ?c8 ?k8 K09.WW
   (case a8=>k_is);(case l8=>k_is);(case c8=>k_is);(case k8=>k_is)
  have A9:∃f fd,M.At (L2.mf KX) mg K09.d9 f fd:=by
   dsimp only[L2.mf];refine' M.gZ (nm:=aa "_law_places") rfl KX G ?a9 ?l9 ?c9 ?k9 K09.WV
   (case a9=>k_is);(case l9=>k_is);(case c9=>k_is);(case k9=>k_is)
  have A10:∃f fd,M.At (L2.mf KX) mg K09.UM f fd:=by
   dsimp only[L2.mf];refine' M.gZ (nm:=aa "_law_forms") rfl KX G ?a10 ?l10 ?c10 ?k10 K09.Wa
   (case a10=>k_is);(case l10=>k_is);(case c10=>k_is);(case k10=>k_is)
  have A11:∃f fd,M.At (L2.mf KX) mg K09.UL f fd:=by
   dsimp only[L2.mf];refine' M.gZ (nm:=aa "_law_marks") rfl KX G ?a11 ?l11 ?c11 ?k11 K09.V9
   (case a11=>k_is);(case l11=>k_is);(case c11=>k_is);(case k11=>k_is)
  have A12:∃f fd,M.At (L2.mf KX) mg K09.UK f fd:=by
   dsimp only[L2.mf];refine' M.gZ (nm:=aa "_law_table") rfl KX G ?a12 ?l12 ?c12 ?k12 K09.V8
   (case a12=>k_is);(case l12=>k_is);(case c12=>k_is);(case k12=>k_is)
  have A13:∃f fd,M.At (L2.mf KX) mg K09.UJ f fd:=by
   dsimp only[L2.mf];refine' M.gZ (nm:=aa "_law_ways") rfl KX G ?a13 ?l13 ?c13 ?k13 K09.V7
   (case a13=>k_is);(case l13=>k_is);(case c13=>k_is);(case k13=>k_is)
  have A14:∃f fd,M.At (L2.mf KX) mg K09.UI f fd:=by
   dsimp only[L2.mf];refine' M.gZ (nm:=aa "_law_form_edges") rfl KX G ?a14 ?l14 ?c14 ?k14 K09.V6
   (case a14=>k_is);(case l14=>k_is);(case c14=>k_is);(case k14=>k_is)
  have A15:∃f fd,M.At (L2.mf KX) mg K09.UH f fd:=by
   dsimp only[L2.mf];refine' M.gZ (nm:=aa "_law_all_edges") rfl KX G ?a15 ?l15 ?c15 ?k15 K09.V5
   (case a15=>k_is);(case l15=>k_is);(case c15=>k_is);(case k15=>k_is)
  have A16:∃f fd,M.At (L2.mf KX) mg K09.UG f fd:=by
   dsimp only[L2.mf];refine' M.gZ (nm:=aa "_law_edges") rfl KX G ?a16 ?l16 ?c16 ?k16 K09.V4
   (case a16=>k_is);(case l16=>k_is);(case c16=>k_is);(case k16=>k_is)
  have A17:∃f fd,M.At (L2.mf KX) mg K09.UE f fd:=by
   dsimp only[L2.mf];refine' M.gZ (nm:=aa "law") rfl KX G ?a17 ?l17 ?c17 ?k17 K09.V3
   (case a17=>k_is);(case l17=>k_is);(case c17=>k_is);(case k17=>k_is)
  have C0:M.vN (L2.mf KX) mg "FIGURES" (.str (aa "0123456789")):=by
   dsimp only[L2.mf];refine' M.Mr KX G ?cc0
   (case cc0=>k_is)
  have C1:M.vN (L2.mf KX) mg "WAYS" (.tup [.tup [.str (aa "w"),.str (aa "out"),.str (aa "done")],.tup [.str (aa "w"),.str (aa "let"),.str (aa "done")],.tup [.str (aa "b"),.str (aa "out"),.str (aa "in")],.tup [.str (aa "b"),.str (aa "let"),.str (aa "in")],.tup [.str (aa "m"),.str (aa "in"),.str (aa "in")],.tup [.str (aa "e"),.str (aa "in"),.str (aa "done")]]):=by
   dsimp only[L2.mf];refine' M.Ds (vs:=[.ref 15,.ref 16,.ref 17,.ref 18,.ref 19,.ref 20]) KX G ?ca ?cl ?cc ?cd ?ce ?cz ?cr ?cq
   (case ca=>k_is);(case cl=>k_is)
   (case cc=>exact rfl);(case cd=>exact rfl);(case ce=>exact rfl);(case cz=>decide)
   (case cr=>exact .cons rfl (.cons rfl (.cons rfl (.cons rfl (.cons rfl (.cons rfl (.nil)))))))
   (case cq=>
    intro F;refine' ⟨_,_,rfl,?wr1_0,⟨_,_,rfl,?wr1_1,⟨_,_,rfl,?wr1_2,⟨_,_,rfl,?wr1_3,⟨_,_,rfl,?wr1_4,⟨_,_,rfl,?wr1_5,rfl⟩⟩⟩⟩⟩⟩
    (case wr1_0=>refine' M.iV (vs:=[.str (aa "w"),.str (aa "out"),.str (aa "done")]) ?wl ?wc ?we ?wz ?wv ?wq;(case wl=>k_is);(case wc=>exact rfl);(case we=>exact rfl);(case wz=>decide);(case wv=>exact .cons ⟨_,rfl⟩ (.cons ⟨_,rfl⟩ (.cons ⟨_,rfl⟩ (.nil))));(case wq=>exact⟨_,_,rfl,rfl,⟨_,_,rfl,rfl,⟨_,_,rfl,rfl,rfl⟩⟩⟩))
    (case wr1_1=>refine' M.iV (vs:=[.str (aa "w"),.str (aa "let"),.str (aa "done")]) ?wl ?wc ?we ?wz ?wv ?wq;(case wl=>k_is);(case wc=>exact rfl);(case we=>exact rfl);(case wz=>decide);(case wv=>exact .cons ⟨_,rfl⟩ (.cons ⟨_,rfl⟩ (.cons ⟨_,rfl⟩ (.nil))));(case wq=>exact⟨_,_,rfl,rfl,⟨_,_,rfl,rfl,⟨_,_,rfl,rfl,rfl⟩⟩⟩))
    (case wr1_2=>refine' M.iV (vs:=[.str (aa "b"),.str (aa "out"),.str (aa "in")]) ?wl ?wc ?we ?wz ?wv ?wq;(case wl=>k_is);(case wc=>exact rfl);(case we=>exact rfl);(case wz=>decide);(case wv=>exact .cons ⟨_,rfl⟩ (.cons ⟨_,rfl⟩ (.cons ⟨_,rfl⟩ (.nil))));(case wq=>exact⟨_,_,rfl,rfl,⟨_,_,rfl,rfl,⟨_,_,rfl,rfl,rfl⟩⟩⟩))
    (case wr1_3=>refine' M.iV (vs:=[.str (aa "b"),.str (aa "let"),.str (aa "in")]) ?wl ?wc ?we ?wz ?wv ?wq;(case wl=>k_is);(case wc=>exact rfl);(case we=>exact rfl);(case wz=>decide);(case wv=>exact .cons ⟨_,rfl⟩ (.cons ⟨_,rfl⟩ (.cons ⟨_,rfl⟩ (.nil))));(case wq=>exact⟨_,_,rfl,rfl,⟨_,_,rfl,rfl,⟨_,_,rfl,rfl,rfl⟩⟩⟩))
    (case wr1_4=>refine' M.iV (vs:=[.str (aa "m"),.str (aa "in"),.str (aa "in")]) ?wl ?wc ?we ?wz ?wv ?wq;(case wl=>k_is);(case wc=>exact rfl);(case we=>exact rfl);(case wz=>decide);(case wv=>exact .cons ⟨_,rfl⟩ (.cons ⟨_,rfl⟩ (.cons ⟨_,rfl⟩ (.nil))));(case wq=>exact⟨_,_,rfl,rfl,⟨_,_,rfl,rfl,⟨_,_,rfl,rfl,rfl⟩⟩⟩))
    (case wr1_5=>refine' M.iV (vs:=[.str (aa "e"),.str (aa "in"),.str (aa "done")]) ?wl ?wc ?we ?wz ?wv ?wq;(case wl=>k_is);(case wc=>exact rfl);(case we=>exact rfl);(case wz=>decide);(case wv=>exact .cons ⟨_,rfl⟩ (.cons ⟨_,rfl⟩ (.cons ⟨_,rfl⟩ (.nil))));(case wq=>exact⟨_,_,rfl,rfl,⟨_,_,rfl,rfl,⟨_,_,rfl,rfl,rfl⟩⟩⟩)))
  have C2:M.vN (L2.mf KX) mg "ALL_GREAT_WAYS" (.tup [.tup [.str (aa "w"),.str (aa "out"),.str (aa "done")],.tup [.str (aa "w"),.str (aa "let"),.str (aa "done")],.tup [.str (aa "b"),.str (aa "out"),.str (aa "all")],.tup [.str (aa "b"),.str (aa "let"),.str (aa "all")],.tup [.str (aa "m"),.str (aa "all"),.str (aa "all")],.tup [.str (aa "e"),.str (aa "all"),.str (aa "done")]]):=by
   dsimp only[L2.mf];refine' M.Ds (vs:=[.ref 22,.ref 23,.ref 24,.ref 25,.ref 26,.ref 27]) KX G ?ca ?cl ?cc ?cd ?ce ?cz ?cr ?cq
   (case ca=>k_is);(case cl=>k_is)
   (case cc=>exact rfl);(case cd=>exact rfl);(case ce=>exact rfl);(case cz=>decide)
   (case cr=>exact .cons rfl (.cons rfl (.cons rfl (.cons rfl (.cons rfl (.cons rfl (.nil)))))))
   (case cq=>
    intro F;refine' ⟨_,_,rfl,?wr2_0,⟨_,_,rfl,?wr2_1,⟨_,_,rfl,?wr2_2,⟨_,_,rfl,?wr2_3,⟨_,_,rfl,?wr2_4,⟨_,_,rfl,?wr2_5,rfl⟩⟩⟩⟩⟩⟩
    (case wr2_0=>refine' M.iV (vs:=[.str (aa "w"),.str (aa "out"),.str (aa "done")]) ?wl ?wc ?we ?wz ?wv ?wq;(case wl=>k_is);(case wc=>exact rfl);(case we=>exact rfl);(case wz=>decide);(case wv=>exact .cons ⟨_,rfl⟩ (.cons ⟨_,rfl⟩ (.cons ⟨_,rfl⟩ (.nil))));(case wq=>exact⟨_,_,rfl,rfl,⟨_,_,rfl,rfl,⟨_,_,rfl,rfl,rfl⟩⟩⟩))
    (case wr2_1=>refine' M.iV (vs:=[.str (aa "w"),.str (aa "let"),.str (aa "done")]) ?wl ?wc ?we ?wz ?wv ?wq;(case wl=>k_is);(case wc=>exact rfl);(case we=>exact rfl);(case wz=>decide);(case wv=>exact .cons ⟨_,rfl⟩ (.cons ⟨_,rfl⟩ (.cons ⟨_,rfl⟩ (.nil))));(case wq=>exact⟨_,_,rfl,rfl,⟨_,_,rfl,rfl,⟨_,_,rfl,rfl,rfl⟩⟩⟩))
    (case wr2_2=>refine' M.iV (vs:=[.str (aa "b"),.str (aa "out"),.str (aa "all")]) ?wl ?wc ?we ?wz ?wv ?wq;(case wl=>k_is);(case wc=>exact rfl);(case we=>exact rfl);(case wz=>decide);(case wv=>exact .cons ⟨_,rfl⟩ (.cons ⟨_,rfl⟩ (.cons ⟨_,rfl⟩ (.nil))));(case wq=>exact⟨_,_,rfl,rfl,⟨_,_,rfl,rfl,⟨_,_,rfl,rfl,rfl⟩⟩⟩))
    (case wr2_3=>refine' M.iV (vs:=[.str (aa "b"),.str (aa "let"),.str (aa "all")]) ?wl ?wc ?we ?wz ?wv ?wq;(case wl=>k_is);(case wc=>exact rfl);(case we=>exact rfl);(case wz=>decide);(case wv=>exact .cons ⟨_,rfl⟩ (.cons ⟨_,rfl⟩ (.cons ⟨_,rfl⟩ (.nil))));(case wq=>exact⟨_,_,rfl,rfl,⟨_,_,rfl,rfl,⟨_,_,rfl,rfl,rfl⟩⟩⟩))
    (case wr2_4=>refine' M.iV (vs:=[.str (aa "m"),.str (aa "all"),.str (aa "all")]) ?wl ?wc ?we ?wz ?wv ?wq;(case wl=>k_is);(case wc=>exact rfl);(case we=>exact rfl);(case wz=>decide);(case wv=>exact .cons ⟨_,rfl⟩ (.cons ⟨_,rfl⟩ (.cons ⟨_,rfl⟩ (.nil))));(case wq=>exact⟨_,_,rfl,rfl,⟨_,_,rfl,rfl,⟨_,_,rfl,rfl,rfl⟩⟩⟩))
    (case wr2_5=>refine' M.iV (vs:=[.str (aa "e"),.str (aa "all"),.str (aa "done")]) ?wl ?wc ?we ?wz ?wv ?wq;(case wl=>k_is);(case wc=>exact rfl);(case we=>exact rfl);(case wz=>decide);(case wv=>exact .cons ⟨_,rfl⟩ (.cons ⟨_,rfl⟩ (.cons ⟨_,rfl⟩ (.nil))));(case wq=>exact⟨_,_,rfl,rfl,⟨_,_,rfl,rfl,⟨_,_,rfl,rfl,rfl⟩⟩⟩)))
  have Z:∀x∈M.kZ,mg x=none:=by
   refine M.MO KX G ?_
   kernel_rfl
  have T:M.Here (L2.mf KX) mg K09.D K09.con:=⟨K09.Sd,M.all_cons A0 (M.all_cons A1 (M.all_cons A2 (M.all_cons A3 (M.all_cons A4 (M.all_cons A5 (M.all_cons A6 (M.all_cons A7 (M.all_cons A8 (M.all_cons A9 (M.all_cons A10 (M.all_cons A11 (M.all_cons A12 (M.all_cons A13 (M.all_cons A14 (M.all_cons A15 (M.all_cons A16 (M.all_cons A17 (M.all_nil)))))))))))))))))),Z,M.tO C0 (M.tO C1 (M.tO C2 (M.Ms)))⟩
  exact M.PD (l:=jM) T (j:=17) rfl rfl hmg K09.math
