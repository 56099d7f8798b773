import PyProof.Rows.All
import Wide.All
import OpenK.AllK
import Wide.FinOn
import Lean
import PyProof.EqAt
import PyProof.EqKinds
import PyProof.TupleCall
import PySem.Challenge.RW_dots_k60_steps
set_option tactic.hygienic false
open Option renaming some->a_,none->b_
open Bool renaming true->c_,false->d_
noncomputable section
set_option bootstrap.genMatcherCode false
open And renaming intro->t5
open Array renaming getElem?_eq_getElem->aH,length_toList->aR,getElem?_eq_some_iff->cj,getD_eq_getD_getElem?->c7,getElem?_toList->dA,getElem?_eq_none->fj,forIn_toList->k7,replicate->ny,getElem_toList->oK,getD->vG,toList_push->Hm
open Bool renaming and_eq_true->aq,false_eq_true->aG,false_ne_true->bh,not_true->dh,and_true->fq,and_self->iq,not_eq_true'->iE,not_false->iQ,and_false->iR,and_eq_true_iff->iS,true_and->jk,or_eq_true->jt,false_and->jI,true_or->kX,or_false->yT,false_or->yU,or_true->Bs,eq_iff_iff->L8,and_assoc->Pf
open Classical renaming propDecidable->lI,em->HK
open False renaming elim->iL
open ForInStep renaming yield->i7
open Int renaming ofNat->eN,eq_ofNat_of_zero_le->m6,emod_lt_of_pos->qO,toNat_natCast->sM,toNat->t4,emod_nonneg->vF
open Int.ofNat renaming inj->Hl
open List renaming map_cons->ag,length_map->ah,getElem?_eq_getElem->aj,mem_append_right->ak,mem_cons->ao,length_append->aw,range->ax,mem_append->az,size_toArray->aA,mem_singleton->aF,mem_append_left->aJ,length_cons->aM,mem_map->aQ,getElem?_cons_zero->aT,getElem?_map->aW,append_nil->aX,all_eq_true->aY,mem_range->aZ,map_map->bc,nodup_cons->be,getElem?_cons_succ->bf,getElem?_eq_some_iff->bC,not_mem_nil->bG,getElem_mem->bI,length_range->bQ,mem_iff_getElem->bR,length_filter_le->bS,set_cons_zero->ck,map_nil->cm,all_cons->cu,getElem?_append_left->cv,mem_filter->cz,append_assoc->cC,mem_map_of_mem->cL,map_append->cO,getElem?_append_right->cP,nodup_append->cR,perm_ext_iff_of_nodup->de,map_congr_left->dv,pairwise_cons->dM,mem_of_getElem?->dO,getElem?_replicate->dP,pairwise_map->eo,nodup_nil->et,getD_eq_getElem?_getD->eA,flatMap_cons->eB,take_append_drop->eG,lookup_cons->eL,getElem?_set_ne->eR,length_nil->eY,zip_cons_cons->fA,replicate_one->fB,length_singleton->fD,nil_append->fL,any_cons->fQ,nodup_range->fX,mem_flatMap->fY,length_take->fZ,filter_cons_of_pos->f7,filter_cons_of_neg->gf,ext_getElem->gh,cons_append->gn,set_cons_succ->gZ,find?_cons->ig,replicate->iP,isEmpty_iff->i5,flatMap_nil->i6,drop_eq_getElem_cons->i8,filterMap_cons->jb,of_mem_zip->jr,length_replicate->jV,getElem?_eq_none->jW,length_drop->j9,getElem_of_mem->kE,length->lT,pairwise_lt_range->nr,getElem?_set_self->nv,length_zip->nF,forIn_cons->nG,filter_nil->nH,mem_of_mem_take->oP,mem_of_mem_drop->oQ,filter_sublist->pK,mem_filterMap->qE,map_inj_right->qF,filter_append->qG,zipWith->rV,map_inj_left->rW,getElem?_set->rX,ext_getElem?->rY,getElem_map->tj,cons_ne_nil->tu,any_eq_true->tz,eq_nil_of_length_eq_zero->tZ,length_eraseIdx_of_lt->vU,pairwise_iff_getElem->xy,sum_cons->yR,find?_range_eq_none->yS,pairwise_filterMap->ze,length_eq_zero_iff->zf,getD->zg,zipWith_cons_cons->Bo,take_of_length_le->Bp,getElem_cons_succ->Bq,append_eq_nil_iff->Br,cons_lt_cons_iff->BH,range_eq_range'->Di,toList_toArray->Fw,length_pos_iff->Fx,length_flatMap->Fy,length_modify->Hj,getElem_range->Hk,take_sublist->HG,getElem_drop->HH,getElem?_inj->HI,flatten_cons->HJ,zipIdx_cons->LB,range'_succ->LC,mem_flatten->LD,getElem_inj->LF,drop_length->LG,zip_append->L5,zipIdx_nil->L6,head?_cons->L7,forIn_nil->Pd,drop_zero->Pe
open List.Nodup renaming sublist->oi
open List.Pairwise renaming imp_of_mem->fw,imp->nJ,nil->vV
open List.Perm renaming eq_of_pairwise->iV
open List.cons renaming injEq->dw,inj->fI
open Nat renaming le_refl->aC,ne_of_lt->bu,lt_of_lt_of_le->bw,lt_irrefl->bx,zero_le->bY,le_trans->cW,lt_of_le_of_lt->df,lt_succ_self->gC,lt_or_ge->hZ,lt_succ_of_lt->iJ,mod_lt->iU,lt_trans->jK,ne_of_gt->kY,le_of_lt->kZ,lt_trichotomy->my,lt_of_succ_lt->mz,le_succ->mB,le_add_right->mZ,zero_add->nD,add_assoc->qD,le_of_eq->BG,not_lt_zero->Pb,min_le_left->Pc
open Ne renaming symm->eZ
open Option renaming bind_some->af,map_some->aK,join_some->bD,bind->eP,isNone_iff_eq_none->fG,getD_some->fW,map->kW,isSome_iff_ne_none->lu,isSome_iff_exists->lO,isSome_map->qC,bind_eq_some_iff->xx,map_eq_some_iff->yQ,bind_eq_bind->BF
open Option.some renaming inj->aS,injEq->je
open Prod renaming ext->jj,ext_iff->Bn
open Prod.mk renaming injEq->lH
open PyProof.Rows renaming slot_tuple_getitem->c5,callWith_type1->eQ,IntsAre->kU,StrsAre->lS,lt_int->mV,AllBare->nj,callWith_builtin1->oO,assignInOrder_cons->tY,sortedHeap_old->BB,size_push'->BC,args_list_sort->BD,sortedHeap_at->Fu,listUpdate_at->Fv,subscriptTail_builtinR->HB,plain_sorted->HC,entry_sorted->HD,args_sorted1->HE,tail_any->LZ,seqEpoch_at->L0,kind_sorted->L3,IsTup->L4
open PyProof.Rows.F renaming plain_set_update_loop->cB,entry_set_update_loop->eK
open PyProof.Rows.IntsAre renaming int_at->Hi,length->HF
open PyProof.Rows.IsTup renaming new->yP
open PySem renaming Value->ab,Shared->ae,Addr->ai,wpAny->au,model->aB,sizeLine->aE,Expr->aI,SetTable->aO,Program->aP,starEach->aU,Str->aV,World->bo,Around->br,sizeLine_eq->bB,Heap->bH,wpAny_call_entry->bW,wpAny_holding->bZ,cLine->cg,wpAny_setField_rec->cq,wpAny_newObj_type->cG,wpAny_setState_of->c8,wpAny_callSpecial?_slot->di,wpAny_seqItems->dq,wpAny_truthy_bool->dG,wpAny_field->eh,FuncData->en,wpAny_mono->eT,wpAny_isInstance->eU,Obj->fe,codeAny_builtin->fo,Pos->fu,Builtin->fO,Scope->fP,mem_of_lookup->fV,Paired->gp,wpAny_forIn_list->hV,IsPair->hX,wpAny_typeOf->iA,wpAny_rule->iB,wpAny_Call_Name_kw->iC,Stmt->jw,NameKind->jC,wpAny_specialOf->jF,wpAny_tupleItemsOf->jJ,wpAny_getItem_str_slice->jR,codeAny_mono->kb,plainId_quiet->kT,wpAny_passesOwn->lC,KeyKind->lP,tupleKind_room_in1->mD,isSubtype_type->mF,wpAny_pyIter_list->ng,IsZip->ni,scanBound->oH,post_val_or_str->pG,CmpOp->pJ,isSubtype_tuple_tuple->pM,wpAny_updateSeq_pair->qJ,wpAny_runValue->qK,codeAny_call_builtin->qL,IsPart->qN,Keyword->rT,wpAny_standAt->sU,wpAny_onRaise->sV,wpAny_newList->sW,wpAny_attempt->sX,Env->vq,concat_meets->vx,Operator->vA,GenState->vB,Tok->vQ,wpAny_askSetting->xp,noFill_tuple_add->xq,placed->za,wpAny_richCompare_same_room->Bl,BindsTo->Bm,wpAny_newTuple->By,MulOk->BA,wpAny_in_heap->Fj,wpAny_comprehension_free->Fk,seq_tuple_add->Fl,call->Fn,PassesOwn->Hh,seqIndex_neg->Hw,pyIter->Hx,builtinLookup_eq_fast->Lx,wpAny_of_eq->LQ,wpAny_letGo->LR,seqIndex_of->LU,codeAny_extend_loopS->LV,Model->LW,wpAny_setEntries_of->O7,ElemsOf->Pa
open PySem.Around renaming under_plainId->dJ
open PySem.Builtin renaming bitAnd->tX,bitOr->LA
open PySem.Builtin.Frozenset renaming updateFrom->fK,isAnySet->oJ,sizeOf->pb,newClass->LY
open PySem.Builtin.List renaming listLengthHint->gr,listExtendWith->gu,listFitsIndex->j8,listSameRef->kz
open PySem.Builtin.Slice renaming slicePlaces->ie,sliceAdjust->kg,sliceApplied->pR
open PySem.Builtin.SmallTypes renaming nextOf->cJ,ownedTupleIsFree->gR,ownedTupleHandOut->qB
open PySem.Builtin.Str renaming occurrences->eJ
open PySem.Builtin.Tuple renaming tupleHashOf->dU,tupleExact->iD,tupleItemsOf->jU,tupleIsExact->pQ
open PySem.Calls renaming spliced_nil->jD,call_function_entry->lG,Name_function_global->vE,callWith_builtin->zd,spliced_cons->Ft
open PySem.Challenge renaming rw_dots_k60_steps->mU
open PySem.Env renaming kindOf->nC
open PySem.F renaming slot_tuple_iterator_next->fH,slot_tuple_hash->fT,plain_list_iadd->ji,entry_set_init->jx,slot_zip_next->jH,sub_list_frozenset->kC,called_set->kD,slot_list_append->lD,args_tuple_add_2->lF,plainAttrs_list->lQ,entry_tuple_add->lR,slot_tuple_add->mH,slot_tuple_eq->mY,sub_list_set->nB,args_tuple_iterator_next_1->o9,entry_tuple_iterator_next->pI,plain_proto_collect->sY,entry_proto_collect->sZ,slot_dict_getitem->vo,plain_extend_loop->vp,type_list_append->vC,slot_list_insert->vD,entry_list_iadd->vS,args_zip_next_1->vT,typeCall_set_1->xu,plainAttrs_str->xv,entry_zip_next->xw,slot_tuple_lt->yN,slot_set_iter->yO
open PySem.Heap renaming get?_push_size->aL,SameBut->cA,size_push->cX,get?_update_self->iy,get?_update_other->jG,get?_none_of_le->oN,ExtBut->Dh,get?_update_ne->Fq
open PySem.Heap.SameBut renaming update->mT,refl->xt
open PySem.ItemsOf renaming nil->O9
open PySem.NameKind renaming free->dR,cell->lr
open PySem.Obj renaming mapSeq->eM,data_mapFields->HA
open PySem.Paired renaming length->o8
open PySem.ScopeKind renaming function->zc
open PySem.SeqAt renaming EqAt->mX,RcAt->vz
open PySem.SeqAt.EqAt renaming str_int->yL,int_str->yM
open PySem.SetTable renaming below->aD,Probe->bA,insertAt->cM,grown->cV,bits->du,runEnd->dz,sizeAbove->dB,advance->dH,toList_insertAt->eF,leap->gQ,turns->iw,slot->lj,laid->lp,fits->lq,fill->oI,layClean->pH,has->vR,tooFull->Dg,relaid->Fo,Met->Lz
open PySem.SetTable.below renaming go->kc
open PySem.SetTable.layClean renaming free->cZ
open PySem.SetTable.probe renaming go->bK
open PySem.Shared renaming TypeIs->o7
open PySem.Str renaming ofString->aa
open PySem.Txt renaming slice->iZ,upper->qM,join->sL,slice_le->zb
open PySem.Unicode renaming upperOf->sJ
open PySem.Value renaming ref->bE,none->c9,type->eX,bool->pP,str->Hy,int->Hz,isStrOf->O8
open PySem.Value.type renaming inj->mS
open PySem.W renaming Frag->aN,kia_one->fF,keepIn->fS,OpenLaw->ja,nsIn->mG,methodObj->pN,fnOf->pO,codeIn->tW,WalkO->vy,cellsFrom_some->xr,kas_desc->Bz,kitx_dict->De,mg_of->Ly
open PySem.pickOrder renaming go->vw
open Sum renaming inr->eC,inl->jv
open Sum.inl renaming inj->nA,injEq->vv
open Sum.inr renaming inj->rS,injEq->vt
open True renaming intro->ju
set_option Elab.async false
set_option compiler.extract_closed false
set_option linter.all false
set_option maxRecDepth 100000
set_option maxHeartbeats 4000000
def cU{α β:Type _}{x:Option α}{f:α->Option β}{b:β}(h:x.bind f=a_ b):∃a,x=a_ a/\f a=a_ b:=xx.mp h
def dX{α β:Type _}{x:Option α}{f:α->β}{b:β}(h:x.map f=a_ b):∃a,x=a_ a/\f a=b:=yQ.mp h
open PySem PySem.Spec in def wb9:=@wpAny_bind
open PySem PySem.Spec in def wu9:=@wpAny_pure
open PySem in def hp9:=@Heap.get?_push_of_some
open PySem in def hl9:=@Heap.lt_size
def hJ{α:Type _}{a:α}{l:List α}:a∈a::l:=List.mem_cons_self
def ib{α:Type _}(y:α){a:α}{l:List α}(h:a∈l):a∈y::l:=List.mem_cons_of_mem y h
namespace L2
open PySem PySem.Spec PyProof.Rows
abbrev Key:=Sum Int aV
noncomputable def oU:Key->ab->Bool
 |.inl k,v=>Value.isInt k v
 |.inr x,v=>O8 x v
noncomputable def Yi(w:bo):Key->Int
 |.inl k=>hashInt k
 |.inr x=>hashStr w x
def cx:∀{k:Key}{v:ab},oU k v=c_->(∃i t,k=jv i/\v=Hz i t)\/(∃x t,k=eC x/\v=Hy x t)
 |.inl i,v,h=>by
   obtain⟨t,e⟩:=Value.isInt_shape (k:=i) (v:=v) h;exact .inl ⟨i,t,rfl,e⟩
 |.inr x,v,h=>by
   obtain⟨t,e⟩:=Value.isStrOf_shape (x:=x) (v:=v) h;exact .inr ⟨x,t,rfl,e⟩
def wy(i:Int)(t:vQ):oU (.inl i) (.int i t)=c_:=by simp[oU,Value.isInt]
def rn(x:aV)(t:vQ):oU (.inr x) (.str x t)=c_:=by simp[oU,O8]
def Sz(a b:Int):decide ((jv a:Key)=jv b)=(a == b):=by
 by_cases e:a=b
 ·subst e;simp
 ·have h:¬(jv a:Key)=jv b:=λq=>e (nA q);rw[decide_eq_false h];exact(beq_eq_false_iff_ne.mpr e).symm
def Sv(a b:aV):decide ((eC a:Key)=eC b)=decide (a=b):=by
 by_cases e:a=b
 ·subst e;simp
 ·have h:¬(eC a:Key)=eC b:=λq=>e (rS q);rw[decide_eq_false h,decide_eq_false e]
def Sy(a:Int)(b:aV):decide ((jv a:Key)=eC b)=d_:=decide_eq_false (λq=>nomatch q)
def Sw(a:aV)(b:Int):decide ((eC a:Key)=jv b)=d_:=decide_eq_false (λq=>nomatch q)
noncomputable def bT(prog:aP)(w:bo):lP prog w Key where
 is:=oU
 hash:=Yi w
 inj:=λv a b ha hb=>by
  rcases cx ha with⟨i,t,rfl,rfl⟩|⟨x,t,rfl,rfl⟩
  ·rcases cx hb with⟨j,u,rfl,e⟩|⟨y,u,rfl,e⟩
   ·injection e with e1 _;rw[e1]
   ·exact nomatch e
  ·rcases cx hb with⟨j,u,rfl,e⟩|⟨y,u,rfl,e⟩
   ·exact nomatch e
   ·injection e with e1 _;rw[e1]
 byValue:=λk v h=>by
  rcases cx h with⟨i,t,rfl,rfl⟩|⟨x,t,rfl,rfl⟩<;>rfl
 pyHash:=λhv h=>by
  rcases cx hv with⟨i,t,rfl,rfl⟩|⟨x,t,rfl,rfl⟩
  ·exact wpAny_pyHash_int h
  ·exact wpAny_pyHash_str h
 eqBool:=λhu hv h=>by
  rcases cx hu with⟨i,t,rfl,rfl⟩|⟨x,t,rfl,rfl⟩
  ·rcases cx hv with⟨j,u,rfl,rfl⟩|⟨y,u,rfl,rfl⟩
   ·rw[Sz]at h;exact wpAny_eqBool_int h
   ·rw[Sy]at h;exact yM i t y u _ _ _ _ h
  ·rcases cx hv with⟨j,u,rfl,rfl⟩|⟨y,u,rfl,rfl⟩
   ·rw[Sw]at h;exact yL x t j u _ _ _ _ h
   ·rw[Sv]at h;exact wpAny_eqBool_str h
 «strs» :=λk x t v h=>by
  rcases cx h with⟨i,u,rfl,e⟩|⟨y,u,rfl,e⟩
  ·exact nomatch e
  ·injection e with e1 _
   subst e1;cases v<;>rfl
def zZ(prog:aP)(w:bo)(i:Int)(t:vQ):(bT prog w).is (.inl i) (.int i t)=c_:=wy i t
def zY(prog:aP)(w:bo)(x:aV)(t:vQ):(bT prog w).is (.inr x) (.str x t)=c_:=rn x t
def OZ(h h':bH):Prop:=∀b o,h.get? b=a_ o->o.cls=.type "tuple"->(∃its n,o.data=.seq its n)->h'.get? b=a_ o
structure Ik(P:aP)(w:bo) where
 κ:Type
 d:Nat
 is:bH->κ->ab->Prop
 hash:κ->Int
 draw:κ->Nat
 inj:∀{h:bH}{x y:κ}{v:ab},is h x v->is h y v->x=y
 m9:∀{h h':bH}{k:κ}{v:ab},OZ h h'->is h k v->is h' k v
 hsh:∀{A:br}{E:ab->ae->Prop}{s:ae}{k:κ}{v:ab}{Q:Int->ae->Prop},A.units+d<=cg->is s.heap k v->Q (hash k) { s with toks:=s.toks+draw k }->au (aB P w) A (pyHash v) Q E s
 eqb:∀{A:br}{E:ab->ae->Prop}{s:ae}{x y:κ}{u v:ab}{Q:Bool->ae->Prop},A.units+d<=cg->is s.heap x u->is s.heap y v->(x=y->Q c_ s)->(x≠y->Q d_ s)->au (aB P w) A (eqBool u v) Q E s
 qui:∀{A:br}{E:ab->ae->Prop}{s:ae}{k:κ}{v:ab}{Q:Bool->ae->Prop}{n:Nat},d<=n->is s.heap k v->Q c_ s->au (aB P w) A (eqIsQuiet n v) Q E s
 cla:∀{A:br}{E:ab->ae->Prop}{s:ae}{k:κ}{v:ab}{Q:Bool->ae->Prop}{n:Nat},d<=n->is s.heap k v->Q d_ s->au (aB P w) A (ofAClassStatement n v) Q E s
 hbv:∀{A:br}{E:ab->ae->Prop}{s:ae}{k:κ}{v:ab}{Q:Bool->ae->Prop}{n:Nat},d<=n->is s.heap k v->(∀b,Q b s)->au (aB P w) A (hashByValue n v) Q E s
section
variable{P:aP}{w:bo}{A:br}{E:ab->ae->Prop}{z0:ae}{I:Ik P w}
def K5{n:Nat}{v:ab}{Q:Bool->ae->Prop}(hv:carriedByValue v=c_)(h:Q d_ z0):au (aB P w) A (ofAClassStatement n v) Q E z0:=by
 cases v<;>first|(cases hv;done)|(unfold ofAClassStatement;exact wu9 h)|(cases n<;>(unfold ofAClassStatement;exact wu9 h))
def Ta{n:Nat}{v:ab}{Q:Bool->ae->Prop}(hv:carriedByValue v=c_)(h:∀b,Q b z0):au (aB P w) A (hashByValue n v) Q E z0:=by
 cases v<;>first|(cases hv;done)|(unfold hashByValue;exact wu9 (h _))|(cases n<;>(unfold hashByValue;exact wu9 (h _)))
noncomputable abbrev Ct(P:aP)(w:bo):Ik P w where
 κ:=Key
 d:=0
 is:=λ_ k v=>(bT P w).is k v=c_
 hash:=(bT P w).hash
 draw:=λ_=>1
 inj:=λex ey=>(bT P w).inj _ _ _ ex ey
 m9:=λ_ x=>x
 hsh:=λ_ gk h=>(bT P w).pyHash gk h
 eqb:=λ{A E s x y u v Q}_ ex ey h1 h2=>(bT P w).eqBool ex ey (by
  by_cases e:x=y
  ·rw[decide_eq_true e];exact h1 e
  ·rw[decide_eq_false e];exact h2 e)
 qui:=λ_ gk h=>by rw[eqIsQuiet_byValue _ ((bT P w).byValue _ _ gk)];exact wu9 h
 cla:=λ_ gk h=>K5 ((bT P w).byValue _ _ gk) h
 hbv:=λ_ gk h=>Ta ((bT P w).byValue _ _ gk) h
inductive qH (I:Ik P w) (h:bH):List I.κ->List ab->Prop
 |nil:qH I h [] []
 |cons {k:I.κ} {v:ab} {ks:List I.κ} {vs:List ab}:I.is h k v->qH I h ks vs->qH I h (k::ks) (v::vs)
def qI(I:Ik P w)(h:bH)(ks:List I.κ)(p:ai):Prop:=∃o its0 n,h.get? p=a_ o/\o.cls=.type "tuple"/\o.data=.seq its0 n/\qH I h ks its0.toList
theorem qH.inj{h:bH}{x y:List I.κ}{vs:List ab}(ex:qH I h x vs)(ey:qH I h y vs):x=y:=by
 induction ex generalizing y with
 |nil=>cases ey;rfl
 |cons h1 _ ih=>
   cases ey with
   |cons h2 t2=>rw[I.inj h1 h2,ih t2]
theorem qH.length{h:bH}{ks:List I.κ}{vs:List ab}(x:qH I h ks vs):vs.length=ks.length:=by
 induction x with
 |nil=>rfl
 |cons _ _ ih=>simp[ih]
theorem qH.m9{h h':bH}{ks:List I.κ}{vs:List ab}(k:OZ h h')(x:qH I h ks vs):qH I h' ks vs:=by
 induction x with
 |nil=>exact .nil
 |cons h1 _ ih=>exact .cons (I.m9 k h1) ih
def qI.typeIs{ks:List I.κ}{p:ai}(x:qI I z0.heap ks p):z0.TypeIs (.ref p) "tuple":=let ⟨o,_,_,go,gc,_⟩:=x;⟨o,go,gc⟩
def qI.inj{h:bH}{p:ai}{x y:List I.κ}(ex:qI I h x p)(ey:qI I h y p):x=y:=by
 obtain⟨o,its0,n,go,_,gd,gi⟩:=ex;obtain⟨o',items',n',ho',_,hd',hi'⟩:=ey;obtain rfl:o=o':=aS (go.symm.trans ho');rw[gd]at hd'
 injection hd' with h1 _
 subst h1;exact gi.inj hi'
def qI.m9{h h':bH}{ks:List I.κ}{p:ai}(k:OZ h h')(x:qI I h ks p):qI I h' ks p:=
 let ⟨o,its,n,h1,h2,h3,h4⟩:=x;⟨o,its,n,k p o h1 h2 ⟨_,_,h3⟩,h2,h3,h4.m9 k⟩
def WT{h h':bH}{d:ai}{o:fe}(go:h.get? d=a_ o)(gc:o.cls≠.type "tuple")(k:∀b o,b≠d->h.get? b=a_ o->h'.get? b=a_ o):OZ h h':=λb o' e c _=>
 k b o' (λz=>by
   subst z;obtain rfl:o'=o:=aS (e.symm.trans go)
   exact gc c) e
def EC(I:Ik P w)(ks:List I.κ):Int:=reduceHash (dU (ks.map I.hash))
def CC{ks:List I.κ}{p:ai}{Q:Int->ae->Prop}(i_:A.units+(I.d+1)<=cg)(gk:qI I z0.heap ks p)(h:Q (EC I ks) { z0 with toks:=z0.toks+((ks.map I.draw).sum+1) }) :
  au (aB P w) A (pyHash (.ref p)) Q E z0:=by
 have gt:=gk.typeIs;obtain⟨o,its0,n,go,_,gd,gi⟩:=gk;unfold pyHash
 first|unfold pyHashByItsType|skip
 first|refine wb9 (wpAny_cRoomFor_or (.inr (by omega)) ?_)|skip
 refine wb9 (jF gt fT.lookup ?_);show au _ _ (if(a_ (Value.builtin "tuple.__hash__") == a_ c9)=c_ then _ else _) Q E z0;rw[if_neg (by rw[beq_builtin_none];exact bh)];refine wb9 (jF gt fT.lookup ?_);show au _ _ (callSpecialIfBoundUnlessNone? (.ref p) "__hash__" _ >>= _) Q E z0;refine wb9 (wpAny_callSpecialIfBoundUnlessNone?_slot gt fT (bW fT gt PySem.F.entry_tuple_hash ?_ (PySem.F.args_tuple_hash_1 _)));show au _ _ (jU (.ref p) >>= _) _ _ z0;refine wb9 (jJ go gd ?_);refine wb9 ?_;rw[<-k7]
 refine hV _
  (λtl(b:Array Int)z1=>∃pre suf,ks=pre++suf/\qH I z0.heap suf tl/\b.toList=pre.map I.hash/\z1={ z0 with toks:=z0.toks+(pre.map I.draw).sum })
  _ ?_ ?_ _ _ ⟨[],ks,rfl,gi,rfl,rfl⟩
 ·rintro x tl b z1 ⟨pre,suf,rfl,gl,gb,rfl⟩
  cases gl with
  | @cons k _ ks' _ h1 gl'=>
    refine wb9 (I.hsh (s:={ z0 with toks:=z0.toks+(pre.map I.draw).sum }) ?_ h1 ?_)
    ·show A.units+1+I.d<=cg;omega
    first
     |exact wu9 ⟨pre++[k],ks',by simp,gl',by simp[gb],by simp[qD]⟩
     |exact wb9 (wu9 (wu9 ⟨pre++[k],ks',by simp,gl',by simp[gb],by simp[qD]⟩))
 ·rintro b z1 ⟨pre,suf,rfl,gl,gb,rfl⟩;cases gl;rw[aX]at h;show au _ _ (retInt (dU b.toList)) _ _ _;rw[gb];refine wpAny_ret_mkInt ?_;show au _ _ (if(decide (-(2:Int) ^ 63<=dU (pre.map I.hash)) && decide (dU (pre.map I.hash)<2 ^ 63))=c_ then _ else _) Q E _;unfold EC reduceHash at h;by_cases ge:(decide (-(2:Int) ^ 63<=dU (pre.map I.hash)) && decide (dU (pre.map I.hash)<2 ^ 63))=c_
  ·rw[if_pos ge];rw[if_pos ge]at h;exact wu9 (by simpa [qD]using h)
  ·rw[if_neg ge];rw[if_neg ge]at h;exact wb9 (iB (wu9 (by simpa [qD]using h)))
def KP{x y:List I.κ}{p b:ai}{R:Fin->ae->Prop}(i_:A.units+I.d<=cg)(ex:qI I z0.heap x p)(ey:qI I z0.heap y b)(h1:x=y->R (.done (.ret (.bool c_))) z0)(h2:x≠y->R (.done (.ret (.bool d_))) z0) :
  au (aB P w) A (fO.«tuple.__eq__» ⟨[.ref p,.ref b],[]⟩) R E z0:=by
 have gtb:=ey.typeIs;obtain⟨oa,xs,na,goa,_,gda,gia⟩:=ex;obtain⟨ob,ys,nb,gob,_,gdb,gib⟩:=ey;show au _ _ (isInstance (.ref b) (.type "tuple") >>= _) _ _ z0;refine wb9 (eU gtb pM ?_);simp only[if_false,aG,dh];refine wb9 (jJ goa gda ?_);refine wb9 (jJ gob gdb ?_);refine wb9 ?_
 refine hV _
  (λtl r z1=>r.1=b_/\z1=z0/\∃x' y' xs' ys',tl=List.zip xs' ys'/\qH I z0.heap x' xs'/\qH I z0.heap y' ys'/\(x'=y'↔x=y)/\(xs'.length == ys'.length)=(xs.size == ys.size))
  _ ?_ ?_ _ _ ⟨rfl,rfl,x,y,xs.toList,ys.toList,rfl,gia,gib,Iff.rfl,by simp⟩
 ·rintro⟨u,v⟩ tl r z1 ⟨ge,rfl,x',y',xs',ys',gz,hx',hy',gdec,glen⟩
  cases hx' with
  |nil=>simp at gz
  | @cons k1 u' x'' xs'' q1 hx''=>
    cases hy' with
    |nil=>simp at gz
    | @cons k2 v' y'' ys'' q2 hy''=>
      simp only[lH,dw,fA]at gz;obtain⟨⟨rfl,rfl⟩,rfl⟩:=gz;refine wb9 (I.eqb i_ q1 q2 (λgk=>?_) λgk=>?_)
      ·subst gk;simp only[if_false,aG,dh];refine wu9 ⟨rfl,rfl,x'',y'',xs'',ys'',rfl,hx'',hy'',?_,by simpa using glen⟩;rw[<-gdec];exact⟨λe=>by rw[e],λe=>(fI e).2⟩
      ·simp only[iQ,if_true];exact wb9 (wu9 (wu9 (wu9 (h2 λe=>gk (fI (gdec.mpr e)).1))))
 ·rintro⟨r1,r2⟩ z1 ⟨ge,rfl,x',y',xs',ys',gz,hx',hy',gdec,glen⟩;simp only at ge;subst ge;refine wu9 ?_;show R (.done (.ret (.bool (xs.size == ys.size)))) z1;rw[<-glen]
  cases hx' with
  |nil=>
    cases hy' with
    |nil=>exact h1 (gdec.mp rfl)
    |cons _ _=>exact h2 λe=>nomatch gdec.mpr e
  |cons _ _=>
    cases hy' with
    |nil=>exact h2 λe=>nomatch gdec.mpr e
    |cons _ _=>simp at gz
def Wz{x y:List I.κ}{p b:ai}{Q:Bool->ae->Prop}(i_:A.units+(I.d+1)<=cg)(ex:qI I z0.heap x p)(ey:qI I z0.heap y b)(h1:x=y->Q c_ z0)(h2:x≠y->Q d_ z0) :
  au (aB P w) A (eqBool (.ref p) (.ref b)) Q E z0:=by
 unfold eqBool
 try with_reducible refine bZ ?_
 show au _ _ (if(bE p == bE b)=c_ then _ else _) Q E z0;by_cases fab:(bE p == bE b)=c_
 ·rw[if_pos fab];have e:p=b:=by have:=eq_of_beq fab;injection this
  subst e;obtain rfl:=ex.inj ey;exact wb9 (iB (wu9 (h1 rfl)))
 ·rw[if_neg fab]
  exact wb9 (Bl (op:=.Eq) ex.typeIs ey.typeIs mY
   (bW mY ex.typeIs PySem.F.entry_tuple_eq (KP (by show A.units+1+I.d<=cg;omega) ex ey (λe=>⟨_,rfl,(λe=>nomatch e),dG (h1 e)⟩) λe=>⟨_,rfl,(λe=>nomatch e),dG (h2 e)⟩) (PySem.F.args_tuple_eq_2 _ _)) (by omega))
def tF{n:Nat}{ks:List I.κ}{p:ai}{Q:Bool->ae->Prop}(hn:I.d<=n)(gk:qI I z0.heap ks p)(h:Q c_ z0):au (aB P w) A (eqIsQuiet (n+1) (.ref p)) Q E z0:=by
 have gt:=gk.typeIs;obtain⟨o,its0,m,go,_,gd,gi⟩:=gk;unfold eqIsQuiet;refine wb9 (jF gt mY.lookup ?_);show au _ _ (isInstance (.ref p) (.type "tuple") >>= _) _ _ z0;refine wb9 (eU gt pM ?_);simp only[if_false,aG,dh];refine wb9 (dq go gd ?_);refine wb9 ?_;show au _ _ (forIn its0 _ _) _ _ z0;rw[<-k7];refine hV _ (λtl r z1=>r.1=b_/\z1=z0/\∃l,qH I z0.heap l tl) _ ?_ ?_ _ _ ⟨rfl,rfl,_,gi⟩
 ·rintro v tl r z1 ⟨ge,rfl,l,gl⟩
  cases gl with
  | @cons k _ ks' _ h1 gl'=>
    refine wb9 (I.qui hn h1 ?_);simp only[if_false,aG,dh];exact wu9 ⟨rfl,rfl,ks',gl'⟩
 ·rintro⟨r1,r2⟩ z1 ⟨ge,rfl,_⟩;simp only at ge;subst ge;exact wu9 h
def yx{n:Nat}{ks:List I.κ}{p:ai}{Q:Bool->ae->Prop}(hn:I.d<=n)(gk:qI I z0.heap ks p)(h:Q d_ z0):au (aB P w) A (ofAClassStatement (n+1) (.ref p)) Q E z0:=by
 obtain⟨o,its0,m,go,gc,gd,gi⟩:=gk;unfold ofAClassStatement;refine wb9 (wpAny_typeOf_ref go ?_);rw[gc];dsimp only;refine wb9 (wu9 ?_);simp only[if_false,aG,dh];refine wb9 (dq go gd ?_);refine wb9 ?_;show au _ _ (forIn its0 _ _) _ _ z0;rw[<-k7];refine hV _ (λtl r z1=>r.1=b_/\z1=z0/\∃l,qH I z0.heap l tl) _ ?_ ?_ _ _ ⟨rfl,rfl,_,gi⟩
 ·rintro v tl r z1 ⟨ge,rfl,l,gl⟩
  cases gl with
  | @cons k _ ks' _ h1 gl'=>
    refine wb9 (I.cla hn h1 ?_);simp only[if_false,aG];exact wu9 ⟨rfl,rfl,ks',gl'⟩
 ·rintro⟨r1,r2⟩ z1 ⟨ge,rfl,_⟩;simp only at ge;subst ge;exact wu9 h
def PR{n:Nat}{ks:List I.κ}{p:ai}{Q:Bool->ae->Prop}(hn:I.d<=n)(gk:qI I z0.heap ks p)(h:∀b,Q b z0):au (aB P w) A (hashByValue (n+1) (.ref p)) Q E z0:=by
 have gt:=gk.typeIs;obtain⟨o,its0,m,go,gc,gd,gi⟩:=gk;unfold hashByValue;refine wb9 (jF gt fT.lookup ?_);dsimp only;refine wb9 (dq go gd ?_);refine wb9 ?_;show au _ _ (forIn its0 _ _) _ _ z0;rw[<-k7];refine hV _ (λtl r z1=>r.1=b_/\z1=z0/\∃l,qH I z0.heap l tl) _ ?_ ?_ _ _ ⟨rfl,rfl,_,gi⟩
 ·rintro v tl r z1 ⟨ge,rfl,l,gl⟩
  cases gl with
  | @cons k _ ks' _ h1 gl'=>
    refine wb9 (I.hbv hn h1 λb=>?_);cases b
    ·exact wu9 (wu9 (h _))
    ·exact wu9 ⟨rfl,rfl,ks',gl'⟩
 ·rintro⟨r1,r2⟩ z1 ⟨ge,rfl,_⟩;simp only at ge;subst ge;exact wu9 (h _)
noncomputable abbrev tupI(I:Ik P w):Ik P w where
 κ:=Sum Key (List I.κ)
 d:=I.d+1
 is:=λh k v=>match k with
  |.inl k=>(bT P w).is k v=c_
  |.inr ks=>∃b,v=.ref b/\qI I h ks b
 hash:=λk=>match k with
  |.inl k=>(bT P w).hash k
  |.inr ks=>EC I ks
 draw:=λk=>match k with
  |.inl _=>1
  |.inr ks=>(ks.map I.draw).sum+1
 inj:=λ{h x y v}ex ey=>by
  cases x with
  |inl k=>
    cases y with
    |inl k'=>exact congrArg _ ((bT P w).inj _ _ _ ex ey)
    |inr ks=>obtain⟨b,rfl,_⟩:=ey;exact nomatch ((bT P w).byValue _ _ ex)
  |inr ks=>
    obtain⟨b,rfl,q⟩:=ex
    cases y with
    |inl k'=>exact nomatch ((bT P w).byValue _ _ ey)
    |inr ks'=>obtain⟨b',e,q'⟩:=ey;cases e;exact congrArg _ (q.inj q')
 m9:=λ{h h' k v}q x=>by
  cases k with
  |inl k=>exact x
  |inr ks=>obtain⟨b,e,z⟩:=x;exact⟨b,e,z.m9 q⟩
 hsh:=λ{A E s k v Q}i_ gk h=>by
  cases k with
  |inl k=>exact(bT P w).pyHash gk h
  |inr ks=>obtain⟨b,rfl,z⟩:=gk;exact CC i_ z h
 eqb:=λ{A E s x y u v Q}i_ ex ey h1 h2=>by
  cases x with
  |inl k=>
    cases y with
    |inl k'=>exact(Ct P w).eqb (by show A.units+0<=cg;omega) ex ey (λe=>h1 (by rw[e])) λe=>h2 λz=>e (nA z)
    |inr ks=>
      obtain⟨b,rfl,o,its,n,go,gc,gd,_⟩:=ey;have ht:s.heap.IsTuple b its:=⟨o,go,gc,n,gd⟩
      rcases cx ex with⟨i,t,rfl,rfl⟩|⟨z,t,rfl,rfl⟩
      ·exact SeqAt.EqAt.int_tuple i t ht (by omega) _ _ _ _ (h2 λe=>nomatch e)
      ·exact SeqAt.EqAt.str_tuple z t ht (by omega) _ _ _ _ (h2 λe=>nomatch e)
  |inr ks=>
    obtain⟨b,rfl,q⟩:=ex
    cases y with
    |inl k'=>
      obtain⟨o,its,n,go,gc,gd,_⟩:=q;have ht:s.heap.IsTuple b its:=⟨o,go,gc,n,gd⟩
      rcases cx ey with⟨i,t,rfl,rfl⟩|⟨z,t,rfl,rfl⟩
      ·exact SeqAt.EqAt.tuple_int i t ht (by omega) _ _ _ _ (h2 λe=>nomatch e)
      ·exact SeqAt.EqAt.tuple_str z t ht (by omega) _ _ _ _ (h2 λe=>nomatch e)
    |inr ks'=>
      obtain⟨b',rfl,q'⟩:=ey;exact Wz i_ q q' (λe=>h1 (by rw[e])) λe=>h2 λz=>e (rS z)
 qui:=λ{A E s k v Q n}hn gk h=>by
  cases k with
  |inl k=>exact(Ct P w).qui (bY _) gk h
  |inr ks=>
    obtain⟨b,rfl,z⟩:=gk
    cases n with
    |zero=>omega
    |succ n=>exact tF (by omega) z h
 cla:=λ{A E s k v Q n}hn gk h=>by
  cases k with
  |inl k=>exact(Ct P w).cla (bY _) gk h
  |inr ks=>
    obtain⟨b,rfl,z⟩:=gk
    cases n with
    |zero=>omega
    |succ n=>exact yx (by omega) z h
 hbv:=λ{A E s k v Q n}hn gk h=>by
  cases k with
  |inl k=>exact(Ct P w).hbv (bY _) gk h
  |inr ks=>
    obtain⟨b,rfl,z⟩:=gk
    cases n with
    |zero=>omega
    |succ n=>exact PR (by omega) z h
end
abbrev N2:=Sum Key (List Key)
abbrev NK:=Sum Key (List N2)
instance Zj:DecidableEq N2:=instDecidableEqSum
instance Zi:DecidableEq NK:=instDecidableEqSum
abbrev i2(P:aP)(w:bo):Ik P w:=tupI (Ct P w)
abbrev i3(P:aP)(w:bo):Ik P w:=tupI (i2 P w)
abbrev Yc(P:aP)(w:bo):bH->NK->ab->Prop:=(i3 P w).is
abbrev UD(P:aP)(w:bo):bH->List NK->List ab->Prop:=qH (i3 P w)
abbrev pL(P:aP)(w:bo):bH->List NK->ai->Prop:=qI (i3 P w)
abbrev dD(P:aP)(w:bo):List NK->Int:=EC (i3 P w)
section
variable{P:aP}{w:bo}{A:br}{E:ab->ae->Prop}{z0:ae}
def FE:(i3 P w).d<=7:=by show 2<=7;omega
def Wy{x y:List NK}{p b:ai}{Q:Bool->ae->Prop}(i_:A.units+3<=cg)(ex:pL P w z0.heap x p)(ey:pL P w z0.heap y b)(h:Q (decide (x=y)) z0) :
  au (aB P w) A (eqBool (.ref p) (.ref b)) Q E z0:=
 Wz i_ ex ey (λe=>by rw[decide_eq_true e]at h;exact h) λe=>by rw[decide_eq_false e]at h;exact h
end
noncomputable def so(P:aP)(w:bo):HeapKind P w (List NK) where
 is:=pL P w
 hash:=dD P w
 draws:=λks=>(ks.map (i3 P w).draw).sum+1
 room:=λA=>A.units+3<=cg
 inj:=λex ey=>ex.inj ey
 keeps:=λ{h h' k a d o es ep}x go gd es0=>x.m9 λb o' e _ ⟨i1,n1,q⟩=>(es0.2 b λz=>by
  subst z;rw[go]at e;cases e
  rw[gd]at q;cases q).trans e
 pyHash:=λi_ gk h=>CC i_ gk h
 eqBool:=λi_ ex ey h=>Wy i_ ex ey h
 quiet:=λgk h=>tF FE gk h
inductive V where
 |non|bl (b:Bool)|int (i:Int)|str (x:aV)|byt (b:Array UInt8)|flt (b:UInt64)|ref (a:ai)|ty (n:String)
 deriving DecidableEq
noncomputable def RelV:V->ab->Prop
 |.non,u=>u=c9
 |.bl b,u=>u=pP b
 |.int i,u=>∃t,u=Hz i t
 |.str x,u=>∃t,u=Hy x t
 |.byt b,u=>∃t,u=Value.bytes b t
 |.flt b,u=>∃t,u=Value.float b t
 |.ref a,u=>u=bE a
 |.ty n,u=>u=eX n
abbrev cD:List V->List ab->Prop:=gp RelV
def cD.length{xs:List V}{us:List ab}(r:cD xs us):xs.length=us.length:=o8 r
theorem cD.get:∀{xs:List V}{us:List ab}{i:Nat}{x:V},cD xs us->xs[i]?=a_ x->∃u,us[i]?=a_ u/\RelV x u
 |_,_,_,_,.nil,e=>by simp at e
 |_,_,0,_,.cons r _,e=>by simp at e;subst e;exact⟨_,rfl,r⟩
 |_,_,i+1,x,.cons _ t,e=>by
   obtain⟨u,h1,h2⟩:=cD.get (i:=i) (x:=x) t (by simpa using e);exact⟨u,by simpa using h1,h2⟩
theorem cD.set{x:V}{u:ab}(r:RelV x u):∀{xs:List V}{us:List ab}(i:Nat),cD xs us->cD (xs.set i x) (us.set i u)
 |_,_,_,.nil=>.nil
 |_,_,0,.cons _ t=>.cons r t
 |_,_,i+1,.cons q t=>.cons q (cD.set r i t)
theorem cD.append:∀{xs ys:List V}{us ws:List ab},cD xs us->cD ys ws->cD (xs++ys) (us++ws)
 |_,_,_,_,.nil,s=>s
 |_,_,_,_,.cons r t,s=>.cons r (cD.append t s)
theorem cD.take:∀{xs:List V}{us:List ab}(n:Nat),cD xs us->cD (xs.take n) (us.take n)
 |_,_,0,_=>.nil
 |_,_,_+1,.nil=>.nil
 |_,_,n+1,.cons r t=>.cons r (cD.take n t)
theorem cD.drop:∀{xs:List V}{us:List ab}(n:Nat),cD xs us->cD (xs.drop n) (us.drop n)
 |_,_,0,r=>r
 |_,_,_+1,.nil=>.nil
 |_,_,n+1,.cons _ t=>cD.drop n t
noncomputable def vO:Option V->Option ab->Prop
 |some v,a_ u=>RelV v u
 |none,b_=>True
 |_,_=>False
def KV{κ:Type}:List (κ×V)->List (κ×ab)->Prop:=gp λ(p:κ×V)(q:κ×ab)=>p.1=q.1/\RelV p.2 q.2
noncomputable def kV:Key->V
 |.inl i=>.int i
 |.inr x=>.str x
inductive HO where
 |lst (xs:List V)
 |tup (xs:List V)
 |dK (k_:List (Key×V))|dT (k_:List (List Key×V))
 |dN (xs:List (List NK×ai))
 |set (S:Int->Bool) (n:Nat)
 |ins (C dx:ai) (fs:List (aV×V))
 |own (x:ai)
 |xd (fs:List (aV×V))
 |met (f x:ai)
 |rng (lo hi:Int)
 |ka (o:fe) (u:HO)
 |tbl (ps:Array ab)
 |ext (φ:bH->Prop)
abbrev Hp:=ai->Option HO
def upd(H:Hp)(a:ai)(o:HO):Hp:=λb=>if b=a then a_ o else H b
def cw{H:Hp}{a:ai}{o:HO}:upd H a o a=a_ o:=by unfold upd;rw[if_pos rfl]
def cH{H:Hp}{a b:ai}{o:HO}(h:b≠a):upd H a o b=H b:=by unfold upd;rw[if_neg h]
def VY{H:Hp}{a b:ai}{o u:HO}(h:H a=a_ o)(h':H b=a_ u)(d:o≠u):a≠b:=by
 intro e;subst e;rw[h]at h';exact d (aS h')
def dY{H:Hp}{a b:ai}{o:HO}(h:H a=a_ o)(h':H b=b_):a≠b:=by
 intro e;subst e;rw[h]at h';cases h'
section
variable(P:aP)(w:bo)
noncomputable def iT(H:Hp)(h:bH)(a:ai):HO->Prop
 |.lst xs=>xs.length<=aE/\∃(its:List ab) (n:Nat),cD xs its/\h.get? a=a_ { cls:=.type "list",data:=.seq its.toArray n }
 |.tup xs=>xs.length<=aE/\∃its:List ab,cD xs its/\L4 h a its.toArray
 |.dK k_=>k_.length<=aE/\(a == sysModules)=d_/\∃vs,KV k_ vs/\h.DictOf (bT P w) a vs
 | .dT k_=>k_.length<=aE/\(a == sysModules)=d_/\∃xs:List (List Key×ai×ab),
   gp (λ(p:List Key×V)(q:List Key×ai×ab)=>p.1=q.1/\H q.2.1=a_ (.tup (p.1.map kV))/\RelV p.2 q.2.2) k_ xs/\
   ∃o es ep,h.get? a=a_ o/\o.ExactDict/\o.data=.dict es ep/\es.toList=xs.map (entryOfKey (tupleKind (bT P w)))/\(xs.map (·.1)).Nodup
 |.dN xs=>xs.length<=aE/\(a == sysModules)=d_/\∃o es ep,h.get? a=a_ o/\o.ExactDict/\o.data=.dict es ep/\es.toList=xs.map (λx=>entryOfKey (so P w) (x.1,x.2,.bool c_))/\(xs.map (·.1)).Nodup
 |.set S n=>h.SetOf (intKind P w) a S n
 | .ins C dx fs=>H dx=a_ (.own a)/\fs.length<=1000/\dx≠a/\h.get? a=a_ (PySem.W.instObj C dx)/\
   ∃mA,h.Ns1 dx mA/\(∀f,vO (fs.lookup f) (mA f))/\PySem.Within mA (fs.map (·.1))
 |.own _=>∃o,h.get? a=a_ o
 |.xd fs=>∃mA,h.Ns1 a mA/\∀f,vO (fs.lookup f) (mA f)
 |.rng lo hi=>∃t u v,h.get? a=a_ { cls:=.type "range",data:=.fields #[.int lo t,.int hi u,.int 1 v] }
 |.ka o u=>h.get? a=a_ o/\iT H h a u
 |.tbl ps=>h.get? a=a_ { cls:=.none,data:=.fields ps }
 |.met f x=>h.get? a=a_ (pN (.ref f) (.ref x))
 |.ext φ=>φ h/\(∃o,h.get? a=a_ o)/\∀h1 h2:bH,φ h1->(∀o,h1.get? a=a_ o->h2.get? a=a_ o)->φ h2
def qz(H:Hp)(h:bH):Prop:=∀a o,H a=a_ o->iT P w H h a o
end
section
variable{P:aP}{w:bo}{H H':Hp}{h h':bH}{a:ai}{o:HO}
theorem iT.lt(x:iT P w H h a o):a<h.objs.size:=by
 cases o with
 |lst xs=>obtain⟨_,_,_,_,e⟩:=x;exact hl9 e
 |tup xs=>obtain⟨_,_,_,p⟩:=x;exact p.lt
 |dK k_=>obtain⟨_,_,_,_,o,_,_,e,_⟩:=x;exact hl9 e
 |dT k_=>obtain⟨_,_,_,_,o,_,_,e,_⟩:=x;exact hl9 e
 |dN xs=>obtain⟨_,_,o,_,_,e,_⟩:=x;exact hl9 e
 |set S n=>obtain⟨o,_,_,_,e,_⟩:=x;exact hl9 e
 |ins C dx fs=>obtain⟨_,_,_,e,_⟩:=x;exact hl9 e
 |own y=>obtain⟨_,e⟩:=x;exact hl9 e
 |xd fs=>obtain⟨_,⟨_,_,_,e,_⟩,_⟩:=x;exact hl9 e
 |rng lo hi=>obtain⟨_,_,_,e⟩:=x;exact hl9 e
 |ka ob u=>obtain⟨e,_⟩:=x;exact hl9 e
 |tbl ps=>exact hl9 (show h.get? a=a_ _ from x)
 |met f y=>exact hl9 (show h.get? a=a_ _ from x)
 |ext φ=>obtain⟨_,⟨_,e⟩,_⟩:=x;exact hl9 e
theorem Paired.Sf{α β:Type}{F G:α->β->Prop}:∀{l₁:List α}{l₂:List β},gp F l₁ l₂->(∀a b,F a b->G a b)->gp G l₁ l₂
 |_,_,.nil,_=>.nil
 |_,_,.cons r t,f=>.cons (f _ _ r) (Paired.Sf t f)
def iT.m9(x:iT P w H h a o)(k:∀b u,(b=a\/H b=a_ (.own a))->h.get? b=a_ u->h'.get? b=a_ u)
  (ho:∀b,H b=a_ (.own a)->H' b=a_ (.own a))(ht:∀b xs,H b=a_ (.tup xs)->H' b=a_ (.tup xs)):iT P w H' h' a o:=by
 induction o with
 |lst xs=>obtain⟨z,its,n,r,e⟩:=x;exact⟨z,its,n,r,k _ _ (.inl rfl) e⟩
 |tup xs=>obtain⟨z,its,r,ob,e,c⟩:=x;exact⟨z,its,r,ob,k _ _ (.inl rfl) e,c⟩
 |dK k_=>obtain⟨z,y,vs,r,ob,es,ep,e,c⟩:=x;exact⟨z,y,vs,r,ob,es,ep,k _ _ (.inl rfl) e,c⟩
 |dT k_=>
   obtain⟨z,y,xs,r,ob,es,ep,e,c⟩:=x;exact⟨z,y,xs,Paired.Sf r λp q z=>⟨z.1,ht _ _ z.2.1,z.2.2⟩,ob,es,ep,k _ _ (.inl rfl) e,c⟩
 |dN xs=>obtain⟨z,y,ob,es,ep,e,c⟩:=x;exact⟨z,y,ob,es,ep,k _ _ (.inl rfl) e,c⟩
 |set S n=>obtain⟨ob,es,ep,t,e,c⟩:=x;exact⟨ob,es,ep,t,k _ _ (.inl rfl) e,c⟩
 |ins C dx fs=>
   obtain⟨d,z,ne,e,mA,⟨od,es,ep,e2,c⟩,r⟩:=x;exact⟨ho _ d,z,ne,k _ _ (.inl rfl) e,mA,⟨od,es,ep,k _ _ (.inr d) e2,c⟩,r⟩
 |own y=>obtain⟨ob,e⟩:=x;exact⟨ob,k _ _ (.inl rfl) e⟩
 |xd fs=>obtain⟨mA,⟨od,es,ep,e,c⟩,r⟩:=x;exact⟨mA,⟨od,es,ep,k _ _ (.inl rfl) e,c⟩,r⟩
 |rng lo hi=>obtain⟨t,u,v,e⟩:=x;exact⟨t,u,v,k _ _ (.inl rfl) e⟩
 |ka ob u ih=>obtain⟨e,q⟩:=x;exact⟨k _ _ (.inl rfl) e,ih q⟩
 |tbl ps=>
   have e:h.get? a=a_ { cls:=.none,data:=.fields ps }:=x;show h'.get? a=a_ { cls:=.none,data:=.fields ps };exact k a _ (.inl rfl) e
 |met f y=>
   have e:h.get? a=a_ (pN (.ref f) (.ref y)):=x;show h'.get? a=a_ (pN (.ref f) (.ref y));exact k a _ (.inl rfl) e
 |ext φ=>obtain⟨p,⟨o,e⟩,st⟩:=x;exact⟨st _ _ p λo q=>k _ _ (.inl rfl) q,⟨o,k _ _ (.inl rfl) e⟩,st⟩
def qz.lt(x:qz P w H h)(e:H a=a_ o):a<h.objs.size:=(x a o e).lt
def qz.fresh(x:qz P w H h)(e:h.objs.size<=a):H a=b_:=by
 cases q:H a with
 |none=>rfl
 |some u=>exact absurd (bw (x.lt q) e) (bx _)
def qz.kept(x:qz P w H h)(k:∀b u,h.get? b=a_ u->h'.get? b=a_ u):qz P w H h':=λa o e=>
 (x a o e).m9 (λb u _ q=>k b u q) (λ_ q=>q) λ_ _ q=>q
def qz.laid(x:qz P w H h)(k:∀b u,h.get? b=a_ u->h'.get? b=a_ u)(hp:h.objs.size<=a)(new:iT P w (upd H a o) h' a o):qz P w (upd H a o) h':=λb u e=>by
 have hn:=x.fresh hp;by_cases hb:b=a
 ·subst hb;rw[cw]at e;cases e;exact new
 ·rw[cH hb]at e;exact(x b u e).m9 (λc v _ q=>k c v q) (λc q=>by rw[cH (dY q hn)];exact q) λc xs q=>by rw[cH (dY q hn)];exact q
end
def Rd(H:Hp)(a:ai)(u:HO):Prop:=H a=a_ u\/∃o,H a=a_ (.ka o u)
def Rd.ok{P:aP}{w:bo}{H:Hp}{h:bH}{a:ai}{u:HO}(r:Rd H a u)(x:qz P w H h):iT P w H h a u:=by
 rcases r with r|⟨o,r⟩
 ·exact x a u r
 ·obtain⟨_,q⟩:=x a _ r;exact q
noncomputable def U4:Option HO->Prop
 |some (.lst _)=>True
 |some (.dK _)=>True
 |some (.dT _)=>True
 |some (.dN _)=>True
 |some (.set _ _)=>True
 |some (.ins _ _ _)=>True
 |some (.ext _)=>True
 |_=>False
section
variable{P:aP}{w:bo}{H:Hp}{h h':bH}{x e:ai}{o':HO}
def qz.write(ok:qz P w H h)(mu:U4 (H x))(he:e=x\/H e=a_ (.own x))(k:∀b u,b≠e->h.get? b=a_ u->h'.get? b=a_ u)(heo:∃u,h'.get? e=a_ u)
  (new:iT P w (upd H x o') h' x o'):qz P w (upd H x o') h':=λb u q=>by
 have nown:∀c y,H c=a_ (.own y)->c≠x:=λc y r z=>by subst z;rw[r]at mu;exact mu
 have ntup:∀c xs,H c=a_ (.tup xs)->c≠x:=λc xs r z=>by subst z;rw[r]at mu;exact mu
 by_cases hb:b=x
 ·subst hb;rw[cw]at q;cases q;exact new
 ·rw[cH hb]at q;by_cases hbe:b=e
  ·have q':H b=a_ (.own x):=by
    rcases he with z|z
    ·exact absurd (hbe.trans z) hb
    ·rw[hbe];exact z
   rw[q]at q';cases q';obtain⟨v,hv⟩:=heo;exact⟨v,by rw[hbe];exact hv⟩
  ·refine(ok b u q).m9 (λc v hc r=>k c v ?_ r) (λc r=>by rw[cH (nown c b r)];exact r) λc xs r=>by rw[cH (ntup c xs r)];exact r
   rcases hc with rfl|hc
   ·exact hbe
   ·rintro rfl
    rcases he with z|z
    ·exact nown c b hc z
    ·rw[hc]at z;cases z;exact hb rfl
end
structure Un(fs ex:List ai)(H H':Hp)(h h':bH):Prop where
 keep:∀b o,h.get? b=a_ o->H b=b_->b∉fs->b∉ex->h'.get? b=a_ o
 slot:∀b o,h.get? b=a_ o->H b=b_->b∈fs->b∉ex->∃sl,h'.get? b=a_ { o with slots:=sl }
 free:∀b o,h.get? b=a_ o->H b=b_->b∉ex->H' b=b_
 there:∀b o,h.get? b=a_ o->b∉ex->∃o',h'.get? b=a_ o'
 tups:∀b xs,H b=a_ (.tup xs)->H' b=a_ (.tup xs)
 frzs:∀b o u,H b=a_ (.ka o u)->H' b=a_ (.ka o u)
 tbls:∀b ps,H b=a_ (.tbl ps)->∃more,H' b=a_ (.tbl (ps++more))
section
variable{fs fs' ex ex':List ai}{H H1 H2:Hp}{h h1 h2 h':bH}{a x e:ai}{o:HO}
def Un.any(u:Un fs ex H H1 h h1){b:ai}{ob:fe}(q:h.get? b=a_ ob)(n:H b=b_)(hx:b∉ex):∃sl,h1.get? b=a_ { ob with slots:=sl }:=by
 by_cases hb:b∈fs
 ·exact u.slot b ob q n hb hx
 ·exact⟨ob.slots,u.keep b ob q n hb hx⟩
def Un.kept(k:∀b u,h.get? b=a_ u->h'.get? b=a_ u):Un fs ex H H h h':=
 ⟨λb ob q _ _ _=>k b ob q,λb ob q _ _ _=>⟨ob.slots,k b ob q⟩,λ_ _ _ n _=>n,λb ob q _=>⟨ob,k b ob q⟩,λ_ _ q=>q,λ_ _ _ q=>q,λ_ ps q=>⟨#[],by rw[q];simp⟩⟩
def Un.refl:Un fs ex H H h h:=Un.kept λ_ _ q=>q
def Un.laid(k:∀b u,h.get? b=a_ u->h'.get? b=a_ u)(hp:h.objs.size<=a)(hn:H a=b_):Un fs ex H (upd H a o) h h' where
 keep:=λb u q _ _ _=>k b u q
 slot:=λb u q _ _ _=>⟨u.slots,k b u q⟩
 free:=λb u q n _=>by rw[cH (bu (bw (hl9 q) hp))];exact n
 there:=λb u q _=>⟨u,k b u q⟩
 tups:=λb xs q=>by rw[cH (dY q hn)];exact q
 frzs:=λb u xs q=>by rw[cH (dY q hn)];exact q
 tbls:=λb ps q=>⟨#[],by rw[cH (dY q hn),q];simp⟩
def Un.write(mu:U4 (H x))(he:e=x\/H e=a_ (.own x))(k:∀b u,b≠e->h.get? b=a_ u->h'.get? b=a_ u)(heo:∃u,h'.get? e=a_ u):Un fs ex H (upd H x o) h h':=by
 have hx:∀b,H b=b_->b≠x:=λb n z=>by subst z;rw[n]at mu;exact mu
 have hb:∀b,H b=b_->b≠e:=λb n z=>by
  subst z
  rcases he with r|r
  ·exact hx b n r
  ·rw[n]at r;cases r
 have hm:∀b u,H b=a_ u->¬U4 (a_ u)->b≠x:=λb u q nm z=>by subst z;rw[q]at mu;exact nm mu
 refine⟨λb u q n _ _=>k b u (hb b n) q,λb u q n _ _=>⟨u.slots,k b u (hb b n) q⟩,λb u q n _=>by rw[cH (hx b n)];exact n,λb u q _=>?_,
  λb xs q=>by rw[cH (hm b _ q λz=>z)];exact q,λb u xs q=>by rw[cH (hm b _ q λz=>z)];exact q,λb ps q=>⟨#[],by rw[cH (hm b _ q λz=>z),q];simp⟩⟩
 by_cases hbe:b=e
 ·subst hbe;exact heo
 ·exact⟨u,k b u hbe q⟩
end
def Xf(h:bH)(H:Hp):List ai:=(ax h.objs.size).filter λa=>(H a).isSome
def yg(h:bH)(H:Hp):bH:=PySem.W.hideAll h (Xf h H)
def GN(h:bH)(H:Hp):(yg h H).objs.size=h.objs.size:=PySem.W.hideAll_size _ _
def Kt{h:bH}{H:Hp}{b:ai}{o:fe}(e:h.get? b=a_ o)(n:H b=b_):(yg h H).get? b=a_ o:=
 PySem.W.hideAll_get _ e λhm=>by
  have q:(H b).isSome=c_:=(cz.mp hm).2;rw[n]at q;simp at q
def NI{h:bH}{H:Hp}{b:ai}{o:fe}(e:(yg h H).get? b=a_ o):h.get? b=a_ o/\H b=b_:=by
 have e':h.get? b=a_ o:=PySem.W.of_hideAll (Xf h H) e;refine⟨e',?_⟩
 cases q:H b with
 |none=>rfl
 |some x=>
   have hm:b∈Xf h H:=cz.mpr ⟨aZ.mpr (hl9 e'),by simp[q]⟩;have z:(yg h H).get? b=b_:=PySem.W.hideAll_none (Xf h H) hm;rw[z]at e;cases e
def OY(g h:bH)(L:ai):List (ai×fe):=(ax h.objs.size).filterMap λa=>if a=L\/(g.get? a).isSome=c_ then b_ else(h.get? a).map λo=>(a,o)
def rest(g h:bH)(L d:ai):List (ai×fe):=(OY g h L).filter λp=>decide (p.1≠d)
structure Mod(K:aN)(mg:aV->Option ab)(base:bH):Prop where
 kin:K.In base
 glob:base.Ns mainGlobals mg
 blt:∃mb,base.Ns builtinsNs mb/\∀x:aV,x≠"__name__"->mb x=bootBuiltins x
 nolimit:base.NoLimit
structure Cx where
 prog:aP
 w:bo
 K:aN
 mg:aV->Option ab
 base:bH
 A:br
 N:List aV
 s₀:ae
 H₀:Hp
 env:vq
 outer:List vq
 stack:List vq
 ex:List ai
 fn:aV->Bool
 calm:Bool
 pn:List (ai×fe)
 xe:ab->ae->Prop
def Ho(l:List vq):List ai:=l.filterMap (·.frame)
abbrev Cx.fs(X:Cx):List ai:=Ho X.outer
def Qe(sc:fP)(x:aV):Prop:=sc.names.lookup x=a_ .local\/sc.names.lookup x=a_ .cell\/sc.names.lookup x=a_ .free
def Loc(sc:fP)(x:aV):Prop:=sc.names.lookup x=a_ .local\/sc.names.lookup x=a_ .cell
def Look(env:vq)(h:bH)(m:aV->Option ab)(x:aV)(u:ab):Prop:=
 (env.kindOf x=a_ .local/\m x=a_ u)\/((env.kindOf x=a_ .cell\/env.kindOf x=a_ .free)/\∃c,env.cells.lookup x=a_ c/\h.IsCell c (a_ u))
structure Cx.Ok(X:Cx):Prop where
 mod:Mod X.K X.mg X.base
 kind:X.env.scope.kind=.function
 glob:X.env.globals=mainGlobals
 blt:X.env.builtins=builtinsNs
 above:X.s₀.heap.objs.size<=X.env.locals
 inj:∀x y c,X.env.cells.lookup x=a_ c->X.env.cells.lookup y=a_ c->x=y
 has:∀x,(X.env.kindOf x=a_ .cell\/X.env.kindOf x=a_ .free)->∃c,X.env.cells.lookup x=a_ c
 cab:∀x c,X.fn x=c_->X.env.cells.lookup x=a_ c->X.s₀.heap.objs.size<=c
 hd:X.calm=c_->X.A.handled=b_
 frames:X.A.frames=a_ X.stack
 xC:X.stack=X.outer\/(X.stack=X.env::X.outer/\X.env.frame=a_ X.env.locals)
 exf:∀b∈X.ex,b≠X.env.locals/\∀x c,X.env.cells.lookup x=a_ c->c≠b
 bs:∀b o,X.base.get? b=a_ o->X.s₀.heap.get? b=a_ o/\X.H₀ b=b_
 bsz:X.base.objs.size<=X.s₀.heap.objs.size
 noex:∀b o,X.base.get? b=a_ o->b∉X.ex
 exfs:∀b∈X.ex,b∉X.fs
 uQ:X.s₀.heap.FunFrames X.base X.outer
 frf:∀b∈X.fs,X.H₀ b=b_
structure Inv(X:Cx)(h_:List (ai×fe))(σ:List (Option V))(H:Hp)(s:ae):Prop where
 ok:X.Ok
 os:s.os=X.s₀.os
 bare:nj s.gens
 base:Un X.fs X.ex X.H₀ H X.s₀.heap s.heap
 loc:∃m,s.heap.Ns X.env.locals m/\∀(i:Nat)(x:aV)(v:V),X.N[i]?=a_ x->σ[i]?=a_ (a_ v)->Qe X.env.scope x->∃u,RelV v u/\Look X.env s.heap m x u
 cell:∀x c,X.env.cells.lookup x=a_ c->∃v,s.heap.IsCell c v
 free:H X.env.locals=b_
 freeC:∀x c,X.env.cells.lookup x=a_ c->H c=b_
 pin:∀p∈X.pn++h_,s.heap.get? p.1=a_ p.2/\H p.1=b_/\p.1≠X.env.locals/\p.1∉X.fs/\∀v,p.2.data≠.cell v
 hok:qz X.prog X.w H s.heap
 len:σ.length=X.N.length
section
variable{X:Cx}{h_:List (ai×fe)}{σ:List (Option V)}{H H':Hp}{s:ae}{h':bH}
def Cx.Ok.X7(ok:X.Ok){b:ai}{o:fe}(e:X.base.get? b=a_ o):b∉X.fs:=λhb=>by
 have:=(ok.uQ.mem hb).1;rw[e]at this;cases this
def Inv.bs(I:Inv X h_ σ H s):∀b o,X.base.get? b=a_ o->s.heap.get? b=a_ o/\H b=b_:=λb o e=>
 ⟨I.base.keep b o (I.ok.bs b o e).1 (I.ok.bs b o e).2 (I.ok.X7 e) (I.ok.noex b o e),I.base.free b o (I.ok.bs b o e).1 (I.ok.bs b o e).2 (I.ok.noex b o e)⟩
def Inv.bk(I:Inv X h_ σ H s):∀b o,X.base.get? b=a_ o->s.heap.get? b=a_ o:=λb o e=>(I.bs b o e).1
def Inv.mod(I:Inv X h_ σ H s):Mod X.K X.mg X.base:=I.ok.mod
def Inv.Cu(I:Inv X h_ σ H s):X.K.In s.heap:=I.ok.mod.kin.keeps I.bk
def Inv.fr(I:Inv X h_ σ H s):∃m,Fr X.base X.env.locals s.heap m:=
 let ⟨m,hn,_⟩:=I.loc
 ⟨m,hn,I.bk,cW I.ok.bsz I.ok.above⟩
def Inv.lt(I:Inv X h_ σ H s):X.env.locals<s.heap.objs.size:=let ⟨_,hn,_⟩:=I.loc;hn.lt
def Inv.sz(I:Inv X h_ σ H s):X.s₀.heap.objs.size<=s.heap.objs.size:=cW I.ok.above (kZ I.lt)
def Inv.VW(I:Inv X h_ σ H s){a:ai}(h:s.heap.objs.size<=a):a∉X.fs:=λhb=>by
 obtain⟨_,o,ho,_⟩:=I.ok.uQ.mem hb;exact absurd (bw (hl9 ho) (cW I.sz h)) (bx _)
def Inv.TQ(I:Inv X h_ σ H s):∀x c,X.env.cells.lookup x=a_ c->c≠X.env.locals:=λx c e z=>by
 obtain⟨v,o,ho,hd⟩:=I.cell x c e;obtain⟨m,⟨o',es,ep,ho',hd',_⟩,_⟩:=I.loc;rw[z,ho']at ho;cases ho;rw[hd']at hd;cases hd
theorem Inv.uQ(I:Inv X h_ σ H s):s.heap.FunFrames X.base X.outer:=by
 have all:∀(l:List vq),(∀b∈Ho l,b∈X.fs)->X.s₀.heap.FunFrames X.base l->s.heap.FunFrames X.base l:=by
  intro l
  induction l with
  |nil=>intro _ _;trivial
  |cons env r ih=>
    intro hs hl;obtain⟨hk,⟨L,o,hf,hn,ho,hd⟩,hr⟩:=hl;have hL:L∈X.fs:=hs L (by unfold Ho;rw[jb,hf];exact hJ);obtain⟨sl,e⟩:=I.base.slot L o ho (I.ok.frf L hL) hL λz=>I.ok.exfs L z hL;exact⟨hk,⟨L,_,hf,hn,e,hd⟩,ih (λb hb=>hs b (by unfold Ho;rw[jb,hf];exact ib _ hb)) hr⟩
 exact all X.outer (λ_ hb=>hb) I.ok.uQ
def Inv.stack(I:Inv X h_ σ H s):s.heap.FunFrames X.base X.stack:=by
 rcases I.ok.xC with e|⟨e,hf⟩
 ·rw[e];exact I.uQ
 ·rw[e];obtain⟨m,hn,_⟩:=I.loc;refine .cons (by rw[I.ok.kind];decide) hf hn ?_ I.uQ;exact oN (cW I.ok.bsz I.ok.above)
def Inv.t8(I:Inv X h_ σ H s):∀b∈Ho X.stack,b∈X.env.locals::X.fs:=λb hb=>by
 rcases I.ok.xC with e|⟨e,hf⟩
 ·rw[e]at hb;exact ib _ hb
 ·rw[e]at hb;unfold Ho at hb;rw[jb,hf]at hb;exact hb
def Inv.Dv(I:Inv X h_ σ H s):∀b∈Ho X.stack,H b=b_:=λb hb=>by
 rcases ao.mp (I.t8 b hb)with e|hb
 ·rw[e];exact I.free
 ·obtain⟨_,o,ho,_⟩:=I.ok.uQ.mem hb;exact I.base.free b o ho (I.ok.frf b hb) λz=>I.ok.exfs b z hb
def Inv.step{g':Array vB}{t':Nat}{d':Drawn}{ch:List ai}(I:Inv X h_ σ H s)
  (hch:∀b∈ch,(b∈X.ex\/X.s₀.heap.objs.size<=b)/\b≠X.env.locals/\(∀x c,X.env.cells.lookup x=a_ c->c≠b)/\∀p∈X.pn++h_,p.1≠b)
  (keep:∀b o,b≠X.env.locals->b∉X.fs->b∉ch->s.heap.get? b=a_ o->H b=b_->h'.get? b=a_ o)
  (slot:∀b o,b≠X.env.locals->b∈X.fs->b∉ch->s.heap.get? b=a_ o->H b=b_->∃sl,h'.get? b=a_ { o with slots:=sl })(free:∀b o,b∉ch->s.heap.get? b=a_ o->H b=b_->H' b=b_)
  (there:∀b o,b∉ch->s.heap.get? b=a_ o->∃o',h'.get? b=a_ o')
  (tups:∀b xs,H b=a_ (.tup xs)->H' b=a_ (.tup xs))(frzs:∀b o u,H b=a_ (.ka o u)->H' b=a_ (.ka o u))(tbls:∀b ps,H b=a_ (.tbl ps)->∃more,H' b=a_ (.tbl (ps++more)))
  (ns:∀m,s.heap.Ns X.env.locals m->h'.Ns X.env.locals m)(hok:qz X.prog X.w H' h')(hg:nj g') :
  Inv X h_ σ H' { s with heap:=h',gens:=g',drawn:=d',toks:=t' }:=by
 have neL:∀b o,X.s₀.heap.get? b=a_ o->b≠X.env.locals:=λb o e=>bu (bw (hl9 e) I.ok.above)
 have neC:∀b o,X.s₀.heap.get? b=a_ o->b∉X.ex->b∉ch:=λb o e hx hb=>by
  rcases(hch b hb).1 with z|z
  ·exact hx z
  ·exact absurd (bw (hl9 e) z) (bx _)
 have cellK:∀x c,X.env.cells.lookup x=a_ c->∀v,s.heap.IsCell c v->h'.IsCell c v:=λx c e v z4=>by
  obtain⟨o,ho,hd⟩:=z4;have nch:c∉ch:=λz=>(hch c z).2.2.1 x c e rfl;by_cases hc:c∈X.fs
  ·obtain⟨sl,q⟩:=slot c o (I.TQ x c e) hc nch ho (I.freeC x c e);exact⟨_,q,hd⟩
  ·exact⟨o,keep c o (I.TQ x c e) hc nch ho (I.freeC x c e),hd⟩
 refine⟨I.ok,I.os,hg,⟨λb o e n hb hx=>?_,λb o e n hb hx=>?_,λb o e n hx=>?_,λb o e hx=>?_,λb xs e=>tups b xs (I.base.tups b xs e),λb o xs e=>frzs b o xs (I.base.frzs b o xs e),λb ps e=>?_⟩,?_,λx c e=>?_,?_,λx c e=>?_,λp hp=>?_,hok,I.len⟩
 ·exact keep b o (neL b o e) hb (neC b o e hx) (I.base.keep b o e n hb hx) (I.base.free b o e n hx)
 ·obtain⟨sl,e1⟩:=I.base.slot b o e n hb hx;obtain⟨sl',e2⟩:=slot b _ (neL b o e) hb (neC b o e hx) e1 (I.base.free b o e n hx);exact⟨sl',e2⟩
 ·obtain⟨o',e1⟩:=I.base.there b o e hx;exact free b o' (neC b o e hx) e1 (I.base.free b o e n hx)
 ·obtain⟨o',e1⟩:=I.base.there b o e hx;exact there b o' (neC b o e hx) e1
 ·obtain⟨m1,e1⟩:=I.base.tbls b ps e;obtain⟨m2,e2⟩:=tbls b _ e1;exact⟨m1++m2,by rw[e2,Array.append_assoc]⟩
 ·obtain⟨m,hn,hl⟩:=I.loc;refine⟨m,ns m hn,λi x v e1 e2 e3=>?_⟩;obtain⟨u,r,l⟩:=hl i x v e1 e2 e3;refine⟨u,r,?_⟩
  rcases l with l|⟨k,c,e,z⟩
  ·exact .inl l
  ·exact .inr ⟨k,c,e,cellK x c e _ z⟩
 ·obtain⟨v,z⟩:=I.cell x c e;exact⟨v,cellK x c e v z⟩
 ·obtain⟨m,⟨o,_,_,ho,_⟩,_⟩:=I.loc;exact free _ o (λz=>(hch _ z).2.1 rfl) ho I.free
 ·obtain⟨v,o,ho,hd⟩:=I.cell x c e;exact free c o (λz=>(hch c z).2.2.1 x c e rfl) ho (I.freeC x c e)
 ·obtain⟨e,n,ne,nf,d⟩:=I.pin p hp;have nch:p.1∉ch:=λz=>(hch p.1 z).2.2.2 p hp rfl;exact⟨keep p.1 p.2 ne nf nch e n,free p.1 p.2 nch e n,ne,nf,d⟩
def Inv.un{t':Nat}(I:Inv X h_ σ H s)(u:Un X.fs [] H H' s.heap h')(hok:qz X.prog X.w H' h'):Inv X h_ σ H' { s with heap:=h',toks:=t' }:=by
 obtain⟨m,⟨o,es,ep,ho,r⟩,_⟩:=id I.loc;obtain⟨sl,hL⟩:=u.any ho I.free (by simp)
 exact I.step (g':=s.gens) (d':=s.drawn) (ch:=[]) (λ_ z=>nomatch z) (λb o _ hb _ e n=>u.keep b o e n hb (by simp)) (λb o _ hb _ e n=>u.slot b o e n hb (by simp)) (λb o _ e n=>u.free b o e n (by simp)) (λb o _ e=>u.there b o e (by simp)) u.tups u.frzs u.tbls (λm' hm=>by
  obtain⟨o',es',ep',ho',r'⟩:=hm;rw[ho]at ho';cases ho'
  exact⟨_,es',ep',hL,r'⟩) hok I.bare
def Inv.call{g':Array vB}{t':Nat}{d':Drawn}{ch:List ai}(I:Inv X h_ σ H s)(u:Un (Ho X.stack) ch H H' s.heap h')(hok:qz X.prog X.w H' h')(hg:nj g')
  (hch:∀b∈ch,(b∈X.ex\/X.s₀.heap.objs.size<=b)/\b≠X.env.locals/\(∀x c,X.env.cells.lookup x=a_ c->c≠b)/\∀p∈X.pn++h_,p.1≠b) :
  Inv X h_ σ H' { s with heap:=h',gens:=g',drawn:=d',toks:=t' }:=by
 obtain⟨m,⟨o,es,ep,ho,r⟩,_⟩:=id I.loc;obtain⟨sl,hL⟩:=u.any ho I.free λz=>(hch _ z).2.1 rfl
 exact I.step (ch:=ch) hch (λb o hL hb hc e n=>u.keep b o e n (λz=>(ao.mp (I.t8 b z)).elim hL hb) hc) (λb o _ _ hc e n=>u.any e n hc) (λb o hc e n=>u.free b o e n hc) (λb o hc e=>u.there b o e hc) u.tups u.frzs u.tbls (λm' hm=>by
  obtain⟨o',es',ep',ho',r'⟩:=hm;rw[ho]at ho';cases ho'
  exact⟨_,es',ep',hL,r'⟩) hok hg
def Inv.turned{t':Nat}{it:ai}(I:Inv X h_ σ H s)(k:∀b o,b≠it->s.heap.get? b=a_ o->h'.get? b=a_ o)(hn:H it=b_)(hL:it≠X.env.locals)
  (h1:it∈X.ex\/X.s₀.heap.objs.size<=it)(h2:∀x c,X.env.cells.lookup x=a_ c->c≠it)(h3:∀p∈X.pn++h_,p.1≠it):Inv X h_ σ H { s with heap:=h',toks:=t' }:=by
 have nit:∀b u,H b=a_ u->b≠it:=λb u e z=>by rw[z,hn]at e;cases e
 refine I.step (g':=s.gens) (d':=s.drawn) (ch:=[it]) (λb hb=>?_) (λb o _ _ hc e _=>k b o (λz=>hc (by simp[z])) e) (λb o _ _ hc e _=>⟨o.slots,k b o (λz=>hc (by simp[z])) e⟩) (λ_ _ _ _ n=>n)
  (λb o hc e=>⟨o,k b o (λz=>hc (by simp[z])) e⟩) (λ_ _ e=>e) (λ_ _ _ e=>e) (λb ps e=>⟨#[],by rw[e];simp⟩) (λm hm=>?_) (λb u e=>?_) I.bare
 ·have e:b=it:=by simpa using hb
  subst e;exact⟨h1,hL,h2,h3⟩
 ·obtain⟨o,es,ep,ho,r⟩:=hm;exact⟨o,es,ep,k _ o (eZ hL) ho,r⟩
 ·refine(I.hok b u e).m9 (λc v hc q=>k c v ?_ q) (λ_ q=>q) λ_ _ q=>q
  rcases hc with z|z
  ·rw[z];exact nit b u e
  ·exact nit c _ z
def Inv.tok(I:Inv X h_ σ H s)(t:Nat):Inv X h_ σ H { s with toks:=t }:=I.un (h':=s.heap) (t':=t) Un.refl I.hok
def Inv.kept{t':Nat}(I:Inv X h_ σ H s)(k:∀b u,s.heap.get? b=a_ u->h'.get? b=a_ u):Inv X h_ σ H { s with heap:=h',toks:=t' }:=I.un (Un.kept k) (I.hok.kept k)
def Inv.laid{a:ai}{o:HO}{t':Nat}(I:Inv X h_ σ H s)(k:∀b u,s.heap.get? b=a_ u->h'.get? b=a_ u)(hp:s.heap.objs.size<=a)(new:iT X.prog X.w (upd H a o) h' a o) :
  Inv X h_ σ (upd H a o) { s with heap:=h',toks:=t' }:=I.un (Un.laid k hp (I.hok.fresh hp)) (I.hok.laid k hp new)
def Inv.write{x e:ai}{o:HO}{t':Nat}(I:Inv X h_ σ H s)(mu:U4 (H x))(he:e=x\/H e=a_ (.own x))(k:∀b u,b≠e->s.heap.get? b=a_ u->h'.get? b=a_ u)(heo:∃u,h'.get? e=a_ u)
  (new:iT X.prog X.w (upd H x o) h' x o):Inv X h_ σ (upd H x o) { s with heap:=h',toks:=t' }:=I.un (Un.write mu he k heo) (I.hok.write mu he k heo new)
def Inv.weak{σ':List (Option V)}(I:Inv X h_ σ H s)(hl:σ'.length=σ.length)(w:∀(i:Nat)v,σ'[i]?=a_ (a_ v)->σ[i]?=a_ (a_ v)):Inv X h_ σ' H s:=
 ⟨I.ok,I.os,I.bare,I.base,let ⟨m,hn,hl'⟩:=I.loc;⟨m,hn,λi x v e1 e2 e3=>hl' i x v e1 (w i v e2) e3⟩,I.cell,I.free,I.freeC,I.pin,I.hok,hl.trans I.len⟩
def Inv.p6{pins':List (ai×fe)}(I:Inv X h_ σ H s)(h:∀p∈pins',s.heap.get? p.1=a_ p.2/\H p.1=b_/\p.1≠X.env.locals/\p.1∉X.fs/\∀v,p.2.data≠.cell v):Inv X pins' σ H s:=
 ⟨I.ok,I.os,I.bare,I.base,I.loc,I.cell,I.free,I.freeC,λp hp=>(az.mp hp).elim (λz=>I.pin p (aJ _ z)) (h p),I.hok,I.len⟩
def zT{N:List aV}(hN:N.Nodup){i j:Nat}{x:aV}(a:N[i]?=a_ x)(b:N[j]?=a_ x):i=j:=by
 obtain⟨h1,e1⟩:=bC.mp a;obtain⟨h2,e2⟩:=bC.mp b;exact(LF hN).mp (e1.trans e2.symm)
def FN{M:LW}{A:br}{E:ab->ae->Prop}{i:Nat}{x:aV}{v:V}{u:ab}{Q:Unit->ae->Prop}(I:Inv X h_ σ H s)(hN:X.N.Nodup)(hi:X.N[i]?=a_ x)(hx:Loc X.env.scope x)(r:RelV v u)
  (h:∀s',Inv X h_ (σ.set i (a_ v)) H s'->(∃a,cA a s.heap s'.heap/\(a=X.env.locals\/X.env.cells.lookup x=a_ a))->Q () s')(hf:X.fn x=c_\/X.env.scope.names.lookup x=a_ .local:=by first|exact .inl rfl|exact .inr rfl|assumption):au M A (storeName X.env x u) Q E s:=by
 obtain⟨m,hn,hl⟩:=id I.loc;have hcls:(X.env.scope.kind == .class || (X.env.scope.kind == .module && X.env.locals != X.env.globals))=d_:=by rw[I.ok.kind];rfl
 have hiσ:i<σ.length:=by rw[I.len];exact(bC.mp hi).1
 have TQ:=I.TQ
 have tracked:∀{a:ai}{h':bH},(∃o,s.heap.get? a=a_ o/\H a=b_)->cA a s.heap h'->qz X.prog X.w H h':=λ{a h'}ha hs b ob e=>by
  obtain⟨_,_,hfree⟩:=ha;refine(I.hok b ob e).m9 (λc w' hc q=>(hs.2 c ?_).trans q) (λ_ q=>q) λ_ _ q=>q;rintro rfl
  rcases hc with rfl|hc
  ·rw[hfree]at e;cases e
  ·rw[hfree]at hc;cases hc
 rcases hx with hk|hk
 ·refine wpAny_storeName_local hk hn (λh' hn' hs=>?_) hcls;obtain⟨oL,_,_,hoL,_⟩:=id hn;refine h _ ⟨I.ok,I.os,I.bare,⟨λb o e n hb hx=>?_,λb o e n hb hx=>?_,I.base.free,λb o e hx=>?_,I.base.tups,I.base.frzs,I.base.tbls⟩,⟨_,hn',λj y v' e1 e2 e3=>?_⟩,λy c e=>?_,I.free,I.freeC,λp hp=>?_,tracked ⟨oL,hoL,I.free⟩ hs,by simpa using I.len⟩ ⟨_,hs,.inl rfl⟩
  ·exact(hs.2 b (bu (bw (hl9 e) I.ok.above))).trans (I.base.keep b o e n hb hx)
  ·obtain⟨sl,e1⟩:=I.base.slot b o e n hb hx;exact⟨sl,(hs.2 b (bu (bw (hl9 e) I.ok.above))).trans e1⟩
  ·obtain⟨o',e1⟩:=I.base.there b o e hx;exact⟨o',(hs.2 b (bu (bw (hl9 e) I.ok.above))).trans e1⟩
  ·by_cases hj:j=i
   ·subst hj;rw[hi]at e1;cases e1;rw[nv hiσ]at e2;cases e2;exact⟨u,r,.inl ⟨hk,by simp⟩⟩
   ·rw[eR (eZ hj)]at e2;obtain⟨u',r',q⟩:=hl j y v' e1 e2 e3;refine⟨u',r',?_⟩
    rcases q with⟨k,e⟩|⟨k,c,e,z⟩
    ·refine .inl ⟨k,?_⟩;have:y≠x:=λe=>hj (zT hN e1 (e▸hi));simp[this,e]
    ·exact .inr ⟨k,c,e,z.sameBut hs (TQ y c e)⟩
  ·obtain⟨w',z⟩:=I.cell y c e;exact⟨w',z.sameBut hs (TQ y c e)⟩
  ·obtain⟨e,n,ne,nf,d⟩:=I.pin p hp;exact⟨(hs.2 p.1 ne).trans e,n,ne,nf,d⟩
 ·have hfn:X.fn x=c_:=by
   rcases hf with z|z
   ·exact z
   ·rw[z]at hk;cases hk
  obtain⟨c,hc⟩:=I.ok.has x (.inl hk);obtain⟨w',z⟩:=I.cell x c hc;refine wpAny_storeName_cell I.ok.kind hk hc z (λh' hc' hs=>?_);obtain⟨oc,hoc,hocd⟩:=id z;refine h { s with heap:=h' } ⟨I.ok,I.os,I.bare,⟨λb o e n hb hx=>?_,λb o e n hb hx=>?_,I.base.free,λb o e hx=>?_,I.base.tups,I.base.frzs,I.base.tbls⟩,⟨m,hn.sameBut hs (eZ (TQ x c hc)),λj y v' e1 e2 e3=>?_⟩,λy c' e=>?_,I.free,I.freeC,λp hp=>?_,tracked ⟨oc,hoc,I.freeC x c hc⟩ hs,by simpa using I.len⟩ ⟨c,hs,.inr hc⟩
  ·exact(hs.2 b (bu (bw (hl9 e) (I.ok.cab x c hfn hc)))).trans (I.base.keep b o e n hb hx)
  ·obtain⟨sl,e1⟩:=I.base.slot b o e n hb hx;exact⟨sl,(hs.2 b (bu (bw (hl9 e) (I.ok.cab x c hfn hc)))).trans e1⟩
  ·obtain⟨o',e1⟩:=I.base.there b o e hx;exact⟨o',(hs.2 b (bu (bw (hl9 e) (I.ok.cab x c hfn hc)))).trans e1⟩
  ·by_cases hj:j=i
   ·subst hj;rw[hi]at e1;cases e1;rw[nv hiσ]at e2;cases e2;exact⟨u,r,.inr ⟨.inl hk,c,hc,hc'⟩⟩
   ·rw[eR (eZ hj)]at e2;obtain⟨u',r',q⟩:=hl j y v' e1 e2 e3;refine⟨u',r',?_⟩
    rcases q with q|⟨k,c',e,z'⟩
    ·exact .inl q
    ·refine .inr ⟨k,c',e,z'.sameBut hs ?_⟩;rintro rfl;exact hj (zT hN e1 (I.ok.inj _ _ _ e hc▸hi))
  ·by_cases hcc:c'=c
   ·subst hcc;exact⟨_,hc'⟩
   ·obtain⟨w2,z2⟩:=I.cell y c' e;exact⟨w2,z2.sameBut hs hcc⟩
  ·obtain⟨e,n,ne,nf,d⟩:=I.pin p hp;refine⟨(hs.2 p.1 ?_).trans e,n,ne,nf,d⟩;intro q;rw[q,hoc]at e;have q':oc=p.2:=aS e;exact d w' (by rw[<-q'];exact hocd)
def nP{M:LW}{A:br}{E:ab->ae->Prop}{i:Nat}{x:aV}{v:V}{u:ab}{Q:Unit->ae->Prop}(I:Inv X h_ σ H s)(hN:X.N.Nodup)(hi:X.N[i]?=a_ x)(hx:Loc X.env.scope x)(r:RelV v u)
  (h:∀s',Inv X h_ (σ.set i (a_ v)) H s'->Q () s')(hf:X.fn x=c_\/X.env.scope.names.lookup x=a_ .local:=by first|exact .inl rfl|exact .inr rfl|assumption):au M A (storeName X.env x u) Q E s:=
 FN I hN hi hx r (λs' I' _=>h s' I') hf
def Inv.WK{s':ae}{ch:List ai}(I:Inv X h_ σ H s)(ho:s'.os=s.os)(u:Un (Ho X.stack) ch H H' s.heap s'.heap)(hok:qz X.prog X.w H' s'.heap)(hg:nj s'.gens)
  (hch:∀b∈ch,(b∈X.ex\/X.s₀.heap.objs.size<=b)/\b≠X.env.locals/\(∀x c,X.env.cells.lookup x=a_ c->c≠b)/\∀p∈X.pn++h_,p.1≠b):Inv X h_ σ H' s':=by
 obtain⟨h',g',d',t',o'⟩:=s';have e:o'=s.os:=ho;subst e;exact I.call (g':=g') (t':=t') (d':=d') u hok hg hch
end
abbrev XK:=ab->Option ai->Hp->Prop
abbrev St:=List (Option V)
abbrev VK:=V->Hp->Prop
abbrev TE:=St->Hp->VK->Prop
abbrev TT:=St->Hp->(Bool->Hp->Prop)->Prop
abbrev TA:=St->Hp->(List V->Hp->Prop)->Prop
structure Ends where
 nx:St->Hp->Prop
 rt:VK
 bk:St->Hp->Prop:=λ_ _=>False
 ct:St->Hp->Prop:=λ_ _=>False
abbrev TS:=Ends->St->Hp->Prop
def EP(X:Cx)(h_:List (ai×fe))(σ:St)(Q:VK)(u:ab)(s':ae):Prop:=∃v H',Inv X h_ σ H' s'/\RelV v u/\Q v H'
def TP(X:Cx)(h_:List (ai×fe))(σ:St)(Q:Bool->Hp->Prop)(b:Bool)(s':ae):Prop:=∃H',Inv X h_ σ H' s'/\Q b H'
def AP(X:Cx)(h_:List (ai×fe))(σ:St)(Q:List V->Hp->Prop)(us:List ab)(s':ae):Prop:=∃vs H',Inv X h_ σ H' s'/\cD vs us/\Q vs H'
def SP(X:Cx)(h_:List (ai×fe))(D:Ends)(f:Flow)(s':ae):Prop:=
 match f with
 |.next=>∃σ' H',Inv X h_ σ' H' s'/\D.nx σ' H'
 |.brk=>∃σ' H',Inv X h_ σ' H' s'/\D.bk σ' H'
 |.cont=>∃σ' H',Inv X h_ σ' H' s'/\D.ct σ' H'
 |.ret u=>∃v σ' H',Inv X h_ σ' H' s'/\RelV v u/\D.rt v H'
def PE(X:Cx)(e:aI)(t:TE):Prop:=
 ∀(h_:List (ai×fe))(s:ae)(σ:St)(H:Hp)(Q:VK),Inv X h_ σ H s->t σ H Q->au (aB X.prog X.w) X.A (eval e X.env) (EP X h_ σ Q) X.xe s
def PT(X:Cx)(e:aI)(t:TT):Prop:=
 ∀(h_:List (ai×fe))(s:ae)(σ:St)(H:Hp)(Q:Bool->Hp->Prop),Inv X h_ σ H s->t σ H Q->au (aB X.prog X.w) X.A (isTrue e X.env (eval e X.env)) (TP X h_ σ Q) X.xe s
def PW(X:Cx)(e:aI)(t:TT):Prop:=
 ∀(whole:Sem ab)(h_:List (ai×fe))(s:ae)(σ:St)(H:Hp)(Q:Bool->Hp->Prop),Inv X h_ σ H s->t σ H Q->au (aB X.prog X.w) X.A (isTrue e X.env whole) (TP X h_ σ Q) X.xe s
def PW.pt{X:Cx}{e:aI}{t:TT}(h:PW X e t):PT X e t:=h _
def PA(X:Cx)(es:List aI)(t:TA):Prop:=
 ∀(pos:fu)(h_:List (ai×fe))(s:ae)(σ:St)(H:Hp)(Q:List V->Hp->Prop),Inv X h_ σ H s->t σ H Q->au (aB X.prog X.w) X.A (spliced (backTo pos (aU es X.env))) (AP X h_ σ Q) X.xe s
def PS(X:Cx)(st:jw)(t:TS):Prop:=
 ∀(h_:List (ai×fe))(s:ae)(σ:St)(H:Hp)(D:Ends),Inv X h_ σ H s->t D σ H->au (aB X.prog X.w) X.A (exec st X.env) (SP X h_ D) X.xe s
def Bh(X:Cx)(st:List jw)(t:TS):Prop:=
 ∀(h_:List (ai×fe))(s:ae)(σ:St)(H:Hp)(D:Ends),Inv X h_ σ H s->t D σ H->au (aB X.prog X.w) X.A (execs st X.env) (SP X h_ D) X.xe s
def gW{α:Type}{t:Sem α}{Q Q':α->ae->Prop}{M:LW}{A:br}{E:ab->ae->Prop}{s:ae}(h:au M A t Q E s)(hQ:∀a s,Q a s->Q' a s):au M A t Q' E s:=eT h hQ λ_ _ x=>x
section
variable{X:Cx}
def bin{a b:aI}{ta tb:TE}(ha:PE X a ta)(hb:PE X b tb){h_:List (ai×fe)}{s:ae}{σ:St}{H:Hp}{R:V->V->Hp->Prop}(I:Inv X h_ σ H s)(h:ta σ H λx H1=>tb σ H1 λy H2=>R x y H2)
  {α:Type}{Q:α->ae->Prop}{f:ab->ab->Sem α}
  (hf:∀v u s2 x y H2,Inv X h_ σ H2 s2->RelV x v->RelV y u->R x y H2->au (aB X.prog X.w) X.A (f v u) Q X.xe s2) :
  au (aB X.prog X.w) X.A (eval a X.env) (λv s₁=>au (aB X.prog X.w) X.A (eval b X.env) (λu s₂=>au (aB X.prog X.w) X.A (f v u) Q X.xe s₂) X.xe s₁) X.xe s:=by
 refine gW (ha h_ s σ H _ I h) λv s1 ⟨x,H1,I1,r1,q1⟩=>?_;refine gW (hb h_ s1 σ H1 _ I1 q1) λu s2 ⟨y,H2,I2,r2,q2⟩=>?_;exact hf v u s2 x y H2 I2 r1 r2 q2
def Ic(i:Nat):TE:=λσ H Q=>∃v,σ[i]?=a_ (a_ v)/\Q v H
def tC(v:V):TE:=λ_ H Q=>Q v H
def ux{i:Nat}{x:aV}{pos:fu}(hN:X.N[i]?=a_ x)(hv:Qe X.env.scope x)(hd:(x == ("__debug__":aV))=d_:=by decide)(hcd:(x == ("__classdict__":aV))=d_:=by decide):PE X (.Name x pos) (Ic i):=by
 intro h_ s σ H Q I h;obtain⟨v,e,h⟩:=h;obtain⟨m,hn,hl⟩:=I.loc;obtain⟨u,r,l⟩:=hl i x v hN e hv;have fin:EP X h_ σ Q u s:=⟨v,H,I,r,h⟩
 rcases l with⟨hk,hm⟩|⟨hk,c,hc,hcell⟩
 ·exact wpAny_Name (wpAny_loadName_local I.ok.kind hk hn hm fin) hd
 ·rcases hk with hk|hk
  ·exact wpAny_Name (wpAny_loadName_cell I.ok.kind hk hc hcell fin) hd
  ·exact wpAny_Name (wpAny_loadName_free I.ok.kind hk hc hcell fin hcd) hd
def RA{i j pos}:PE X (.Constant (.int i) j pos) (tC (.int i)):=λ_ _ _ H _ I h=>wpAny_Constant_int ⟨.int i,H,I.tok _,⟨_,rfl⟩,h⟩
def VJ{b j pos}:PE X (.Constant (.bool b) j pos) (tC (.bl b)):=λ_ _ _ H _ I h=>Constant_bool ⟨.bl b,H,I,rfl,h⟩
def Ry{j pos}:PE X (.Constant .none j pos) (tC .non):=λ_ _ _ H _ I h=>Constant_none ⟨.non,H,I,rfl,h⟩
def Rw{x j pos}:PE X (.Constant (.str x) j pos) (tC (.str x)):=λ_ _ _ H _ I h=>Calls.Constant_str ⟨.str x,H,I.tok _,⟨_,rfl⟩,h⟩
def Gl(X:Cx)(x:aV):Prop:=X.env.kindOf x=a_ .globalImplicit
noncomputable def xY{E:ab->ae->Prop}{h_:List (ai×fe)}{s:ae}{σ:St}{H:Hp}{x:aV}{u:ab}{pos:fu}{Q:ab->ae->Prop}(I:Inv X h_ σ H s)(hg:Gl X x)(hm:X.mg x=a_ u)(h:Q u s)
  (hd:(x == ("__debug__":aV))=d_:=by decide):au (aB X.prog X.w) X.A (eval (.Name x pos) X.env) Q E s:=
 vE I.ok.kind hg (Calls.loadGlobal_global (by rw[I.ok.glob];exact I.mod.glob.keeps I.bk) hm h) hd
def nX{E:ab->ae->Prop}{h_:List (ai×fe)}{s:ae}{σ:St}{H:Hp}{x:aV}{u:ab}{pos:fu}{Q:ab->ae->Prop}(I:Inv X h_ σ H s)(hg:Gl X x)(hm:X.mg x=b_)(hv:bootBuiltins x=a_ u)(h:Q u s)
  (hn:x≠"__name__":=by decide)(hd:(x == ("__debug__":aV))=d_:=by decide):au (aB X.prog X.w) X.A (eval (.Name x pos) X.env) Q E s:=by
 obtain⟨mb,h1,h2⟩:=I.mod.blt;exact vE I.ok.kind hg (Calls.loadGlobal_builtin (by rw[I.ok.glob];exact I.mod.glob.keeps I.bk) hm (by rw[I.ok.blt];exact h1.keeps I.bk) ((h2 x hn).trans hv) h) hd
def Np{x:aV}{v:V}{u:ab}{pos:fu}(hg:Gl X x)(hm:X.mg x=a_ u)(r:RelV v u)(hd:(x == ("__debug__":aV))=d_:=by decide):PE X (.Name x pos) (tC v):=
 λ_ _ _ H _ I h=>xY I hg hm ⟨v,H,I,r,h⟩ hd
def Nu{x:aV}{v:V}{u:ab}{pos:fu}(hg:Gl X x)(hm:X.mg x=b_)(hv:bootBuiltins x=a_ u)(r:RelV v u)(hn:x≠"__name__":=by decide)(hd:(x == ("__debug__":aV))=d_:=by decide):PE X (.Name x pos) (tC v):=
 λ_ _ _ H _ I h=>nX I hg hm hv ⟨v,H,I,r,h⟩ hn hd
variable{a b:aI}{ta tb:TE}{pos:fu}
variable{tA tB':TT}{rest:List aI}
def XQ(t u:TT):TT:=λσ H Q=>t σ H λc H1=>if c=c_ then u σ H1 Q else Q d_ H1
def ZD(t u:TT):TT:=λσ H Q=>t σ H λc H1=>if c=c_ then Q c_ H1 else u σ H1 Q
def XI(t:TT):TT:=λσ H Q=>t σ H λc H1=>Q (!c) H1
def Ng(ha:PT X a tA):PW X (.BoolOp .And [a] pos) tA:=by
 intro wh h_ s σ H Q I h;refine isTrue_and (gW (ha h_ s σ H Q I h) λc s1 e=>?_)
 cases c with
 |true=>exact isTrue_and_nil e
 |false=>exact e
def Rg(ha:PT X a tA):PW X (.BoolOp .Or [a] pos) tA:=by
 intro wh h_ s σ H Q I h;refine isTrue_or (gW (ha h_ s σ H Q I h) λc s1 e=>?_)
 cases c with
 |false=>exact isTrue_or_nil e
 |true=>exact e
def Rh(ha:PT X a tA)(hb:PW X (.BoolOp .And (b::rest) pos) tB'):PW X (.BoolOp .And (a::b::rest) pos) (XQ tA tB'):=by
 intro wh h_ s σ H Q I h;refine isTrue_and (gW (ha h_ s σ H _ I h) λc s1 ⟨H1,I1,q1⟩=>?_)
 cases c with
 |true=>exact hb wh h_ s1 σ H1 Q I1 q1
 |false=>exact⟨H1,I1,q1⟩
def VC(ha:PT X a tA)(hb:PW X (.BoolOp .Or (b::rest) pos) tB'):PW X (.BoolOp .Or (a::b::rest) pos) (ZD tA tB'):=by
 intro wh h_ s σ H Q I h;refine isTrue_or (gW (ha h_ s σ H _ I h) λc s1 ⟨H1,I1,q1⟩=>?_)
 cases c with
 |true=>exact⟨H1,I1,q1⟩
 |false=>exact hb wh h_ s1 σ H1 Q I1 q1
def Rn(ha:PT X a tA):PT X (.UnaryOp .Not a pos) (XI tA):=by
 intro h_ s σ H Q I h;exact isTrue_not (ha h_ s σ H (λc H1=>Q (!c) H1) I h)
def Vg(ta tb:TE):TE:=λσ H Q=>ta σ H λx H1=>∃c,x=.bl c/\if c=c_ then tb σ H1 Q else Q (.bl d_) H1
def XH(ta tb:TE):TE:=λσ H Q=>ta σ H λx H1=>∃c,x=.bl c/\if c=c_ then Q (.bl c_) H1 else tb σ H1 Q
def Rx{op}{t:TE}(h:PE X a t):PE X (.BoolOp op [a] pos) t:=λh_ s σ H Q I hw=>BoolOp_one (h h_ s σ H Q I hw)
def RC(ha:PE X a ta)(hb:PE X (.BoolOp .And (b::rest) pos) tb):PE X (.BoolOp .And (a::b::rest) pos) (Vg ta tb):=by
 intro h_ s σ H Q I h;refine BoolOp_and (gW (ha h_ s σ H _ I h) λv s1 ⟨x,H1,I1,r1,q1⟩=>?_);obtain⟨c,rfl,q1⟩:=q1;cases r1;refine dG ?_
 cases c with
 |true=>exact hb h_ s1 σ H1 Q I1 q1
 |false=>exact⟨.bl d_,H1,I1,rfl,q1⟩
def VH(ha:PE X a ta)(hb:PE X (.BoolOp .Or (b::rest) pos) tb):PE X (.BoolOp .Or (a::b::rest) pos) (XH ta tb):=by
 intro h_ s σ H Q I h;refine BoolOp_or (gW (ha h_ s σ H _ I h) λv s1 ⟨x,H1,I1,r1,q1⟩=>?_);obtain⟨c,rfl,q1⟩:=q1;cases r1;refine dG ?_
 cases c with
 |false=>exact hb h_ s1 σ H1 Q I1 q1
 |true=>exact⟨.bl c_,H1,I1,rfl,q1⟩
def ZE(t:TT)(ta tb:TE):TE:=λσ H Q=>t σ H λc H1=>if c=c_ then ta σ H1 Q else tb σ H1 Q
def Jo{c:aI}(hc:PT X c tA)(ha:PE X a ta)(hb:PE X b tb):PE X (.IfExp c a b pos) (ZE tA ta tb):=by
 intro h_ s σ H Q I h;refine wpAny_IfExp (gW (hc h_ s σ H _ I h) λd s1 ⟨H1,I1,q1⟩=>?_)
 cases d with
 |true=>exact ha h_ s1 σ H1 Q I1 q1
 |false=>exact hb h_ s1 σ H1 Q I1 q1
end
def oG(K:aN)(H:Hp)(a:ai)(xs:List V):Prop:=
 Rd H a (.lst xs)\/
  ∃(o:fe) (its:Array ab) (n:Nat),K.lookup a=a_ o/\o.cls=.type "list"/\o.dict=b_/\o.data=.seq its n/\its.size<=aE/\cD xs its.toList
def vN(K:aN)(H:Hp)(a:ai)(xs:List V):Prop:=
 Rd H a (.tup xs)\/
  ∃(o:fe) (its:Array ab) (n:Nat),K.lookup a=a_ o/\o.cls=.type "tuple"/\o.data=.seq its n/\its.size<=aE/\cD xs its.toList
noncomputable def YQ:ab->Option V
 |.none=>a_ .non
 |.bool b=>a_ (.bl b)
 |.int i _=>a_ (.int i)
 |.str x _=>a_ (.str x)
 |.bytes b _=>a_ (.byt b)
 |.float b _=>a_ (.flt b)
 |.ref a=>a_ (.ref a)
 |.type n=>a_ (.ty n)
 |_=>b_
def RelV.abs{x:V}{u:ab}(r:RelV x u):YQ u=a_ x:=by
 cases x with
 |non=>cases r;rfl
 |bl _=>cases r;rfl
 |int _=>obtain⟨t,rfl⟩:=r;rfl
 |str _=>obtain⟨t,rfl⟩:=r;rfl
 |byt _=>obtain⟨t,rfl⟩:=r;rfl
 |flt _=>obtain⟨t,rfl⟩:=r;rfl
 |ref _=>cases r;rfl
 |ty _=>cases r;rfl
def RelV.inj{x y:V}{u:ab}(r:RelV x u)(q:RelV y u):x=y:=aS (r.abs.symm.trans q.abs)
theorem cD.inj:∀{xs ys:List V}{us:List ab},cD xs us->cD ys us->xs=ys
 |_,_,_,.nil,.nil=>rfl
 |_,_,_,.cons r t,.cons r' t'=>by rw[r.inj r',cD.inj t t']
section
variable{X:Cx}{h_:List (ai×fe)}{σ:St}{H:Hp}{s:ae}{a:ai}{xs ys:List V}
def oG.of{K:aN}(h:H a=a_ (.lst xs)):oG K H a xs:=.inl (.inl h)
def Inv.list(I:Inv X h_ σ H s)(h:oG X.K H a xs):∃its:List ab,cD xs its/\PlainL s.heap a its.toArray/\xs.length<=aE:=by
 rcases h with h|⟨o,its,n,hk,hc,hd,hs,hz,r⟩
 ·obtain⟨z,its,n,r,e⟩:=h.ok I.hok;exact⟨its,r,⟨_,n,e,rfl,rfl,rfl⟩,z⟩
 ·refine⟨its.toList,r,⟨o,n,I.Cu a o hk,hc,hd,by simpa using hs⟩,?_⟩;have e:=r.length;simp only[aR]at e;omega
def Inv.tuple(I:Inv X h_ σ H s)(h:vN X.K H a xs):∃its:List ab,cD xs its/\L4 s.heap a its.toArray/\xs.length<=aE:=by
 rcases h with h|⟨o,its,n,hk,hc,hs,hz,r⟩
 ·obtain⟨z,its,r,p⟩:=h.ok I.hok;exact⟨its,r,p,z⟩
 ·refine⟨its.toList,r,⟨o,I.Cu a o hk,hc,n,by simpa using hs⟩,?_⟩;have e:=r.length;simp only[aR]at e;omega
def Inv.qc(I:Inv X h_ σ H s)(h:oG X.K H a xs)(h':oG X.K H a ys):xs=ys:=by
 obtain⟨its,r,⟨o,n,e,_,_,d⟩,_⟩:=I.list h;obtain⟨its',r',⟨o',n',e',_,_,d'⟩,_⟩:=I.list h';rw[e]at e';cases e';rw[d]at d'
 injection d' with d1 _
 have:its=its':=by simpa using congrArg Array.toList d1
 subst this;exact r.inj r'
def Inv.oj(I:Inv X h_ σ H s)(h:vN X.K H a xs)(h':vN X.K H a ys):xs=ys:=by
 obtain⟨its,r,⟨o,e,_,n,d⟩,_⟩:=I.tuple h;obtain⟨its',r',⟨o',e',_,n',d'⟩,_⟩:=I.tuple h';rw[e]at e';cases e';rw[d]at d'
 injection d' with d1 _
 have:its=its':=by simpa using congrArg Array.toList d1
 subst this;exact r.inj r'
end
abbrev Cx.vH(X:Cx)(E:ab->ae->Prop):Cx:={ X with xe:=E }
abbrev Cx.UO(X:Cx):Cx:=X.vH λ_ _=>False
def Cx.Ok.vH{X:Cx}(ok:X.Ok)(E:ab->ae->Prop):(X.vH E).Ok:=
 ⟨ok.mod,ok.kind,ok.glob,ok.blt,ok.above,ok.inj,ok.has,ok.cab,ok.hd,ok.frames,ok.xC,ok.exf,ok.bs,ok.bsz,ok.noex,ok.exfs,ok.uQ,ok.frf⟩
def Cx.Ok.nN{X:Cx}{E:ab->ae->Prop}(ok:(X.vH E).Ok):X.Ok:=
 ⟨ok.mod,ok.kind,ok.glob,ok.blt,ok.above,ok.inj,ok.has,ok.cab,ok.hd,ok.frames,ok.xC,ok.exf,ok.bs,ok.bsz,ok.noex,ok.exfs,ok.uQ,ok.frf⟩
section
variable{X:Cx}{h_:List (ai×fe)}{σ:St}{H:Hp}{s:ae}{E:ab->ae->Prop}
def Inv.vH(I:Inv X h_ σ H s)(E:ab->ae->Prop):Inv (X.vH E) h_ σ H s:=⟨I.ok.vH E,I.os,I.bare,I.base,I.loc,I.cell,I.free,I.freeC,I.pin,I.hok,I.len⟩
def Inv.nN(I:Inv (X.vH E) h_ σ H s):Inv X h_ σ H s:=⟨I.ok.nN,I.os,I.bare,I.base,I.loc,I.cell,I.free,I.freeC,I.pin,I.hok,I.len⟩
theorem SP.nN{D:Ends}{f:Flow}{s':ae}(h:SP (X.vH E) h_ D f s'):SP X h_ D f s':=by
 cases f with
 |next=>obtain⟨σ',H',I,q⟩:=h;exact⟨σ',H',I.nN,q⟩
 |brk=>obtain⟨σ',H',I,q⟩:=h;exact⟨σ',H',I.nN,q⟩
 |cont=>obtain⟨σ',H',I,q⟩:=h;exact⟨σ',H',I.nN,q⟩
 |ret u=>obtain⟨v,σ',H',I,r,q⟩:=h;exact⟨v,σ',H',I.nN,r,q⟩
def Bh.UO{st:List jw}{t:TS}(h:Bh X.UO st t):Bh X st t:=λh_ s σ H D I hw=>
 eT (h h_ s σ H D (I.vH _) hw) (λ_ _ q=>q.nN) λ_ _ z=>iL z
end
section
variable{X:Cx}{st:jw}{rest:List jw}{t u:TS}{e:aI}{te:TE}{pos:fu}
def Vd:TS:=λD σ H=>D.nx σ H
def XE(t u:TS):TS:=λD σ H=>t { D with nx:=u D } σ H
def Nk:Bh X [] Vd:=λ_ _ σ H _ I h=>wpAny_execs_nil ⟨σ,H,I,h⟩
def Ja(h1:PS X st t)(h2:Bh X rest u):Bh X (st::rest) (XE t u):=by
 intro h_ s σ H D I h;refine wpAny_execs_cons (gW (h1 h_ s σ H { D with nx:=u D } I h) λf s1 q=>?_)
 cases f with
 |next=>
   obtain⟨σ',H',I',q⟩:=q;exact h2 h_ s1 σ' H' D I' q
 |ret v=>exact q
 |brk=>exact q
 |cont=>exact q
def Inv.quiet{h_:List (ai×fe)}{σ:St}{H:Hp}{s:ae}(I:Inv X h_ σ H s):interactive X.env=d_:=by simp[interactive,I.ok.kind]
def Ie(te:TE):TS:=λD σ H=>te σ H λ_ H1=>D.nx σ H1
def tG(he:PE X e te)(hs:swapsWith e b_ pos.line X.env=pure d_:=by rfl):PS X (.Expr e pos) (Ie te):=by
 intro h_ s σ H D I h;exact wpAny_Expr_any (gW (he h_ s σ H _ I h) λv s1 ⟨x,H1,I1,r1,q1⟩=>⟨σ,H1,I1,q1⟩) I.quiet hs
def XF(te:TE):TS:=λD σ H=>te σ H D.rt
def Jb(he:PE X e te):PS X (.Return (a_ e) pos) (XF te):=by
 intro h_ s σ H D I h;exact wpAny_Return_some (gW (he h_ s σ H _ I h) λv s1 ⟨x,H1,I1,r1,q1⟩=>⟨x,σ,H1,I1,r1,q1⟩)
def XM(c:TT)(t u:TS):TS:=λD σ H=>c σ H λb H1=>if b=c_ then t D σ H1 else u D σ H1
def VE{c:aI}{a b:List jw}{tc:TT}(hc:PT X c tc)(ha:Bh X a t)(hb:Bh X b u):PS X (.If c a b pos) (XM tc t u):=by
 intro h_ s σ H D I h;refine wpAny_If (gW (hc h_ s σ H _ I h) λd s1 ⟨H1,I1,q1⟩=>?_)
 cases d with
 |true=>exact ha h_ s1 σ H1 D I1 q1
 |false=>exact hb h_ s1 σ H1 D I1 q1
end
abbrev TG:=V->St->Hp->(St->Hp->Prop)->Prop
abbrev Hd:=List V->St->Hp->(St->Hp->Prop)->Prop
def PG(X:Cx)(target:aI)(t:TG):Prop:=
 ∀(h_:List (ai×fe))(s:ae)(σ:St)(H:Hp)(v:V)(u:ab)(Q:St->Hp->Prop),Inv X h_ σ H s->RelV v u->t v σ H Q->
  au (aB X.prog X.w) X.A (assign target X.env u) (λ_ s'=>∃σ' H',Inv X h_ σ' H' s'/\Q σ' H') X.xe s
def U3(X:Cx)(ts:List aI)(t:Hd):Prop:=
 ∀(h_:List (ai×fe))(s:ae)(σ:St)(H:Hp)(vs:List V)(us:List ab)(Q:St->Hp->Prop),Inv X h_ σ H s->cD vs us->t vs σ H Q->
  au (aB X.prog X.w) X.A (assignInOrder ((assignEach ts X.env).map (·.2)) us) (λ_ s'=>∃σ' H',Inv X h_ σ' H' s'/\Q σ' H') X.xe s
abbrev UB:=V->V->V->Hp->(Hp->Prop)->Prop
def O3(X:Cx)(t:UB):Prop:=
 ∀(h_:List (ai×fe))(s:ae)(σ:St)(H:Hp)(o i v:V)(ov iv u:ab)(Q:Hp->Prop),Inv X h_ σ H s->RelV o ov->RelV i iv->RelV v u->t o i v H Q->
  au (aB X.prog X.w) X.A (setItem ov iv u) (λ_ s'=>∃H',Inv X h_ σ H' s'/\Q H') X.xe s
section
variable{X:Cx}{pos:fu}
def km(i:Nat):TG:=λv σ H Q=>Q (σ.set i (a_ v)) H
def DZ{i:Nat}{x:aV}(hN:X.N.Nodup)(hi:X.N[i]?=a_ x)(hx:Loc X.env.scope x)(hf:X.fn x=c_\/X.env.scope.names.lookup x=a_ .local:=by first|exact .inl rfl|exact .inr rfl|assumption):PG X (.Name x pos) (km i):=by
 intro h_ s σ H v u Q I r h;exact wpAny_assign_Name (nP I hN hi hx r (λs' I'=>⟨_,H,I',h⟩) hf)
def GQ:Hd:=λvs σ H Q=>vs=[]/\Q σ H
def wF(t:TG)(u:Hd):Hd:=λvs σ H Q=>∃v r,vs=v::r/\t v σ H λσ' H'=>u r σ' H' Q
def DY:U3 X [] GQ:=by
 intro h_ s σ H vs us Q I r h;obtain⟨e,h⟩:=h;subst e;cases r;exact assignInOrder_nil ⟨σ,H,I,h⟩
def zQ{e:aI}{es:List aI}{t:TG}{u:Hd}(h1:PG X e t)(h2:U3 X es u)
  (hs:(assignEach (e::es) X.env).map (·.2)=assign e X.env::(assignEach es X.env).map (·.2):=by rfl):U3 X (e::es) (wF t u):=by
 intro h_ s σ H vs us Q I r h;obtain⟨v,vr,e1,h⟩:=h;subst e1
 cases r with
 |cons r rr=>
   rw[hs];refine tY (gW (h1 h_ s σ H _ _ _ I r h) λ_ s1 ⟨σ1,H1,I1,q1⟩=>?_);exact h2 h_ s1 σ1 H1 _ _ Q I1 rr q1
def Kw(K:aN)(n:Nat)(t:Hd):TG:=λv σ H Q=>∃a xs,v=.ref a/\vN K H a xs/\xs.length=n/\t xs σ H Q
def Ji{es:List aI}{k:Nat}{t:Hd}{n:Nat}(hc:X.calm=c_)(h:U3 X es t)
  (hn:(assignEach es X.env).length=n:=by rfl)(hst:(assignEach es X.env).findIdx? (·.1)=b_:=by rfl):PG X (.Tuple es k pos) (Kw X.K n t):=by
 intro h_ s σ H v u Q I r hw;obtain⟨a,xs,e1,hq,hl,hw⟩:=hw;subst e1;cases r;obtain⟨its,rv,ht,hz⟩:=I.tuple hq;refine assign_Tuple_tuple (I.ok.hd hc) ht (by simp[hn,<-hl,rv.length]) hst λh' hx=>?_;have I1:Inv X h_ σ H { s with heap:=h' }:=I.kept (t':=s.toks) λb o e=>hx b o (bu (hl9 e)) e;exact h h_ _ σ H xs _ Q I1 (by simpa using rv) hw
def Td(to ti:TE)(t:UB):TG:=λv σ H Q=>to σ H λo H1=>ti σ H1 λi H2=>t o i v H2 λH3=>Q σ H3
def Jk{o i:aI}{to ti:TE}{t:UB}(ho:PE X o to)(hi:PE X i ti)(hs:O3 X t)
  (ha:∀v,assign (.Subscript o i pos) X.env v=(do
   let ov <-holding [v] (eval o X.env);let iv <-holding [v,ov] (eval i X.env)
   standAt pos
   holding [v,ov,iv] (setItem ov iv v)
   release [v,ov,iv] []):=by intro _;rfl):PG X (.Subscript o i pos) (Td to ti t):=by
 intro h_ s σ H v u Q I r h;rw[ha];refine wb9 (bZ (gW (ho h_ s σ H _ I h) λov s1 ⟨x,H1,I1,r1,q1⟩=>?_));refine wb9 (bZ (gW (hi h_ s1 σ H1 _ I1 q1) λiv s2 ⟨y,H2,I2,r2,q2⟩=>?_));refine wb9 (sU (wb9 (bZ (gW (hs h_ s2 σ H2 x y v ov iv u _ I2 r1 r2 r q2) λ_ s3 ⟨H3,I3,q3⟩=>?_))));exact wpAny_release ⟨σ,H3,I3,q3⟩
def FK(te:TE)(g:TG):TS:=λD σ H=>te σ H λx H1=>g x σ H1 D.nx
def Cb{tg e:aI}{te:TE}{g:TG}(he:PE X e te)(hg:PG X tg g)(hs:swapsWithSole [tg] e pos.line X.env=pure d_:=by rfl)(hw:swappedStores [tg] e X.env=pure b_:=by rfl)
  (h1:(assignEach [tg] X.env).map (·.2)=[assign tg X.env]:=by rfl):PS X (.Assign [tg] e pos) (FK te g):=by
 intro h_ s σ H D I h;refine wpAny_Assign_stores (gW (he h_ s σ H _ I h) λv s1 ⟨x,H1,I1,r1,q1⟩=>?_) hs hw;rw[h1];exact gW (hg h_ s1 σ H1 x v _ I1 r1 q1) λ_ s2 q=>q
def Ro{i:Nat}{x:aV}{e:aI}{te:TE}{pos':fu}(hN:X.N.Nodup)(hi:X.N[i]?=a_ x)(hx:Loc X.env.scope x)(he:PE X e te)(hs:swapsWith e (a_ (.Name x pos')) pos.line X.env=pure d_:=by rfl)(hf:X.fn x=c_\/X.env.scope.names.lookup x=a_ .local:=by first|exact .inl rfl|exact .inr rfl|assumption) :
  PS X (.Assign [.Name x pos'] e pos) (FK te (km i)):=by
 intro h_ s σ H D I h;refine wpAny_Assign_Name (gW (he h_ s σ H _ I h) λv s1 ⟨y,H1,I1,r1,q1⟩=>?_) hs;exact nP I1 hN hi hx r1 (λs2 I2=>⟨_,H1,I2,q1⟩) hf
def XG(i j:Nat)(ta:TA):TS:=λD σ H=>ta σ H λvs H1=>∃v w,vs=[v,w]/\D.nx ((σ.set i (a_ v)).set j (a_ w)) H1
def Rq{i j:Nat}{x y:aV}{a b:aI}{ta:TA}{px py pt:fu}{kt k2 pt2}(hc:X.calm=c_)(hN:X.N.Nodup)(hi:X.N[i]?=a_ x)(hj:X.N[j]?=a_ y)(hij:i≠j)
  (hx:X.env.scope.names.lookup x=a_ .local)(hy:X.env.scope.names.lookup y=a_ .local)(ha:PA X [a,b] ta)
  (hw:swappedStores [.Tuple [.Name x px,.Name y py] kt pt] (.Tuple [a,b] k2 pt2) X.env=pure (a_ [x,y]))
  (hs:swapsWithSole [.Tuple [.Name x px,.Name y py] kt pt] (.Tuple [a,b] k2 pt2) pos.line X.env=pure d_:=by rfl) :
  PS X (.Assign [.Tuple [.Name x px,.Name y py] kt pt] (.Tuple [a,b] k2 pt2) pos) (XG i j ta):=by
 intro h_ s σ H D I h;rw[exec_Assign_arm];refine wb9 (sU ?_);rw[hs];refine wb9 (wu9 ?_);rw[if_neg (by decide)];refine wb9 (Tuple_ (gW (ha _ h_ s σ H _ I h) λus s1 ⟨vs,H1,I1,r1,q1⟩=>?_));obtain⟨v,w,e1,q1⟩:=q1;subst e1
 obtain⟨u1,u2,rfl,rv,rw'⟩:∃u1 u2,us=[u1,u2]/\RelV v u1/\RelV w u2:=by
  cases r1 with
  |cons p q=>
    cases q with
    |cons p' q'=>
      cases q';exact⟨_,_,rfl,p,p'⟩
 refine cG ?_ (by show 2<=aE;decide);have I2:Inv X h_ σ H1 { s1 with heap:=s1.heap.push { cls:=.type "tuple",data:=.seq [u1,u2].toArray } }:=I1.kept (t':=s1.toks) λb o e=>hp9 _ e;rw[hw];refine wb9 (wu9 ?_);show au (aB X.prog X.w) X.A (do rule "assign.swapped-stores";let items <-unpackItems (.ref s1.heap.objs.size) 2 b_;assignInOrder [λv=>bindName X.env y v,λv=>bindName X.env x v] items.reverse;pure Flow.next) _ _ _;refine wb9 (iB (wb9 (unpackItems_tuple (items:=#[u1,u2]) (I.ok.hd hc) (yP s1.heap _) λh' hx'=>?_)));have I3:=I2.kept (h':=h') (t':=s1.toks) λb o e=>hx' b o (bu (hl9 e)) e;show au _ _ (assignInOrder [λv=>bindName X.env y v,λv=>bindName X.env x v] [u2,u1] >>= λ_=>pure Flow.next) _ _ _;refine wb9 (tY (wpAny_bindName (nP I3 hN hj (.inl hy) rw' (λs2 I4=>?_) (.inr hy))));refine tY (wpAny_bindName (nP I4 hN hi (.inl hx) rv (λs3 I5=>assignInOrder_nil (wu9 ?_)) (.inr hx)));rw[List.set_comm _ _ (eZ hij)]at I5;exact⟨_,H1,I5,q1⟩
end
section
variable{X:Cx}{pos:fu}
end
structure It where
 go:Nat->Hp->Prop
 yld:Nat->Hp->V->Hp->Prop
 stop:Nat->Hp->Prop
def pE(X:Cx)(h_:List (ai×fe))(H:Hp)(b:ai):Prop:=
 H b=b_/\b≠X.env.locals/\b∉X.fs/\(b∈X.ex\/X.s₀.heap.objs.size<=b)/\(∀x c,X.env.cells.lookup x=a_ c->c≠b)/\∀p∈X.pn++h_,p.1≠b
def Inv.AF{X:Cx}{h_:List (ai×fe)}{σ:St}{H H':Hp}{s:ae}{b:ai}(I:Inv X h_ σ H s)(hb:s.heap.objs.size<=b)(hn:H' b=b_):pE X h_ H' b:=by
 refine⟨hn,kY (bw I.lt hb),I.VW hb,.inr (cW I.sz hb),λx c e z=>?_,λp hp z=>?_⟩
 ·obtain⟨v,q⟩:=I.cell x c e;exact absurd (bw q.lt (by rw[z];exact hb)) (bx _)
 ·exact absurd (bw (hl9 (I.pin p hp).1) (by rw[z];exact hb)) (bx _)
structure Turn(P:aP)(w:bo)(K:aN)(tg:aI)(J:It)(fp:List ai)(it:ai)(tn:Nat->bH->Prop):Prop where
 mem:it∈fp
 obj:∀i h,tn i h->∀b∈fp,∃o,h.get? b=a_ o/\∀v,o.data≠.cell v
 keep:∀i h h',tn i h->(∀b∈fp,∀o,h.get? b=a_ o->h'.get? b=a_ o)->tn i h'
 item:∀(X:Cx),X.prog=P->X.w=w->X.K=K->X.calm=c_->∀(i:Nat)(h_:List (ai×fe))(s:ae)(σ:St)(H:Hp)(E:ab->ae->Prop),Inv X h_ σ H s->(∀b∈fp,pE X h_ H b)->tn i s.heap->J.go i H->
  au (aB P w) X.A (pyNext (.ref it)) (λr s1=>∃u,r=a_ u/\
   au (aB P w) X.A (letOwnedTupleGo tg (.ref it) u) (λ_ s2=>∃x H',Inv X h_ σ H' s2/\RelV x u/\J.yld i H x H'/\tn (i+1) s2.heap/\∀b∈fp,H' b=b_) E s1) E s
 done:∀(X:Cx),X.prog=P->X.w=w->X.K=K->X.calm=c_->∀(i:Nat)(h_:List (ai×fe))(s:ae)(σ:St)(H:Hp)(E:ab->ae->Prop),Inv X h_ σ H s->(∀b∈fp,pE X h_ H b)->tn i s.heap->J.stop i H->
  au (aB P w) X.A (pyNext (.ref it)) (λr s1=>r=b_/\Inv X h_ σ H s1) E s
 self:∀(A:br)(i:Nat)(s:ae)(Q:ab->ae->Prop)(E:ab->ae->Prop),tn i s.heap->Q (.ref it) s->au (aB P w) A (Hx (.ref it)) Q E s
abbrev TI:=St->Hp->(It->Hp->Prop)->Prop
def YU(X:Cx)(h_:List (ai×fe))(σ:St)(tg:aI)(R:It->Hp->Prop)(itv:ab)(s2:ae):Prop:=
 ∃(it:ai) (fp:List ai) (tn:Nat->bH->Prop) (J:It) (H':Hp),itv=.ref it/\Inv X h_ σ H' s2/\Turn X.prog X.w X.K tg J fp it tn/\tn 0 s2.heap/\(∀b∈fp,pE X h_ H' b)/\R J H'
def PI(X:Cx)(tg iter:aI)(wi:TI):Prop:=
 ∀(h_:List (ai×fe))(s:ae)(σ:St)(H:Hp)(R:It->Hp->Prop),Inv X h_ σ H s->wi σ H R->
  au (aB X.prog X.w) X.A (eval iter X.env) (λv s1=>au (aB X.prog X.w) X.A (Hx v) (YU X h_ σ tg R) X.xe s1) X.xe s
def As{M:LW}{A:br}{E:ab->ae->Prop}{s:ae}{tg:aI}{it:ai}{u:ab}{o:fe}{n:String}{vs:Array ab}{Q:Unit->ae->Prop}(ho:s.heap.get? it=a_ o)(hc:o.cls=.type n)(hd:o.data=.fields vs)
  (hn:["enumerate","zip","dict_itemiterator","dict_reverseitemiterator","odict_iterator","itertools.zip_longest","itertools.pairwise"].contains n=d_)(hQ:Q () s):au M A (letOwnedTupleGo tg (.ref it) u) Q E s:=by
 unfold letOwnedTupleGo
 cases tg<;>first
  |exact wu9 hQ
  | (cases u<;>first
    |exact wu9 hQ
    | (refine wb9 (wpAny_load ho ?_)
       rw[hc,hd];show au M A (if(["enumerate","zip","dict_itemiterator","dict_reverseitemiterator","odict_iterator","itertools.zip_longest","itertools.pairwise"].contains n && vs[0]? == a_ (rawInt _))=c_ then _ else _) Q E s;rw[if_neg (by intro h;rw[hn,jI]at h;cases h)]
       exact wu9 hQ))
def YY(K:aN)(a:ai):It:=
 ⟨λi H=>∃xs x,oG K H a xs/\xs[i]?=a_ x,λi H x H'=>H'=H/\∀xs,oG K H a xs->xs[i]?=a_ x,λi H=>∃xs,oG K H a xs/\xs.length<=i⟩
def YX(K:aN)(a:ai):It:=
 ⟨λi H=>∃xs x,vN K H a xs/\xs[i]?=a_ x,λi H x H'=>H'=H/\∀xs,vN K H a xs->xs[i]?=a_ x,λi H=>∃xs,vN K H a xs/\xs.length<=i⟩
def Xu(lo:Int)(n:Nat):It:=⟨λi _=>i<n,λi H x H'=>H'=H/\x=.int (lo+i),λi _=>n<=i⟩
def FG{P:aP}{w:bo}{K:aN}{tg:aI}(a it:ai):Turn P w K tg (YY K a) [it] it (λi h=>h.IsListIter it a i) where
 mem:=by simp
 obj:=λi h st b hb=>by
  have e:b=it:=by simpa using hb
  subst e;obtain⟨o,e,c,d⟩:=st;exact⟨o,e,λv z=>by rw[d]at z;cases z⟩
 keep:=λi h h' st k=>st.at λo e=>k it (by simp) o e
 item:=by
  intro X hP hw hK hc i h_ s σ H E I hf st hg;subst hP hw hK;obtain⟨xs,x,hq,hx⟩:=hg;obtain⟨its,rv,p,hz⟩:=I.list hq;obtain⟨u,hu,ru⟩:=rv.get hx;obtain⟨f0,f1,f2,f3,f4,f5⟩:=hf it (by simp);refine wpAny_pyNext_list_item st p.isList (x:=u) (by simpa using hu) λh' st' sb=>?_;have I1:Inv X h_ σ H { s with heap:=h' }:=I.turned (t':=s.toks) (λb o hb e=>(sb.2 b hb).trans e) f0 f1 f3 f4 f5;obtain⟨o,e,c,d⟩:=id st';exact⟨u,rfl,As (s:={ s with heap:=h' }) e c d (by decide) ⟨x,H,I1,ru,⟨rfl,λys hy=>by rw[I.qc hy hq];exact hx⟩,st',λb hb=>(hf b hb).1⟩⟩
 done:=by
  intro X hP hw hK hc i h_ s σ H E I hf st hg;subst hP hw hK;obtain⟨xs,hq,hx⟩:=hg;obtain⟨its,rv,p,hz⟩:=I.list hq;obtain⟨f0,f1,f2,f3,f4,f5⟩:=hf it (by simp);have hl:=rv.length;exact wpAny_pyNext_list_end (I.ok.hd hc) st p.isList (by simp;omega) λh' eb=>⟨rfl,I.turned (t':=s.toks) (λb o hb e=>eb b o hb e) f0 f1 f3 f4 f5⟩
 self:=λ_ _ _ _ _ st h=>wpAny_pyIter_listiter st h
def BM{P:aP}{w:bo}{K:aN}{tg:aI}(a it:ai):Turn P w K tg (YX K a) [it] it (λi h=>h.IsTupleIter it a i) where
 mem:=by simp
 obj:=λi h st b hb=>by
  have e:b=it:=by simpa using hb
  subst e;obtain⟨o,e,c,d⟩:=st;exact⟨o,e,λv z=>by rw[d]at z;cases z⟩
 keep:=λi h h' st k=>st.at λo e=>k it (by simp) o e
 item:=by
  intro X hP hw hK hc i h_ s σ H E I hf st hg;subst hP hw hK;obtain⟨xs,x,hq,hx⟩:=hg;obtain⟨its,rv,p,hz⟩:=I.tuple hq;obtain⟨u,hu,ru⟩:=rv.get hx;obtain⟨f0,f1,f2,f3,f4,f5⟩:=hf it (by simp);refine wpAny_pyNext_tuple_item st (show s.heap.IsTuple a its.toArray from p) (x:=u) (by simpa using hu) λh' st' sb=>?_;have I1:Inv X h_ σ H { s with heap:=h' }:=I.turned (t':=s.toks) (λb o hb e=>(sb.2 b hb).trans e) f0 f1 f3 f4 f5;obtain⟨o,e,c,d⟩:=id st';exact⟨u,rfl,As (s:={ s with heap:=h' }) e c d (by decide) ⟨x,H,I1,ru,⟨rfl,λys hy=>by rw[I.oj hy hq];exact hx⟩,st',λb hb=>(hf b hb).1⟩⟩
 done:=by
  intro X hP hw hK hc i h_ s σ H E I hf st hg;subst hP hw hK;obtain⟨xs,hq,hx⟩:=hg;obtain⟨its,rv,p,hz⟩:=I.tuple hq;obtain⟨f0,f1,f2,f3,f4,f5⟩:=hf it (by simp);have hl:=rv.length;exact wpAny_pyNext_tuple_end (I.ok.hd hc) st (show s.heap.IsTuple a its.toArray from p) (by simp;omega) λh' eb=>⟨rfl,I.turned (t':=s.toks) (λb o hb e=>eb b o hb e) f0 f1 f3 f4 f5⟩
 self:=λ_ _ _ _ _ st h=>wpAny_pyIter_tupleiter st h
def BN{P:aP}{w:bo}{K:aN}{tg:aI}(it:ai)(lo:Int)(n:Nat):Turn P w K tg (Xu lo n) [it] it (λi h=>IsRangeIter h it (lo+(i:Nat) * 1) ((n:Int) - (i:Nat)) 1) where
 mem:=by simp
 obj:=λi h st b hb=>by
  have e:b=it:=by simpa using hb
  subst e
  exact⟨_,st,λv z=>by
   have z':Data.fields _=Data.cell v:=z
   cases z'⟩
 keep:=λi h h' st k=>k it (by simp) _ st
 item:=by
  intro X hP hw hK hc i h_ s σ H E I hf st hg;subst hP hw hK;obtain⟨f0,f1,f2,f3,f4,f5⟩:=hf it (by simp);have W:=Walks.range (prog:=X.prog) (w:=X.w) (I.ok.hd hc) it lo 1 n;refine W.item i s _ _ hg st λv h' tk hv st' kk=>?_;obtain⟨t,rfl⟩:=hv;have I1:Inv X h_ σ H { s with heap:=h',toks:=tk }:=I.turned (λb o hb e=>kk b o (by simpa using hb) e) f0 f1 f3 f4 f5;refine⟨_,rfl,As (s:={ s with heap:=h',toks:=tk }) (n:="range_iterator") st' rfl rfl (by decide) ⟨.int (lo+i),H,I1,⟨t,?_⟩,⟨rfl,rfl⟩,st',λb hb=>(hf b hb).1⟩⟩;rw[Int.mul_one]
 done:=by
  intro X hP hw hK hc i h_ s σ H E I hf st hg;subst hP hw hK;obtain⟨f0,f1,f2,f3,f4,f5⟩:=hf it (by simp);exact wpAny_pyNext_range_end (I.ok.hd hc) st (by have:n<=i:=hg;omega) λh' eb=>⟨rfl,I.turned (t':=s.toks) (λb o hb e=>eb b o hb e) f0 f1 f3 f4 f5⟩
 self:=λ_ _ _ _ _ st h=>wpAny_pyIter_rangeiter st h
section
variable{X:Cx}{tg:aI}
def Wn(K:aN)(tl:TE):TI:=λσ H R=>tl σ H λx H1=>∃a,x=.ref a/\(∃xs,oG K H1 a xs)/\R (YY K a) H1
def Yn(K:aN)(tl:TE):TI:=λσ H R=>tl σ H λx H1=>∃a,x=.ref a/\(∃xs,vN K H1 a xs)/\R (YX K a) H1
def DX{l:aI}{tl:TE}(hl:PE X l tl):PI X tg l (Wn X.K tl):=by
 intro h_ s σ H R I h;refine gW (hl h_ s σ H _ I h) λv s1 ⟨x,H1,I1,r1,q1⟩=>?_;obtain⟨a,e,⟨xs,hq⟩,q⟩:=q1;subst e;cases r1;obtain⟨its,rv,p,hz⟩:=I1.list hq;refine ng p.isList ?_;refine⟨s1.heap.objs.size,[s1.heap.objs.size],_,_,H1,rfl,I1.kept (t':=s1.toks) λb o e=>hp9 _ e,FG a _,⟨_,aL _ rfl,rfl,rfl⟩,λb hb=>?_,q⟩;have e:b=s1.heap.objs.size:=by simpa using hb
 subst e;exact I1.AF (aC _) (I1.hok.fresh (aC _))
def Jg{l:aI}{tl:TE}(hl:PE X l tl):PI X tg l (Yn X.K tl):=by
 intro h_ s σ H R I h;refine gW (hl h_ s σ H _ I h) λv s1 ⟨x,H1,I1,r1,q1⟩=>?_;obtain⟨a,e,⟨xs,hq⟩,q⟩:=q1;subst e;cases r1;obtain⟨its,rv,p,hz⟩:=I1.tuple hq;refine wpAny_pyIter_tuple (show s1.heap.IsTuple a its.toArray from p) ?_;refine⟨s1.heap.objs.size,[s1.heap.objs.size],_,_,H1,rfl,I1.kept (t':=s1.toks) λb o e=>hp9 _ e,BM a _,⟨_,aL _ rfl,rfl,rfl⟩,λb hb=>?_,q⟩;have e:b=s1.heap.objs.size:=by simpa using hb
 subst e;exact I1.AF (aC _) (I1.hok.fresh (aC _))
def IV{h_:List (ai×fe)}{σ:St}{H:Hp}{s:ae}{R:It->Hp->Prop}{E:ab->ae->Prop}{lo hi:Int}{t u v:vQ}{tk:Nat}(I:Inv X h_ σ H s)(h1:-(2 ^ 62)<=lo)(h2:lo<2 ^ 62)(h3:-(2 ^ 62)<=hi)(h4:hi<2 ^ 62)
  (q:R (Xu lo (hi - lo).toNat) H):au (aB X.prog X.w) X.A (Hx (.ref s.heap.objs.size)) (YU X h_ σ tg R) E { s with heap:=s.heap.push { cls:=.type "range",data:=.fields #[.int lo t,.int hi u,.int 1 v] },toks:=tk }:=by
 refine wpAny_pyIter_range (IsRange.new ..) (small_one h1 h2 h3 h4) ?_;have I1:Inv X h_ σ H { s with heap:=s.heap.push { cls:=.type "range",data:=.fields #[.int lo t,.int hi u,.int 1 v] },toks:=tk }:=I.kept λb o e=>hp9 _ e
 refine⟨(s.heap.push { cls:=.type "range",data:=.fields #[.int lo t,.int hi u,.int 1 v] }).objs.size,[(s.heap.push { cls:=.type "range",data:=.fields #[.int lo t,.int hi u,.int 1 v] }).objs.size],_,_,H,rfl,
  I1.kept (t':=tk) λb o e=>hp9 _ e,BN _ lo (hi - lo).toNat,?_,λb hb=>?_,q⟩
 ·have e1:lo+((0:Nat):Int) * 1=lo:=by simp
  have e2:(((hi - lo).toNat:Nat):Int) - ((0:Nat):Int)=Builtin.Range.rangeSize lo hi 1:=by rw[rangeSize_one];split<;>omega
  show IsRangeIter _ _ (lo+((0:Nat):Int) * 1) ((((hi - lo).toNat:Nat):Int) - ((0:Nat):Int)) 1;rw[e1,e2];exact aL _ rfl
 ·have e:b=(s.heap.push { cls:=.type "range",data:=.fields #[.int lo t,.int hi u,.int 1 v] }).objs.size:=by simpa using hb
  subst e;exact I1.AF (aC _) (I1.hok.fresh (aC _))
def Wm(ta:TA):TI:=λσ H R=>ta σ H λvs H1=>∃j:Int,vs=[.int j]/\-(2 ^ 62)<=j/\j<2 ^ 62/\R (Xu 0 j.toNat) H1
def Gq{a:aI}{ta:TA}{p pos:fu}(hg:Gl X "range")(hm:X.mg "range"=b_)(ha:PA X [a] ta)(hs:aU [a] X.env=[(d_,eval a X.env)]:=by rfl):PI X tg (.Call (.Name "range" p) [a] [] pos) (Wm ta):=by
 intro h_ s σ H R I h;refine Call_ (nX I hg hm boot_range (eQ (gW (ha pos h_ s σ H _ I h) λus s1 ⟨vs,H1,I1,r1,q1⟩=>?_) hs rfl));obtain⟨j,e,q1,q2,q⟩:=q1;subst e
 cases r1 with
 |cons r rr=>
   cases rr;obtain⟨t,rfl⟩:=r;exact call_range_1 (IV I1 (by omega) (by omega) q1 q2 (by simpa using q))
noncomputable def XN(wi:TI)(g:TG)(tb:TS):TS:=λD σ H=>wi σ H λJ H1=>∃W:Nat->Nat->St->Hp->Prop,(∃m,W 0 m σ H1)/\∀i m σ H,W i m σ H->
 (J.stop i H/\D.nx σ H)\/(J.go i H/\∃N:St->Hp->Prop,(∀σ' H',N σ' H'->∃m',m'<m/\W (i+1) m' σ' H')/\∀x H',J.yld i H x H'->g x σ H' λσ2 H2=>tb { D with nx:=N,ct:=N,bk:=D.nx } σ2 H2)
def lL(fp:List ai)(h:bH):List (ai×fe):=fp.filterMap λb=>(h.get? b).map λo=>(b,o)
def mN{fp:List ai}{h:bH}{b:ai}{o:fe}(hb:b∈fp)(e:h.get? b=a_ o):(b,o)∈lL fp h:=qE.mpr ⟨b,hb,by rw[e];rfl⟩
def wo{fp:List ai}{h:bH}{p:ai×fe}(hp:p∈lL fp h):p.1∈fp/\h.get? p.1=a_ p.2:=by
 obtain⟨b,hb,e⟩:=qE.mp hp
 cases q:h.get? b with
 |none=>rw[q]at e;cases e
 |some o=>
   rw[q]at e;have e':(b,o)=p:=aS e;subst e';exact⟨hb,q⟩
def Inv.pinned{h_:List (ai×fe)}{σ:St}{H:Hp}{s:ae}{fp:List ai}(I:Inv X h_ σ H s)(hf:∀b∈fp,pE X h_ H b)(ho:∀b∈fp,∃o,s.heap.get? b=a_ o/\∀v,o.data≠.cell v):Inv X (h_++lL fp s.heap) σ H s:=
 I.p6 λp hp=>(az.mp hp).elim (λz=>I.pin p (ak _ z)) λz=>by
  obtain⟨hb,e⟩:=wo z;obtain⟨f0,f1,f2,_⟩:=hf p.1 hb;obtain⟨o,e',d⟩:=ho p.1 hb;rw[e]at e';cases e';exact⟨e,f0,f1,f2,d⟩
def Inv.lU{h_ pl:List (ai×fe)}{σ:St}{H:Hp}{s:ae}(I:Inv X (h_++pl) σ H s):Inv X h_ σ H s:=I.p6 λp hp=>I.pin p (ak _ (aJ _ hp))
def Jc{iter:aI}{body:List jw}{wi:TI}{g:TG}{tb:TS}{pos:fu}(hp:Hh (aB X.prog X.w) X.A X.env X.xe)(hc:X.calm=c_)(hi:PI X tg iter wi)(hg:PG X tg g)(hb:Bh X body tb)
  (hs:∀x,foldedSetIterable iter X.env x=pure x:=by intro _;rfl):PS X (.For tg iter body [] pos) (XN wi g tb):=by
 intro h_ s σ H D I h;refine wpAny_For (gW (hi h_ s σ H _ I h) λv s1 h1=>gW h1 λitv s2 h2=>?_) hs;obtain⟨it,fp,tn,J,H2,e,I2,T,iu,f2,W,⟨m0,w0⟩,turn⟩:=h2;subst e;have stat:∀{H':Hp},(∀b∈fp,H' b=b_)->∀b∈fp,pE X h_ H' b:=λhn b hb=>⟨hn b hb,(f2 b hb).2⟩
 refine codeAny_forLoop_any (λn s'=>∃i σ' H',Inv X h_ σ' H' s'/\tn i s'.heap/\(∀b∈fp,H' b=b_)/\W i n σ' H') ?_ m0 ⟨0,σ,H2,I2,iu,λb hb=>(f2 b hb).1,w0⟩;rintro n s3 ⟨i,σ3,H3,I3,oo,fr3,w3⟩
 rcases turn i n σ3 H3 w3 with⟨stop,qn⟩|⟨go,N,hN,step⟩
 ·refine lC hp (gW (T.done X rfl rfl rfl hc i h_ s3 σ3 H3 X.xe I3 (stat fr3) oo stop) λr s4 ⟨hr,I4⟩=>?_);subst hr;exact wpAny_execs_nil ⟨σ3,H3,I4,qn⟩
 ·refine lC hp (gW (T.item X rfl rfl rfl hc i h_ s3 σ3 H3 X.xe I3 (stat fr3) oo go) λr s4 ⟨u,hr,h4⟩=>?_);subst hr;refine lC hp (gW h4 λ_ s5 ⟨x,H5,I5,r5,y5,st5,fr5⟩=>?_);have I5':=I5.pinned (stat fr5) (T.obj _ _ st5);refine lC hp (gW (hg _ s5 σ3 H5 x u _ I5' r5 (step x H5 y5)) λ_ s6 ⟨σ6,H6,I6,q6⟩=>?_);refine lC hp (gW (hb _ s6 σ6 H6 _ I6 q6) λf s7 q7=>?_)
  have again:∀{σ7:St}{H7:Hp},Inv X (h_++lL fp s5.heap) σ7 H7 s7->N σ7 H7->∃m,m<n/\∃i σ' H',Inv X h_ σ' H' s7/\tn i s7.heap/\(∀b∈fp,H' b=b_)/\W i m σ' H':=λ{σ7 H7}I7 n7=>by
   obtain⟨m',hm,w7⟩:=hN σ7 H7 n7;refine⟨m',hm,i+1,σ7,H7,I7.lU,T.keep _ _ _ st5 λb hb o e=>(I7.pin (b,o) (ak _ (ak _ (mN hb e)))).1,λb hb=>?_,w7⟩;obtain⟨o,e,d⟩:=T.obj _ _ st5 b hb;exact(I7.pin (b,o) (ak _ (ak _ (mN hb e)))).2.1
  cases f with
  |next=>obtain⟨σ7,H7,I7,n7⟩:=q7;exact again I7 n7
  |cont=>obtain⟨σ7,H7,I7,n7⟩:=q7;exact again I7 n7
  |brk=>obtain⟨σ7,H7,I7,q7⟩:=q7;exact⟨σ7,H7,I7.lU,q7⟩
  |ret v=>obtain⟨x7,σ7,H7,I7,r7,q7⟩:=q7;exact⟨x7,σ7,H7,I7.lU,r7,q7⟩
end
abbrev R2:=V->V->Hp->VK->Prop
def jd(X:Cx)(f:ab->ab->Sem ab)(r:R2):Prop:=
 ∀(h_:List (ai×fe))(s:ae)(σ:St)(H:Hp)(x y:V)(v u:ab)(Q:VK),Inv X h_ σ H s->RelV x v->RelV y u->r x y H Q->
  au (aB X.prog X.w) X.A (f v u) (EP X h_ σ Q) X.xe s
def YR(X:Cx)(f:ab->Sem ab)(r:V->Hp->VK->Prop):Prop:=
 ∀(h_:List (ai×fe))(s:ae)(σ:St)(H:Hp)(x:V)(v:ab)(Q:VK),Inv X h_ σ H s->RelV x v->r x H Q->
  au (aB X.prog X.w) X.A (f v) (EP X h_ σ Q) X.xe s
def jB(X:Cx)(f:ab)(r:List V->Hp->VK->Prop):Prop:=
 ∀(h_:List (ai×fe))(s:ae)(σ:St)(H:Hp)(xs:List V)(us:List ab)(Q:VK),Inv X h_ σ H s->cD xs us->r xs H Q->
  au (aB X.prog X.w) X.A (call f us) (EP X h_ σ Q) X.xe s
def YS(X:Cx)(r:V->Hp->(Bool->Hp->Prop)->Prop):Prop:=
 ∀(h_:List (ai×fe))(s:ae)(σ:St)(H:Hp)(x:V)(v:ab)(Q:Bool->Hp->Prop),Inv X h_ σ H s->RelV x v->r x H Q->
  au (aB X.prog X.w) X.A (truthy v) (TP X h_ σ Q) X.xe s
def UL(r:R2)(ta tb:TE):TE:=λσ H Q=>ta σ H λx H1=>tb σ H1 λy H2=>r x y H2 Q
def ZA(r:V->Hp->VK->Prop)(ta:TE):TE:=λσ H Q=>ta σ H λx H1=>r x H1 Q
def rI(C:Int->Int->Prop)(g:Int->Int->V):R2:=λx y H Q=>∃i j,x=.int i/\y=.int j/\C i j/\Q (g i j) H
def IX(g:Int->Int->V):R2:=λx y H Q=>∃i j,x=.int i/\y=.int j/\Q (g i j) H
def rU(g:Int->V):V->Hp->VK->Prop:=λx H Q=>∃i,x=.int i/\Q (g i) H
section
variable{X:Cx}{a b c:aI}{ta tb tc:TE}{pos:fu}
def Ue(ha:PE X a ta)(hb:PE X b tb){h_:List (ai×fe)}{s:ae}{σ:St}{H:Hp}{R:V->V->Hp->Prop}(I:Inv X h_ σ H s)
  (h:ta σ H λx H1=>tb σ H1 λy H2=>R x y H2){Q:ab->ae->Prop}{f:ab->ab->Sem ab}
  (hf:∀v u s2 x y H2,Inv X h_ σ H2 s2->RelV x v->RelV y u->R x y H2->au (aB X.prog X.w) X.A (f v u) Q X.xe s2) :
  au (aB X.prog X.w) X.A (eval a X.env) (λv s₁=>au (aB X.prog X.w) X.A (eval b X.env) (λu s₂=>au (aB X.prog X.w) X.A (f v u) Q X.xe s₂) X.xe s₁) X.xe s:=by
 refine gW (ha h_ s σ H _ I h) λv s1 ⟨x,H1,I1,r1,q1⟩=>?_;refine gW (hb h_ s1 σ H1 _ I1 q1) λu s2 ⟨y,H2,I2,r2,q2⟩=>?_;exact hf v u s2 x y H2 I2 r1 r2 q2
def VI{op:vA}{r:R2}(ho:jd X (binaryOp op) r)(ha:PE X a ta)(hb:PE X b tb):PE X (.BinOp a op b pos) (UL r ta tb):=by
 intro h_ s σ H Q I h;exact wpAny_BinOp (Ue ha hb I h λv u s2 x y H2 I2 rx ry q=>ho h_ s2 σ H2 x y v u Q I2 rx ry q)
def VG{op:UnaryOp}{r:V->Hp->VK->Prop}(ho:YR X (unaryOp op) r)(ha:PE X a ta):PE X (.UnaryOp op a pos) (ZA r ta):=by
 intro h_ s σ H Q I h;exact UnaryOp_ (gW (ha h_ s σ H _ I h) λv s1 ⟨x,H1,I1,r1,q1⟩=>ho h_ s1 σ H1 x v Q I1 r1 q1)
def X6{f:ab->ab->Sem ab}{C:Int->Int->Prop}{g:Int->Int->Int}
  (rule:∀(i j:Int)(t u:vQ)(s:ae)(Q:ab->ae->Prop)(E:ab->ae->Prop),C i j->Q (.int (g i j) s.toks) { s with toks:=s.toks+1 }->au (aB X.prog X.w) X.A (f (.int i t) (.int j u)) Q E s) :
  jd X f (rI C λi j=>.int (g i j)):=by
 intro h_ s σ H x y v u Q I rx ry h;obtain⟨i,j,rfl,rfl,hc,q⟩:=h;obtain⟨t,rfl⟩:=rx;obtain⟨t',rfl⟩:=ry;exact rule i j t t' s _ _ hc ⟨.int (g i j),H,I.tok _,⟨_,rfl⟩,q⟩
def RW{f:ab->ab->Sem ab}{g:Int->Int->Int}
  (rule:∀(i j:Int)(t u:vQ)(s:ae)(Q:ab->ae->Prop)(E:ab->ae->Prop),Q (.int (g i j) s.toks) { s with toks:=s.toks+1 }->au (aB X.prog X.w) X.A (f (.int i t) (.int j u)) Q E s) :
  jd X f (IX λi j=>.int (g i j)):=by
 intro h_ s σ H x y v u Q I rx ry h;obtain⟨i,j,rfl,rfl,q⟩:=h;obtain⟨t,rfl⟩:=rx;obtain⟨t',rfl⟩:=ry;exact rule i j t t' s _ _ ⟨.int (g i j),H,I.tok _,⟨_,rfl⟩,q⟩
def NH{f:ab->ab->Sem ab}{g:Int->Int->Bool}
  (rule:∀(i j:Int)(t u:vQ)(s:ae)(Q:ab->ae->Prop)(E:ab->ae->Prop),Q (.bool (g i j)) s->au (aB X.prog X.w) X.A (f (.int i t) (.int j u)) Q E s) :
  jd X f (IX λi j=>.bl (g i j)):=by
 intro h_ s σ H x y v u Q I rx ry h;obtain⟨i,j,rfl,rfl,q⟩:=h;obtain⟨t,rfl⟩:=rx;obtain⟨t',rfl⟩:=ry;exact rule i j t t' s _ _ ⟨.bl (g i j),H,I,rfl,q⟩
def UI(i j:Int):Prop:=0<j/\j<1073741824
def O6(i j:Int):Prop:=0<=j/\j<=1000000/\i.natAbs<2 ^ 64
def Hg(i j:Int):Prop:=(-(2 ^ 64)<i/\i<2 ^ 64)\/(-(2 ^ 64)<j/\j<2 ^ 64)
def Hg.ok{i j:Int}(h:Hg i j):IntMulOk i j:=by
 rcases h with⟨h1,h2⟩|⟨h1,h2⟩
 ·exact .of_left (intBits_le_64 h1 h2)
 ·exact .of_right (intBits_le_64 h1 h2)
def BL(k:Nat):(0:Int)<=2 ^ k:=by
 rw[two_pow_cast];exact Int.natCast_nonneg _
def RV:jd X (binaryOp .Add) (IX λi j=>.int (i+j)):=RW λ_ _ _ _ _ _ _ q=>add_int q
def RG:jd X (binaryOp .Sub) (IX λi j=>.int (i - j)):=RW λ_ _ _ _ _ _ _ q=>sub_int q
def RJ:jd X (binaryOp .Mult) (rI Hg λi j=>.int (i * j)):=X6 λ_ _ _ _ _ _ _ hc q=>mul_int q hc.ok
def RK:jd X (binaryOp .Mod) (rI (λ_ j=>0<j) λi j=>.int (i % j)):=X6 λi j _ _ _ _ _ hc q=>by
 have h1:(0:Int)<j:=hc;exact mod_int' (by omega) (by rw[Int.fmod_eq_emod_of_nonneg i (by omega)];exact q)
def RH:jd X (binaryOp .RShift) (rI (λ_ j=>0<=j) λi j=>.int (i / 2 ^ j.toNat)):=X6 λi j _ _ _ _ _ hc q=>
 rshift_int hc (by rw[Int.fdiv_eq_ediv_of_nonneg i (BL _)];exact q)
def RU:jd X (binaryOp .BitAnd) (IX λi j=>.int (tX i j)):=RW λ_ _ _ _ _ _ _ q=>and_int q
def Zz{f:ab->Sem ab}{g:Int->Int}
  (rule:∀(i:Int)(t:vQ)(s:ae)(Q:ab->ae->Prop)(E:ab->ae->Prop),Q (.int (g i) s.toks) { s with toks:=s.toks+1 }->au (aB X.prog X.w) X.A (f (.int i t)) Q E s) :
  YR X f (rU λi=>.int (g i)):=by
 intro h_ s σ H x v Q I rx h;obtain⟨i,rfl,q⟩:=h;obtain⟨t,rfl⟩:=rx;exact rule i t s _ _ ⟨.int (g i),H,I.tok _,⟨_,rfl⟩,q⟩
def Ql:YR X (unaryOp .USub) (rU λi=>.int (-i)):=Zz λ_ _ _ _ _ q=>neg_int q
end
section
variable{X:Cx}{a b c:aI}{ta tb tc:TE}{pos:fu}
def CH{h_:List (ai×fe)}{σ:St}{H:Hp}{s:ae}{Q:VK}{k k':Bool}(I:Inv X h_ σ H s)(q:Q (.bl k) H)(e:k=k'):EP X h_ σ Q (.bool k') s:=by
 subst e;exact⟨.bl k,H,I,rfl,q⟩
def VM:jd X (compareOp .Lt) (IX λi j=>.bl (decide (i<j))):=NH λ_ _ _ _ _ _ _ q=>mV q
def VN:jd X (compareOp .LtE) (IX λi j=>.bl (decide (i<=j))):=NH λ_ _ _ _ _ _ _ q=>le_int q
def VO:jd X (compareOp .Gt) (IX λi j=>.bl (decide (j<i))):=NH λ_ _ _ _ _ _ _ q=>gt_int q
def VP:jd X (compareOp .GtE) (IX λi j=>.bl (decide (j<=i))):=NH λ_ _ _ _ _ _ _ q=>ge_int q
def Gs:jd X (compareOp .In) (λx y H Q=>∃i j,x=.str i/\y=.str j/\Q (.bl (!(eJ j i 0 j.length 1).isEmpty)) H):=by
 intro h_ s σ H x y v u Q I rx ry h;obtain⟨i,j,rfl,rfl,q⟩:=h;obtain⟨t,rfl⟩:=rx;obtain⟨t',rfl⟩:=ry;exact in_str (CH I q rfl)
def RN:jd X (compareOp .Is) (λx y H Q=>y=.non/\Q (.bl (decide (x=.non))) H):=by
 intro h_ s σ H x y v u Q I rx ry h;obtain⟨rfl,q⟩:=h;cases ry;refine is_none_gen (CH I q ?_)
 cases x<;>first
  |(cases rx;rfl)
  |(obtain⟨t,rfl⟩:=rx;rfl)
def Ny:jd X (compareOp .IsNot) (λx y H Q=>y=.non/\Q (.bl (!decide (x=.non))) H):=by
 intro h_ s σ H x y v u Q I rx ry h;obtain⟨rfl,q⟩:=h;cases ry;refine isnot_none_gen (CH I q ?_)
 cases x<;>first
  |(cases rx;rfl)
  |(obtain⟨t,rfl⟩:=rx;rfl)
def Nr{op:pJ}{r:R2}(ho:jd X (compareOp op) r)(ha:PE X a ta)(hb:PE X b tb)(hm:behindInMarks op b=d_):PE X (.Compare a [op] [b] pos) (UL r ta tb):=by
 intro h_ s σ H Q I h;exact wpAny_Compare1 (Ue ha hb I h λv u s2 x y H2 I2 rx ry q=>ho h_ s2 σ H2 x y v u Q I2 rx ry q) hm
def Pj(t:TE):TT:=λσ H Q=>t σ H λx H'=>∃k,x=.bl k/\Q k H'
def Nj{op:pJ}{r:R2}(ho:jd X (compareOp op) r)(ha:PE X a ta)(hb:PE X b tb)(hm:behindInMarks op b=d_):PT X (.Compare a [op] [b] pos) (Pj (UL r ta tb)):=by
 intro h_ s σ H Q I h
 refine wpAny_isTrue_Compare1 (gW (ha h_ s σ H _ I h) λv s1 ⟨x,H1,I1,r1,q1⟩=>gW (hb h_ s1 σ H1 _ I1 q1) λu s2 ⟨y,H2,I2,r2,q2⟩=>
  gW (ho h_ s2 σ H2 x y v u _ I2 r1 r2 q2) λc s3 ⟨z,H3,I3,r3,k,e,q3⟩=>?_) hm
 subst e;cases r3;exact dG ⟨H3,I3,q3⟩
def BP(r r':R2)(ta tb tc:TE):TE:=λσ H Q=>ta σ H λx H1=>tb σ H1 λy H2=>r x y H2 λz H3=>∃k,z=.bl k/\
 (if k=c_ then tc σ H3 λw' H4=>r' y w' H4 Q else Q (.bl d_) H3)
def Jq{op op':pJ}{r r':R2}(ho:jd X (compareOp op) r)(ho':jd X (compareOp op') r')(ha:PE X a ta)(hb:PE X b tb)(hc:PE X c tc)
  (hm:lastMarks [op,op'] [b,c]=d_:=by with_unfolding_all rfl):PE X (.Compare a [op,op'] [b,c] pos) (BP r r' ta tb tc):=by
 intro h_ s σ H Q I h
 refine Compare_chain (gW (ha h_ s σ H _ I h) λv s1 ⟨x,H1,I1,r1,q1⟩=>chain_link (gW (hb h_ s1 σ H1 _ I1 q1) λu s2 ⟨y,H2,I2,r2,q2⟩=>
  gW (ho h_ s2 σ H2 x y v u _ I2 r1 r2 q2) λd s3 ⟨z,H3,I3,r3,k,e,q3⟩=>?_)) hm
 subst e;cases r3;refine dG ?_
 cases k with
 |false=>exact ite_ff ⟨.bl d_,H3,I3,rfl,q3⟩
 |true=>exact ite_tt (chain_last (gW (hc h_ s3 σ H3 _ I3 q3) λw' s4 ⟨z',H4,I4,r4,q4⟩=>ho' h_ s4 σ H4 y z' u w' Q I4 r2 r4 q4))
noncomputable def I0{op op':pJ}{r r':R2}(ho:jd X (compareOp op) r)(ho':jd X (compareOp op') r')(ha:PE X a ta)(hb:PE X b tb)(hc:PE X c tc)
  (hm:lastMarks [op,op'] [b,c]=d_:=by with_unfolding_all rfl):PT X (.Compare a [op,op'] [b,c] pos) (Pj (BP r r' ta tb tc)):=by
 intro h_ s σ H Q I h
 refine isTrue_chain (gW (ha h_ s σ H _ I h) λv s1 ⟨x,H1,I1,r1,q1⟩=>test_link (gW (hb h_ s1 σ H1 _ I1 q1) λu s2 ⟨y,H2,I2,r2,q2⟩=>
  gW (ho h_ s2 σ H2 x y v u _ I2 r1 r2 q2) λd s3 ⟨z,H3,I3,r3,k,e,q3⟩=>?_)) hm
 subst e;cases r3;refine dG ?_
 cases k with
 |false=>
   obtain⟨k',e',q'⟩:=q3;cases e';exact ite_ff ⟨H3,I3,q'⟩
 |true=>
   refine ite_tt (test_last (gW (hc h_ s3 σ H3 _ I3 q3) λw' s4 ⟨z',H4,I4,r4,q4⟩=>gW (ho' h_ s4 σ H4 y z' u w' _ I4 r2 r4 q4) λd' s5 ⟨z2,H5,I5,r5,k2,e2,q5⟩=>?_));subst e2;cases r5;exact dG ⟨H5,I5,q5⟩
def Ux(K:aN)(x:V)(H:Hp)(k:Bool):Prop:=
 match x with
 |.non=>k=d_
 |.bl b=>k=b
 |.int i=>k=(i != 0)
 |.str y=>y.length<=aE/\k=((y.length:Int) != 0)
 |.byt y=>y.size<=aE/\k=((y.size:Int) != 0)
 |.ref p=>(∃xs,oG K H p xs/\k=!xs.isEmpty)\/(∃xs,vN K H p xs/\k=!xs.isEmpty)\/∃k_,H p=a_ (.dK k_)/\k=!k_.isEmpty
 |_=>False
def CA{κ:Type}{k_:List (κ×V)}{vs:List (κ×ab)}(r:KV k_ vs):(!vs.isEmpty)=!k_.isEmpty:=by
 cases r<;>rfl
def uM{xs:List V}{its:List ab}(r:cD xs its):(!its.toArray.isEmpty)=!xs.isEmpty:=by
 cases r<;>simp
def pq:(aE:Nat)<2 ^ 63:=by rw[bB];decide
def HW:YS X (λx H Q=>∃k,Ux X.K x H k/\Q k H):=by
 intro h_ s σ H x v Q I rx h;obtain⟨k,e,q⟩:=h;have hl:=pq;have hs:aE=16777216:=bB
 cases x with
 |non=>
   cases rx;have e':k=d_:=e;subst e';exact truthy_none ⟨H,I,q⟩
 |bl b=>
   cases rx;have e':k=b:=e;subst e';exact dG ⟨H,I,q⟩
 |int i=>
   obtain⟨t,rfl⟩:=rx;have e':k=(i != 0):=e;subst e';exact PySem.P.truthy_int ⟨H,I,q⟩
 |str y=>
   obtain⟨t,rfl⟩:=rx;obtain⟨hy,e'⟩:y.length<=aE/\k=((y.length:Int) != 0):=e;subst e';exact PySem.P.truthy_str (by omega) ⟨H,I.tok _,q⟩
 |byt y=>
   obtain⟨t,rfl⟩:=rx;obtain⟨hy,e'⟩:y.size<=aE/\k=((y.size:Int) != 0):=e;subst e';exact PySem.W.truthy_bytes (by omega) ⟨H,I.tok _,q⟩
 |ref p=>
   cases rx;have e':(∃xs,oG X.K H p xs/\k=!xs.isEmpty)\/(∃xs,vN X.K H p xs/\k=!xs.isEmpty)\/∃k_,H p=a_ (.dK k_)/\k=!k_.isEmpty:=e
   rcases e' with⟨xs,hx,e'⟩|⟨xs,hx,e'⟩|⟨k_,hx,e'⟩
   ·subst e';obtain⟨its,r,pl,hz⟩:=I.list hx;have hlen:=r.length;exact wpAny_truthy_list pl.isList (by simp only[aA];omega) ⟨H,I.tok _,by rw[uM r];exact q⟩
   ·subst e';obtain⟨its,r,pl,hz⟩:=I.tuple hx;have hlen:=r.length;exact truthy_tuple pl (by simp only[aA];omega) ⟨H,I.tok _,by rw[uM r];exact q⟩
   ·subst e';obtain⟨hz,hS,vs,r,m⟩:k_.length<=aE/\(p == sysModules)=d_/\∃vs,KV k_ vs/\s.heap.DictOf (bT X.prog X.w) p vs:=I.hok p _ hx;have hlen:k_.length=vs.length:=o8 r;exact wpAny_truthy_dict hS m (by omega) ⟨H,I.tok _,by rw[CA r];exact q⟩
 |_=>exact(show False from e).elim
def IZ(ha:PE X a ta)(he:∀whole,isTrue a X.env whole=(do let v <-whole;standAt a.pos;holding [v] (truthy v))) :
  PT X a (λσ H Q=>ta σ H λx H'=>∃k,Ux X.K x H' k/\Q k H'):=by
 intro h_ s σ H Q I h;exact isTrue_plain (gW (ha h_ s σ H _ I h) λv s1 ⟨x,H1,I1,r1,q1⟩=>HW h_ s1 σ H1 x v Q I1 r1 q1) (he _)
def Ci:jd X (binaryOp .Add) (λx y H Q=>∃i j,x=.str i/\y=.str j/\i.length+j.length<=aE/\Q (.str (i++j)) H):=by
 intro h_ s σ H x y v u Q I rx ry h;obtain⟨i,j,rfl,rfl,hz,q⟩:=h;obtain⟨t,rfl⟩:=rx;obtain⟨t',rfl⟩:=ry;exact add_str (λt' tk=>⟨.str (i++j),H,I.tok _,⟨_,rfl⟩,q⟩) hz
def vals1{x:V}{us:List ab}(r:cD [x] us):∃u,us=[u]/\RelV x u:=by
 cases r with
 |cons r1 r2=>cases r2;exact⟨_,rfl,r1⟩
def vals2{x y:V}{us:List ab}(r:cD [x,y] us):∃u w',us=[u,w']/\RelV x u/\RelV y w':=by
 cases r with
 |cons r1 r2=>
   cases r2 with
   |cons r3 r4=>cases r4;exact⟨_,_,rfl,r1,r3⟩
def Ha:jB X (.type "int") (λxs H Q=>(∃i,xs=[.int i]/\Q (.int i) H)\/∃k,xs=[.bl k]/\Q (.int (if k then 1 else 0)) H):=by
 intro h_ s σ H xs us Q I r h
 rcases h with⟨i,rfl,q⟩|⟨k,rfl,q⟩
 ·obtain⟨u,rfl,t,rfl⟩:=vals1 r;exact call_int_int ⟨.int i,H,I,⟨_,rfl⟩,q⟩
 ·obtain⟨u,rfl,r1⟩:=vals1 r;cases r1;exact call_int_bool ⟨.int (if k then 1 else 0),H,I.tok _,⟨_,rfl⟩,q⟩
end
section
variable{prog:aP}{w:bo}{A:br}{E:ab->ae->Prop}{s:ae}{K:aN}{x dx C f:ai}{mA:aV->Option ab}{name:aV}{v:ab}
end
noncomputable def qT(f:aV)(v:V):List (aV×V)->List (aV×V)
 |[]=>[(f,v)]
 |(g,x)::r=>if g=f then(g,v)::r else(g,x)::qT f v r
def vO.some_of{v:V}{o:Option ab}(r:vO (a_ v) o):∃u,o=a_ u/\RelV v u:=by
 cases o with
 |none=>exact(show False from r).elim
 |some u=>exact⟨u,rfl,r⟩
section
variable{P:aP}{w:bo}{H H':Hp}{h h':bH}{a C dx:ai}{fs fs':List (aV×V)}
end
section
variable{X:Cx}{h_:List (ai×fe)}{σ:St}{H:Hp}{s:ae}{a C dx:ai}{fs:List (aV×V)}{f:aV}{v:V}{A:br}{E:ab->ae->Prop}
end
section
variable{X:Cx}{o e value:aI}{f:aV}{pos pos' tpos:fu}{ta tv:TE}
end
section
variable{X:Cx}{h_:List (ai×fe)}{σ:St}{H:Hp}{s:ae}{A:br}{E:ab->ae->Prop}{Q:ab->ae->Prop}{c:ab}{b:Bool}
end
structure mr(k:Nat)(A:br):Prop where
 hd:A.handled=b_
 dp:A.depth+3 * k+5<recursionLimit
 un:A.units+16 * k+200<cg
def mr.deeper{k:Nat}{A:br}(r:mr (k+1) A)(env:vq):mr k (A.deeper env):=
 ⟨r.hd,by have:=r.dp;show A.depth+1+3 * k+5<_;omega,by have:=r.un;show A.units+3+16 * k+200<_;omega⟩
def mr.depth{k:Nat}{A:br}(r:mr k A):A.depth<recursionLimit:=by have:=r.dp;omega
def mr.units{k:Nat}{A:br}(r:mr k A):A.units+64<cg:=by have:=r.un;omega
def Vc:TA:=λ_ H Q=>Q [] H
def Ve(ta:TE)(tr:TA):TA:=λσ H Q=>ta σ H λx H1=>tr σ H1 λxs H2=>Q (x::xs) H2
section
variable{X:Cx}{e:aI}{es:List aI}{te:TE}{t:TA}{pos:fu}
def Cg:PA X [] Vc:=λ_ _ _ _ H Q I h=>jD ⟨[],H,I,.nil,h⟩
def tH(ha:PE X e te)(hr:PA X es t)(hs:aU (e::es) X.env=(d_,eval e X.env)::aU es X.env:=by rfl):PA X (e::es) (Ve te t):=by
 intro pos h_ s σ H Q I h;rw[hs];show au _ _ (spliced ((d_,eval e X.env)::backTo pos (aU es X.env))) _ _ s;refine Ft (gW (ha h_ s σ H _ I h) λu s1 ⟨x,H1,I1,r1,q1⟩=>?_);exact gW (hr pos h_ s1 σ H1 _ I1 q1) λus s2 ⟨xs,H2,I2,r2,q2⟩=>⟨x::xs,H2,I2,.cons r1 r2,q2⟩
def XD(t:TA):TE:=λσ H Q=>t σ H λxs H1=>xs.length<=aE/\∀p,H1 p=b_->Q (.ref p) (upd H1 p (.tup xs))
def XJ(t:TA):TE:=λσ H Q=>t σ H λxs H1=>xs.length<=aE/\∀p,H1 p=b_->Q (.ref p) (upd H1 p (.lst xs))
def Rv{x1}(h:PA X es t):PE X (.Tuple es x1 pos) (XD t):=by
 intro h_ s σ H Q I hq;refine wpAny_Tuple_spliced (gW (h pos h_ s σ H _ I hq) λus s1 ⟨xs,H1,I1,r,z,q⟩=>⟨by rw[<-r.length];exact z,?_⟩);have hf:H1 s1.heap.objs.size=b_:=I1.hok.fresh (aC _);refine⟨.ref s1.heap.objs.size,upd H1 s1.heap.objs.size (.tup xs),I1.laid (t':=s1.toks) (λb u e=>hp9 _ e) (aC _) ?_,rfl,q _ hf⟩;exact⟨z,us,r,⟨_,aL _ rfl,rfl,_,rfl⟩⟩
def Rz(h:PA X es t):PE X (.List es pos) (XJ t):=by
 intro h_ s σ H Q I hq;refine wpAny_List_spliced (gW (h pos h_ s σ H _ I hq) λus s1 ⟨xs,H1,I1,r,z,q⟩=>⟨by rw[<-r.length];exact z,?_⟩);have hf:H1 s1.heap.objs.size=b_:=I1.hok.fresh (aC _);refine⟨.ref s1.heap.objs.size,upd H1 s1.heap.objs.size (.lst xs),I1.laid (t':=s1.toks) (λb u e=>hp9 _ e) (aC _) ?_,rfl,q _ hf⟩;exact⟨z,us,0,r,aL _ rfl⟩
end
abbrev Sp:=List V->Hp->VK->XK->Prop
abbrev Hv:=List vq->Hp->ae->XK->ab->ae->Prop
structure eW(P:aP)(w:bo)(K:aN)(mg:aV->Option ab)(base:bH)(A:br)(outer:List vq)(s:ae)(H:Hp):Prop where
 frames:A.frames=a_ outer
 mod:Mod K mg base
 bs:∀b o,base.get? b=a_ o->s.heap.get? b=a_ o/\H b=b_
 bsz:base.objs.size<=s.heap.objs.size
 uQ:s.heap.FunFrames base outer
 frf:∀b∈Ho outer,H b=b_
 hok:qz P w H s.heap
 bare:nj s.gens
def CE(outer:List vq)(P:aP)(w:bo)(H:Hp)(s:ae)(Q:VK)(u:ab)(s':ae):Prop:=
 ∃v H',s'.os=s.os/\nj s'.gens/\Un (Ho outer) [] H H' s.heap s'.heap/\qz P w H' s'.heap/\RelV v u/\Q v H'
def CR(CX:Hv)(outer:List vq)(P:aP)(w:bo)(H:Hp)(s:ae)(Q:VK)(E:XK)(r:Result)(s':ae):Prop:=
 match r with
 |.ok (.ret u)=>CE outer P w H s Q u s'
 |.ok _=>False
 |.error e=>CX outer H s E e s'
structure mR(P:aP)(w:bo)(K:aN)(mg:aV->Option ab)(base:bH)(CX:Hv)(k:Nat)(f:ai)(fd:en)(ps:List aV)(sp:Sp):Prop where
 len:∀vs H Q E,sp vs H Q E->vs.length=ps.length
 run:∀(A:br)(outer:List vq)(s:ae)(H:Hp)(args:Args)(us:List ab)(vs:List V)(Q:VK)(E:XK),mr k A->eW P w K mg base A outer s H->Bm s fd args (ps.zip us)->cD vs us->sp vs H Q E->
  codeAny (aB P w) A (.call (.ref f) args) (CR CX outer P w H s Q E) s
def mR.imp{P:aP}{w:bo}{K:aN}{mg:aV->Option ab}{base:bH}{CX:Hv}{k:Nat}{f:ai}{fd:en}{ps:List aV}{sp sp':Sp}(F:mR P w K mg base CX k f fd ps sp)
  (h:∀vs H Q E,sp' vs H Q E->sp vs H Q E):mR P w K mg base CX k f fd ps sp':=
 ⟨λvs H Q E q=>F.len vs H Q E (h _ _ _ _ q),λA outer s H args us vs Q E hr he hb hv hs=>F.run A outer s H args us vs Q E hr he hb hv (h _ _ _ _ hs)⟩
section
variable{X:Cx}{h_:List (ai×fe)}{σ:St}{H:Hp}{s s':ae}
def Inv.Yw(I:Inv X h_ σ H s):eW X.prog X.w X.K X.mg X.base X.A X.stack s H:=
 ⟨I.ok.frames,I.ok.mod,I.bs,cW I.ok.bsz I.sz,I.stack,I.Dv,I.hok,I.bare⟩
def Inv.after{Q:VK}{u:ab}(I:Inv X h_ σ H s)(h:CE X.stack X.prog X.w H s Q u s'):EP X h_ σ Q u s':=by
 obtain⟨v,H',os,bare,un,hok,r,q⟩:=h;obtain⟨hh,g,d,t,os'⟩:=s';obtain rfl:os'=s.os:=os;exact⟨v,H',I.call (h':=hh) (g':=g) (d':=d) (t':=t) (ch:=[]) un hok bare (λb z=>absurd z (by simp)),r,q⟩
end
def Pk(sp:Sp)(dvs:List V)(E:XK)(t:TA):TE:=λσ H Q=>t σ H λvs H1=>sp (vs++dvs) H1 Q E
def Binds(K:aN)(fd:en)(ps:List aV)(ds:List ab):Prop:=
 ∀(s:ae)(us:List ab),K.In s.heap->(us++ds).length=ps.length->Bm s fd ⟨us,[]⟩ (ps.zip (us++ds))
def Binds.all{K:aN}{fd:en}{ps:List aV}(h:∀us:List ab,us.length=ps.length->bindArgs fd ⟨us,[]⟩=pure (ps.zip us)):Binds K fd ps []:=λs us _ hl=>by
 rw[aX]at hl ⊢;exact .of_eq (h us hl)
def yK(CX:Hv)(X:Cx)(E:XK):Prop:=∀(h_:List (ai×fe))(σ:St)(H:Hp)(s:ae)(e:ab)(s':ae),Inv X h_ σ H s->CX X.stack H s E e s'->X.xe e s'
section
variable{X:Cx}{CX:Hv}{k:Nat}{f C:ai}{fd:en}{ps:List aV}{sp:Sp}{dvs:List V}{ds:List ab}{E:XK}{x m:aV}{p pos apos:fu}{e o:aI}{es:List aI}{ta:TE}{t:TA}
def IM{h_:List (ai×fe)}{σ:St}{H:Hp}{s:ae}{Q:VK}{us:List ab}{vs:List V}(F:mR X.prog X.w X.K X.mg X.base CX k f fd ps sp)(hr:mr k X.A)(hb:Binds X.K fd ps ds)(hd:cD dvs ds)(hx:yK CX X E)
  (I:Inv X h_ σ H s)(r:cD vs us)(h:sp (vs++dvs) H Q E):au (aB X.prog X.w) X.A (call (.ref f) us) (EP X h_ σ Q) X.xe s:=by
 have r2:cD (vs++dvs) (us++ds):=r.append hd;have hl:(us++ds).length=ps.length:=by rw[<-r2.length];exact F.len _ _ _ _ h
 refine wpAny_call (kb (F.run X.A X.stack s H ⟨us,[]⟩ (us++ds) (vs++dvs) Q E hr I.Yw (hb s us I.Cu hl) r2 h) λr s' hq=>?_)
 cases r with
 |error e=>exact hx h_ σ H s e s' I hq
 |ok fl=>
   cases fl with
   |ret u=>exact I.after hq
   |next=>exact iL hq
   |brk=>exact iL hq
   |cont=>exact iL hq
def Nt(F:mR X.prog X.w X.K X.mg X.base CX k f fd ps sp)(hr:mr k X.A)(hg:Gl X x)(hm:X.mg x=a_ (.ref f))(hk:fS X.K (.ref f)=c_)(hb:Binds X.K fd ps ds)(hd:cD dvs ds)(hx:yK CX X E)
  (ha:PA X (e::es) t)(hdb:(x == ("__debug__":aV))=d_:=by decide)(he:aU (e::es) X.env=(d_,eval e X.env)::aU es X.env:=by rfl)(hpl:(backTo pos (aU es X.env)).any (·.1)=d_:=by rfl) :
  PE X (.Call (.Name x p) (e::es) [] pos) (Pk sp dvs E t):=by
 intro h_ s σ H Q I h;refine iC (xY I hg hm ?_ hdb);refine PySem.W.callWith_K (h₀:=X.base) I.ok.mod.kin hk (gW (ha pos h_ s σ H _ I h) λus s1 ⟨vs,H1,I1,r,q⟩=>⟨I1.Cu,?_⟩) he hpl;exact IM F hr hb hd hx I1 r q
def Jr(F:mR X.prog X.w X.K X.mg X.base CX k f fd ps sp)(hr:mr k X.A)(hg:Gl X x)(hm:X.mg x=a_ (.ref f))(hk:fS X.K (.ref f)=c_)(hb:Binds X.K fd ps ds)(hd:cD dvs ds)(hx:yK CX X E)
  (hdb:(x == ("__debug__":aV))=d_:=by decide):PE X (.Call (.Name x p) [] [] pos) (Pk sp dvs E Vc):=by
 intro h_ s σ H Q I h;refine iC (xY I hg hm ?_ hdb);exact PySem.W.callWith_K0 I.Cu hk (IM (us:=[]) F hr hb hd hx I .nil h)
structure Mk(K:aN)(C f:ai):Prop where
 makes:PySem.W.makesIn K C=c_
 init:PySem.W.findIn K (.ref C) "__init__"=a_ (a_ (.ref f))
 fn:PySem.W.isFn K (.ref f)=c_
 kp:fS K (.ref C)=c_
end
section
variable{X:Cx}{CX:Hv}{k:Nat}{f C:ai}{fd:en}{ps ks:List aV}{sp:Sp}{E:XK}{x m:aV}{p pos apos kpos:fu}{e o:aI}{es:List aI}{kws:List rT}{te ta:TE}{t tk:TA}{nm:Option aV}
variable{g:List ab->List ab->List ab}{gV:List V->List V->List V}
end
structure qA(N P:List aV)(sc:fP):Prop where
 kind:sc.kind=.function
 co:sc.isCoroutine=d_
 gen:sc.isGenerator=d_
 nd:N.Nodup
 pre:N.take P.length=P
 par:∀x∈P,sc.names.lookup x=a_ .local\/sc.names.lookup x=a_ .cell
 nofree:∀y∈sc.names,y.2≠.free
theorem wX{kindOf:aV->Option jC}{x:aV}:∀{binds:List (aV×ab)}{m:aV->Option ab},(∀v,(x,v)∉binds)->bindL kindOf binds m x=m x
 |[],_,_=>rfl
 |(n,v)::r,m,h=>by
   unfold bindL;rw[wX λw hw=>h w (ib _ hw)];split
   ·have:x≠n:=by rintro rfl;exact h v hJ
    simp[this]
   ·rfl
theorem wZ{kindOf:aV->Option jC}{x:aV}:∀{binds:List (aV×ab)}{m:aV->Option ab},(∀v,(x,v)∉binds)->bindC kindOf binds m x=m x
 |[],_,_=>rfl
 |(n,v)::r,m,h=>by
   unfold bindC;rw[wZ λw hw=>h w (ib _ hw)];split
   ·rfl
   ·have:x≠n:=by rintro rfl;exact h v hJ
    simp[this]
theorem wY{kindOf:aV->Option jC}{x:aV}{v:ab}:∀{P:List aV} {vs:List ab} {i:Nat} {m:aV->Option ab},P.Nodup->P[i]?=a_ x->vs[i]?=a_ v->kindOf x=a_ .local->
  bindL kindOf (P.zip vs) m x=a_ v
 |[],_,_,_,_,h,_,_=>by simp at h
 |_::_,[],_,_,_,_,h,_=>by simp at h
 |p::P,w::vs,0,m,nd,h1,h2,hk=>by
   simp at h1 h2;subst h1;subst h2;show bindL kindOf ((p,w)::P.zip vs) m p=_;unfold bindL;rw[wX λv hv=>(be.mp nd).1 (jr hv).1,if_pos hk];simp
 |p::P,w::vs,i+1,m,nd,h1,h2,hk=>by
   show bindL kindOf ((p,w)::P.zip vs) m x=_;unfold bindL;exact wY (i:=i) (be.mp nd).2 (by simpa using h1) (by simpa using h2) hk
theorem xf{kindOf:aV->Option jC}{x:aV}{v:ab}:∀{P:List aV} {vs:List ab} {i:Nat} {m:aV->Option ab},P.Nodup->P[i]?=a_ x->vs[i]?=a_ v->kindOf x≠a_ .local->
  bindC kindOf (P.zip vs) m x=a_ v
 |[],_,_,_,_,h,_,_=>by simp at h
 |_::_,[],_,_,_,_,h,_=>by simp at h
 |p::P,w::vs,0,m,nd,h1,h2,hk=>by
   simp at h1 h2;subst h1;subst h2;show bindC kindOf ((p,w)::P.zip vs) m p=_;unfold bindC;rw[wZ λv hv=>(be.mp nd).1 (jr hv).1,if_neg hk];simp
 |p::P,w::vs,i+1,m,nd,h1,h2,hk=>by
   show bindC kindOf ((p,w)::P.zip vs) m x=_;unfold bindC;exact xf (i:=i) (be.mp nd).2 (by simpa using h1) (by simpa using h2) hk
def start(N:List aV)(vs:List V):St:=vs.map a_++iP (N.length - vs.length) b_
noncomputable def AV(CX:Hv)(P:aP)(w:bo)(K:aN)(mg:aV->Option ab)(base:bH)(N:List aV)(qual:aV)(scope:fP)(f:ai)(cd:ab)(A:br)(outer:List vq)(s:ae)(H:Hp)(E:XK):Cx where
 prog:=P
 w:=w
 K:=K
 mg:=mg
 base:=base
 A:=A.deeper (envOfC qual scope s.heap.objs.size f cd)
 N:=N
 s₀:=s
 H₀:=H
 env:=envOfC qual scope s.heap.objs.size f cd
 outer:=outer
 stack:=envOfC qual scope s.heap.objs.size f cd::outer
 ex:=[]
 calm:=c_
 fn:=λ_=>c_
 pn:=[]
 xe:=λe s'=>au (aB P w) (A.deeper (envOfC qual scope s.heap.objs.size f cd)) (leaving (envOfC qual scope s.heap.objs.size f cd) e) (λ_ s''=>CX outer H s E e s'') (λe' s''=>CX outer H s E e' s'') s'
def A0{sc:fP}{n:Nat}{x:aV}(h:sc.names.lookup x=a_ .cell):∃c,(cellsFrom n sc.names []).lookup x=a_ c:=by
 have q:=xr sc.names n [] (.inl h);exact lO.mp q
def GL{CX:Hv}{P:aP}{w:bo}{K:aN}{mg:aV->Option ab}{base:bH}{N ps:List aV}{qual:aV}{scope:fP}{f:ai}{cd:ab}{A:br}{outer:List vq}{s s1:ae}{H:Hp}{E:XK}{us:List ab}{vs:List V}
  (S:qA N ps scope)(hd:A.handled=b_)(e0:eW P w K mg base A outer s H)(hl:vs.length=ps.length)(r:cD vs us)
  (x:InCallC s s.heap.objs.size (bindL (envOfC qual scope s.heap.objs.size f cd).kindOf (ps.zip us) λ_=>b_) (cellsFrom (s.heap.objs.size+1) scope.names []) (bindC (envOfC qual scope s.heap.objs.size f cd).kindOf (ps.zip us) λ_=>b_) s1) :
  Inv (AV CX P w K mg base N qual scope f cd A outer s H E) [] (start N vs) H s1:=by
 have hpl:ps.length<=N.length:=by have:=congrArg lT S.pre;rw[fZ]at this;omega
 obtain⟨h1,tk,rfl,hk⟩:=x.done;have noA:∀b:ai,b∉(AV CX P w K mg base N qual scope f cd A outer s H E).ex:=λb z=>absurd (show b∈([]:List ai)from z) (by simp)
 refine⟨⟨e0.mod,S.kind,rfl,rfl,aC _,λy z c h1 h2=>?_,λy hy=>?_,λy c _ h=>?_,λ_=>hd,Around.frames_deeper e0.frames,.inr ⟨rfl,rfl⟩,λb z=>absurd z (noA b),e0.bs,e0.bsz,λb _ _=>noA b,λb z=>absurd z (noA b),e0.uQ,e0.frf⟩,
  rfl,e0.bare,Un.kept hk,⟨_,x.toInCall.ns,λi y v h1 h2 h3=>?_⟩,λy c h=>⟨_,x.cell y c h⟩,e0.hok.fresh (aC _),λy c h=>?_,λp hp=>absurd (show p∈([]:List (ai×fe))from hp) (by simp),e0.hok.kept hk,?_⟩
 ·exact name_of_addr x.apart (fV h1) (fV h2)
 ·have hy:scope.names.lookup y=a_ .cell\/scope.names.lookup y=a_ .free:=hy
  rcases hy with hy|hy
  ·exact A0 hy
  ·exact absurd rfl (S.nofree _ (fV hy))
 ·exact kZ (x.above y c (fV h))
 ·have hi:i<vs.length:=by
   unfold start at h2;by_cases hi:i<vs.length
   ·exact hi
   ·rw[cP (by simpa using hi)]at h2;rw[dP]at h2;split at h2<;>cases h2
  have ha:vs[i]?=a_ v:=by
   unfold start at h2;rw[cv (by simpa using hi),aW]at h2
   cases e:vs[i]? with
   |none=>rw[e]at h2;cases h2
   |some a=>rw[e]at h2;cases h2;rfl
  obtain⟨u,hu,rv⟩:=r.get ha
  have hp:ps[i]?=a_ y:=by
   rw[<-S.pre,List.getElem?_take_of_lt (by omega)];exact h1
  have ndP:ps.Nodup:=by rw[<-S.pre];exact S.nd.sublist (HG _ _)
  refine⟨u,rv,?_⟩
  rcases S.par y (dO hp)with k|k
  ·exact .inl ⟨k,wY ndP hp hu k⟩
  ·obtain⟨c,e⟩:=A0 (n:=s.heap.objs.size+1) k;refine .inr ⟨.inl k,c,e,?_⟩;have q:=x.cell y c e;rw[xf ndP hp hu (by show scope.names.lookup y≠_;rw[k];decide)]at q;exact q
 ·exact e0.hok.fresh (kZ (x.above y c (fV h)))
 ·unfold start;show _=N.length;rw[aw,ah,jV];omega
def Wv{CX:Hv}{P:aP}{w:bo}{K:aN}{mg:aV->Option ab}{base:bH}{k:Nat}{f:ai}{name qual:aV}{params:Arguments}{body:List jw}{scope:fP}{dV kV doc pm cdv ct oc:ab}{an od:Option ai}
  {osl:Array (Option ab)}{N ps:List aV}{sp:Sp}(lk:K.lookup f=a_ ⟨oc,od,.func (pO name qual params body scope dV kV doc pm an cdv ct),osl⟩)(hcd:tW K cdv qual=c_)(S:qA N ps scope)
  (len:∀vs H Q E,sp vs H Q E->vs.length=ps.length)
  (hbody:∀(A:br)(outer:List vq)(s:ae)(H:Hp)(vs:List V)(Q:VK)(E:XK),mr k (A.deeper (envOfC qual scope s.heap.objs.size f cdv))->sp vs H Q E->
   ∃t,Bh (AV CX P w K mg base N qual scope f cdv A outer s H E) body t/\t { nx:=λ_ H'=>Q .non H',rt:=Q } (start N vs) H) :
  mR P w K mg base CX (k+1) f (pO name qual params body scope dV kV doc pm an cdv ct) ps sp:=by
 refine⟨len,λA outer s H args us vs Q E hr e0 hb r hsp=>?_⟩;have hl:=len _ _ _ _ hsp;have KX:K.In s.heap:=e0.mod.kin.keeps λb o e=>(e0.bs b o e).1;have lim:s.heap.NoLimit:=e0.mod.nolimit.keeps λb o e=>(e0.bs b o e).1
 have hkind:∀y∈ps.zip us,scope.names.lookup y.1=a_ .local\/(scope.names.lookup y.1=a_ .cell/\((cellsFrom (s.heap.objs.size+1) scope.names []).lookup y.1).isSome=c_):=λz0 hy=>by
  obtain⟨n,v⟩:=z0
  rcases S.par n (jr hy).1 with q|q
  ·exact .inl q
  ·exact .inr ⟨q,xr _ _ _ (.inl q)⟩
 refine codeAny_call_function hr.depth (KX _ _ lk) rfl S.co S.gen rfl (PySem.W.codeRec_of KX hcd) (hb _ _ _ _ ?_);refine wpAny_newFunctionEnv_cells S.kind hkind λenv he s1 x=>?_;subst he;refine⟨lim.keeps x.toInCall.keep,codeAny_func ?_⟩;obtain⟨t,ht,hq⟩:=hbody A outer s H vs Q E (hr.deeper _) hsp;have I:Inv (AV CX P w K mg base N qual scope f cdv A outer s H E) [] (start N vs) H s1:=GL S hr.hd e0 hl r x;refine eT (ht [] s1 (start N vs) H _ I hq) (λfl s' hs=>?_) λe s' hs=>hs
 have fin:∀{σ':St}{H':Hp}{v:V}{u:ab},Inv (AV CX P w K mg base N qual scope f cdv A outer s H E) [] σ' H' s'->RelV v u->Q v H'->CE outer P w H s Q u s':=
  λ{σ' H' v u}J rv q=>⟨v,H',J.os,J.bare,J.base,J.hok,rv,q⟩
 cases fl with
 |ret u=>
   obtain⟨v,σ',H',J,rv,q⟩:=hs;exact fin J rv q
 |next=>
   obtain⟨σ',H',J,q⟩:=hs;exact fin (v:=V.non) (u:=c9) J rfl q
 |brk=>
   obtain⟨_,_,_,q⟩:=hs;exact iL q
 |cont=>
   obtain⟨_,_,_,q⟩:=hs;exact iL q
section
variable{X:Cx}{x:aV}{p pos:fu}{e:aI}{es:List aI}{t:TA}{id T:String}{r:List V->Hp->VK->Prop}
def XO(r:List V->Hp->VK->Prop)(t:TA):TE:=λσ H Q=>t σ H λvs H1=>r vs H1 Q
def uy(hc:jB X (.builtin id) r)(hg:Gl X x)(hm:X.mg x=b_)(hv:bootBuiltins x=a_ (.builtin id))(ha:PA X (e::es) t)(hn:x≠"__name__":=by decide)(hdb:(x == ("__debug__":aV))=d_:=by decide)
  (he:aU (e::es) X.env=(d_,eval e X.env)::aU es X.env:=by rfl)(hpl:(backTo pos (aU es X.env)).any (·.1)=d_:=by rfl):PE X (.Call (.Name x p) (e::es) [] pos) (XO r t):=by
 intro h_ s σ H Q I h;refine iC (nX I hg hm hv ?_ hn hdb);exact oO (gW (ha pos h_ s σ H _ I h) λus s1 ⟨vs,H1,I1,r1,q1⟩=>hc h_ s1 σ H1 vs us Q I1 r1 q1) he hpl
def Gr(hc:jB X (.type T) r)(hg:Gl X x)(hm:X.mg x=b_)(hv:bootBuiltins x=a_ (.type T))(ha:PA X (e::es) t)(hn:x≠"__name__":=by decide)(hdb:(x == ("__debug__":aV))=d_:=by decide)
  (he:aU (e::es) X.env=(d_,eval e X.env)::aU es X.env:=by rfl)(hpl:(backTo pos (aU es X.env)).any (·.1)=d_:=by rfl):PE X (.Call (.Name x p) (e::es) [] pos) (XO r t):=by
 intro h_ s σ H Q I h;refine iC (nX I hg hm hv ?_ hn hdb);exact eQ (gW (ha pos h_ s σ H _ I h) λus s1 ⟨vs,H1,I1,r1,q1⟩=>hc h_ s1 σ H1 vs us Q I1 r1 q1) he hpl
end
end L2
namespace HT
open PySem PyProof.Rows
section
open PySem.SeqAt
open PySem.AutoSeq1 (wpAny_loadPart')
open PySem.MeetsSeq PySem.MeetsSeq2 PySem.MeetsSeq3
end
section
variable{prog:aP}{w:bo}{A:br}{E:ab->ae->Prop}{s:ae}
def OI{t b:ai}{vs ws:List ab}{Q:ab->ae->Prop}(ht:L4 s.heap t vs.toArray)(hb:L4 s.heap b ws.toArray)(hv:vs≠[])
  (h1:ws=[]->Q (.ref t) s)(h2:ws≠[]->Q (.ref s.heap.objs.size) { s with heap:=s.heap.push { cls:=.type "tuple",data:=.seq (vs++ws).toArray } })
  (hsz:vs.length+ws.length<=aE):au (aB prog w) A (binaryOp .Add (.ref t) (.ref b)) Q E s:=by
 obtain⟨⟨cls,dd,data,sl⟩,ho,hc,n,hd⟩:=id ht;obtain⟨⟨cls2,dd2,data2,MG⟩,ho2,hc2,n2,hd2⟩:=id hb;simp only at hc hd hc2 hd2;subst hc hd hc2 hd2;have e:vs.toArray++ws.toArray=(vs++ws).toArray:=by simp
 by_cases hw:ws=[]
 ·exact vx ⟨_,ho,rfl⟩ ⟨_,ho2,rfl⟩ xq Fl mH lR (lF _ _)
   (tuple_addW1 t b vs.toArray ws.toArray n n2 dd dd2 sl MG (by simpa using hv) (by simp[hw])) ⟨ho,ho2,h1 hw⟩
 ·refine vx ⟨_,ho,rfl⟩ ⟨_,ho2,rfl⟩ xq Fl mH lR (lF _ _)
   (tuple_addW2 t b vs.toArray ws.toArray n n2 dd dd2 sl MG (by simpa using hv) (by simpa using hw) (by rw[aA,aA];exact hsz)) ⟨ho,ho2,?_⟩
  rw[e];exact h2 hw
noncomputable def iN(n d:Nat):Option Int->Nat
 |none=>d
 |some v=>if v<0 then(v+(n:Int)).toNat else min v.toNat n
def zG(n d:Nat):iN n d b_=d:=rfl
def M5(n d k:Nat):iN n d (a_ (k:Int))=min k n:=by
 show(if(k:Int)<0 then((k:Int)+(n:Int)).toNat else min (k:Int).toNat n)=min k n;rw[if_neg (by omega),sM]
def IE(n d:Nat)(hd:d<=n)(o:Option Int):iN n d o<=n:=by
 cases o with
 |none=>exact hd
 |some v=>
   show(if v<0 then(v+(n:Int)).toNat else min v.toNat n)<=n;by_cases hv:v<0
   ·rw[if_pos hv];omega
   ·rw[if_neg hv];exact Nat.min_le_right _ _
def EW(v:Int)(n d:Nat):(if v<0 then max (v+(n:Int)) 0 else min v (n:Int))=((iN n d (a_ v):Nat):Int):=by
 show(if v<0 then max (v+(n:Int)) 0 else min v (n:Int))=(((if v<0 then(v+(n:Int)).toNat else min v.toNat n):Nat):Int)
 by_cases hv:v<0
 ·simp only[if_pos hv];omega
 ·simp only[if_neg hv];omega
def C7(lo hi:Option Int)(n:Nat):kg lo hi 1 (n:Int)=(((iN n 0 lo:Nat):Int),((iN n n hi:Nat):Int)):=by
 have h1:¬((1:Int)<0):=by omega
 unfold kg;simp only[h1,if_false];refine jj ?_ ?_
 ·cases lo with
  |none=>rfl
  |some v=>exact EW v n 0
 ·cases hi with
  |none=>rfl
  |some v=>exact EW v n n
def Cc(i j:Nat):ie (i:Int) (j:Int) 1=j - i:=by
 unfold ie;have h1:(1:Int) > 0:=by omega
 simp only[h1,if_true,Int.ediv_one];split<;>omega
def uc{v:ab}{o:Option Int}{Q:Option Int->ae->Prop}(p:qN v o)(h:Q o s):au (aB prog w) A (Builtin.Slice.slicePartIndex v) Q E s:=by
 cases p with
 |none=>exact slicePart_none h
 |int i t=>exact slicePart_int h
def lV{sl:ai}{vl vu:ab}{lo hi:Option Int}{n:Nat}{Q:Int×Int×Nat->ae->Prop}(hs:s.heap.IsSliceOf sl vl vu .none)(pl:qN vl lo)(pu:qN vu hi)
  (h:Q (((iN n 0 lo:Nat):Int),1,iN n n hi - iN n 0 lo) s):au (aB prog w) A (pR (.ref sl) (pure (n:Int))) Q E s:=by
 obtain⟨os,hos,hcs,hds⟩:=id hs;unfold pR Builtin.Slice.sliceFields;refine wb9 (wb9 (eh hos hds (x:=vl) rfl (wb9 (eh hos hds (x:=vu) rfl (wb9 (eh hos hds (x:=.none) rfl (wu9 ?_)))))));refine wb9 (slicePart_none ?_);show au _ _ (if((1:Int) == 0)=c_ then _ else _) _ _ s;rw[if_neg (by decide)];refine wb9 (uc pl (wb9 (uc pu (wb9 (wu9 ?_)))));show au _ _ (match kg lo hi 1 (n:Int)with|(lo,hi)=>pure (lo,(1:Int),ie lo hi 1)) _ _ s;rw[C7 lo hi n];show au _ _ (pure (((iN n 0 lo:Nat):Int),(1:Int),ie ((iN n 0 lo:Nat):Int) ((iN n n hi:Nat):Int) 1)) _ _ s;rw[Cc];exact wu9 h
def Jf(xs:Array ab)(i k:Nat):((ax k).filterMap λ(m:Nat)=>xs[((i:Int)+(m:Int) * 1).toNat]?).toArray=((xs.toList.drop i).take k).toArray:=by
 have e:(λ(m:Nat)=>xs[((i:Int)+(m:Int) * 1).toNat]?)=λm=>xs[i+m]? :=by
  funext m;have:((i:Int)+(m:Int) * 1).toNat=i+m:=by omega
  rw[this]
 rw[e];have:=pick_run xs i k;rw[List.filterMap_map]at this;have e2:((λx=>xs[x]?) ∘ λx=>i+x)=λm=>xs[i+m]? :=rfl;rw[e2]at this;rw[this]
def qk{t sl:ai}{items:Array ab}{vl vu:ab}{lo hi:Option Int}{Q:ab->ae->Prop}(ht:L4 s.heap t items)(hs:s.heap.IsSliceOf sl vl vu .none)(pl:qN vl lo)(pu:qN vu hi)
  (hw:¬(iN items.size 0 lo=0/\iN items.size items.size hi=items.size))
  (h:Q (.ref s.heap.objs.size) { s with heap:=s.heap.push { cls:=.type "tuple",data:=.seq ((items.toList.drop (iN items.size 0 lo)).take (iN items.size items.size hi - iN items.size 0 lo)).toArray } })
  (hsz:items.size<=aE):au (aB prog w) A (getItem (.ref t) (.ref sl)) Q E s:=by
 have htake:sizeOk (.seq ((items.toList.drop (iN items.size 0 lo)).take (iN items.size items.size hi - iN items.size 0 lo)).toArray):=by
  show((items.toList.drop (iN items.size 0 lo)).take (iN items.size items.size hi - iN items.size 0 lo)).toArray.size<=aE;rw[aA,fZ,j9,aR];omega
 have hj:iN items.size items.size hi<=items.size:=IE _ _ (aC _) hi;obtain⟨os,hos,hcs,hds⟩:=id hs;have hTs:s.TypeIs (.ref sl) "slice":=⟨os,hos,hcs⟩
 unfold getItem
 try with_reducible refine bZ ?_
 first|refine wb9 (wu9 ?_)|skip
 refine wb9 (wpAny_sequenceKey ht.typeIs (by decide) ?_)
 refine wb9 (di (name:=aa "__getitem__") ht.typeIs c5
  (bW c5 ht.typeIs entry_tuple_getitem ?_ (args_tuple_getitem _ _)))
 show au _ _ (jU (.ref t) >>= _) _ _ s;refine wb9 (tupleItemsOf_ ht ?_);refine wb9 (iA hTs ?_);rw[if_pos (by decide)];refine wb9 (lV hs pl pu ?_)
 have hno:¬((((iN items.size 0 lo:Nat):Int) == 0 && (1:Int) == 1 && (iN items.size items.size hi - iN items.size 0 lo) == items.size)=c_):=by
  intro q;rw[aq,aq]at q;have q1:((iN items.size 0 lo:Nat):Int)=0:=eq_of_beq q.1.1;have q2:iN items.size items.size hi - iN items.size 0 lo=items.size:=eq_of_beq q.2;exact hw ⟨by omega,by omega⟩
 show au _ _ (if(((iN items.size 0 lo:Nat):Int) == 0 && (1:Int) == 1 && (iN items.size items.size hi - iN items.size 0 lo) == items.size)=c_ then _ else _) _ _ s;rw[if_neg hno,Jf]
 first
  |exact wb9 (m:=iD _) (cG (wu9 ⟨_,rfl,wu9 h⟩) htake)
  |exact wb9 (m:=iD _) (cG (wb9 (wu9 (wu9 ⟨_,rfl,wu9 h⟩))) htake)
  |exact wb9 (wb9 (m:=iD _) (cG (wu9 (wu9 ⟨_,rfl,wu9 h⟩)) htake))
  |exact wb9 (wb9 (m:=iD _) (cG (wu9 ⟨_,rfl,wu9 h⟩) htake))
end
end HT
namespace L2
open PySem PySem.Spec PyProof.Rows
abbrev TO:=St->Hp->(Option Int->Hp->Prop)->Prop
def PO(X:Cx)(e:Option aI)(t:TO):Prop:=
 ∀(h_:List (ai×fe))(s:ae)(σ:St)(H:Hp)(Q:Option Int->Hp->Prop),Inv X h_ σ H s->t σ H Q->
  au (aB X.prog X.w) X.A (evalPart e X.env) (λu s'=>∃o H',Inv X h_ σ H' s'/\qN u o/\Q o H') X.xe s
def Ml:TO:=λ_ H Q=>Q b_ H
def Vb(t:TE):TO:=λσ H Q=>t σ H λx H1=>∃i,x=.int i/\Q (a_ i) H1
section
variable{X:Cx}{e:aI}{te:TE}{lo hi:Option aI}{tl th:TO}{pos p2:fu}
def Nm:PO X b_ Ml:=by
 intro h_ s σ H Q I h;rw[evalPart_none];exact wu9 ⟨b_,H,I,.none,h⟩
def Nl(h:PE X e te):PO X (a_ e) (Vb te):=by
 intro h_ s σ H Q I hw;rw[evalPart_some];refine gW (h h_ s σ H _ I hw) λu s1 ⟨x,H1,I1,r1,q1⟩=>?_;obtain⟨i,rfl,q⟩:=q1;obtain⟨t,rfl⟩:=r1;exact⟨a_ i,H1,I1,.int i t,q⟩
def YT(X:Cx)(r:V->Option Int->Option Int->Hp->VK->Prop):Prop:=
 ∀(h_:List (ai×fe))(s:ae)(σ:St)(H:Hp)(x:V)(v vl vu:ab)(lo hi:Option Int)(sl:ai)(Q:VK),Inv X h_ σ H s->RelV x v->s.heap.IsSliceOf sl vl vu .none->qN vl lo->qN vu hi->r x lo hi H Q->
  ∃T id,typeLookup (.type T) "__getitem__"=pure (a_ (.builtin id))/\s.TypeIs v T/\au (aB X.prog X.w) X.A (getItem v (.ref sl)) (EP X h_ σ Q) X.xe s
def ZC(r:V->Option Int->Option Int->Hp->VK->Prop)(te:TE)(tl th:TO):TE:=λσ H Q=>te σ H λx H1=>tl σ H1 λl H2=>th σ H2 λu H3=>r x l u H3 Q
def Jn{r:V->Option Int->Option Int->Hp->VK->Prop}(hr:YT X r)(he:PE X e te)(hl:PO X lo tl)(hu:PO X hi th):PE X (.Subscript e (.Slice lo hi b_ p2) pos) (ZC r te tl th):=by
 intro h_ s σ H Q I h;refine Subscript_ (gW (he h_ s σ H _ I h) λv s1 ⟨x,H1,I1,r1,q1⟩=>?_);refine wpAny_Slice (gW (hl h_ s1 σ H1 _ I1 q1) λvl s2 ⟨l,H2,I2,pl,q2⟩=>gW (hu h_ s2 σ H2 _ I2 q2) λvu s3 ⟨u,H3,I3,pu,q3⟩=>?_);rw[evalPart_none];refine wu9 ?_;have I4:Inv X h_ σ H3 { s3 with heap:=s3.heap.push { cls:=.type "slice",data:=.fields #[vl,vu,.none] } }:=I3.kept (t':=s3.toks) λb ob q=>hp9 _ q;obtain⟨T,id,hT,ht,hg⟩:=hr h_ { s3 with heap:=s3.heap.push { cls:=.type "slice",data:=.fields #[vl,vu,.none] } } σ H3 x v vl vu l u s3.heap.objs.size Q I4 r1 (Heap.IsSliceOf.new ..) pl pu q3;show au (aB X.prog X.w) X.A (subscriptTail e (.Slice lo hi b_ p2) v (.ref s3.heap.objs.size)) (EP X h_ σ Q) X.xe { s3 with heap:=s3.heap.push { cls:=.type "slice",data:=.fields #[vl,vu,.none] } };exact LZ (ops:=[.ref s3.heap.objs.size,v]) ht hT hg (by with_unfolding_all rfl)
def GY(xs:List V)(lo hi:Option Int):List V:=(xs.drop (HT.iN xs.length 0 lo)).take (HT.iN xs.length xs.length hi - HT.iN xs.length 0 lo)
def AW(xs:List V)(lo hi:Option Int):(GY xs lo hi).length<=xs.length:=by
 unfold GY;rw[fZ,j9];omega
def XX(K:aN):V->Option Int->Option Int->Hp->VK->Prop:=λx lo hi H Q=>∃a xs,x=.ref a/\vN K H a xs/\
 ¬(HT.iN xs.length 0 lo=0/\HT.iN xs.length xs.length hi=xs.length)/\∀p,H p=b_->Q (.ref p) (upd H p (.tup (GY xs lo hi)))
def QI:YT X (XX X.K):=by
 intro h_ s σ H x v vl vu lo hi sl Q I rx hs pl pu h;obtain⟨a,xs,rfl,hx,hw,q⟩:=h;cases rx;obtain⟨its,r,ht,hz⟩:=I.tuple hx;have hlen:its.toArray.size=xs.length:=by rw[aA];exact r.length.symm
 refine⟨"tuple",_,c5.lookup,ht.typeIs,?_⟩;refine HT.qk ht hs pl pu (by rw[hlen];exact hw) ?_ (by rw[hlen];exact hz);rw[hlen];refine⟨.ref s.heap.objs.size,_,I.laid (t':=s.toks) (o:=.tup (GY xs lo hi)) (λb ob q=>hp9 _ q) (aC _) ?_,rfl,q _ (I.hok.fresh (aC _))⟩;exact⟨cW (AW xs lo hi) hz,_,(r.drop (HT.iN xs.length 0 lo)).take (HT.iN xs.length xs.length hi - HT.iN xs.length 0 lo),yP _ _⟩
def VB(K:aN):R2:=λx y H Q=>∃a b xs ys,x=.ref a/\y=.ref b/\vN K H a xs/\vN K H b ys/\xs≠[]/\xs.length+ys.length<=aE/\
 (ys=[]->Q (.ref a) H)/\(ys≠[]->∀p,H p=b_->Q (.ref p) (upd H p (.tup (xs++ys))))
def cD.xR{xs:List V}{us:List ab}(r:cD xs us):us=[]↔xs=[]:=by
 cases r with
 |nil=>simp
 |cons _ _=>simp
def ND:jd X (binaryOp .Add) (VB X.K):=by
 intro h_ s σ H x y v u Q I rx ry h;obtain⟨a,b,xs,ys,rfl,rfl,ha,hb,hx,hz,q1,q2⟩:=h;cases rx;cases ry;obtain⟨its,r1,p1,_⟩:=I.tuple ha;obtain⟨j_,r2,p2,_⟩:=I.tuple hb;refine HT.OI p1 p2 (λz=>hx (r1.xR.mp z)) (λz=>⟨.ref a,H,I,rfl,q1 (r2.xR.mp z)⟩) (λz=>?_) (by rw[<-r1.length,<-r2.length];exact hz);refine⟨.ref s.heap.objs.size,_,I.laid (t':=s.toks) (o:=.tup (xs++ys)) (λb ob q=>hp9 _ q) (aC _) ?_,rfl,q2 (λw=>z (r2.xR.mpr w)) _ (I.hok.fresh (aC _))⟩;exact⟨by rw[aw];exact hz,_,r1.append r2,yP _ _⟩
end
noncomputable def Em(n:Nat)(i:Int):Option Nat:=if 0<=i then(if i<n then a_ i.toNat else b_)else if -(n:Int)<=i then a_ (i+n).toNat else b_
def lN{α:Type}(xs:List α)(i:Int):Option α:=(Em xs.length i).bind λj=>xs[j]?
def xZ{n:Nat}{i:Int}{j:Nat}(h:Em n i=a_ j):seqIndex? i n=a_ j/\j<n/\-(n:Int)<=i/\i<n:=by
 unfold Em at h;by_cases h0:0<=i
 ·rw[if_pos h0]at h;by_cases h1:i<n
  ·rw[if_pos h1]at h;have e:i.toNat=j:=aS h;exact⟨by rw[LU h0 h1,e],by omega,by omega,h1⟩
  ·rw[if_neg h1]at h;cases h
 ·rw[if_neg h0]at h;by_cases h1:-(n:Int)<=i
  ·rw[if_pos h1]at h;have e:(i+n).toNat=j:=aS h;exact⟨by rw[Hw (by omega) h1,e],by omega,h1,by omega⟩
  ·rw[if_neg h1]at h;cases h
def yG{α:Type}{xs:List α}{i:Int}{v:α}(h:lN xs i=a_ v):∃j,seqIndex? i xs.length=a_ j/\xs[j]?=a_ v/\j<xs.length/\-(xs.length:Int)<=i/\i<xs.length:=by
 unfold lN at h
 cases e:Em xs.length i with
 |none=>rw[e]at h;cases h
 |some j=>
   rw[e]at h;obtain⟨h1,h2,h3,h4⟩:=xZ e;exact⟨j,h1,h,h2,h3,h4⟩
def jA{α:Type}{xs:List α}{j:Nat}{v:α}(h:xs[j]?=a_ v):lN xs (j:Int)=a_ v:=by
 have hj:j<xs.length:=(bC.mp h).1
 have e:Em xs.length (j:Int)=a_ j:=by
  unfold Em;rw[if_pos (by omega),if_pos (by omega)];simp
 unfold lN;rw[e];exact h
def yJ(b:aI):Prop:=∀o i,subscripted b d_ o i=operate [o,i] (getItem o i)
def UE(X:Cx)(r:R2):Prop:=
 ∀(value slice:aI)(h_:List (ai×fe))(s:ae)(σ:St)(H:Hp)(x y:V)(v u:ab)(Q:VK),Inv X h_ σ H s->RelV x v->RelV y u->r x y H Q->
  subscripted slice d_ v u=operate [v,u] (getItem v u)->au (aB X.prog X.w) X.A (subscriptTail value slice v u) (EP X h_ σ Q) X.xe s
def U5(X:Cx)(id:String)(r:V->List V->Hp->VK->Prop):Prop:=
 ∀(h_:List (ai×fe))(s:ae)(σ:St)(H:Hp)(x:V)(xs:List V)(v:ab)(us:List ab)(Q:VK),Inv X h_ σ H s->RelV x v->cD xs us->r x xs H Q->
  au (aB X.prog X.w) X.A (call (.builtin id) (v::us)) (EP X h_ σ Q) X.xe s
section
variable{X:Cx}{a b:aI}{ta tb:TE}{pos:fu}
def Pr{r:R2}(hr:UE X r)(ha:PE X a ta)(hb:PE X b tb)(hs:yJ b):PE X (.Subscript a b pos) (UL r ta tb):=by
 intro h_ s σ H Q I h;exact Subscript_ (Ue ha hb I h λv u s2 x y H2 I2 rx ry q=>hr a b h_ s2 σ H2 x y v u Q I2 rx ry q (hs _ _))
def X0(K:aN):R2:=λx y H Q=>∃p xs i v,x=.ref p/\y=.int i/\oG K H p xs/\lN xs i=a_ v/\Q v H
def XY(K:aN):R2:=λx y H Q=>∃p xs i v,x=.ref p/\y=.int i/\vN K H p xs/\lN xs i=a_ v/\Q v H
def XZ:R2:=λx y H Q=>∃z i c,x=.str z/\y=.int i/\z.length<=aE/\lN z.cps.toList i=a_ c/\Q (.str ⟨#[c]⟩) H
def N6:UE X (X0 X.K):=by
 intro value slice h_ s σ H x y v u Q I rx ry h hs;obtain⟨p,xs,i,z,rfl,rfl,hq,he,q⟩:=h;cases rx;obtain⟨t,rfl⟩:=ry;obtain⟨its,r,pl,hz⟩:=I.list hq;obtain⟨j,h1,h2,h3,h4,h5⟩:=yG he;obtain⟨w,ew,rw'⟩:=r.get h2;have hl:=r.length;have hn:=pq;have fin:EP X h_ σ Q w s:=⟨z,H,I,rw',q⟩
 by_cases h0:0<=i
 ·have hj:i.toNat=j:=by
   rw[LU h0 h5]at h1;exact aS h1
  exact item_listR pl.isList h0 (by omega) (by rw[hj];simpa using ew) fin hs
 ·have hj:(i+(its.toArray.size:Int)).toNat=j:=by
   rw[Hw (by omega) h4]at h1;rw[aA,<-hl];exact aS h1
  exact HB (x:=w) pl.isList.typeIs slot_list_getitem.lookup
   (wpAny_getItem_list_neg (Q:=λr s'=>r=w/\EP X h_ σ Q r s') pl.isList (by omega) (by rw[aA]<;>omega) (by omega) (by rw[hj];simpa using ew) ⟨rfl,fin⟩) hs
def SK:UE X (XY X.K):=by
 intro value slice h_ s σ H x y v u Q I rx ry h hs;obtain⟨p,xs,i,z,rfl,rfl,hq,he,q⟩:=h;cases rx;obtain⟨t,rfl⟩:=ry;obtain⟨its,r,pl,hz⟩:=I.tuple hq;obtain⟨j,h1,h2,h3,h4,h5⟩:=yG he;obtain⟨w,ew,rw'⟩:=r.get h2;have hl:=r.length;have hn:=pq;have fin:EP X h_ σ Q w s:=⟨z,H,I,rw',q⟩
 exact HB (x:=w) pl.typeIs slot_tuple_getitem.lookup
  (getItem_tuple (j:=j) (Q:=λr s'=>r=w/\EP X h_ σ Q r s') pl (by omega) (by omega) (by rw[aA,<-hl];exact h1) (by simpa using ew) ⟨rfl,fin⟩) hs
def SM:UE X XZ:=by
 intro value slice h_ s σ H x y v u Q I rx ry h hs;obtain⟨z,i,c,rfl,rfl,hz,he,q⟩:=h;obtain⟨t,rfl⟩:=rx;obtain⟨t',rfl⟩:=ry;obtain⟨j,h1,h2,h3,h4,h5⟩:=yG he;have hl:z.cps.toList.length=z.length:=by simp[Str.length]
 rw[hl]at h1 h4 h5;have hn:=pq
 exact LZ (typeIs_str s z t) slot_str_getitem.lookup (getItem_str (c:=c) (by
  have e1:decide (i < -(2 ^ 63:Int))=d_:=decide_eq_false (by omega);have e2:decide (i>=2 ^ 63)=d_:=decide_eq_false (by omega)
  rw[e1,e2,yT]) (by rw[h1];simpa using h2) ⟨.str ⟨#[c]⟩,H,I.tok _,⟨_,rfl⟩,q⟩) hs
def Cq(its:List ab)(n j:Nat)(u:ab):eM (·.setIfInBounds j u) { cls:=.type "list",data:=.seq its.toArray n }={ cls:=.type "list",data:=.seq (its.set j u).toArray n }:=by
 simp[eM]
def Inv.lst{h_:List (ai×fe)}{σ:St}{H:Hp}{s:ae}{p:ai}{xs:List V}(I:Inv X h_ σ H s)(h:H p=a_ (.lst xs)) :
  ∃(its:List ab) (n:Nat),cD xs its/\s.heap.get? p=a_ { cls:=.type "list",data:=.seq its.toArray n }/\xs.length<=aE:=by
 obtain⟨z,its,n,r,e⟩:=I.hok p _ h;exact⟨its,n,r,e,z⟩
def Inv.Si{h_:List (ai×fe)}{σ:St}{H:Hp}{s:ae}{p:ai}{xs ys:List V}{its its':List ab}{n n':Nat}{f:fe->fe}(I:Inv X h_ σ H s)(h:H p=a_ (.lst xs))
  (ho:s.heap.get? p=a_ { cls:=.type "list",data:=.seq its.toArray n })(hf:f { cls:=.type "list",data:=.seq its.toArray n }={ cls:=.type "list",data:=.seq its'.toArray n' })(r:cD ys its')(hz:ys.length<=aE)(t:Nat) :
  Inv X h_ σ (upd H p (.lst ys)) { s with heap:=s.heap.update p f,toks:=t }:=by
 have e:(s.heap.update p f).get? p=a_ { cls:=.type "list",data:=.seq its'.toArray n' }:=by
  rw[iy f ho (by rw[hf]<;>rfl),hf]
 refine I.write (x:=p) (e:=p) (by rw[h];trivial) (.inl rfl) (λb u hb q=>(jG _ _ (eZ hb)).trans q) ⟨_,e⟩ ?_;exact⟨hz,its',n',r,e⟩
def IW:V->V->V->Hp->(Hp->Prop)->Prop:=λo i v H Q=>∃p xs k j,o=.ref p/\i=.int k/\H p=a_ (.lst xs)/\Em xs.length k=a_ j/\Q (upd H p (.lst (xs.set j v)))
def set_list:O3 X IW:=by
 intro h_ s σ H o i v ov iv u Q I ro ri rv h;obtain⟨p,xs,k,j,rfl,rfl,hp,hj,q⟩:=h;cases ro;obtain⟨t,rfl⟩:=ri;obtain⟨its,n,r,ho,hz⟩:=I.lst hp;obtain⟨h1,h2,h3,h4⟩:=xZ hj;have hl:=r.length;have hn:=pq
 have I':Inv X h_ σ (upd H p (.lst (xs.set j v))) { s with heap:=s.heap.update p (eM (·.setIfInBounds j u)) }:=
  I.Si hp ho (Cq its n j u) (r.set rv j) (by rw[List.length_set];exact hz) s.toks
 by_cases h0:0<=k
 ·have hk:k.toNat=j:=by
   rw[LU h0 h4]at h1;exact aS h1
  exact PySem.W.ki_setAt ho h0 (by omega) (by rw[aA,<-hl];exact h4) (by rw[hk];exact⟨_,I',q⟩)
 ·have hk:(k+(its.toArray.size:Int)).toNat=j:=by
   rw[Hw (by omega) h3]at h1;rw[aA,<-hl];exact aS h1
  exact PySem.W.ki_setBack ho (by omega) (by rw[aA,<-hl];exact h3) (by omega) (by rw[hk];exact⟨_,I',q⟩)
def xN:jd X (compareOp .NotIn) (λx y H Q=>∃i j,x=.str i/\y=.str j/\Q (.bl (!(!(eJ j i 0 j.length 1).isEmpty))) H):=by
 intro h_ s σ H x y v u Q I rx ry h;obtain⟨i,j,rfl,rfl,q⟩:=h;obtain⟨t,rfl⟩:=rx;obtain⟨t',rfl⟩:=ry;exact notIn_str ⟨.bl _,H,I,rfl,q⟩
def qv:jB X (.builtin "len") (λxs H Q=>∃p ys,xs=[.ref p]/\(oG X.K H p ys\/vN X.K H p ys)/\Q (.int ys.length) H):=by
 intro h_ s σ H xs us Q I r h;obtain⟨p,ys,rfl,hq,q⟩:=h;obtain⟨u,rfl,rx⟩:=vals1 r;cases rx;have hn:=pq
 rcases hq with hq|hq
 ·obtain⟨its,r',pl,hz⟩:=I.list hq;have hlen:=r'.length;exact Calls.call_len_list pl.isList (by simp only[aA]<;>omega) ⟨.int ys.length,H,I.tok _,⟨s.toks+1,by rw[aA,hlen]⟩,q⟩
 ·obtain⟨its,r',pl,hz⟩:=I.tuple hq;have hlen:=r'.length;exact len_tuple pl (by simp only[aA]<;>omega) ⟨.int ys.length,H,I.tok _,⟨s.toks+1,by rw[aA,hlen]⟩,q⟩
def yA:jB X (.builtin "len") (λxs H Q=>∃z,xs=[.str z]/\z.length<=aE/\Q (.int z.length) H):=by
 intro h_ s σ H xs us Q I r h;obtain⟨z,rfl,hz,q⟩:=h;obtain⟨u,rfl,t,rfl⟩:=vals1 r;have hn:=pq;exact len_str (by omega) ⟨.int z.length,H,I.tok _,⟨_,rfl⟩,q⟩
def qu:jB X (.type "list") (λxs H Q=>∃p ys,xs=[.ref p]/\(oG X.K H p ys\/vN X.K H p ys)/\∀l,H l=b_->Q (.ref l) (upd H l (.lst ys))):=by
 intro h_ s σ H xs us Q I r h;obtain⟨p,ys,rfl,hq,q⟩:=h;obtain⟨u,rfl,rx⟩:=vals1 r;cases rx
 have fin:∀(its:List ab),cD ys its->ys.length<=aE->∀(h':bH) (c':Nat),(∀b o',s.heap.get? b=a_ o'->h'.get? b=a_ o')->
   h'.get? s.heap.objs.size=a_ { cls:=.type "list",dict:=b_,data:=.seq its.toArray c',slots:=#[] }->EP X h_ σ Q (.ref s.heap.objs.size) { s with heap:=h' }:=λits r' hz h' c' kp e=>
  ⟨.ref s.heap.objs.size,_,I.laid (t':=s.toks) kp (aC _) (show iT X.prog X.w _ h' _ (.lst ys)from⟨hz,its,c',r',e⟩),rfl,q _ (I.hok.fresh (aC _))⟩
 rcases hq with hq|hq
 ·obtain⟨its,r',pl,hz⟩:=I.list hq;have hlen:=r'.length;obtain⟨o,ho,hc,n,hd⟩:=pl.isList;exact call_list_seq p (.inl rfl) ho hc hd (λh' c' kp e=>fin its r' hz h' c' kp e) (by simp only[aA]<;>omega)
 ·obtain⟨its,r',pl,hz⟩:=I.tuple hq;have hlen:=r'.length;obtain⟨o,ho,hc,n,hd⟩:=pl;exact call_list_seq p (.inr rfl) ho hc hd (λh' c' kp e=>fin its r' hz h' c' kp e) (by simp only[aA]<;>omega)
def oX:jB X (.type "tuple") (λxs H Q=>∃p ys,xs=[.ref p]/\((oG X.K H p ys/\∀l,H l=b_->Q (.ref l) (upd H l (.tup ys)))\/(vN X.K H p ys/\Q (.ref p) H))):=by
 intro h_ s σ H xs us Q I r h;obtain⟨p,ys,rfl,h⟩:=h;obtain⟨u,rfl,rx⟩:=vals1 r;cases rx
 rcases h with⟨hq,q⟩|⟨hq,q⟩
 ·obtain⟨its,r',pl,hz⟩:=I.list hq;have hlen:=r'.length;refine call_tuple_list pl.isList (λh' kp=>?_) (by simp only[aA]<;>omega);have I1:Inv X h_ σ H { s with heap:=h' }:=I.kept (t':=s.toks) kp
  have I2:Inv X h_ σ (upd H h'.objs.size (.tup ys)) { s with heap:=h'.push { cls:=.type "tuple",data:=.seq its.toArray } }:=
   I1.laid (t':=s.toks) (λb o e=>hp9 _ e) (aC _) (show iT X.prog X.w _ _ _ (.tup ys)from⟨hz,its,r',yP _ _⟩)
  exact⟨.ref h'.objs.size,_,I2,rfl,q _ (I1.hok.fresh (aC _))⟩
 ·obtain⟨its,r',pl,hz⟩:=I.tuple hq;exact call_tuple_same pl ⟨.ref p,H,I,rfl,q⟩
def XC(K:aN)(T:String)(x:V)(H:Hp):Prop:=match x with
 |.str _=>T="str"
 |.int _=>T="int"
 | .ref p=>(T="list"/\∃xs,oG K H p xs)\/(T="tuple"/\∃o,K.lookup p=a_ o/\o.cls=.type "tuple"/\o.dict=b_)\/
   (T="dict"/\((∃k_,H p=a_ (.dK k_))\/∃k_,H p=a_ (.dT k_)))\/(T="set"/\∃S n,H p=a_ (.set S n))
 |_=>False
def HQ{h_:List (ai×fe)}{σ:St}{H:Hp}{s:ae}{T:String}{x:V}{v:ab}(I:Inv X h_ σ H s)(r:RelV x v)(ty:XC X.K T x H) :
  s.TypeIs v T/\∀a,v=.ref a->∃ob,s.heap.get? a=a_ ob/\ob.dict=b_:=by
 cases x with
 |str z=>
   obtain⟨t,rfl⟩:=r;cases(show T="str" from ty);exact⟨typeIs_str s z t,λ_ e=>nomatch e⟩
 |int i=>
   obtain⟨t,rfl⟩:=r;cases(show T="int" from ty);exact⟨typeIs_int s i t,λ_ e=>nomatch e⟩
 |ref p=>
   cases r
   rcases ty with⟨rfl,xs,hq⟩|⟨rfl,o,hk,hc,hd⟩|⟨rfl,hk⟩|⟨rfl,S,n,hk⟩
   ·obtain⟨its,_,pl,_⟩:=I.list hq;refine⟨pl.isList.typeIs,λa e=>?_⟩;cases e;obtain⟨o,n,e,c,hd,_⟩:=pl;exact⟨o,e,hd⟩
   ·refine⟨⟨o,I.Cu p o hk,hc⟩,λa e=>?_⟩;cases e;exact⟨o,I.Cu _ o hk,hd⟩
   ·have z:∃o,s.heap.get? p=a_ o/\o.ExactDict:=by
     rcases hk with⟨k_,hk⟩|⟨k_,hk⟩
     ·obtain⟨_,_,_,_,o,_,_,e,ex,_⟩:=I.hok p _ hk;exact⟨o,e,ex⟩
     ·obtain⟨_,_,_,_,o,_,_,e,ex,_⟩:=I.hok p _ hk;exact⟨o,e,ex⟩
    obtain⟨o,e,ex⟩:=z;refine⟨⟨o,e,ex.1⟩,λa e2=>?_⟩;cases e2;exact⟨o,e,ex.2.1⟩
   ·obtain⟨o,_,_,_,e,ex,_⟩:=I.hok p _ hk;refine⟨⟨o,e,ex.1⟩,λa e2=>?_⟩;cases e2;exact⟨o,e,ex.2.1⟩
 |_=>exact iL ty
def Vf(K:aN)(T:String)(r:V->List V->Hp->VK->Prop)(to:TE):TE:=λσ H Q=>to σ H λx H1=>XC K T x H1/\r x [] H1 Q
def Xg(K:aN)(T:String)(r:V->List V->Hp->VK->Prop)(to:TE)(t:TA):TE:=λσ H Q=>to σ H λx H1=>XC K T x H1/\t σ H1 λxs H2=>r x xs H2 Q
variable{o e:aI}{es:List aI}{to:TE}{t:TA}{name:aV}{apos cpos:fu}{T id:String}{r:V->List V->Hp->VK->Prop}
def RB(pa:PlainAttrs T)(slot:Slot T name id)(hty:typeOf (.builtin id)=pure (.type "method_descriptor"))(hm:U5 X id r)(ho:PE X o to)
  (hbase:attributeBase o name X.env (eval o X.env)=eval o X.env:=by rfl)(hline:(apos.endLine == cpos.line)=c_:=by rfl):PE X (.Call (.Attribute o name apos) [] [] cpos) (Vf X.K T r to):=by
 intro h_ s σ H Q I h;refine wpAny_Call_method0_late hbase hline (gW (ho h_ s σ H _ I h) λv s1 ⟨x,H1,I1,r1,ty,q1⟩=>?_);obtain⟨h1,h2⟩:=HQ I1 r1 ty;exact⟨T,id,pa,slot,hty,h1,h2,zd rfl (PySem.evalArgs_none (hm h_ s1 σ H1 x [] v [] Q I1 r1 .nil q1))⟩
def D0(pa:PlainAttrs T)(slot:Slot T name id)(hty:typeOf (.builtin id)=pure (.type "method_descriptor"))(hm:U5 X id r)(ho:PE X o to)(ha:PA X (e::es) t)
  (hbase:attributeBase o name X.env (eval o X.env)=eval o X.env:=by rfl)
  (hfew:((backTo cpos (aU (e::es) X.env)).all (λx=>!x.1) && (backToKw cpos (keywordEach [] X.env)).all (λx=>x.1.isSome)
   && decide ((e::es).length+([]:List rT).length+(if([]:List rT).isEmpty then 0 else 1)<30))=c_:=by rfl)
  (hline:(apos.endLine == cpos.line)=c_:=by rfl)(hs:aU (e::es) X.env=(d_,eval e X.env)::aU es X.env:=by rfl)(hplain:(backTo cpos (aU es X.env)).any (·.1)=d_:=by rfl) :
  PE X (.Call (.Attribute o name apos) (e::es) [] cpos) (Xg X.K T r to t):=by
 intro h_ s σ H Q I h;refine wpAny_Call_method_late hbase hfew hline rfl (gW (ho h_ s σ H _ I h) λv s1 ⟨x,H1,I1,r1,ty,q1⟩=>?_);obtain⟨h1,h2⟩:=HQ I1 r1 ty;refine⟨T,id,pa,slot,hty,h1,h2,?_⟩;have hA:=ha cpos h_ s1 σ H1 _ I1 q1;rw[hs]at hA ⊢;refine zd (by show(d_ || (backTo cpos (aU es X.env)).any (·.1))=d_;rw[hplain]<;>rfl) (Calls.evalArgs_plain ?_);exact gW hA λus s2 ⟨vs,H2,I2,r2,q2⟩=>hm h_ s2 σ H2 x vs v us Q I2 r1 r2 q2
end
def Zw(X:Cx)(id:String)(r:V->List V->Hp->VK->Prop):Prop:=
 ∀(h_:List (ai×fe))(s:ae)(σ:St)(H:Hp)(x:V)(xs:List V)(v:ab)(us:List ab)(Q:VK),Inv X h_ σ H s->RelV x v->cD xs us->r x xs H Q->
  au (aB X.prog X.w) X.A (call (.builtin id) (v::us)) (EP X h_ σ Q) X.xe s
def cD.one:∀{x:V}{us:List ab},cD [x] us->∃u,us=[u]/\RelV x u
 |_,_,.cons r .nil=>⟨_,rfl,r⟩
section
variable{X:Cx}{h_:List (ai×fe)}{σ:St}{H:Hp}{s:ae}{l b:ai}{xs ys zs:List V}
def Inv.V4{its its':List ab}{n:Nat}{f:Array ab->Array ab}{t':Nat}(I:Inv X h_ σ H s)(hH:H l=a_ (.lst xs))
  (e:s.heap.get? l=a_ { cls:=.type "list",data:=.seq its.toArray n })(hf:f its.toArray=its'.toArray)(hv:cD ys its')(hz:ys.length<=aE) :
  Inv X h_ σ (upd H l (.lst ys)) { s with heap:=s.heap.update l (eM f),toks:=t' }:=by
 have q:=PySem.IsL.update e f;rw[hf]at q;refine I.write (x:=l) (e:=l) (by rw[hH];exact trivial) (.inl rfl) (λb' u hb hu=>(jG s.heap (eM f) (eZ hb)).trans hu) ⟨_,q⟩ ?_;exact⟨hz,its',_,hv,q⟩
def Inv.Yh{its:List ab}{t':Nat}(I:Inv X h_ σ H s)(hv:cD ys its)(hz:ys.length<=aE) :
  Inv X h_ σ (upd H s.heap.objs.size (.lst ys)) { s with heap:=s.heap.push { cls:=.type "list",data:=.seq its.toArray },toks:=t' }:=
 I.laid (λ_ _ q=>hp9 _ q) (aC _) ⟨hz,its,0,hv,aL _ rfl⟩
def Inv.fresh(I:Inv X h_ σ H s):H s.heap.objs.size=b_:=I.hok.fresh (aC _)
def Inv.V3(I:Inv X h_ σ H s)(hH:H l=a_ (.lst xs)):xs.length<=aE/\∃(its:List ab) (n:Nat),cD xs its/\xs.length=its.length/\s.heap.get? l=a_ { cls:=.type "list",data:=.seq its.toArray n }:=by
 obtain⟨z,its,n,r,e⟩:=I.hok l _ hH;exact⟨z,its,n,r,r.length,e⟩
end
section
variable{X:Cx}
def DQ:V->List V->Hp->VK->Prop:=λx vs H Q=>∃l xs y,x=.ref l/\vs=[y]/\H l=a_ (.lst xs)/\xs.length<aE/\Q .non (upd H l (.lst (xs++[y])))
def wq:Zw X "list.append" DQ:=by
 intro h_ s σ H x vs v us Q I rx rv h;obtain⟨l,xs,y,rfl,rfl,hH,hz,q⟩:=h;cases rx;obtain⟨u,rfl,ru⟩:=rv.one;obtain⟨z,its,n,r,hl,e⟩:=I.V3 hH;refine call_meets lD ⟨_,e,rfl⟩ F.entry_list_append (F.args_list_append_2 _ _) (PySem.list_append l its.toArray n u (by rw[aA];omega)) ⟨e,?_⟩;refine⟨.non,_,I.V4 (its':=its++[u]) hH e (by simp) (r.append (.cons ru .nil)) ?_,rfl,q⟩;rw[aw,fD];omega
end
section
variable{prog:aP}{w:bo}{A:br}{E:ab->ae->Prop}{s:ae}
end
section
variable{X:Cx}
end
end L2
namespace Att
open PySem PySem.W PySem.Calls PyProof.Rows
def sP{P:Params}{h:bH}:∀(ns:List Int)(vs:List ab),WellAll P h vs (ns.map WData.int)->kU vs ns:=by
 intro ns
 induction ns with
 |nil=>
   intro vs w;rw[cm]at w;cases w;exact .nil
 |cons n ns ih=>
   intro vs w;rw[ag]at w
   cases w with
   |cons a b=>
     cases a;exact .cons _ _ (ih _ b)
def FV{l:ja}{n:Nat}(hn:l.most=a_ n){P:Params}{h:bH}{args:List WData}{vals:List ab}
  (hpre:l.row.toRowW.claim.pre args=c_)(hwl:WellAll P h vals args) :
  ∃a vs ns,vals=[bE a]/\args=[WData.list (ns.map WData.int)]/\h.get? a=a_ { cls:=.type "list",data:=.seq vs.toArray }/\kU vs ns/\ns.length<=n:=by
 have hsh:WShape.hasAll [] args [.list .int]=c_:=(pre_splitW hpre).1;have hc:l.pre.holds [] { args:=args }=c_:=(pre_splitW hpre).2;obtain⟨d,r,rfl,h1,h2⟩:=hasAllW_cons hsh;obtain rfl:=hasAllW_nil h2;obtain⟨xs,rfl,h3⟩:=hasW_list h1;obtain⟨ns,rfl⟩:=items_int h3
 have hlen:ns.length<=n:=by
  unfold OpenLaw.pre at hc
  have h4:(WTm.not (.lt (.lit (.int (n:Int))) (.len (.arg 0)))).holds [] { args:=[.list (ns.map .int)] }=c_:=by
   have h4:=(holds_andW hc).1;rw[hn]at h4;exact h4
  have h5:=condW_of h4 (w_not (w_lt w_lit (w_len_list (w_arg rfl))));rw[ah]at h5;refine Nat.le_of_not_lt λq=>?_;have q':(n:Int)<((ns.length:Nat):Int):=by omega
  first
   |(rw[decide_eq_true q']at h5;exact absurd h5 (by decide))
   |(simp at h5;omega)
 cases hwl with
 |cons w1 w2=>
   cases w2
   cases w1 with
   |list ho hall=>exact⟨_,_,ns,rfl,rfl,ho,sP ns _ hall,hlen⟩
def Gm(l:ja)(args:List WData):l.row.toRowW.claim.post args (.bool c_) args=c_:=
 postW_of (r:=l.row.toRowW) (X:=(c_ == c_))
  (show WShape.has [] (.bool c_) .bool=c_ by first|rfl|decide|simp[WShape.has,WShape.arms,WShape.armsAll])
  (show(WTm.eq .res (.lit (.bool c_))).value [] { args:=args,res:=a_ (.bool c_),after:=args }=a_ (.bool (c_ == c_))from w_eq_bool (w_res rfl) w_lit) rfl
def Bd{l:ja}{n:Nat}{q:aP}{loose:List aV}{XP:(aV->Option ab)->bH->Prop}{YP:bo->bH->Prop}{d:DefRec}
  (hn:l.most=a_ n)(hdf:d.params.defaults=[])
  (call:∀(w:bo)(s₀ s₁:ae)(mg mb:aV->Option ab)(fa:ai)(o:fe)(pm cd doc:ab)(a:ai)(vs:List ab)(ns:List Int),
   Ground q loose [] XP w s₀ mg mb s₁.heap->YP w s₁.heap->
   s₁.heap.get? fa=a_ o->o.data=.func (docDef d.name d.params d.body d.scope pm cd doc)->s₁.heap.CodeRec cd d.name->mg d.name=a_ (.ref fa)->
   s₁.heap.get? a=a_ { cls:=.type "list",data:=.seq vs.toArray }->kU vs ns->ns.length<=n->s₁.gens=#[]->
   codeAny (aB l.prog w) callerA (.call (.ref fa) ⟨[.ref a],[]⟩) (λr s'=>r=.ok (.ret (.bool c_))/\OldK s₁.heap s'.heap/\s'.os=s₁.os/\nj s'.gens) s₁) :
  vy q loose XP YP l.row.toRowW d [] (λf vs=>Fn f vs):=by
 intro w s₀ s₁ mg mb G Y fa o pm cd doc dV kV ho hd hcd hD hmg hg args vals as hpre hlay hrd hwl hlo;obtain rfl:dV=.none:=Dflts.none hD hdf;obtain rfl:kV=.none:=Dflts.noKw hD;obtain⟨a,vs,ns,rfl,rfl,hobj,hints,hlen⟩:=FV hn hpre hwl;refine enter_call (kb (call w s₀ s₁ mg mb fa o pm cd doc a vs ns G Y ho (fd_plain hd) hcd hmg hobj hints hlen hg) λr s' hq=>?_);obtain⟨rfl,h2,h3,h4⟩:=hq;exact⟨.inl ⟨.bool c_,.bool c_,[],rfl,λ_=>rfl,.bool c_,Gm l _,λ_=>⟨vV,λ_ hm=>(nomatch hm)⟩⟩,h2,h3,h4⟩
section
variable{prog:aP}{w:bo}{A:br}{E:ab->ae->Prop}{s:ae}{K:aN}
end
end Att
namespace L2
open PySem PySem.Spec PyProof.Rows
theorem vW:∀{vs:List ab}{ns:List Int},kU vs ns->cD (ns.map V.int) vs
 |_,_,.nil=>.nil
 |_,_,.cons n t h=>.cons ⟨t,rfl⟩ (vW h)
def UC(H:Hp):Prop:=∀b,H b=b_\/∃o xs,H b=a_ (.ka o (.lst xs))
def Kb{P:aP}{w:bo}{K:aN}{mg mb:aV->Option ab}{CX:Hv}{k:Nat}{fa a:ai}{fd:en}{x:aV}{sp:Sp}{s₁:ae}{vs:List ab}{ns:List Int}
  (KX:K.In s₁.heap)(hns:s₁.heap.Ns mainGlobals mg)(hb:s₁.heap.Ns builtinsNs mb)(hbb:∀x:aV,x≠"__name__"->mb x=bootBuiltins x)(hlim:s₁.heap.NoLimit)(hg:s₁.gens=#[])
  (ha:s₁.heap.get? a=a_ { cls:=.type "list",data:=.seq vs.toArray })(hi:kU vs ns)(hl:ns.length<=aE)(hr:mr k callerA)
  (F:∀base:bH,K.In base->base.Ns mainGlobals mg->mR P w K mg base CX k fa fd [x] sp)(hbind:∀(s:ae)(u:ab),Bm s fd ⟨[u],[]⟩ [(x,u)])
  (hsp:∀H:Hp,UC H->oG K H a (ns.map V.int)->sp [.ref a] H (λv _=>v=.bl c_) λ_ _ _=>False)
  (hCX:∀H e s',CX [] H s₁ (λ_ _ _=>False) e s'->False) :
  codeAny (aB P w) callerA (.call (.ref fa) ⟨[.ref a],[]⟩) (λr s'=>r=.ok (.ret (.bool c_))/\OldK s₁.heap s'.heap/\s'.os=s₁.os/\nj s'.gens) s₁:=by
 have rv:=vW hi;have lenV:=hi.length
 have core:∀H:Hp,UC H->oG K H a (ns.map V.int)->qz P w H s₁.heap->(∀b,H b≠b_->b=a)->(H a≠b_->K.lookup a=b_)->
   codeAny (aB P w) callerA (.call (.ref fa) ⟨[.ref a],[]⟩) (λr s'=>r=.ok (.ret (.bool c_))/\OldK s₁.heap s'.heap/\s'.os=s₁.os/\nj s'.gens) s₁:=by
  intro H hO hS hok hA hK;have base_of:∀{b:ai}{o:fe},s₁.heap.get? b=a_ o->H b=b_->(yg s₁.heap H).get? b=a_ o:=λe n=>Kt e n
  have noA:∀{b:ai}{o:fe}{es:Array DictEntry}{ep:Nat},s₁.heap.get? b=a_ o->o.data=.dict es ep->H b=b_:=λ{b o es ep}e d=>by
   cases q:H b with
   |none=>rfl
   |some u=>
     have e':b=a:=hA b (by rw[q];simp);subst e';rw[ha]at e;cases e;have d':Data.seq vs.toArray _=Data.dict es ep:=d;cases d'
  have nsK:∀{b:ai}{m:aV->Option ab},s₁.heap.Ns b m->(yg s₁.heap H).Ns b m:=λ{b m} ⟨o,es,ep,e,d,r⟩=>⟨o,es,ep,base_of e (noA e d),d,r⟩
  have hKb:K.In (yg s₁.heap H):=λb o e=>base_of (KX b o e) (by
   cases q:H b with
   |none=>rfl
   |some u=>
     have e':b=a:=hA b (by rw[q];simp);subst e'
     rw[hK (by rw[q];simp)]at e;cases e)
  have hM:Mod K mg (yg s₁.heap H):=⟨hKb,nsK hns,⟨mb,nsK hb,hbb⟩,let ⟨mc,h1,h2⟩:=hlim;⟨mc,nsK h1,h2⟩⟩
  have e0:eW P w K mg (yg s₁.heap H) callerA [] s₁ H:=⟨rfl,hM,λb o e=>NI e,BG (GN _ _),trivial,λb hb=>absurd (show b∈([]:List ai)from hb) (by simp),hok,.of_eq hg⟩
  refine kb ((F _ hKb (nsK hns)).run callerA [] s₁ H ⟨[.ref a],[]⟩ [.ref a] [.ref a] _ _ hr e0 (hbind s₁ (.ref a)) (.cons rfl .nil) (hsp H hO hS)) λr s' h=>?_
  cases r with
  |error e=>exact(hCX H e s' h).elim
  |ok fl=>
    cases fl with
    |next=>exact iL h
    |brk=>exact iL h
    |cont=>exact iL h
    |ret u=>
      obtain⟨v,H',os,bare,un,hok',r',q⟩:=h;have q':v=.bl c_:=q;subst q';obtain rfl:u=pP c_:=r';refine⟨rfl,OldK.of_keep λb o e=>?_,os,bare⟩
      cases q:H b with
      |none=>exact un.keep b o e q (by intro z;exact absurd (show b∈([]:List ai)from z) (by simp)) (by simp)
      |some u=>
        rcases hO b with z|⟨ob,xs,z⟩
        ·rw[q]at z;cases z
        ·have z2:=un.frzs b ob _ z;obtain⟨e1,_⟩:=hok b _ z;obtain⟨e2,_⟩:=hok' b _ z2;rw[e]at e1;cases e1;exact e2
 cases hk:K.lookup a with
 |some o=>
   have e:=KX a o hk;rw[ha]at e;cases e;refine core (λ_=>b_) (λ_=>.inl rfl) (.inr ⟨_,vs.toArray,_,hk,rfl,rfl,rfl,by rw[aA,lenV];exact hl,by simpa using rv⟩) (λb u z=>by have z':(b_:Option HO)=a_ u:=z;cases z') (λb z=>absurd rfl z) λz=>absurd rfl z
 |none=>
   refine core (λb=>if b=a then a_ (.ka { cls:=.type "list",data:=.seq vs.toArray } (.lst (ns.map V.int)))else b_) (λb=>?_) (.inl (.inr ⟨{ cls:=.type "list",data:=.seq vs.toArray },if_pos rfl⟩)) (λb u z=>?_) (λb z=>?_) λ_=>hk
   ·by_cases hb:b=a
    ·exact .inr ⟨_,_,if_pos hb⟩
    ·exact .inl (if_neg hb)
   ·by_cases hb:b=a
    ·have z':=(if_pos hb).symm.trans z;cases z';subst hb;exact⟨ha,by rw[ah];exact hl,vs,_,rv,ha⟩
    ·have z':=(if_neg hb).symm.trans z;cases z'
   ·by_cases hb:b=a
    ·exact hb
    ·exact absurd (if_neg hb) z
abbrev KOf{K:aN}{h:bH}(_:K.In h):aN:=K
def Me{l:ja}{n k:Nat}{q:aP}{loose:List aV}{XP:(aV->Option ab)->bH->Prop}{YP:bo->bH->Prop}{d:DefRec}{K:Params->aN}{CX:bo->Hv}{sp:bo->Sp}{x:aV}
  (hn:l.most=a_ n)(hn2:n<=aE)(hdf:d.params.defaults=[])(hr:mr k callerA)
  (hY:∀(w:bo)(h:bH),YP w h->(K w.params).In h)
  (F:∀(w:bo)(mg:aV->Option ab)(fa:ai)(h:bH),(K w.params).In h->h.Ns mainGlobals mg->mg d.name=a_ (.ref fa)->
   ∃fd:en,(∀(s:ae)(u:ab),Bm s fd ⟨[u],[]⟩ [(x,u)])/\
    ∀base:bH,(K w.params).In base->base.Ns mainGlobals mg->mR l.prog w (K w.params) mg base (CX w) k fa fd [x] (sp w))
  (hsp:∀(w:bo)(H:Hp)(a:ai)(ns:List Int),ns.length<=n->UC H->oG (K w.params) H a (ns.map V.int)->sp w [.ref a] H (λv _=>v=.bl c_) λ_ _ _=>False)
  (hCX:∀(w:bo)(H:Hp)(s:ae)(e:ab)(s':ae),CX w [] H s (λ_ _ _=>False) e s'->False) :
  vy q loose XP YP l.row.toRowW d [] (λf vs=>Fn f vs):=by
 refine Att.Bd hn hdf λw s₀ s₁ mg mb fa o pm cd doc a vs ns G Y ho hd hcd hmg hobj hints hlen hg=>?_;have KX:=hY w _ Y;obtain⟨fd,hb,hF⟩:=F w mg fa _ KX G.T.g hmg;exact Kb KX G.T.g G.T.b G.T.builtins G.T.nolimit hg hobj hints (cW hlen hn2) hr hF hb (λH hO hS=>hsp w H a ns hlen hO hS) λH e s'=>hCX w H s₁ e s'
end L2
namespace L2
open PySem PySem.Spec PyProof.Rows
noncomputable def yr(s:jw):Arguments:=match s with
 |.FunctionDef _ a _ _ _ _ _ _ _ _=>a
 |_=>{ posonlyargs:=[],args:=[],vararg:=b_,kwonlyargs:=[],kw_defaults:=[],kwarg:=b_,defaults:=[] }
noncomputable def oD(s:jw):List jw:=match s with
 |.FunctionDef _ _ b _ _ _ _ _ _ _=>b
 |_=>[]
noncomputable def dI(s:jw):fP:=match s with
 |.FunctionDef _ _ _ _ _ _ sc _ _ _=>sc
 |_=>{ kind:=.function,names:=[],isGenerator:=d_,isCoroutine:=d_ }
abbrev Fi:Hv:=λ_ _ _ _ _ _=>False
abbrev E0:XK:=λ_ _ _=>False
def Pt{X:Cx}:yK Fi X E0:=λ_ _ _ _ _ _ _ h=>h.elim
structure Xv(K:aN)(x qual:aV)(st:jw)(f:ai)(fd:en):Prop where
 ex:∃(oc:ab) (od:Option ai) (kV doc pm:ab) (an:Option ai) (cdv ct:ab) (osl:Array (Option ab)),
  fd=pO x qual (yr st) (oD st) (dI st) .none kV doc pm an cdv ct/\K.lookup f=a_ ⟨oc,od,.func fd,osl⟩/\tW K cdv qual=c_
 kp:fS K (.ref f)=c_
section
variable{P:aP}{w:bo}{K:aN}{mg:aV->Option ab}{base:bH}
def Xv.ok{x qual:aV}{st:jw}{f:ai}{fd:en}{N ps:List aV}{k:Nat}{sp:Sp}(F:Xv K x qual st f fd)(S:qA N ps (dI st))(len:∀vs H Q E,sp vs H Q E->vs.length=ps.length)
  (hbody:∀(cdv:ab)(A:br)(outer:List vq)(s:ae)(H:Hp)(vs:List V)(Q:VK)(E:XK),mr k (A.deeper (envOfC qual (dI st) s.heap.objs.size f cdv))->sp vs H Q E->
   ∃t,Bh (AV Fi P w K mg base N qual (dI st) f cdv A outer s H E).UO (oD st) t/\t { nx:=λ_ H'=>Q .non H',rt:=Q } (start N vs) H):mR P w K mg base Fi (k+1) f fd ps sp:=by
 obtain⟨oc,od,kV,doc,pm,an,cdv,ct,osl,rfl,lk,hcd⟩:=F.ex;refine Wv lk hcd S len λA outer s H vs Q E hr hsp=>?_;obtain⟨t,h,q⟩:=hbody cdv A outer s H vs Q E hr hsp;exact⟨t,h.UO,q⟩
end
section
variable{X:Cx}
end
def Cy{A B:Prop}(h:B):if d_=c_ then A else B:=by
 rw[if_neg bh];exact h
def Cw{A B:Prop}(h:A):if c_=c_ then A else B:=by
 rw[if_pos rfl];exact h
def bX(H H':Hp):Prop:=∀b o,H b=a_ o->H' b=a_ o
def bX.refl(H:Hp):bX H H:=λ_ _ h=>h
def bX.trans{H H1 H2:Hp}(a:bX H H1)(b:bX H1 H2):bX H H2:=λc o h=>b c o (a c o h)
def bX.free{H H':Hp}(e:bX H H'){l:ai}(h:H' l=Option.none):H l=Option.none:=by
 cases q:H l with
 |none=>rfl
 |some o=>
   rw[e l o q]at h;cases h
def bX.seq{K:aN}{H H':Hp}{a:ai}{xs:List V}(e:bX H H')(h:oG K H a xs):oG K H' a xs:=by
 rcases h with(h|⟨o,h⟩)|h
 ·exact .inl (.inl (e _ _ h))
 ·exact .inl (.inr ⟨o,e _ _ h⟩)
 ·exact .inr h
section
variable{κ:Type}[DecidableEq κ]
noncomputable def k8(k_:List (κ×V))(k:κ):Option V:=(k_.find? λkv=>decide (kv.1=k)).map (·.2)
noncomputable def putK(k_:List (κ×V))(k:κ)(v:V):List (κ×V):=
 if(k_.any λkv=>decide (kv.1=k))=c_ then k_.map (λkv=>if kv.1=k then(kv.1,v)else kv)else k_++[(k,v)]
def pU{p:κ×V}{r:List (κ×V)}{k:κ}(e:p.1=k):k8 (p::r) k=a_ p.2:=by simp[k8,ig,e]
def nL{p:κ×V}{r:List (κ×V)}{k:κ}(e:¬p.1=k):k8 (p::r) k=k8 r k:=by simp[k8,ig,e]
theorem zl(k:κ):∀k_:List (κ×V),(k_.any λkv=>decide (kv.1=k))=(k8 k_ k).isSome
 |[]=>rfl
 |p::r=>by
   rw[fQ];by_cases e:p.1=k
   ·simp only[pU e,decide_eq_true e,kX,Option.isSome_some]
   ·rw[nL e,decide_eq_false e,yU];exact zl k r
def su(k_:List (κ×V))(k:κ)(v:V):(putK k_ k v).length<=k_.length+1:=by
 unfold putK;split
 ·rw[ah];omega
 ·rw[aw,aM,eY];omega
def vO.l9{o:Option V}{u:Option ab}(r:vO o u):o.isSome=u.isSome:=by
 cases o with
 | none=>cases u with
   |none=>rfl
   |some _=>exact(show False from r).elim
 | some _=>cases u with
   |none=>exact(show False from r).elim
   |some _=>rfl
def KV.val{k_:List (κ×V)}{vs:List (κ×ab)}(r:KV k_ vs)(k:κ):vO (k8 k_ k) (valueAt vs k):=by
 unfold KV at r
 induction r with
 |nil=>exact ju
 | @cons p q ps qs h t ih=>
   obtain⟨h1,h2⟩:=h;by_cases e:p.1=k
   ·have e':q.1=k:=h1.symm.trans e;have b:valueAt (q::qs) k=a_ q.2:=by simp[valueAt,ig,e']
    rw[pU e,b];exact h2
   ·have e':¬q.1=k:=λz=>e (h1.trans z);have b:valueAt (q::qs) k=valueAt qs k:=by simp[valueAt,ig,e']
    rw[nL e,b];exact ih
theorem KV.any{k_:List (κ×V)}{vs:List (κ×ab)}(r:KV k_ vs)(k:κ):(k_.any λkv=>decide (kv.1=k))=vs.any λkv=>decide (kv.1=k):=by
 unfold KV at r
 induction r with
 |nil=>rfl
 |cons h t ih=>rw[fQ,fQ,ih,h.1]
def KV.Ra{k_:List (κ×V)}{vs:List (κ×ab)}(r:KV k_ vs)(k:κ){y:V}{u:ab}(ry:RelV y u) :
  KV (k_.map λkv=>if kv.1=k then(kv.1,y)else kv) (vs.map λkv=>if kv.1=k then(kv.1,u)else kv):=by
 unfold KV at r ⊢
 induction r with
 |nil=>exact .nil
 | @cons p q ps qs h t ih=>
   rw[ag,ag];refine .cons ?_ ih;obtain⟨h1,h2⟩:=h;by_cases e:p.1=k
   ·rw[if_pos e,if_pos (h1.symm.trans e)];exact⟨h1,ry⟩
   ·rw[if_neg e,if_neg (λz=>e (h1.trans z))];exact⟨h1,h2⟩
def KV.put{k_:List (κ×V)}{vs:List (κ×ab)}(r:KV k_ vs)(k:κ){y:V}{u:ab}(ry:RelV y u):KV (putK k_ k y) (stored vs k u):=by
 unfold putK stored;rw[r.any k];by_cases e:(vs.any λkv=>decide (kv.1=k))=c_
 ·rw[if_pos e,if_pos e];exact r.Ra k ry
 ·rw[if_neg e,if_neg e];exact Paired.snoc r ⟨rfl,ry⟩
def KV.length{k_:List (κ×V)}{vs:List (κ×ab)}(r:KV k_ vs):k_.length=vs.length:=o8 r
end
def sv{P:aP}{w:bo}{k:Key}{u:ab}(r:RelV (kV k) u):(bT P w).is k u=c_:=by
 cases k with
 |inl i=>obtain⟨t,e⟩:=(show ∃t,u=Hz i t from r);subst e;exact zZ P w i t
 |inr x=>obtain⟨t,e⟩:=(show ∃t,u=Hy x t from r);subst e;exact zY P w x t
theorem wA{P:aP}{w:bo}:∀{ks:List Key}{us:List ab},cD (ks.map kV) us->ItemsAre (bT P w) ks us
 |[],_,r=>by rw[cm]at r;cases r;exact .nil
 |k::ks,_,r=>by
   rw[ag]at r
   cases r with
   |cons h t=>exact .cons (sv h) (wA t)
abbrev KT(H:Hp):List (List Key×V)->List (List Key×ai×ab)->Prop:=gp λp q=>p.1=q.1/\H q.2.1=a_ (.tup (p.1.map kV))/\RelV p.2 q.2.2
def KT.val{H:Hp}{k_:List (List Key×V)}{xs:List (List Key×ai×ab)}(r:KT H k_ xs)(k:List Key):vO (k8 k_ k) ((atKey xs k).map (·.2)):=by
 induction r with
 |nil=>exact ju
 | @cons p q ps qs h t ih=>
   obtain⟨h1,_,h2⟩:=h;by_cases e:p.1=k
   ·have e':q.1=k:=h1.symm.trans e;have b:atKey (q::qs) k=a_ q.2:=by simp[atKey,ig,e']
    rw[pU e,b];exact h2
   ·have e':¬q.1=k:=λz=>e (h1.trans z);have b:atKey (q::qs) k=atKey qs k:=by simp[atKey,ig,e']
    rw[nL e,b];exact ih
def KT.Ra{H:Hp}{k_:List (List Key×V)}{xs:List (List Key×ai×ab)}(r:KT H k_ xs)(k:List Key){y:V}{u:ab}(ry:RelV y u) :
  KT H (k_.map λkv=>if kv.1=k then(kv.1,y)else kv) (xs.map (putAt k u)):=by
 induction r with
 |nil=>exact .nil
 | @cons p q ps qs h t ih=>
   rw[ag,ag];refine .cons ?_ ih;obtain⟨h1,h2,h3⟩:=h;unfold putAt;by_cases e:p.1=k
   ·rw[if_pos e,if_pos (h1.symm.trans e)];exact⟨h1,h2,ry⟩
   ·rw[if_neg e,if_neg (λz=>e (h1.trans z))];exact⟨h1,h2,h3⟩
def KT.put{H:Hp}{k_:List (List Key×V)}{xs:List (List Key×ai×ab)}(r:KT H k_ xs)(k:List Key){b:ai}{y:V}{u:ab}(hb:H b=a_ (.tup (k.map kV)))(ry:RelV y u) :
  KT H (putK k_ k y) (storedH xs k b u):=by
 have e:(k_.any λkv=>decide (kv.1=k))=(atKey xs k).isSome:=by
  rw[zl,(r.val k).l9,qC]
 unfold putK storedH;rw[e];by_cases q:(atKey xs k).isSome=c_
 ·rw[if_pos q,if_pos q];exact r.Ra k ry
 ·rw[if_neg q,if_neg q];exact Paired.snoc r ⟨rfl,hb,ry⟩
def KT.keeps{H H':Hp}{k_:List (List Key×V)}{xs:List (List Key×ai×ab)}(r:KT H k_ xs)(ht:∀b ys,H b=a_ (.tup ys)->H' b=a_ (.tup ys)):KT H' k_ xs:=
 Paired.Sf r λ_ _ z=>⟨z.1,ht _ _ z.2.1,z.2.2⟩
section
variable{P:aP}{w:bo}{H:Hp}{h:bH}{a:ai}
def Po{u:HO}(ok:qz P w H h)(e:Rd H a u):iT P w H h a u:=e.ok ok
def wN{k_:List (Key×V)}(ok:qz P w H h)(e:Rd H a (.dK k_)):k_.length<=aE/\(a == sysModules)=d_/\∃vs,KV k_ vs/\h.DictOf (bT P w) a vs:=
 show iT P w H h a (.dK k_)from Po ok e
def P2{k_:List (Key×V)}(ok:qz P w H h)(e:H a=a_ (.dK k_)):k_.length<=aE/\(a == sysModules)=d_/\∃vs,KV k_ vs/\h.DictOf (bT P w) a vs:=wN ok (.inl e)
def uL{ks:List Key}(ok:qz P w H h)(e:H a=a_ (.tup (ks.map kV))):(tupleKind (bT P w)).is h ks a:=by
 obtain⟨_,its,r,o,h1,h2,n,h3⟩:=(show iT P w H h a (.tup (ks.map kV))from ok a _ e)
 exact⟨o,its.toArray,n,h1,h2,h3,by simpa using wA r⟩
def AS{k_:List (List Key×V)}(ok:qz P w H h)(e:Rd H a (.dT k_)):k_.length<=aE/\(a == sysModules)=d_/\
  ∃xs,KT H k_ xs/\h.DictOfH (tupleKind (bT P w)) a xs:=by
 obtain⟨z,y,xs,r,o,es,ep,h1,h2,h3,h4,h5⟩:=(show iT P w H h a (.dT k_)from Po ok e)
 refine⟨z,y,xs,r,o,es,ep,h1,h2,h3,h4,λx hx=>?_,h5⟩
 have all:∀{l:List (List Key×V)}{m:List (List Key×ai×ab)},KT H l m->∀x∈m,(tupleKind (bT P w)).is h x.1 x.2.1:=by
  intro l m q
  induction q with
  |nil=>intro x hx;exact nomatch hx
  | @cons p q ps qs hq t ih=>
    intro x hx
    rcases ao.mp hx with e|hx
    ·subst e;exact uL ok (by rw[<-hq.1];exact hq.2.1)
    ·exact ih x hx
 exact all r x hx
def WB{k_:List (List Key×V)}(ok:qz P w H h)(e:H a=a_ (.dT k_)):k_.length<=aE/\(a == sysModules)=d_/\
  ∃xs,KT H k_ xs/\h.DictOfH (tupleKind (bT P w)) a xs:=AS ok (.inl e)
end
def sS(H:Hp)(a:ai)(y:V)(r:Option V):Prop:=
 (∃k_ k,Rd H a (.dK k_)/\y=kV k/\r=k8 k_ k)\/∃k_ k b,Rd H a (.dT k_)/\y=.ref b/\H b=a_ (.tup (k.map kV))/\r=k8 k_ k
def O5(H:Hp)(a:ai)(y v:V)(H':Hp):Prop:=
 (∃k_ k,H a=a_ (.dK k_)/\y=kV k/\k_.length<aE/\H'=upd H a (.dK (putK k_ k v)))\/
 ∃k_ k b,H a=a_ (.dT k_)/\y=.ref b/\H b=a_ (.tup (k.map kV))/\k_.length<aE/\H'=upd H a (.dT (putK k_ k v))
def sS.k{H:Hp}{a:ai}{k_:List (Key×V)}{k:Key}(e:H a=a_ (.dK k_)):sS H a (kV k) (k8 k_ k):=.inl ⟨k_,k,.inl e,rfl,rfl⟩
def O5.k{H:Hp}{a:ai}{k_:List (Key×V)}{k:Key}{v:V}(e:H a=a_ (.dK k_))(hl:k_.length<aE):O5 H a (kV k) v (upd H a (.dK (putK k_ k v))):=.inl ⟨k_,k,e,rfl,hl,rfl⟩
section
variable{X:Cx}{h_:List (ai×fe)}{σ:St}{H:Hp}{s:ae}{a:ai}{y v:V}{u r:ab}{o:Option V}{A:br}{E:ab->ae->Prop}
def Inv.big(I:Inv X h_ σ H s):sysModules<s.heap.objs.size:=by
 have h:mainGlobals<s.heap.objs.size:=(I.mod.glob.keeps I.bk).lt;exact jK (by decide) h
def wO{Q:ab->ae->Prop}(hu:A.units+1<cg)(I:Inv X h_ σ H s)(g:sS H a y (a_ v))(ry:RelV y u)(h:∀w' s',Inv X h_ σ H s'->RelV v w'->Q w' s') :
  au (aB X.prog X.w) A (getItem (.ref a) u) Q E s:=by
 rcases g with⟨k_,k,e,ey,l⟩|⟨k_,k,b,e,ey,eb,l⟩
 ·subst ey;obtain⟨z,hd,vs,rel,dd⟩:=wN I.hok e;obtain⟨w',hw,rw'⟩:=vO.some_of (v:=v) (o:=valueAt vs k) (by rw[l];exact rel.val k);exact wpAny_getItem_of (sv ry) dd.mapOf hw (h w' _ (I.tok _) rw')
 ·subst ey;cases(show u=bE b from ry);obtain⟨z,hd,xs,rel,dd⟩:=AS I.hok e;obtain⟨w',hw,rw'⟩:=vO.some_of (v:=v) (o:=(atKey xs k).map (·.2)) (by rw[l];exact rel.val k);obtain⟨p,hp,hp2⟩:=dX hw;refine wpAny_getItem_heap (mD hu) (uL I.hok eb) dd hp ?_;rw[hp2];exact h w' _ (I.tok _) rw'
def Yy{Q:ab->ae->Prop}(hu:A.units+1<cg)(I:Inv X h_ σ H s)(g:sS H a y o)(ry:RelV y u)(h:∀s',Inv X h_ σ H s'->Q (.bool o.isSome) s') :
  au (aB X.prog X.w) A (compareOp .In u (.ref a)) Q E s:=by
 rcases g with⟨k_,k,e,ey,l⟩|⟨k_,k,b,e,ey,eb,l⟩
 ·subst ey;obtain⟨z,hd,vs,rel,dd⟩:=wN I.hok e;refine wpAny_in_of (sv ry) hd dd.mapOf ?_;rw[<-(rel.val k).l9,<-l];exact h _ (I.tok _)
 ·subst ey;cases(show u=bE b from ry);obtain⟨z,hd,xs,rel,dd⟩:=AS I.hok e;refine Fj (mD hu) (uL I.hok eb) hd dd ?_;have q:=(rel.val k).l9;rw[qC]at q;rw[<-q,<-l];exact h _ (I.tok _)
def OC{Q:ab->ae->Prop}(hu:A.units+1<cg)(I:Inv X h_ σ H s)(g:sS H a y o)(ry:RelV y u)(h:∀s',Inv X h_ σ H s'->Q (.bool (!o.isSome)) s') :
  au (aB X.prog X.w) A (compareOp .NotIn u (.ref a)) Q E s:=by
 rcases g with⟨k_,k,e,ey,l⟩|⟨k_,k,b,e,ey,eb,l⟩
 ·subst ey;obtain⟨z,hd,vs,rel,dd⟩:=wN I.hok e;refine wpAny_notIn_of (sv ry) hd dd.mapOf ?_;rw[<-(rel.val k).l9,<-l];exact h _ (I.tok _)
 ·subst ey;cases(show u=bE b from ry);obtain⟨z,hd,xs,rel,dd⟩:=AS I.hok e;refine wpAny_notIn_heap (mD hu) (uL I.hok eb) hd dd ?_;have q:=(rel.val k).l9;rw[qC]at q;rw[<-q,<-l];exact h _ (I.tok _)
def yu{h':bH}{t':Nat}{ob:HO}(I:Inv X h_ σ H s)(mu:U4 (H a))(hs:cA a s.heap h')(he:∃q,h'.get? a=a_ q)(new:iT X.prog X.w (upd H a ob) h' a ob) :
  Inv X h_ σ (upd H a ob) { s with heap:=h',toks:=t' }:=
 I.write (x:=a) (e:=a) mu (.inl rfl) (λb q hb z=>(hs.2 b hb).trans z) he new
def Tw{P:aP}{w:bo}{H':Hp}{h':bH}{k_:List (Key×V)}{vs:List (Key×ab)}(z:k_.length<=aE)(hd:(a == sysModules)=d_)(rel:KV k_ vs)(dd:h'.DictOf (bT P w) a vs) :
  iT P w H' h' a (.dK k_):=⟨z,hd,vs,rel,dd⟩
def GW{H':Hp}{Q:Unit->ae->Prop}(hu:A.units+1<cg)(I:Inv X h_ σ H s)(g:O5 H a y v H')(ry:RelV y u)(rv:RelV v r)(h:∀s',Inv X h_ σ H' s'->Q () s') :
  au (aB X.prog X.w) A (setItem (.ref a) u r) Q E s:=by
 rcases g with⟨k_,k,e,ey,l,eH⟩|⟨k_,k,b,e,ey,eb,l,eH⟩
 ·subst ey eH;obtain⟨z,hd,vs,rel,dd⟩:=P2 I.hok e;have hz:vs.length<=aE:=by rw[<-rel.length];exact z
  have hl:(putK k_ k v).length<=aE:=by have:=su k_ k v;omega
  refine wpAny_setItem_pairs (hsz:=hz) (sv ry) dd λh' dd' hs=>h _ ?_;have he:∃q,h'.get? a=a_ q:=let ⟨q,_,_,hq,_⟩:=dd';⟨q,hq⟩;exact yu I (by rw[e];exact ju) hs he (Tw hl hd (rel.put k rv) dd')
 ·subst ey eH;cases(show u=bE b from ry);obtain⟨z,hd,xs,rel,dd⟩:=WB I.hok e;have hz:xs.length<=aE:=by rw[<-o8 rel];exact z
  have hl:(putK k_ k v).length<=aE:=by have:=su k_ k v;omega
  refine wpAny_setItem_heap (hsz:=hz) (mD hu) (uL I.hok eb) dd λh' dd' hs=>h _ ?_;obtain⟨q,es,ep,hq,h2,h3,h4,_,h5⟩:=dd';refine yu I (by rw[e];exact ju) hs ⟨q,hq⟩ ⟨hl,hd,_,(rel.put k eb rv).keeps λc ys ec=>?_,q,es,ep,hq,h2,h3,h4,h5⟩;rw[cH (VY ec e (λz=>nomatch z))];exact ec
end
section
variable{X:Cx}{h_:List (ai×fe)}{σ:St}{H:Hp}{s:ae}{a:ai}{k_:List (Key×V)}{k:Key}{u:ab}{A:br}{E:ab->ae->Prop}
def WE{Q:ab->ae->Prop}(I:Inv X h_ σ H s)(e:Rd H a (.dK k_))(h:∀t s',Inv X h_ σ H s'->Q (.int k_.length t) s'):au (aB X.prog X.w) A (call (.builtin "len") [.ref a]) Q E s:=by
 obtain⟨z,hd,vs,rel,dd⟩:=wN I.hok e;refine call_len_dict hd dd (by rw[<-rel.length];rw[bB]at z;omega) ?_;rw[<-rel.length];exact h _ _ (I.tok _)
end
def sE{X:Cx}{h_:List (ai×fe)}{σ:St}{H:Hp}{s:ae}{a:ai}{y:V}{o:Option V}(I:Inv X h_ σ H s)(g:sS H a y o):s.TypeIs (.ref a) "dict":=by
 rcases g with⟨k_,k,e,_,_⟩|⟨k_,k,b,e,_,_,_⟩
 ·obtain⟨_,_,vs,_,dd⟩:=wN I.hok e;exact dd.typeIs
 ·obtain⟨_,_,xs,_,dd⟩:=AS I.hok e;exact dd.typeIs
section
variable{X:Cx}{o i e value:aI}{pos pos' tpos:fu}{td ty tv:TE}
end
def KS{P:aP}{w:bo}{H:Hp}(h:bH)(hb:sysModules<h.objs.size):iT P w H (h.push { cls:=.type "dict",data:=.dict #[] }) h.objs.size (.dK []):=
 ⟨bY _,beq_eq_false_iff_ne.mpr (eZ (bu hb)),[],.nil,Heap.DictOf.new h⟩
def Qn:TE:=λ_ H Q=>∀p,H p=b_->Q (.ref p) (upd H p (.dK []))
section
variable{X:Cx}{pos:fu}
def Jp:PE X (.Dict [] [] pos) Qn:=λh_ s σ H Q I h=>
 wpAny_Dict_empty ⟨.ref s.heap.objs.size,_,I.laid (a:=s.heap.objs.size) (o:=.dK []) (t':=s.toks) (λ_ _ q=>hp9 _ q) (aC _) (KS s.heap I.big),rfl,h _ (I.hok.fresh (aC _))⟩
end
structure M1(X:Cx)(o:aI)(m:aV)(apos:fu)(e:aI)(cpos:fu):Prop where
 base:attributeBase o m X.env (eval o X.env)=eval o X.env
 few:((backTo cpos (aU [e] X.env)).all (λx=>!x.1) && (backToKw cpos (keywordEach [] X.env)).all (λx=>x.1.isSome)
  && decide (([e]:List aI).length+([]:List rT).length+(if([]:List rT).isEmpty then 0 else 1)<30))=c_
 line:(apos.endLine == cpos.line)=c_
 trees:backTo cpos (aU [e] X.env)=[(d_,eval e X.env)]
structure M2(X:Cx)(o:aI)(m:aV)(apos:fu)(e f:aI)(cpos:fu):Prop where
 base:attributeBase o m X.env (eval o X.env)=eval o X.env
 few:((backTo cpos (aU [e,f] X.env)).all (λx=>!x.1) && (backToKw cpos (keywordEach [] X.env)).all (λx=>x.1.isSome)
  && decide (([e,f]:List aI).length+([]:List rT).length+(if([]:List rT).isEmpty then 0 else 1)<30))=c_
 line:(apos.endLine == cpos.line)=c_
 trees:backTo cpos (aU [e,f] X.env)=[(d_,eval e X.env),(d_,eval f X.env)]
section
variable{X:Cx}{h_:List (ai×fe)}{σ:St}{H:Hp}{s:ae}{a:ai}{y d:V}{u r:ab}{o:Option V}{A:br}{E:ab->ae->Prop}
end
section
variable{X:Cx}{o e f:aI}{apos cpos:fu}{td ty tx:TE}
end
section
variable{X:Cx}{h_:List (ai×fe)}{σ:St}{H:Hp}{s:ae}{a:ai}{k_:List (Key×V)}{A:br}{E:ab->ae->Prop}
end
section
variable{X:Cx}{h_:List (ai×fe)}{σ:St}{H:Hp}{s:ae}{a:ai}{y:V}{u:ab}{A:br}{E:ab->ae->Prop}
end
end L2
namespace M
open PySem PySem.Spec PyProof.Rows L2
inductive Dat where
 |non|bl (b:Bool)|int (i:Int)|str (x:aV)|tup (xs:List Dat)|lst (xs:List Dat)|dct (ks:List Key) (vs:List Dat)|dcn (ks:List (List NK))
 deriving Inhabited
abbrev Fg:=aN
def Tq(K:Fg)(F:Hp)(a:ai)(vs:List V):Prop:=F a=a_ (.tup vs)\/∃(o:fe) (its:Array ab) (n:Nat),K.lookup a=a_ o/\o.cls=.type "tuple"/\o.data=.seq its n/\its.size<=aE/\cD vs its.toList
def Tq.sq{K:Fg}{F:Hp}{a:ai}{vs:List V}(h:Tq K F a vs):vN K F a vs:=by
 rcases h with h|h
 ·exact .inl (.inl h)
 ·exact .inr h
def Tq.mono{K:Fg}{F F':Hp}{a:ai}{vs:List V}(s:bX F F')(h:Tq K F a vs):Tq K F' a vs:=by
 rcases h with h|h
 ·exact .inl (s _ _ h)
 ·exact .inr h
noncomputable def LL(K:Fg)(F:Hp):List N2->List V->Prop
 |[],vs=>vs=[]
 |.inl k::ks,vs=>∃r,vs=kV k::r/\LL K F ks r
 |.inr q::ks,vs=>∃b r,vs=.ref b::r/\Tq K F b (q.map kV)/\LL K F ks r
noncomputable def LK(K:Fg)(F:Hp):List NK->List V->Prop
 |[],vs=>vs=[]
 |.inl k::ks,vs=>∃r,vs=kV k::r/\LK K F ks r
 |.inr q::ks,vs=>∃b r us,vs=.ref b::r/\Tq K F b us/\LL K F q us/\LK K F ks r
def He(K:Fg)(F:Hp)(k:List NK)(a:ai):Prop:=∃vs,Tq K F a vs/\LK K F k vs
def Dd(K:Fg)(F:Hp)(ks:List (List NK))(xs:List (List NK×ai)):Prop:=xs.map (·.1)=ks/\∀x∈xs,He K F x.1 x.2
theorem LL.imp{K:Fg}{F F':Hp}(f:∀b vs,Tq K F b vs->Tq K F' b vs):∀{ks:List N2}{vs:List V},LL K F ks vs->LL K F' ks vs
 |[],_,h=>h
 |.inl k::ks,_,h=>by obtain⟨r,e,h⟩:=h;exact⟨r,e,LL.imp f h⟩
 |.inr q::ks,_,h=>by obtain⟨b,r,e,t,h⟩:=h;exact⟨b,r,e,f _ _ t,LL.imp f h⟩
theorem LK.imp{K:Fg}{F F':Hp}(f:∀b vs,Tq K F b vs->Tq K F' b vs):∀{ks:List NK}{vs:List V},LK K F ks vs->LK K F' ks vs
 |[],_,h=>h
 |.inl k::ks,_,h=>by obtain⟨r,e,h⟩:=h;exact⟨r,e,LK.imp f h⟩
 |.inr q::ks,_,h=>by obtain⟨b,r,us,e,t,u,h⟩:=h;exact⟨b,r,us,e,f _ _ t,u.imp f,LK.imp f h⟩
def Dd.imp{K:Fg}{F F':Hp}(f:∀b vs,Tq K F b vs->Tq K F' b vs){ks:List (List NK)}{xs:List (List NK×ai)}(h:Dd K F ks xs):Dd K F' ks xs:=
 ⟨h.1,λx hx=>let ⟨vs,t,r⟩:=h.2 x hx;⟨vs,f _ _ t,r.imp f⟩⟩
mutual
noncomputable def Rep(K:Fg)(F:Hp):Dat->V->Prop
 |.non,v=>v=.non
 |.bl b,v=>v=.bl b
 |.int i,v=>v=.int i
 |.str x,v=>v=.str x
 |.tup ds,v=>∃a vs,v=.ref a/\Tq K F a vs/\cy K F ds vs
 |.lst ds,v=>∃a vs,v=.ref a/\oG K F a vs/\cy K F ds vs
 |.dct ks ds,v=>∃a k_,v=.ref a/\F a=a_ (.dK k_)/\k_.map (·.1)=ks/\cy K F ds (k_.map (·.2))
 |.dcn ks,v=>∃a xs,v=.ref a/\F a=a_ (.dN xs)/\Dd K F ks xs
noncomputable def cy(K:Fg)(F:Hp):List Dat->List V->Prop
 |[],vs=>vs=[]
 |d::ds,vs=>∃v r,vs=v::r/\Rep K F d v/\cy K F ds r
end
mutual
theorem Rep.mono{K:Fg}{F F':Hp}(s:bX F F'):∀(d:Dat){v:V},Rep K F d v->Rep K F' d v
 |.non,_,h=>h
 |.bl _,_,h=>h
 |.int _,_,h=>h
 |.str _,_,h=>h
 |.tup ds,_,⟨a,vs,e,t,r⟩=>⟨a,vs,e,t.mono s,cy.mono s ds r⟩
 |.lst ds,_,⟨a,vs,e,t,r⟩=>⟨a,vs,e,s.seq t,cy.mono s ds r⟩
 |.dct _ ds,_,⟨a,k_,e,t,k,r⟩=>⟨a,k_,e,s _ _ t,k,cy.mono s ds r⟩
 |.dcn _,_,⟨a,xs,e,t,r⟩=>⟨a,xs,e,s _ _ t,r.imp λ_ _ q=>q.mono s⟩
theorem cy.mono{K:Fg}{F F':Hp}(s:bX F F'):∀(ds:List Dat){vs:List V},cy K F ds vs->cy K F' ds vs
 |[],_,h=>h
 |d::ds,_,⟨v,r,e,h1,h2⟩=>⟨v,r,e,Rep.mono s d h1,cy.mono s ds h2⟩
end
theorem cy.length{K:Fg}{F:Hp}:∀{ds:List Dat}{vs:List V},cy K F ds vs->vs.length=ds.length
 |[],_,h=>by rw[show _=[]from h];rfl
 |d::ds,_,z2=>by obtain⟨v,r,e,_,h2⟩:=z2;rw[e,aM,aM,cy.length h2]
theorem cy.get{K:Fg}{F:Hp}:∀{ds:List Dat}{vs:List V}{i:Nat}{d:Dat},cy K F ds vs->ds[i]?=a_ d->∃v,vs[i]?=a_ v/\Rep K F d v
 |[],_,_,_,_,e=>by simp at e
 |d::ds,_,0,_,z4,z=>by obtain⟨v,r,e,h1,_⟩:=z4;simp at z;subst z;subst e;exact⟨v,rfl,h1⟩
 |d::ds,_,i+1,_,z4,z=>by
   obtain⟨v,r,e,_,h2⟩:=z4;subst e;obtain⟨w,q1,q2⟩:=cy.get (i:=i) h2 (by simpa using z);exact⟨w,by simpa using q1,q2⟩
theorem cy.append{K:Fg}{F:Hp}:∀{ds es:List Dat}{vs us:List V},cy K F ds vs->cy K F es us->cy K F (ds++es) (vs++us)
 |[],_,_,_,h,h'=>by rw[show _=[]from h];exact h'
 |d::ds,_,_,_,z4,h'=>by obtain⟨v,r,e,h1,h2⟩:=z4;subst e;exact⟨v,r++_,rfl,h1,cy.append h2 h'⟩
def cy.one{K:Fg}{F:Hp}{d:Dat}{v:V}(h:Rep K F d v):cy K F [d] [v]:=⟨v,[],rfl,h,rfl⟩
theorem cy.take{K:Fg}{F:Hp}:∀(n:Nat){ds:List Dat}{vs:List V},cy K F ds vs->cy K F (ds.take n) (vs.take n)
 |0,_,_,_=>by simp[cy]
 |n+1,[],_,h=>by rw[show _=[]from h];exact rfl
 |n+1,d::ds,_,z3=>by obtain⟨v,r,e,h1,h2⟩:=z3;subst e;exact⟨v,r.take n,rfl,h1,cy.take n h2⟩
theorem cy.drop{K:Fg}{F:Hp}:∀(n:Nat){ds:List Dat}{vs:List V},cy K F ds vs->cy K F (ds.drop n) (vs.drop n)
 |0,_,_,h=>h
 |n+1,[],_,h=>by rw[show _=[]from h];exact rfl
 |n+1,d::ds,_,z3=>by obtain⟨v,r,e,h1,h2⟩:=z3;subst e;exact cy.drop n h2
mutual
noncomputable def im:Dat->Bool
 |.lst _=>d_
 |.dct _ _=>d_
 |.dcn _=>d_
 |.tup ds=>iX ds
 |_=>c_
noncomputable def iX:List Dat->Bool
 |[]=>c_
 |d::ds=>im d && iX ds
end
structure Good(F H:Hp):Prop where
 sub:bX F H
 tup:∀a vs,H a=a_ (.tup vs)->F a=a_ (.tup vs)
structure Step(F H F' H':Hp):Prop where
 good:Good F' H'
 ff:bX F F'
 hh:bX H H'
 un:∀a o,H a=a_ o->F a=b_->F' a=b_
def Step.refl{F H:Hp}(g:Good F H):Step F H F H:=⟨g,bX.refl _,bX.refl _,λ_ _ _ n=>n⟩
def Step.trans{F H F1 H1 F2 H2:Hp}(a:Step F H F1 H1)(b:Step F1 H1 F2 H2):Step F H F2 H2:=
 ⟨b.good,a.ff.trans b.ff,a.hh.trans b.hh,λx o h n=>b.un x o (a.hh x o h) (a.un x o h n)⟩
def bX.upd{H:Hp}{p:ai}{o:HO}(hp:H p=b_):bX H (upd H p o):=λb u e=>by rw[cH (dY e hp)];exact e
def Step.alloc{F H:Hp}{p:ai}{o:HO}(g:Good F H)(hp:H p=b_):Step F H (upd F p o) (upd H p o):=by
 have hF:F p=b_:=by
  cases q:F p with
  |none=>rfl
  |some u=>rw[g.sub p u q]at hp;cases hp
 refine⟨⟨λb u e=>?_,λa vs e=>?_⟩,bX.upd hF,bX.upd hp,λa u h n=>?_⟩
 ·by_cases hb:b=p
  ·subst hb;rw[cw]at e ⊢;exact e
  ·rw[cH hb]at e ⊢;exact g.sub b u e
 ·by_cases hb:a=p
  ·subst hb;rw[cw]at e ⊢;exact e
  ·rw[cH hb]at e ⊢;exact g.tup a vs e
 ·rw[cH (dY h hp)];exact n
noncomputable def shr(F H F1:Hp):Hp:=λa=>match F a,H a with
 |none,a_ _=>b_
 |_,_=>F1 a
def QN{F H F1:Hp}{a:ai}{o:HO}(h:shr F H F1 a=a_ o):F1 a=a_ o:=by
 unfold shr at h
 cases q:F a with
 |none=>
   cases q2:H a with
   |none=>rw[q,q2]at h;exact h
   |some u=>rw[q,q2]at h;cases h
 |some u=>rw[q]at h;exact h
def B1{F H F1:Hp}{a:ai}(h:F a≠b_\/H a=b_):shr F H F1 a=F1 a:=by
 unfold shr
 cases q:F a with
 |none=>
   cases q2:H a with
   |none=>rfl
   | some u=>rcases h with h|h
             ·exact absurd q h
             ·rw[q2]at h;cases h
 |some u=>rfl
def Step.shrink{F H Fp F1 H1:Hp}(g:Good F H)(s:bX F Fp)(st:Step Fp H F1 H1):Step F H (shr F H F1) H1:=by
 refine⟨⟨λa o e=>st.good.sub a o (QN e),λa vs e=>?_⟩,λa o e=>?_,st.hh,λa o h n=>?_⟩
 ·have e1:=st.good.tup a vs e;rw[B1 ?_]
  ·exact e1
  ·cases q:H a with
   |none=>exact .inr rfl
   |some u=>
     have:=st.hh a u q;rw[e]at this;cases this;exact .inl (by rw[g.tup a vs q];simp)
 ·rw[B1 (.inl (by rw[e];simp))];exact st.ff a o (s a o e)
 ·unfold shr;rw[n,h]
def Tq.shrink{K:Fg}{F H Fp F1 H1:Hp}(g:Good F H)(st:Step Fp H F1 H1){a:ai}{vs:List V}(h:Tq K F1 a vs):Tq K (shr F H F1) a vs:=by
 rcases h with h|h
 ·refine .inl ?_;rw[B1 ?_]
  ·exact h
  ·cases q:H a with
   |none=>exact .inr rfl
   |some u=>
     have:=st.hh a u q;rw[st.good.sub a _ h]at this;cases this;exact .inl (by rw[g.tup a vs q];simp)
 ·exact .inr h
mutual
theorem Rep.shrink{K:Fg}{F H Fp F1 H1:Hp}(g:Good F H)(st:Step Fp H F1 H1):∀(d:Dat){v:V},im d=c_->Rep K F1 d v->Rep K (shr F H F1) d v
 |.non,_,_,h=>h
 |.bl _,_,_,h=>h
 |.int _,_,_,h=>h
 |.str _,_,_,h=>h
 |.tup ds,_,m,⟨a,vs,e,t,r⟩=>⟨a,vs,e,t.shrink g st,cy.shrink g st ds m r⟩
 |.lst ds,_,m,_=>nomatch m
 |.dct _ _,_,m,_=>nomatch m
 |.dcn _,_,m,_=>nomatch m
theorem cy.shrink{K:Fg}{F H Fp F1 H1:Hp}(g:Good F H)(st:Step Fp H F1 H1):∀(ds:List Dat){vs:List V},iX ds=c_->cy K F1 ds vs->cy K (shr F H F1) ds vs
 |[],_,_,h=>h
 |d::ds,_,m,z3=>by
   obtain⟨v,r,e,h1,h2⟩:=z3;have m':im d=c_/\iX ds=c_:=by simpa [iX]using m
   exact⟨v,r,e,Rep.shrink g st d m'.1 h1,cy.shrink g st ds m'.2 h2⟩
end
mutual
noncomputable def mC(K:Fg)(H:Hp):Dat->V->List ai->Prop
 |.non,v,S=>v=.non/\S=[]
 |.bl b,v,S=>v=.bl b/\S=[]
 |.int i,v,S=>v=.int i/\S=[]
 |.str x,v,S=>v=.str x/\S=[]
 |.tup ds,v,S=>∃a vs,v=.ref a/\Tq K H a vs/\cY K H ds vs S
 |.lst ds,v,S=>∃a vs S',v=.ref a/\H a=a_ (.lst vs)/\cY K H ds vs S'/\S=a::S'
 |.dct ks ds,v,S=>∃a k_ S',v=.ref a/\H a=a_ (.dK k_)/\k_.map (·.1)=ks/\cY K H ds (k_.map (·.2)) S'/\S=a::S'
 |.dcn ks,v,S=>∃a xs,v=.ref a/\H a=a_ (.dN xs)/\Dd K H ks xs/\S=[a]
noncomputable def cY(K:Fg)(H:Hp):List Dat->List V->List ai->Prop
 |[],vs,S=>vs=[]/\S=[]
 |d::ds,vs,S=>∃v r S1 S2,vs=v::r/\mC K H d v S1/\cY K H ds r S2/\S=S1++S2
end
mutual
theorem mC.mono{K:Fg}{H H':Hp}(s:bX H H'):∀(d:Dat){v:V}{S:List ai},mC K H d v S->mC K H' d v S
 |.non,_,_,h=>h
 |.bl _,_,_,h=>h
 |.int _,_,_,h=>h
 |.str _,_,_,h=>h
 |.tup ds,_,_,⟨a,vs,e,t,r⟩=>⟨a,vs,e,t.mono s,cY.mono s ds r⟩
 |.lst ds,_,_,⟨a,vs,S',e,t,r,q⟩=>⟨a,vs,S',e,s _ _ t,cY.mono s ds r,q⟩
 |.dct _ ds,_,_,⟨a,k_,S',e,t,k,r,q⟩=>⟨a,k_,S',e,s _ _ t,k,cY.mono s ds r,q⟩
 |.dcn _,_,_,⟨a,xs,e,t,r,q⟩=>⟨a,xs,e,s _ _ t,r.imp λ_ _ z=>z.mono s,q⟩
theorem cY.mono{K:Fg}{H H':Hp}(s:bX H H'):∀(ds:List Dat){vs:List V}{S:List ai},cY K H ds vs S->cY K H' ds vs S
 |[],_,_,h=>h
 |d::ds,_,_,⟨v,r,S1,S2,e,h1,h2,q⟩=>⟨v,r,S1,S2,e,mC.mono s d h1,cY.mono s ds h2,q⟩
end
noncomputable def Lv:HO->Prop
 |.lst _=>True
 |.dK _=>True
 |.dN _=>True
 |_=>False
mutual
theorem mC.yX{K:Fg}{H:Hp}:∀(d:Dat){v:V}{S:List ai},mC K H d v S->∀a∈S,∃o,H a=a_ o/\Lv o
 |.non,_,_,h=>by rw[h.2];intro a m;cases m
 |.bl _,_,_,h=>by rw[h.2];intro a m;cases m
 |.int _,_,_,h=>by rw[h.2];intro a m;cases m
 |.str _,_,_,h=>by rw[h.2];intro a m;cases m
 |.tup ds,_,_,⟨a,vs,e,t,r⟩=>cY.yX ds r
 |.lst ds,_,_,z3=>by
   obtain⟨a,vs,S',e,t,r,q⟩:=z3;subst q;intro b m
   rcases ao.mp m with rfl|m
   ·exact⟨_,t,trivial⟩
   ·exact cY.yX ds r b m
 |.dct _ ds,_,_,z3=>by
   obtain⟨a,k_,S',e,t,k,r,q⟩:=z3;subst q;intro b m
   rcases ao.mp m with rfl|m
   ·exact⟨_,t,trivial⟩
   ·exact cY.yX ds r b m
 |.dcn _,_,_,z3=>by
   obtain⟨a,xs,e,t,r,q⟩:=z3;subst q;intro b m;rw[aF.mp m];exact⟨_,t,trivial⟩
theorem cY.yX{K:Fg}{H:Hp}:∀(ds:List Dat){vs:List V}{S:List ai},cY K H ds vs S->∀a∈S,∃o,H a=a_ o/\Lv o
 |[],_,_,h=>by rw[h.2];intro a m;cases m
 |d::ds,_,_,z3=>by
   obtain⟨v,r,S1,S2,e,h1,h2,q⟩:=z3;subst q;intro b m
   rcases az.mp m with m|m
   ·exact mC.yX d h1 b m
   ·exact cY.yX ds h2 b m
end
def fz(F H:Hp)(S:List ai):Hp:=λa=>if a∈S then H a else F a
def Az{F H:Hp}{S:List ai}{a:ai}(h:a∈S):fz F H S a=H a:=if_pos h
def rJ{F H:Hp}{S:List ai}{a:ai}(h:a∉S):fz F H S a=F a:=if_neg h
def Te{F H:Hp}{S:List ai}(g:bX F H):bX (fz F H S) H:=λa o e=>by
 by_cases m:a∈S
 ·rw[Az m]at e;exact e
 ·rw[rJ m]at e;exact g a o e
def rH{F H:Hp}{S:List ai}(g:bX F H):bX F (fz F H S):=λa o e=>by
 by_cases m:a∈S
 ·rw[Az m];exact g a o e
 ·rw[rJ m];exact e
def yk{F H:Hp}{S:List ai}(g:Good F H):Good (fz F H S) H:=⟨Te g.sub,λa vs e=>rH g.sub a _ (g.tup a vs e)⟩
mutual
theorem mC.ka{K:Fg}{F H:Hp}(g:Good F H):∀(d:Dat){v:V}{S T:List ai},mC K H d v S->(∀a∈S,a∈T)->Rep K (fz F H T) d v
 |.non,_,_,_,h,_=>h.1
 |.bl _,_,_,_,h,_=>h.1
 |.int _,_,_,_,h,_=>h.1
 |.str _,_,_,_,h,_=>h.1
 |.tup ds,_,_,_,z4,m=>by
   obtain⟨a,vs,e,t,r⟩:=z4;refine⟨a,vs,e,?_,cY.ka g ds r m⟩
   rcases t with t|t
   ·exact .inl (rH g.sub _ _ (g.tup _ _ t))
   ·exact .inr t
 |.lst ds,_,_,_,z4,m=>by
   obtain⟨a,vs,S',e,t,r,q⟩:=z4;subst q;refine⟨a,vs,e,.inl (.inl ?_),cY.ka g ds r λb hb=>m b (ib _ hb)⟩;rw[Az (m a hJ)];exact t
 |.dct _ ds,_,_,_,z4,m=>by
   obtain⟨a,k_,S',e,t,k,r,q⟩:=z4;subst q;refine⟨a,k_,e,?_,k,cY.ka g ds r λb hb=>m b (ib _ hb)⟩;rw[Az (m a hJ)];exact t
 |.dcn _,_,_,_,z4,m=>by
   obtain⟨a,xs,e,t,r,q⟩:=z4;subst q;refine⟨a,xs,e,?_,r.imp λb vs z=>?_⟩
   ·rw[Az (m a hJ)];exact t
   ·rcases z with z|z
    ·exact .inl (rH g.sub _ _ (g.tup _ _ z))
    ·exact .inr z
theorem cY.ka{K:Fg}{F H:Hp}(g:Good F H):∀(ds:List Dat){vs:List V}{S T:List ai},cY K H ds vs S->(∀a∈S,a∈T)->cy K (fz F H T) ds vs
 |[],_,_,_,h,_=>h.1
 |d::ds,_,_,_,z4,m=>by
   obtain⟨v,r,S1,S2,e,h1,h2,q⟩:=z4;subst q;exact⟨v,r,e,mC.ka g d h1 λa ha=>m a (aJ _ ha),cY.ka g ds h2 λa ha=>m a (ak _ ha)⟩
end
mutual
theorem mC.j4{K:Fg}{F H:Hp}(g:bX F H):∀(d:Dat){v:V},im d=c_->Rep K F d v->mC K H d v []
 |.non,_,_,h=>⟨h,rfl⟩
 |.bl _,_,_,h=>⟨h,rfl⟩
 |.int _,_,_,h=>⟨h,rfl⟩
 |.str _,_,_,h=>⟨h,rfl⟩
 |.tup ds,_,m,⟨a,vs,e,t,r⟩=>⟨a,vs,e,t.mono g,cY.j4 g ds m r⟩
 |.lst ds,_,m,_=>nomatch m
 |.dct _ _,_,m,_=>nomatch m
 |.dcn _,_,m,_=>nomatch m
theorem cY.j4{K:Fg}{F H:Hp}(g:bX F H):∀(ds:List Dat){vs:List V},iX ds=c_->cy K F ds vs->cY K H ds vs []
 |[],_,_,h=>⟨h,rfl⟩
 |d::ds,_,m,z3=>by
   obtain⟨v,r,e,h1,h2⟩:=z3;have m':im d=c_/\iX ds=c_:=by simpa [iX]using m
   exact⟨v,r,[],[],e,mC.j4 g d m'.1 h1,cY.j4 g ds m'.2 h2,rfl⟩
end
mutual
theorem mC.upd{K:Fg}{H:Hp}{p:ai}{o:HO}(hp:∀vs,H p≠a_ (.tup vs)):∀(d:Dat){v:V}{S:List ai},mC K H d v S->p∉S->mC K (upd H p o) d v S
 |.non,_,_,h,_=>h
 |.bl _,_,_,h,_=>h
 |.int _,_,_,h,_=>h
 |.str _,_,_,h,_=>h
 |.tup ds,_,_,z3,n=>by
   obtain⟨a,vs,e,t,r⟩:=z3;refine⟨a,vs,e,?_,cY.upd hp ds r n⟩
   rcases t with t|t
   ·refine .inl ?_;rw[cH (λz=>hp vs (by rw[<-z];exact t))];exact t
   ·exact .inr t
 |.lst ds,_,_,z3,n=>by
   obtain⟨a,vs,S',e,t,r,q⟩:=z3;subst q;have hne:a≠p:=λz=>n (z▸hJ);exact⟨a,vs,S',e,(cH hne).trans t,cY.upd hp ds r (λm=>n (ib _ m)),rfl⟩
 |.dct _ ds,_,_,z3,n=>by
   obtain⟨a,k_,S',e,t,k,r,q⟩:=z3;subst q;have hne:a≠p:=λz=>n (z▸hJ);exact⟨a,k_,S',e,(cH hne).trans t,k,cY.upd hp ds r (λm=>n (ib _ m)),rfl⟩
 |.dcn _,_,_,z3,n=>by
   obtain⟨a,xs,e,t,r,q⟩:=z3;subst q;have hne:a≠p:=λz=>n (z▸hJ);refine⟨a,xs,e,(cH hne).trans t,r.imp λb vs z=>?_,rfl⟩
   rcases z with z|z
   ·refine .inl ?_;rw[cH (λy=>hp vs (by rw[<-y];exact z))];exact z
   ·exact .inr z
theorem cY.upd{K:Fg}{H:Hp}{p:ai}{o:HO}(hp:∀vs,H p≠a_ (.tup vs)):∀(ds:List Dat){vs:List V}{S:List ai},cY K H ds vs S->p∉S->cY K (upd H p o) ds vs S
 |[],_,_,h,_=>h
 |d::ds,_,_,z3,n=>by
   obtain⟨v,r,S1,S2,e,h1,h2,q⟩:=z3;subst q;exact⟨v,r,S1,S2,e,mC.upd hp d h1 (λm=>n (aJ _ m)),cY.upd hp ds h2 (λm=>n (ak _ m)),rfl⟩
end
theorem cY.length{K:Fg}{H:Hp}:∀{ds:List Dat}{vs:List V}{S:List ai},cY K H ds vs S->vs.length=ds.length
 |[],_,_,h=>by rw[h.1];rfl
 |d::ds,_,_,z3=>by obtain⟨v,r,S1,S2,e,_,h2,_⟩:=z3;rw[e,aM,aM,cY.length h2]
theorem cY.append{K:Fg}{H:Hp}:∀{ds es:List Dat}{vs us:List V}{S T:List ai},cY K H ds vs S->cY K H es us T->cY K H (ds++es) (vs++us) (S++T)
 |[],_,_,_,_,_,h,h'=>by rw[h.1,h.2];exact h'
 |d::ds,_,_,_,_,_,z6,h'=>by obtain⟨v,r,S1,S2,e,h1,h2,q⟩:=z6;subst e q;exact⟨v,r++_,S1,S2++_,rfl,h1,cY.append h2 h',by rw[cC]⟩
def cY.one{K:Fg}{H:Hp}{d:Dat}{v:V}{S:List ai}(h:mC K H d v S):cY K H [d] [v] S:=⟨v,[],S,[],rfl,h,⟨rfl,rfl⟩,by simp⟩
noncomputable abbrev St:=L2.St
abbrev eW:=List (Option Dat)
def mw(K:Fg)(F:Hp)(σ:St)(ρ:eW):Prop:=∀(i:Nat)d,ρ[i]?=a_ (a_ d)->∃v,σ[i]?=a_ (a_ v)/\Rep K F d v
def mw.mono{K:Fg}{F F':Hp}{σ:St}{ρ:eW}(s:bX F F')(h:mw K F σ ρ):mw K F' σ ρ:=λi d e=>let ⟨v,q1,q2⟩:=h i d e;⟨v,q1,q2.mono s⟩
def fi(K:Fg)(H H':Hp)(d:Dat)(v:V):Prop:=∃S:List ai,S.Nodup/\(∀a∈S,H a=b_)/\mC K H' d v S
def e9(K:Fg)(H H':Hp)(ds:List Dat)(vs:List V):Prop:=∃S:List ai,S.Nodup/\(∀a∈S,H a=b_)/\cY K H' ds vs S
def fi.back{K:Fg}{F H0 H H':Hp}{d:Dat}{v:V}(s:bX H0 H)(h:fi K H H' d v):fi K H0 H' d v:=by
 obtain⟨S,n,e,r⟩:=h;exact⟨S,n,λa m=>s.free (e a m),r⟩
def e9.back{K:Fg}{F H0 H H':Hp}{ds:List Dat}{vs:List V}(s:bX H0 H)(h:e9 K H H' ds vs):e9 K H0 H' ds vs:=by
 obtain⟨S,n,e,r⟩:=h;exact⟨S,n,λa m=>s.free (e a m),r⟩
def fi.j4{K:Fg}{F H H':Hp}{d:Dat}{v:V}(g:Good F H')(m:im d=c_)(r:Rep K F d v):fi K H H' d v:=⟨[],et,(λa z=>by cases z),mC.j4 g.sub d m r⟩
def e9.j4{K:Fg}{F H H':Hp}{ds:List Dat}{vs:List V}(g:Good F H')(m:iX ds=c_)(r:cy K F ds vs):e9 K H H' ds vs:=⟨[],et,(λa z=>by cases z),cY.j4 g.sub ds m r⟩
def e9.cons{K:Fg}{H H1 H2:Hp}{d:Dat}{ds:List Dat}{v:V}{vs:List V}(s:bX H H1)(s':bX H1 H2)(h:fi K H H1 d v)(hs:e9 K H1 H2 ds vs):e9 K H H2 (d::ds) (v::vs):=by
 obtain⟨S,n,e,r⟩:=h;obtain⟨T,n',e',r'⟩:=hs;refine⟨S++T,cR.mpr ⟨n,n',λa ha b hb z=>?_⟩,λa m=>?_,v,vs,S,T,rfl,r.mono s',r',rfl⟩
 ·subst z;obtain⟨o,ho,_⟩:=r.yX _ a ha;rw[e' a hb]at ho;cases ho
 ·rcases az.mp m with m|m
  ·exact e a m
  ·exact s.free (e' a m)
def e9.snoc{K:Fg}{H H1 H2:Hp}{d:Dat}{ds:List Dat}{v:V}{vs:List V}(s:bX H H1)(s':bX H1 H2)(hs:e9 K H H1 ds vs)(h:fi K H1 H2 d v):e9 K H H2 (ds++[d]) (vs++[v]):=by
 obtain⟨S,n,e,r⟩:=hs;obtain⟨T,n',e',r'⟩:=h;refine⟨S++T,cR.mpr ⟨n,n',λa ha b hb z=>?_⟩,λa m=>?_,(r.mono s').append (.one r')⟩
 ·subst z;obtain⟨o,ho,_⟩:=r.yX _ a ha;rw[e' a hb]at ho;cases ho
 ·rcases az.mp m with m|m
  ·exact e a m
  ·exact s.free (e' a m)
def e9.mono{K:Fg}{H H1 H':Hp}{ds:List Dat}{vs:List V}(s:bX H1 H')(h:e9 K H H1 ds vs):e9 K H H' ds vs:=by
 obtain⟨S,n,e,r⟩:=h;exact⟨S,n,e,r.mono s⟩
def e9.nil{K:Fg}{H H1:Hp}:e9 K H H1 [] []:=⟨[],et,(λa z=>by cases z),rfl,rfl⟩
def fi.lst{K:Fg}{H H1:Hp}{ds:List Dat}{vs:List V}{p:ai}(s:bX H H1)(hp:H1 p=b_)(h:e9 K H H1 ds vs):fi K H (L2.upd H1 p (.lst vs)) (.lst ds) (.ref p):=by
 obtain⟨S,n,e,r⟩:=h;refine⟨p::S,be.mpr ⟨λm=>?_,n⟩,λa m=>?_,p,vs,S,rfl,cw,r.mono (bX.upd hp),rfl⟩
 ·obtain⟨o,ho,_⟩:=r.yX _ p m;rw[hp]at ho;cases ho
 ·rcases ao.mp m with rfl|m
  ·exact s.free hp
  ·exact e a m
def fi.tup{K:Fg}{H H1:Hp}{ds:List Dat}{vs:List V}{p:ai}(hp:H1 p=b_)(h:e9 K H H1 ds vs):fi K H (L2.upd H1 p (.tup vs)) (.tup ds) (.ref p):=by
 obtain⟨S,n,e,r⟩:=h;exact⟨S,n,e,p,vs,rfl,.inl cw,r.mono (bX.upd hp)⟩
def tE(K:Fg)(ρ:eW)(d:Dat)(fr:Bool):TE:=λσ H Q=>∃F,Good F H/\mw K F σ ρ/\∀v F' H',Step F H F' H'->Rep K F' d v->(fr=c_->fi K H H' d v)->Q v H'
def ZG(K:Fg)(ρ:eW)(ds:List Dat):TA:=λσ H Q=>∃F,Good F H/\mw K F σ ρ/\∀vs F' H',Step F H F' H'->cy K F' ds vs->Q vs H'
def tT(K:Fg)(ρ:eW)(b:Bool):TT:=λσ H Q=>∃F,Good F H/\mw K F σ ρ/\∀F' H',Step F H F' H'->Q b H'
def ZF(K:Fg)(ρ:eW)(ds:List Dat)(al:Bool):TA:=λσ H Q=>∃F,Good F H/\mw K F σ ρ/\∀vs F' H',Step F H F' H'->cy K F' ds vs->(al=c_->e9 K H H' ds vs)->Q vs H'
def rD(K:Fg)(da db:Dat)(d:Dat)(fr:Bool):R2:=λx y H Q=>∃F,Good F H/\Rep K F da x/\Rep K F db y/\∀v F' H',Step F H F' H'->Rep K F' d v->(fr=c_->fi K H H' d v)->Q v H'
def ZJ(K:Fg)(ds:List Dat)(d:Dat)(fr:Bool):List V->Hp->VK->Prop:=λxs H Q=>∃F,Good F H/\cy K F ds xs/\∀v F' H',Step F H F' H'->Rep K F' d v->(fr=c_->fi K H H' d v)->Q v H'
section
variable{X:Cx}
def PE.imp{e:aI}{t t':TE}(h:PE X e t)(f:∀σ H Q,t' σ H Q->t σ H Q):PE X e t':=λh_ s σ H Q I q=>h h_ s σ H Q I (f _ _ _ q)
def PT.imp{e:aI}{t t':TT}(h:PT X e t)(f:∀σ H Q,t' σ H Q->t σ H Q):PT X e t':=λh_ s σ H Q I q=>h h_ s σ H Q I (f _ _ _ q)
def PA.imp{e:List aI}{t t':TA}(h:PA X e t)(f:∀σ H Q,t' σ H Q->t σ H Q):PA X e t':=λp h_ s σ H Q I q=>h p h_ s σ H Q I (f _ _ _ q)
def PS.imp{e:jw}{t t':TS}(h:PS X e t)(f:∀D σ H,t' D σ H->t D σ H):PS X e t':=λh_ s σ H D I q=>h h_ s σ H D I (f _ _ _ q)
def Bh.imp{e:List jw}{t t':TS}(h:Bh X e t)(f:∀D σ H,t' D σ H->t D σ H):Bh X e t':=λh_ s σ H D I q=>h h_ s σ H D I (f _ _ _ q)
def jd.imp{f:ab->ab->Sem ab}{r r':R2}(h:jd X f r)(g:∀x y H Q,r' x y H Q->r x y H Q):jd X f r':=λh_ s σ H x y v u Q I rx ry q=>h h_ s σ H x y v u Q I rx ry (g _ _ _ _ q)
end
end M
namespace L2
open PySem PySem.Spec PyProof.Rows
def Bg(xs:Array Nat):Prop:=xs.toList.Pairwise (·< ·)
def Bg.get{xs:Array Nat}(h:Bg xs){i j:Nat}(hj:j<xs.size)(hij:i<j):xs[i]'(by omega)<xs[j]:=by
 have:=(xy.mp h) i j (by simpa using(by omega:i<xs.size)) (by simpa using hj) hij;simpa using this
theorem C5{xs:Array Nat}{j:Nat}(hs:Bg xs):∀(fuel lo hi:Nat),lo<=hi->hi<=xs.size->hi - lo<=fuel->(∀i (h:i<xs.size),i<lo->xs[i]<j)->(∀i (h:i<xs.size),hi<=i->j<=xs[i])->
  kc xs j fuel lo hi<=xs.size/\(∀i(h:i<xs.size),i<kc xs j fuel lo hi->xs[i]<j)/\∀i(h:i<xs.size),kc xs j fuel lo hi<=i->j<=xs[i]
 |0,lo,hi,h1,h2,h3,h4,h5=>by
   have e:lo=hi:=by omega
   subst e;exact⟨h2,h4,h5⟩
 |fuel+1,lo,hi,h1,h2,h3,h4,h5=>by
   simp only[kc];by_cases hl:lo<hi
   ·rw[if_pos hl];have hm:(lo+hi) / 2<xs.size:=by omega
    have hg:xs.getD ((lo+hi) / 2) j=xs[(lo+hi) / 2]:=by rw[c7,aH hm];rfl
    rw[hg];by_cases hx:xs[(lo+hi) / 2]<j
    ·rw[if_pos hx];refine C5 hs fuel _ hi (by omega) h2 (by omega) (λi h q=>?_) h5;by_cases hi2:i=(lo+hi) / 2
     ·subst hi2;exact hx
     ·exact jK (hs.get hm (by omega)) hx
    ·rw[if_neg hx];refine C5 hs fuel lo _ (by omega) (by omega) (by omega) h4 (λi h q=>?_);by_cases hi2:(lo+hi) / 2=i
     ·subst hi2;omega
     ·have:=hs.get h (show(lo+hi) / 2<i by omega);omega
   ·rw[if_neg hl];have e:lo=hi:=by omega
    subst e;exact⟨h2,h4,h5⟩
def U0{xs:Array Nat}(hs:Bg xs)(j:Nat):aD xs j<=xs.size/\(∀i(h:i<xs.size),i<aD xs j->xs[i]<j)/\∀i(h:i<xs.size),aD xs j<=i->j<=xs[i]:=
 C5 hs xs.size 0 xs.size (bY _) (aC _) (by omega) (λi _ q=>absurd q (Pb _)) (λi h q=>by omega)
def Li{xs:Array Nat}(hs:Bg xs):aD xs 0=0:=by
 obtain⟨h1,h2,_⟩:=U0 hs 0
 cases q:aD xs 0 with
 |zero=>rfl
 |succ n=>exact absurd (h2 0 (by omega) (by omega)) (Pb _)
def Lj{xs:Array Nat}(hs:Bg xs){i:Nat}(hi:i<xs.size):aD xs (xs[i]+1)=i+1:=by
 obtain⟨h1,h2,h3⟩:=U0 hs (xs[i]+1)
 rcases my (aD xs (xs[i]+1)) (i+1)with h|h|h
 ·have:=h3 i hi (by omega);omega
 ·exact h
 ·have a:=h2 (i+1) (by omega) h;have b:=hs.get (i:=i) (j:=i+1) (by omega) (by omega);omega
def Na{xs:Array Nat}(hs:Bg xs){j:Nat}(hn:xs[aD xs j]?≠a_ j):Bg (cM xs (aD xs j) j):=by
 obtain⟨h1,h2,h3⟩:=U0 hs j;unfold Bg;rw[eF];have hs':xs.toList.Pairwise (·< ·):=hs;refine List.pairwise_append.mpr ⟨hs'.sublist (HG _ _),dM.mpr ⟨λy hy=>?_,hs'.sublist (List.drop_sublist _ _)⟩,λx hx y hy=>?_⟩
 ·obtain⟨k,hk,rfl⟩:=bR.mp hy;rw[HH];have hk':aD xs j+k<xs.size:=by simpa [Nat.add_comm]using(by simp at hk;omega:aD xs j+k<xs.size)
  have a:=h3 (aD xs j+k) hk' (by omega)
  have hne:xs[aD xs j+k]≠j:=by
   intro e
   cases k with
   |zero=>exact hn (by rw[aH (by simpa using hk')];simpa using e)
   |succ k=>
     have b:=hs.get hk' (show aD xs j<aD xs j+(k+1) by omega);have c:=h3 (aD xs j) (by omega) (aC _);omega
  have:j<xs[aD xs j+k]:=by omega
  simpa using this
 ·obtain⟨k,hk,rfl⟩:=bR.mp hx;rw[List.getElem_take];have hk2:k<aD xs j:=by simp at hk;omega
  have a:=h2 k (by omega) hk2;have a':xs.toList[k]'(by simp;omega)<j:=by simpa using a
  rcases ao.mp hy with rfl|hy
  ·exact a'
  ·obtain⟨m,hm,rfl⟩:=bR.mp hy;rw[HH];have hm':aD xs j+m<xs.size:=by simp at hm;omega
   have b:=h3 (aD xs j+m) hm' (by omega);have b':j<=xs.toList[aD xs j+m]'(by simp;omega):=by simpa using b
   omega
structure o6(led:Bool)(t:aO):Prop where
 d:t.dummies=#[]
 r:Bg t.place
 l:t.led=led
def Gh(n:Nat):Bg (Array.range n):=by
 unfold Bg;rw[Array.toList_range];exact nr
def o6.fresh(led:Bool):o6 led (.fresh 0 0 led):=⟨rfl,by show List.Pairwise _ _;exact vV,rfl⟩
def o6.pW{led:Bool}{t:aO}(h:o6 led t)(n:Nat):o6 led (t.standIn n):=⟨rfl,Gh n,h.l⟩
def o6.off{led:Bool}{t:aO}(h:o6 led t):o6 led { t with plain:=d_ }:=⟨h.d,h.r,h.l⟩
def yh(j:Nat):vR #[] j=d_:=by simp[vR]
def ub{t:aO}(hd:t.dummies=#[]){j:Nat}(h:t.slot j=.empty):t.place[aD t.place j]?≠a_ j:=by
 intro e;unfold lj at h;simp only[e,beq_self_eq_true,if_true]at h;cases h
def kF{t:aO}(hd:t.dummies=#[]){j:Nat}(h:t.slot j=.dummy):False:=by
 unfold lj at h;rw[hd,yh]at h;dsimp only at h;split at h
 ·cases h
 ·simp at h
def rQ{t:aO}{p:bA}(h:p.dummy=b_):(t.advance p).dummy=b_:=by
 unfold dH;split
 ·exact h
 ·exact h
theorem uu{t:aO}(hd:t.dummies=#[]){ha:Nat->Int}{hh:Int}:∀(fuel:Nat) (p:bA) {j:Nat} {d:Option Nat},p.dummy=b_->bK t ha hh fuel p=a_ (.empty j d)->
  d=b_/\t.place[aD t.place j]?≠a_ j
 |0,_,_,_,_,h=>by simp only[bK]at h;cases h
 |fuel+1,p,j,d,hp,h=>by
   simp only[bK]at h
   cases q:t.slot p.j with
   |empty=>
     rw[q]at h
     injection h with h
     injection h with h1 h2
     subst h1;subst h2;exact⟨hp,ub hd q⟩
   |dummy=>exact(kF hd q).elim
   |live i=>
     rw[q]at h;dsimp only at h;split at h
     ·injection h with h;cases h
     ·exact uu hd fuel _ (rQ hp) h
set_option tactic.hygienic true
def Ol{t:aO}(hd:t.dummies=#[]){hh:Int}{j:Nat}{b:Bool}(h:t.freeSlot hh=a_ (j,b)):t.place[aD t.place j]?≠a_ j:=by
 unfold SetTable.freeSlot at h;split at h
 ·rename_i j' d hq;have:=uu hd _ _ (by rfl) hq;obtain⟨e1,e2⟩:=this;subst e1
  injection h with h
  injection h with h1 h2
  subst h1;exact e2
 ·cases h
def o6.put{led:Bool}{t:aO}(h:o6 led t){j:Nat}(hn:t.place[aD t.place j]?≠a_ j):o6 led (t.put j).1:=by
 refine⟨?_,Na h.r hn,h.l⟩;show(if vR t.dummies j then _ else t.dummies)=_;rw[h.d,yh];rfl
def o6.or{led:Bool}{t:aO}(h:o6 led t)(n:Nat):o6 led (t.orStandIn n):=by
 unfold SetTable.orStandIn;split
 ·exact h
 ·exact h.pW n
def o6.lay{led:Bool}{t:aO}(h:o6 led t)(es:Array (Int×ab))(hh:Int)(x:ab):o6 led (layNew t es hh x).2.1:=by
 unfold layNew;split
 ·rename_i j b hq;exact(h.put (Ol h.d hq)).or _
 ·exact h.pW _
def o6.laid{led:Bool}{mask f m:Nat}{pl:Bool}{hs:Array Int}{t:aO}{o:Array Nat}(h:lp mask f m led pl hs=a_ (t,o)):o6 led t:=by
 unfold lp at h;simp only[BF,xx]at h;obtain⟨ow,h1,h⟩:=h
 injection h with h
 injection h with h2 h3
 subst h2;refine⟨rfl,?_,rfl⟩;show(List.map _ _).toArray.toList.Pairwise _;rw[Fw,eo,ze];refine nJ ?_ nr;intro a b hab x hx y hy;obtain⟨c,_,rfl⟩:=dX hx;obtain⟨e,_,rfl⟩:=dX hy;exact hab
def o6.Vx{led:Bool}{t:aO}(h:o6 led t)(es:Array (Int×ab))(n:Nat):o6 led (relayAll t es n).2.1:=by
 unfold relayAll;split
 ·rename_i t' o hq;dsimp only;split
  ·unfold Fo at hq;rw[h.l]at hq;exact o6.laid hq
  ·exact h.pW _
 ·exact h.pW _
set_option tactic.hygienic false
end L2
namespace L2
open PySem
noncomputable def sO(mask:Nat):Nat->Nat->Nat->Nat×Nat
 |0,i,p=>(i,p)
 |n+1,i,p=>sO mask n (gQ mask i p).1 (gQ mask i p).2
theorem tM(mask:Nat):∀(a b i p:Nat),sO mask (a+b) i p=sO mask b (sO mask a i p).1 (sO mask a i p).2
 |0,b,i,p=>by rw[nD];rfl
 |a+1,b,i,p=>by rw[show a+1+b=(a+b)+1 by omega];exact tM mask a b _ _
theorem uJ(mask:Nat):∀(n i p:Nat),(sO mask n i p).2=p / 32 ^ n
 |0,i,p=>by simp[sO]
 |n+1,i,p=>by
   rw[sO,uJ mask n,gQ,Nat.div_div_eq_div_mul,Nat.pow_succ,Nat.mul_comm]
theorem JZ(mask:Nat):∀(n i p:Nat),i<mask+1->(sO mask n i p).1<mask+1
 |0,i,p,h=>h
 |n+1,i,p,h=>JZ mask n _ _ (iU _ (by omega))
noncomputable def Xh(mask:Nat):Nat->Nat->List Nat
 |0,i=>[i]
 |n+1,i=>i::Xh mask n ((i * 5+1) % (mask+1))
theorem D2(mask:Nat):∀(n i j:Nat),j∈Xh mask n i->∃m,m<=n/\(sO mask m i 0).1=j
 |0,i,j,h=>by
   simp[Xh]at h;exact⟨0,by omega,h.symm⟩
 |n+1,i,j,h=>by
   rcases ao.mp h with h|h
   ·exact⟨0,by omega,h.symm⟩
   ·obtain⟨m,hm,e⟩:=D2 mask n _ j h;refine⟨m+1,by omega,?_⟩;rw[sO];simpa [gQ]using e
def KY(mask:Nat):Bool:=(ax (mask+1)).all λj=>(Xh mask mask 0).any λx=>Nat.beq x j
def Yz:KY 7=c_:=by decide +kernel
def WG:KY 31=c_:=by decide +kernel
def TJ:KY 127=c_:=by decide +kernel
def TH:KY 511=c_:=by decide +kernel
def X3:(sO 7 8 0 0).1=0:=by decide +kernel
def VF:(sO 31 32 0 0).1=0:=by decide +kernel
def Ru:(sO 127 128 0 0).1=0:=by decide +kernel
def Rt:(sO 511 512 0 0).1=0:=by decide +kernel
def KW{mask:Nat}(h:mask=7\/mask=31\/mask=127\/mask=511):KY mask=c_/\(sO mask (mask+1) 0 0).1=0:=by
 rcases h with rfl|rfl|rfl|rfl
 ·exact⟨Yz,X3⟩
 ·exact⟨WG,VF⟩
 ·exact⟨TJ,Ru⟩
 ·exact⟨TH,Rt⟩
def FA(mask n i:Nat):(sO mask n i 0).2=0:=by rw[uJ,Nat.zero_div]
def uI(mask a b i:Nat):(sO mask (a+b) i 0).1=(sO mask b (sO mask a i 0).1 0).1:=by rw[tM,FA]
def PV{mask:Nat}(h:mask=7\/mask=31\/mask=127\/mask=511){j:Nat}(hj:j<mask+1):∃n,n<=mask/\(sO mask n 0 0).1=j:=by
 have:=aY.mp (KW h).1 j (aZ.mpr hj);obtain⟨x,hx,e⟩:=tz.mp this;have e:=Nat.eq_of_beq_eq_true e;subst e;exact D2 mask mask 0 x hx
def Ej{mask:Nat}(h:mask=7\/mask=31\/mask=127\/mask=511){i p j:Nat}(hi:i<mask+1)(hp:p<2 ^ 64)(hj:j<mask+1):∃n,n<=mask+13/\(sO mask n i p).1=j:=by
 have h13:(sO mask 13 i p).2=0:=by
  rw[uJ];exact Nat.div_eq_of_lt (by omega)
 have hl:=JZ mask 13 i p hi;obtain⟨a,ha,ea⟩:=PV h hl;obtain⟨b,hb,eb⟩:=PV h hj;have hper:=(KW h).2;by_cases hab:a<=b
 ·refine⟨13+(b - a),by omega,?_⟩;rw[tM,h13,<-ea,<-uI,show a+(b - a)=b by omega];exact eb
 ·refine⟨13+(mask+1 - a+b),by omega,?_⟩;rw[tM,h13,<-ea,<-uI,show a+(mask+1 - a+b)=(mask+1)+b by omega,uI,hper];exact eb
structure xn(t:aO)(p:bA):Prop where
 j:p.j=p.i
 m:p.more=dz t.mask p.i - p.i
 d:p.dummy=b_
def pZ{t:aO}{p:bA}(h:xn t p):p.more<=9:=by
 rw[h.m];unfold dz;split<;>omega
set_option tactic.hygienic true
theorem yj{t:aO}(hd:t.dummies=#[]){ha:Nat->Int}{hh:Int}:∀(k f:Nat) (p:bA),p.more=k->p.dummy=b_->bK t ha hh (k+1+f) p=b_->
  t.slot p.j≠.empty/\∃q:bA,bK t ha hh f q=b_/\xn t q/\q.i=(gQ t.mask p.i p.perturb).1/\q.perturb=(gQ t.mask p.i p.perturb).2
 |0,f,p,hk,hp,h=>by
   rw[show 0+1+f=f+1 by omega,bK]at h
   cases hs:t.slot p.j with
   |empty=>rw[hs]at h;cases h
   |dummy=>exact(kF hd hs).elim
   |live i=>
     rw[hs]at h;dsimp only at h;split at h
     ·cases h
     rename_i hne;refine⟨by simp,_,h,?_,?_,?_⟩
     ·unfold dH;rw[if_neg (by omega)];exact⟨rfl,rfl,hp⟩
     ·unfold dH;rw[if_neg (by omega)]
     ·unfold dH;rw[if_neg (by omega)]
 |k+1,f,p,hk,hp,h=>by
   rw[show k+1+1+f=(k+1+f)+1 by omega,bK]at h
   cases hs:t.slot p.j with
   |empty=>rw[hs]at h;cases h
   |dummy=>exact(kF hd hs).elim
   |live i=>
     rw[hs]at h;dsimp only at h;split at h
     ·cases h
     rename_i hne;have e:t.advance p={ p with j:=p.j+1,more:=p.more - 1 }:=by unfold dH;rw[if_pos (by omega)]
     rw[e]at h;obtain⟨_,q,h1,h2,h3,h4⟩:=yj hd k f { p with j:=p.j+1,more:=p.more - 1 } (by show p.more - 1=k;omega) hp h;exact⟨by simp,q,h1,h2,h3,h4⟩
theorem tQ{t:aO}{ha:Nat->Int}{hh:Int}:∀(f g:Nat)(p:bA),bK t ha hh (f+g) p=b_->bK t ha hh f p=b_
 |0,g,p,h=>rfl
 |f+1,g,p,h=>by
   rw[show f+1+g=(f+g)+1 by omega,bK]at h;rw[bK]
   cases hs:t.slot p.j with
   |empty=>rw[hs]at h;cases h
   |dummy=>rw[hs]at h;exact tQ f g _ h
   |live i=>
     rw[hs]at h;simp only at h ⊢;split
     ·rename_i q;rw[if_pos q]at h;cases h
     ·rename_i q;rw[if_neg q]at h;exact tQ f g _ h
set_option tactic.hygienic false
theorem Au{t:aO}(hd:t.dummies=#[]){ha:Nat->Int}{hh:Int}:∀(m:Nat)(p:bA),xn t p->bK t ha hh (10 * (m+1)) p=b_->∀n≤m,t.slot (sO t.mask n p.i p.perturb).1≠.empty
 |m,p,hp,h,0,_=>by
   have hm:=pZ hp;obtain⟨h1,_⟩:=yj hd p.more (10 * (m+1) - (p.more+1)) p rfl hp.d (by rw[show p.more+1+(10 * (m+1) - (p.more+1))=10 * (m+1) by omega];exact h);rw[hp.j]at h1;exact h1
 |0,p,hp,h,n+1,hn'=>by omega
 |m+1,p,hp,h,n+1,hn'=>by
   have hm:=pZ hp;obtain⟨_,q,h1,h2,h3,h4⟩:=yj hd p.more (10 * (m+1+1) - (p.more+1)) p rfl hp.d (by rw[show p.more+1+(10 * (m+1+1) - (p.more+1))=10 * (m+1+1) by omega];exact h);have h5:=tQ (10 * (m+1)) (9 - p.more) q (by rw[show 10 * (m+1)+(9 - p.more)=10 * (m+1+1) - (p.more+1) by omega];exact h1);have:=Au hd m q h2 h5 n (by omega);rw[h3,h4]at this;exact this
def wc(t:aO)(h:Int):xn t (t.probeStart h):=⟨rfl,rfl,rfl⟩
structure sH(t:aO)(p:bA):Prop where
 m:p.more<=9
 i:p.i<t.mask+1
 q:p.perturb<2 ^ 64
 d:p.dummy=b_
def wb(t:aO)(h:Int):sH t (t.probeStart h):=
 ⟨pZ (wc t h),iU _ (by omega),by show du h<_;unfold du;omega,rfl⟩
def sH.YO{t:aO}{p:bA}(h:sH t p):sH t (t.advance p):=by
 have hm:=h.m;have hq:=h.q;unfold dH;split
 ·exact⟨by show p.more - 1<=9;omega,h.i,h.q,h.d⟩
 ·refine⟨?_,iU _ (by omega),?_,h.d⟩
  ·show dz t.mask _ - _<=9;unfold dz;split<;>omega
  ·show p.perturb / 32<2 ^ 64;omega
def si{t:aO}(hm:t.mask=7\/t.mask=31\/t.mask=127\/t.mask=511)(hd:t.dummies=#[]){ha:Nat->Int}{hh:Int}{p:bA}(hp:sH t p){j:Nat}(hj:j<t.mask+1)(he:t.slot j=.empty) :
  ∃m,t.probe ha hh p=a_ m:=by
 cases q:t.probe ha hh p with
 |some m=>exact⟨m,rfl⟩
 |none=>
   exfalso;unfold SetTable.probe iw at q;have h9:=hp.m;have hq:=hp.q;obtain⟨_,r,h1,h2,h3,h4⟩:=yj hd p.more (10 * (t.mask+15) - (p.more+1)) p rfl hp.d (by rw[show p.more+1+(10 * (t.mask+15) - (p.more+1))=10 * (t.mask+15) by omega];exact q);have h5:=tQ (10 * (t.mask+14)) (9 - p.more) r (by rw[show 10 * (t.mask+14)+(9 - p.more)=10 * (t.mask+15) - (p.more+1) by omega];exact h1);obtain⟨n,e1,e2⟩:=Ej hm (i:=r.i) (p:=r.perturb) (by rw[h3];exact iU _ (by omega)) (by rw[h4];show p.perturb / 32<2 ^ 64;omega) hj;have:=Au hd (t.mask+13) r h2 h5 n e1;rw[e2]at this;exact this he
noncomputable def way(t:aO):Nat->bA->bA
 |0,p=>p
 |n+1,p=>way t n (t.advance p)
theorem ko(t:aO):∀(a b:Nat)(p:bA),way t (a+b) p=way t b (way t a p)
 |0,b,p=>by rw[nD];rfl
 |a+1,b,p=>by rw[show a+1+b=(a+b)+1 by omega];exact ko t a b _
theorem HL{t:aO}:∀(n:Nat){p:bA},sH t p->sH t (way t n p)
 |0,p,h=>h
 |n+1,p,h=>HL n h.YO
set_option tactic.hygienic true
theorem wj{t:aO}(hd:t.dummies=#[]){ha:Nat->Int}{hh:Int}:∀(fuel:Nat) (p:bA) {m:Lz},p.dummy=b_->bK t ha hh fuel p=a_ m->
  ∃n,(∀k<n,∃i,t.slot (way t k p).j=.live i/\ha i≠hh)/\((m=.empty (way t n p).j b_/\t.slot (way t n p).j=.empty)\/∃i,m=.candidate (way t n p).j i (way t (n+1) p)/\t.slot (way t n p).j=.live i/\ha i=hh)
 |0,p,m,_,h=>by cases h
 |fuel+1,p,m,hp,h=>by
   rw[bK]at h
   cases hs:t.slot p.j with
   |empty=>
     rw[hs]at h
     injection h with h
     exact⟨0,λk hk=>by omega,.inl ⟨by rw[<-h,hp];rfl,hs⟩⟩
   |dummy=>exact(kF hd hs).elim
   |live i=>
     rw[hs]at h;dsimp only at h;split at h
     ·rename_i e
      injection h with h
      exact⟨0,λk hk=>by omega,.inr ⟨i,h.symm,hs,by simpa using e⟩⟩
     ·rename_i e;obtain⟨n,h1,h2⟩:=wj hd fuel _ (rQ hp) h;refine⟨n+1,λk hk=>?_,h2⟩
      cases k with
      |zero=>exact⟨i,hs,by simpa using e⟩
      |succ k=>exact h1 k (by omega)
def NJ{xs:Array Nat}(hs:Bg xs){j:Nat}(h:j∈xs.toList):xs[aD xs j]?=a_ j:=by
 obtain⟨i,hi,e⟩:=bR.mp h;have hi':i<xs.size:=by simpa using hi
 have e':xs[i]=j:=by simpa using e
 obtain⟨h1,h2,h3⟩:=U0 hs j
 have hb:aD xs j<=i:=by
  rcases hZ i (aD xs j)with hl|hl
  ·have:=h2 i hi' hl;omega
  ·exact hl
 have hb2:aD xs j=i:=by
  rcases hZ (aD xs j) i with hl|hl
  ·have a:=hs.get hi' hl;have b:=h3 (aD xs j) (by omega) (aC _);omega
  ·omega
 rw[hb2,aH hi',e']
def zw{t:aO}(hr:Bg t.place){j:Nat}(h:j∈t.place.toList):t.slot j=.live (aD t.place j):=by
 unfold lj;simp only[NJ hr h,beq_self_eq_true,if_true]
def JA{t:aO}(hd:t.dummies=#[]){j:Nat}(h:t.slot j≠.empty):j∈t.place.toList:=by
 unfold lj at h;dsimp only at h;split at h
 ·rename_i e;have e:t.place[aD t.place j]?=a_ j:=by simpa using e
  obtain⟨hi,e2⟩:=cj.mp e;exact bR.mpr ⟨_,by simpa using hi,by simpa using e2⟩
 ·rw[hd,yh]at h;simp at h
def N0{t:aO}{j i:Nat}(h:t.slot j=.live i):t.place[i]?=a_ j:=by
 unfold lj at h;dsimp only at h;split at h
 ·rename_i e
  injection h with h
  rw[<-h];simpa using e
 ·split at h<;>cases h
set_option tactic.hygienic false
def Lq{t t':aO}(h:t.mask=t'.mask)(p:bA):t.advance p=t'.advance p:=by
 unfold dH;rw[h]
theorem nK{t t':aO}(h:t.mask=t'.mask):∀(n:Nat)(p:bA),way t n p=way t' n p
 |0,p=>rfl
 |n+1,p=>by rw[way,way,Lq h,nK h n]
def mI{t t':aO}(h:t.mask=t'.mask)(x:Int):t.probeStart x=t'.probeStart x:=by
 unfold SetTable.probeStart;rw[h]
def mq(t:aO)(x:Int)(j:Nat):Prop:=∃n,(way t n (t.probeStart x)).j=j/\∀k<n,(way t k (t.probeStart x)).j∈t.place.toList
def mq.mono{t t':aO}(h:t.mask=t'.mask)(hs:∀j∈t.place.toList,j∈t'.place.toList){x:Int}{j:Nat}(y:mq t x j):mq t' x j:=by
 obtain⟨n,h1,h2⟩:=y;refine⟨n,?_,λk hk=>?_⟩
 ·rw[<-mI h,<-nK h];exact h1
 ·rw[<-mI h,<-nK h];exact hs _ (h2 k hk)
def Eg{t:aO}{j a:Nat}:a∈(t.put j).1.place.toList↔a=j\/a∈t.place.toList:=by
 show a∈(cM t.place _ j).toList↔_;rw[eF];have e:=eG (aD t.place j) t.place.toList;constructor
 ·intro h
  rcases az.mp h with h|h
  ·exact .inr (oP h)
  ·rcases ao.mp h with h|h
   ·exact .inl h
   ·exact .inr (oQ h)
 ·rintro(h|h)
  ·rw[h];exact az.mpr (.inr hJ)
  ·rw[<-e]at h
   rcases az.mp h with h|h
   ·exact az.mpr (.inl h)
   ·exact az.mpr (.inr (ib _ h))
def mq.new{t:aO}{x:Int}{n:Nat}(h:∀k<n,(way t k (t.probeStart x)).j∈t.place.toList):mq (t.put (way t n (t.probeStart x)).j).1 x (way t n (t.probeStart x)).j:=by
 have y:mq t x (way t n (t.probeStart x)).j:=⟨n,rfl,h⟩
 exact mq.mono (t:=t) (t':=(t.put (way t n (t.probeStart x)).j).1) rfl (λj hj=>Eg.mpr (.inr hj)) y
def LM(t:aO)(p:bA):Prop:=p.j+p.more<=t.mask
def IK{mask i:Nat}(h:i<mask+1):i+(dz mask i - i)<=mask:=by
 unfold dz;split<;>omega
def LM.start(t:aO)(x:Int):LM t (t.probeStart x):=IK (iU _ (by omega))
def LM.YO{t:aO}{p:bA}(h:LM t p):LM t (t.advance p):=by
 unfold LM at h ⊢;unfold dH;split
 ·show p.j+1+(p.more - 1)<=_;omega
 ·exact IK (iU _ (by omega))
theorem HM{t:aO}:∀(n:Nat){p:bA},LM t p->LM t (way t n p)
 |0,p,h=>h
 |n+1,p,h=>HM n h.YO
def BI{t:aO}(n:Nat)(x:Int):(way t n (t.probeStart x)).j<=t.mask:=by
 have:=HM n (LM.start t x);unfold LM at this;omega
theorem pS{t:aO}:∀(k:Nat)(p:bA),k<=p.more->way t k p={ p with j:=p.j+k,more:=p.more - k }
 |0,p,h=>rfl
 |k+1,p,h=>by
   rw[way];have e:t.advance p={ p with j:=p.j+1,more:=p.more - 1 }:=by unfold dH;rw[if_pos (by omega)]
   rw[e,pS k _ (by show k<=p.more - 1;omega)];show({ p with j:=p.j+1+k,more:=p.more - 1 - k }:bA)=_;rw[show p.j+1+k=p.j+(k+1) by omega,show p.more - 1 - k=p.more - (k+1) by omega]
abbrev yV(ow:Array (Option Nat))(j:Nat):Bool:=(ow.getD j (a_ 0)).isSome
set_option tactic.hygienic true
theorem AE{t:aO}{ow:Array (Option Nat)}:∀(fuel:Nat) (p:bA) {j:Nat},xn t p->cZ t.mask ow fuel p.i p.perturb=a_ j->
  ∃n,(way t n p).j=j/\(∀k<n,yV ow (way t k p).j=c_)/\ow.getD j (a_ 0)=b_
 |0,p,j,_,h=>by cases h
 |fuel+1,p,j,hp,h=>by
   have hm9:=pZ hp;have hge:p.i<=dz t.mask p.i:=by unfold dz;split<;>omega
   have hmm:dz t.mask p.i+1 - p.i=p.more+1:=by rw[hp.m];omega
   rw[cZ,hmm]at h;split at h
   ·rename_i k hk
    injection h with h
    subst h;obtain⟨h1,h2,h3⟩:=List.find?_range_eq_some.mp hk;have h2:k<p.more+1:=aZ.mp h2;refine⟨k,?_,λm hm=>?_,by simpa using h1⟩
    ·rw[pS k p (by omega)];show p.j+k=_;rw[hp.j]
    ·rw[pS m p (by omega)];show yV ow (p.j+m)=c_;have:=h3 m hm;rw[hp.j];simpa [yV,fG,lu]using this
   ·rename_i hk;have hk:=yS.mp hk;have ew:way t (p.more+1) p=t.advance (way t p.more p):=by rw[ko];rfl
    have er:=pS (t:=t) p.more p (aC _)
    have ea:xn t (way t (p.more+1) p)/\(way t (p.more+1) p).i=(gQ t.mask p.i p.perturb).1/\(way t (p.more+1) p).perturb=(gQ t.mask p.i p.perturb).2:=by
     rw[ew,er];unfold dH;rw[if_neg (by show¬p.more - p.more > 0;omega)];exact⟨⟨rfl,rfl,hp.d⟩,rfl,rfl⟩
    obtain⟨a1,a2,a3⟩:=ea;dsimp only at h;rw[<-a2,<-a3]at h;obtain⟨n,g1,g2,g3⟩:=AE fuel _ a1 h;refine⟨p.more+1+n,by rw[ko];exact g1,λk hkn=>?_,g3⟩
    rcases hZ k (p.more+1)with hl|hl
    ·rw[pS k p (by omega)];show yV ow (p.j+k)=c_;have:=hk k hl;rw[hp.j];simpa [yV,fG,lu]using this
    ·have:=g2 (k - (p.more+1)) (by omega);rw[<-ko,show p.more+1+(k - (p.more+1))=k by omega]at this;exact this
def Lu(t:aO)(ow:Array (Option Nat))(x:Int)(j:Nat):Prop:=∃n,(way t n (t.probeStart x)).j=j/\∀k<n,yV ow (way t k (t.probeStart x)).j=c_
structure Lay(t:aO)(hs:List Int)(ow:Array (Option Nat))(c:Nat):Prop where
 sz:ow.size=t.mask+1
 st:∀j k:Nat,ow[j]?=a_ (a_ k)->k<c/\Lu t ow (hs.getD k 0) j
 ex:∀k<c,∃j:Nat,ow[j]?=a_ (a_ k)
 un:∀j j' k:Nat,ow[j]?=a_ (a_ k)->ow[j']?=a_ (a_ k)->j=j'
def getD_none{ow:Array (Option Nat)}{j:Nat}(h:ow.getD j (a_ 0)=b_):ow[j]?=a_ b_:=by
 unfold vG at h;split at h
 ·rename_i hl;rw[aH hl];exact congrArg a_ h
 ·cases h
def RY{ow:Array (Option Nat)}{j c a:Nat}(h:yV ow a=c_):yV (ow.setIfInBounds j (a_ c)) a=c_:=by
 unfold yV vG at h ⊢;by_cases ha:a<ow.size
 ·rw[dif_pos ha]at h;rw[dif_pos (by simpa using ha)];by_cases e:j=a
  ·subst e;simp
  ·show((ow.setIfInBounds j (a_ c))[a]'(by simpa using ha)).isSome=c_;rw[Array.getElem_setIfInBounds_ne ha e];exact h
 ·rw[dif_neg (by simpa using ha)];rfl
def Lu.set{t:aO}{ow:Array (Option Nat)}{x:Int}{a j c:Nat}(h:Lu t ow x a):Lu t (ow.setIfInBounds j (a_ c)) x a:=
 let ⟨n,h1,h2⟩:=h
 ⟨n,h1,λk hk=>RY (h2 k hk)⟩
def get_set{ow:Array (Option Nat)}{j c a:Nat}(hj:j<ow.size):(ow.setIfInBounds j (a_ c))[a]?=if j=a then a_ (a_ c)else ow[a]? :=by
 rw[Array.getElem?_setIfInBounds];split
 ·rename_i e;subst e;first|rfl|rw[if_pos hj]
 ·rfl
def Lay.step{t:aO}{hs:List Int}{ow:Array (Option Nat)}{c j:Nat}(y:Lay t hs ow c)(h:cZ t.mask ow (iw t.mask) (du (hs.getD c 0) % (t.mask+1)) (du (hs.getD c 0))=a_ j):Lay t hs (ow.setIfInBounds j (a_ c)) (c+1):=by
 obtain⟨n,h1,h2,h3⟩:=AE (t:=t) _ (t.probeStart (hs.getD c 0)) (wc t _) h;have h3:=getD_none h3;have hj:j<ow.size:=(cj.mp h3).1;refine⟨by simpa using y.sz,λa k ha=>?_,λk hk=>?_,λa a' k ha ha'=>?_⟩
 ·rw[get_set hj]at ha;split at ha
  ·rename_i e;subst e
   injection ha with ha
   injection ha with ha
   subst ha;exact⟨by omega,Lu.set ⟨n,h1,h2⟩⟩
  ·obtain⟨q1,q2⟩:=y.st a k ha;exact⟨by omega,q2.set⟩
 ·rcases hZ k c with hl|hl
  ·obtain⟨a,ha⟩:=y.ex k hl;refine⟨a,?_⟩;rw[get_set hj,if_neg (λe=>by subst e;rw[h3]at ha;cases ha)];exact ha
  ·refine⟨j,?_⟩;rw[get_set hj,if_pos rfl,show k=c by omega]
 ·rw[get_set hj]at ha ha';split at ha<;>split at ha'
  ·rename_i e e';omega
  ·injection ha with ha
   injection ha with ha
   have:=(y.st a' k ha').1;omega
  ·injection ha' with ha'
   injection ha' with ha'
   have:=(y.st a k ha).1;omega
  ·exact y.un a a' k ha ha'
theorem wI{mask:Nat}{ow:Array (Option Nat)}:∀(fuel i p:Nat),cZ mask ow fuel i p=b_->∀n<fuel,yV ow (sO mask n i p).1=c_
 |0,i,p,h,n,hn=>by omega
 |fuel+1,i,p,h,n,hn=>by
   have hge:i<=dz mask i:=by unfold dz;split<;>omega
   rw[cZ]at h;split at h
   ·cases h
   ·rename_i hk;have hk:=yS.mp hk
    cases n with
    |zero=>
      have:=hk 0 (by omega);show yV ow i=c_;simpa [yV,fG,lu]using this
    |succ n=>exact wI fuel _ _ h n (by omega)
set_option tactic.hygienic false
def Om{mask:Nat}(hm:mask=7\/mask=31\/mask=127\/mask=511){ow:Array (Option Nat)}{x:Int}{j:Nat}(hj:j<mask+1)(he:yV ow j=d_):∃a,cZ mask ow (iw mask) (du x % (mask+1)) (du x)=a_ a:=by
 cases q:cZ mask ow (iw mask) (du x % (mask+1)) (du x)with
 |some a=>exact⟨a,rfl⟩
 |none=>
   exfalso;obtain⟨n,h1,h2⟩:=Ej hm (i:=du x % (mask+1)) (p:=du x) (iU _ (by omega)) (by unfold du;omega) hj;have:=wI _ _ _ q n (by unfold iw;omega);rw[h2,he]at this;cases this
def JD{l:List Nat}{c:Nat}(hn:l.Nodup)(h:∀x∈l,x<c):l.length<=c:=by
 have hl:((ax c).filter λx=>decide (x∈l)).Nodup:=oi pK fX
 have hp:l.Perm ((ax c).filter λx=>decide (x∈l)):=by
  rw[de hn hl];intro x;rw[cz];simp only[decide_eq_true_eq,aZ];exact⟨λq=>⟨h x q,q⟩,λq=>q.2⟩
 rw[hp.length_eq];exact cW (bS _ _) (by rw[bQ];exact aC _)
def D3{ow:Array (Option Nat)}{j:Nat}(hj:j<ow.size)(h:yV ow j=c_):∃k,ow[j]?=a_ (a_ k):=by
 unfold yV vG at h;rw[dif_pos hj]at h;obtain⟨k,hk⟩:=lO.mp h;exact⟨k,by rw[aH hj];exact congrArg a_ hk⟩
def Lay.room{t:aO}{hs:List Int}{ow:Array (Option Nat)}{c:Nat}(y:Lay t hs ow c)(hc:c<t.mask+1):∃j,j<t.mask+1/\yV ow j=d_:=by
 rcases HK (∃j,j<t.mask+1/\yV ow j=d_)with h|h
 ·exact h
 ·exfalso
  have hall:∀j,j<t.mask+1->∃k:Nat,ow[j]?=a_ (a_ k):=λj hj=>D3 (by rw[y.sz];exact hj) (by
   cases q:yV ow j with
   |true=>rfl
   |false=>exact absurd ⟨j,hj,q⟩ h)
  have hk:∀j,j<t.mask+1->ow[j]?=a_ (a_ ((ow.getD j b_).getD 0)):=λj hj=>by
   obtain⟨k,e⟩:=hall j hj;have:ow.getD j b_=a_ k:=by rw[c7,e];rfl
   rw[this];exact e
  have hn:((ax (t.mask+1)).map λj=>(ow.getD j b_).getD 0).Nodup:=by
   refine List.Pairwise.map _ (R:=λa b=>a∈ax (t.mask+1)/\b∈ax (t.mask+1)/\a≠b) ?_ ?_
   ·rintro a b ⟨ha,hb,hne⟩ e;have ea:=hk a (aZ.mp ha);have eb:=hk b (aZ.mp hb);rw[e]at ea;exact hne (y.un _ _ _ ea eb)
   ·exact fw (λha hb hne=>⟨ha,hb,hne⟩) fX
  have:=JD (c:=c) hn (λx hx=>by
   obtain⟨j,hj,rfl⟩:=aQ.mp hx
   exact(y.st j _ (hk j (aZ.mp hj))).1)
  rw[ah,bQ]at this;omega
noncomputable def Ac(mask:Nat)(acc:Option (Array (Option Nat)×Nat))(h:Int):Option (Array (Option Nat)×Nat):=do
 let (owner,k) <-acc;let j <-cZ mask owner (iw mask) (du h % (mask+1)) (du h)
 pure (owner.setIfInBounds j (a_ k),k+1)
theorem Af{t:aO}(hm:t.mask=7\/t.mask=31\/t.mask=127\/t.mask=511){hs:List Int}(hl:hs.length<=t.mask):∀(rest pre:List Int)(ow:Array (Option Nat)),hs=pre++rest->Lay t hs ow pre.length->∃ow',rest.foldl (Ac t.mask) (a_ (ow,pre.length))=a_ (ow',hs.length)/\Lay t hs ow' hs.length
 | [],pre,ow,e,y=>⟨ow,by rw[e,aX];rfl,by have:hs.length=pre.length:=by rw[e,aX]
                                         rw[this];exact y⟩
 |x::rest,pre,ow,e,y=>by
   have hlen:pre.length<hs.length:=by rw[e];simp
   obtain⟨j0,h1,h2⟩:=y.room (by omega);have hx:hs.getD pre.length 0=x:=by rw[e];simp
   obtain⟨a,ha⟩:=Om hm (ow:=ow) (x:=x) h1 h2;have hstep:=y.step (j:=a) (by rw[hx];exact ha);obtain⟨ow',g1,g2⟩:=Af hm hl rest (pre++[x]) _ (by rw[e,cC];rfl) (by rw[aw];exact hstep);refine⟨ow',?_,g2⟩;rw[List.foldl_cons]
   have:Ac t.mask (a_ (ow,pre.length)) x=a_ (ow.setIfInBounds a (a_ pre.length),(pre++[x]).length):=by
    unfold Ac;simp only[BF,af,ha,aw,aM,eY];rfl
   rw[this];exact g1
def IT{n j k:Nat}(h:(ny n (b_:Option Nat))[j]?=a_ (a_ k)):False:=by
 rw[Array.getElem?_replicate]at h;split at h
 ·injection h with h;cases h
 ·cases h
def Lay.nil(t:aO)(hs:List Int):Lay t hs (ny (t.mask+1) b_) 0:=
 ⟨by simp,λj k h=>(IT h).elim,λk hk=>by omega,λj j' k h _=>(IT h).elim⟩
def N3{t:aO}(hm:t.mask=7\/t.mask=31\/t.mask=127\/t.mask=511){hs:Array Int}(hl:hs.size<=t.mask):∃ow,pH t.mask hs=a_ ow/\Lay t hs.toList ow hs.size:=by
 obtain⟨ow,h1,h2⟩:=Af hm (hs:=hs.toList) (by simpa using hl) hs.toList [] _ rfl (Lay.nil t _);refine⟨ow,?_,by simpa using h2⟩;unfold pH;rw[<-Array.foldl_toList]
 have e:(hs.toList.foldl (Ac t.mask) (a_ (ny (t.mask+1) b_,0))).map (·.1)=a_ ow:=by
  have h1':hs.toList.foldl (Ac t.mask) (a_ (ny (t.mask+1) b_,0))=a_ (ow,hs.toList.length):=h1;rw[h1'];rfl
 exact e
def N4{mask f m:Nat}{led pl:Bool}{hs:Array Int}(hm:mask=7\/mask=31\/mask=127\/mask=511)(hl:hs.size<=mask) :
  ∃t o,lp mask f m led pl hs=a_ (t,o)/\t.mask=mask/\t.led=led/\o.toList.Perm (ax hs.size)/\t.place.size=o.size/\(∀j∈t.place.toList,j<=mask)/\∀(i:Nat)(h:i<o.size)(h':i<t.place.size),mq t (hs.toList.getD o[i] 0) t.place[i]:=by
 let t0:aO:={ mask,place:=#[],dummies:=#[],finger:=f,led,moves:=m,plain:=pl }
 obtain⟨ow,h1,y⟩:=N3 (t:=t0) hm hl;have h1:pH mask hs=a_ ow:=h1;have hsz:ow.size=mask+1:=y.sz;let live:=(ax (mask+1)).filterMap λj=>(ow.getD j b_).map (j,·)
 have hmem:∀j k,(j,k)∈live↔ow[j]?=a_ (a_ k):=λj k=>by
  simp only[live,qE,aZ,yQ,lH];constructor
  ·rintro⟨a,ha,b,hb,rfl,rfl⟩;rw[c7]at hb;rw[aH (by omega)]at hb ⊢;exact congrArg a_ hb
  ·intro h;have hj:j<ow.size:=(cj.mp h).1;exact⟨j,by omega,k,by rw[c7,h];rfl,rfl,rfl⟩
 let t:aO:={ mask,place:=(live.map (·.1)).toArray,dummies:=#[],finger:=f,led,moves:=m,plain:=pl }
 refine⟨t,(live.map (·.2)).toArray,?_,rfl,rfl,?_,by simp[t],λj hj=>?_,λi hi hi'=>?_⟩
 ·unfold lp;rw[h1];rfl
 ·show(live.map (·.2)).Perm _
  have hnd:(live.map (·.2)).Nodup:=by
   have hp:live.Pairwise λa b=>a.1≠b.1:=by
    refine ze.mpr (nJ ?_ nr);intro a b hab x hx z hz;obtain⟨_,_,rfl⟩:=dX hx;obtain⟨_,_,rfl⟩:=dX hz;show a≠b;omega
   refine eo.mpr (fw ?_ hp);intro a b ha hb hne e;have ea:=(hmem a.1 a.2).mp ha;have eb:=(hmem b.1 b.2).mp hb;rw[e]at ea;exact hne (y.un _ _ _ ea eb)
  rw[de hnd fX];intro k;rw[aQ,aZ];constructor
  ·rintro⟨a,ha,rfl⟩;exact(y.st _ _ ((hmem a.1 a.2).mp ha)).1
  ·intro hk;obtain⟨j,hj⟩:=y.ex k hk;exact⟨(j,k),(hmem j k).mpr hj,rfl⟩
 ·have hj:j∈live.map (·.1):=hj;obtain⟨a,ha,rfl⟩:=aQ.mp hj;have:=(cj.mp ((hmem a.1 a.2).mp ha)).1;omega
 ·have hi2:i<live.length:=by simpa using hi
  have e1:(live.map (·.2)).toArray[i]=live[i].2:=by simp
  have e2:t.place[i]=live[i].1:=by simp[t]
  rw[e1,e2];obtain⟨_,n,g1,g2⟩:=y.st _ _ ((hmem live[i].1 live[i].2).mp (bI hi2));refine⟨n,?_,λk hk=>?_⟩
  ·rw[mI (t:=t) (t':=t0) rfl,nK (t:=t) (t':=t0) rfl];exact g1
  ·rw[mI (t:=t) (t':=t0) rfl,nK (t:=t) (t':=t0) rfl];have hle:(way t0 k (t0.probeStart (hs.toList.getD live[i].2 0))).j<=mask:=BI (t:=t0) k _;obtain⟨b,hb⟩:=D3 (ow:=ow) (by omega) (g2 k hk);exact aQ.mpr ⟨(_,b),(hmem _ b).mpr hb,rfl⟩
theorem Av{t:aO}(hd:t.dummies=#[]){ha:Nat->Int}{hh:Int}(hn:∀i,ha i≠hh):∀(fuel:Nat)(p:bA){m:Lz},p.dummy=b_->bK t ha hh fuel p=a_ m->∃n,n<fuel/\t.slot (way t n p).j=.empty/\∀k<n,t.slot (way t k p).j≠.empty
 |0,p,m,_,h=>by cases h
 |fuel+1,p,m,hp,h=>by
   rw[bK]at h
   cases hs:t.slot p.j with
   |empty=>exact⟨0,by omega,hs,λk hk=>by omega⟩
   |dummy=>exact(kF hd hs).elim
   |live i=>
     rw[hs]at h;dsimp only at h;rw[if_neg (by simpa using hn i)]at h;obtain⟨n,h1,h2,h3⟩:=Av hd hn fuel _ (rQ hp) h;refine⟨n+1,by omega,h2,λk hk=>?_⟩
     cases k with
     |zero=>show t.slot p.j≠_;rw[hs];simp
     |succ k=>exact h3 k (by omega)
def CG{t:aO}(hm:t.mask=7\/t.mask=31\/t.mask=127\/t.mask=511)(hd:t.dummies=#[])(x:Int){j:Nat}(hj:j<t.mask+1)(he:t.slot j=.empty) :
  ∃N,N<6000/\t.slot (way t N (t.probeStart x)).j=.empty/\∀k<N,t.slot (way t k (t.probeStart x)).j≠.empty:=by
 obtain⟨m,h⟩:=si hm hd (ha:=λ_=>x+1) (hh:=x) (wb t x) hj he;obtain⟨n,h1,h2,h3⟩:=Av hd (λ_=>by omega) _ _ rfl h;refine⟨n,?_,h2,h3⟩;unfold iw at h1;omega
def B2{t:aO}(hm:t.mask=7\/t.mask=31\/t.mask=127\/t.mask=511)(hd:t.dummies=#[]){ha:Nat->Int}{x:Int}{N a:Nat}(h1:t.slot (way t N (t.probeStart x)).j=.empty)(h2:∀k<N,t.slot (way t k (t.probeStart x)).j≠.empty)(haN:a<=N) :
  (t.probe ha x (way t a (t.probeStart x))=a_ (.empty (way t N (t.probeStart x)).j b_)/\∀k,a<=k->k<N->∃i,t.slot (way t k (t.probeStart x)).j=.live i/\ha i≠x)\/
  ∃b i,a<=b/\b<N/\t.probe ha x (way t a (t.probeStart x))=a_ (.candidate (way t b (t.probeStart x)).j i (way t (b+1) (t.probeStart x)))/\t.slot (way t b (t.probeStart x)).j=.live i/\ha i=x/\∀k,a<=k->k<b->∃i,t.slot (way t k (t.probeStart x)).j=.live i/\ha i≠x:=by
 have hway:sH t (way t a (t.probeStart x)):=HL a (wb t x);have hle:=BI (t:=t) N x;obtain⟨m,hmt⟩:=si hm hd (ha:=ha) (hh:=x) hway (j:=(way t N (t.probeStart x)).j) (by omega) h1;obtain⟨c,g1,g2⟩:=wj hd _ _ hway.d hmt
 have hbetw:∀k,a<=k->k<a+c->∃i,t.slot (way t k (t.probeStart x)).j=.live i/\ha i≠x:=λk k1 k2=>by
  have:=g1 (k - a) (by omega);rw[<-ko,show a+(k - a)=k by omega]at this;exact this
 have hcN:a+c<=N:=by
  rcases hZ N (a+c)with hl|hl
  ·obtain⟨i,e,_⟩:=hbetw N haN hl;rw[h1]at e;cases e
  ·exact hl
 rcases g2 with⟨g2,g3⟩|⟨i,g2,g3,g4⟩
 ·rw[<-ko]at g2 g3
  have:a+c=N:=by
   rcases hZ (a+c) N with hl|hl
   ·exact absurd g3 (h2 _ hl)
   ·omega
  refine .inl ⟨by rw[hmt,g2,this],λk k1 k2=>hbetw k k1 (by omega)⟩
 ·rw[<-ko]at g3
  have hlt:a+c<N:=by
   rcases hZ (a+c) N with hl|hl
   ·exact hl
   ·rw[show a+c=N by omega,h1]at g3;cases g3
  refine .inr ⟨a+c,i,by omega,hlt,?_,g3,g4,hbetw⟩;rw[hmt,g2,<-ko,<-ko];rfl
end L2
namespace L2
open PySem PySem.Spec PyProof.Rows
structure jQ(led:Bool)(h:bH)(S:ai)(es:Array (Int×ab))(ep:Nat)(t:aO):Prop where
 obj:h.get? S=a_ { cls:=.type "set",dict:=b_,data:=.set es ep t }
 fits:t.fits es.size=c_
 ok:o6 led t
def jQ.keep{led:Bool}{h h':bH}{S:ai}{es:Array (Int×ab)}{ep:Nat}{t:aO}(y:jQ led h S es ep t)(k:∀o,h.get? S=a_ o->h'.get? S=a_ o):jQ led h' S es ep t:=⟨k _ y.obj,y.fits,y.ok⟩
abbrev l8(w:bo):Bool:=!w.params.followText "set-order"
def jY{α β:Type}{R:α->β->Prop}{l l':List α}(p:l'.Perm l):∀{ks:List β},gp R l ks->∃ks',gp R l' ks'/\ks'.Perm ks:=by
 induction p with
 |nil=>intro ks h;cases h;exact⟨[],.nil,.nil⟩
 | cons x p ih=>intro ks h;cases h with
   |cons a b=>obtain⟨ks',c,d⟩:=ih b;exact⟨_::ks',.cons a c,d.cons _⟩
 | swap x y l=>intro ks h;cases h with
   | cons a b=>cases b with
     |cons c d=>exact⟨_,.cons c (.cons a d),.swap _ _ _⟩
 |trans p q ih1 ih2=>
   intro ks h;obtain⟨k1,a,b⟩:=ih2 h;obtain⟨k2,c,d⟩:=ih1 a;exact⟨k2,c,d.trans b⟩
theorem nU{α β:Type}{R:α->β->Prop}{x:α}{y:β}(h:R x y):∀{l:List α}{ks:List β},gp R l ks->gp R (l++[x]) (ks++[y])
 |_,_,.nil=>.cons h .nil
 |_,_,.cons a b=>.cons a (nU h b)
theorem jM{α β:Type}{R:α->β->Prop}:∀{l:List α}{ks:List β},gp R l ks->l.length=ks.length
 |_,_,.nil=>rfl
 |_,_,.cons a b=>by rw[aM,aM,jM b]
theorem ly{α β:Type}{R:α->β->Prop}{x:α}:∀{l:List α}{ks:List β},gp R l ks->x∈l->∃y∈ks,R x y
 |_,_,.nil,h=>by cases h
 |_,_,.cons a b,h=>by
   rcases ao.mp h with rfl|h
   ·exact⟨_,.head _,a⟩
   ·obtain⟨y,c,d⟩:=ly b h;exact⟨y,.tail _ c,d⟩
theorem mL{α β:Type}{R:α->β->Prop}{y:β}:∀{l:List α}{ks:List β},gp R l ks->y∈ks->∃x∈l,R x y
 |_,_,.nil,h=>by cases h
 |_,_,.cons a b,h=>by
   rcases ao.mp h with rfl|h
   ·exact⟨_,.head _,a⟩
   ·obtain⟨x,c,d⟩:=mL b h;exact⟨x,.tail _ c,d⟩
section
variable{prog:aP}{w:bo}{K:Type}[DecidableEq K]{knd:lP prog w K}{A:br}{E:ab->ae->Prop}{s:ae}{led:Bool}{S:ai}{es:Array (Int×ab)}{ep:Nat}{t:aO}
def pX{es':Array (Int×ab)}{t':aO}{Q:Unit->ae->Prop}(y:jQ led s.heap S es ep t)(f:t'.fits es'.size=c_)(o:o6 led t')(hz:es'.size<=aE)
  (k:∀h',cA S s.heap h'->jQ led h' S es' (ep+1) t'->Q () { s with heap:=h' }):au (aB prog w) A (storeSet S es' t') Q E s:=by
 refine wpAny_storeSet_of y.obj rfl (k _ (mT ..) ⟨?_,f,o⟩) hz;have e:=iy (Obj.putSet es' t') y.obj (by rw[putSet_of es' t' rfl];rfl);rw[putSet_of es' t' rfl]at e;exact e
def Dw{g:Bool->Sem Unit}(hg:∀(c:Bool) (s1:ae) (R:Unit->ae->Prop),R () s1->au (aB prog w) A (g c) R E s1){es1:Array (Int×ab)}{t1:aO}{d:Bool}{R:Option Bool->ae->Prop}
  (y:jQ led s.heap S es ep t)(f:t1.fits es1.size=c_)(o:o6 led t1)(hz:es1.size<oH)
  (k:∀h' es' ep' t',cA S s.heap h'->jQ led h' S es' ep' t'->es'.toList.Perm es1.toList->R (a_ c_) { s with heap:=h' }) :
  au (aB prog w) A (do
      storeSet S es1 t1
      if(!d && t1.tooFull)=c_ then do
         g (relayAll t1 es1 (cV es1.size)).2.2
         storeSet S (relayAll t1 es1 (cV es1.size)).1 (relayAll t1 es1 (cV es1.size)).2.1
         pure (a_ c_)
       else pure (a_ c_)) R E s:=by
 refine wb9 (pX y f o (fits_of_scanBound hz) λh1 sb y1=>?_);split
 ·have hp:=relayAll_perm t1 es1 (cV es1.size);have sz:(relayAll t1 es1 (cV es1.size)).1.size=es1.size:=by rw[<-aR,hp.length_eq,aR]
  refine wb9 (hg _ _ _ (wb9 (pX y1 (relayAll_fits ..) (o.Vx ..) (by rw[sz];exact fits_of_scanBound hz) λh2 pY y2=>?_)));exact wu9 (k h2 _ _ _ (sb.trans pY) y2 hp)
 ·exact wu9 (k h1 _ _ _ sb y1 (.refl _))
def Qv{k:K}{x:ab}{Q:Bool->ae->Prop}(hk:knd.is k x=c_)(hx:x.scannable=c_)(y:jQ led s.heap S es ep t)(el:Pa knd es.toList)(room:es.size+1<oH)
  (old:∀b,(∃e∈es.toList,knd.is k e.2=c_)->Q b s)
  (new:∀b h' es' ep' t',(¬ ∃e∈es.toList,knd.is k e.2=c_)->cA S s.heap h'->jQ led h' S es' ep' t'->es'.toList.Perm (es.toList++[(knd.hash k,x)])->Q b { s with heap:=h' }) :
  au (aB prog w) A (setAddHashed S x (knd.hash k)) Q E s:=by
 unfold setAddHashed setAddHashedIn;refine bZ (wb9 (c8 y.obj rfl y.fits ?_));dsimp only;rw[byScan_of hx (mz room) el,if_pos rfl];unfold setAddByScan;refine wb9 (wb9 (iB (wb9 (wpAny_setScan_of hk y.obj rfl y.fits el ?_))))
 cases q:List.findIdx? (λe=>knd.is k e.2) es.toList with
 |some j=>
   obtain⟨hj,hp,_⟩:=List.findIdx?_eq_some_iff_getElem.mp q;exact wu9 (wu9 (old _ ⟨es.toList[j],bI hj,hp⟩))
 |none=>
   dsimp only
   have no:¬ ∃e∈es.toList,knd.is k e.2=c_:=by
    rintro⟨e,he,hp⟩;have:=List.findIdx?_eq_none_iff.mp q e he;rw[hp]at this;cases this
   have gw:∀(c:Bool)(s1:ae)(R:Unit->ae->Prop),R () s1->au (aB prog w) A (match c with|true=>rule "set.scan.the-table-gave-way"|false=>pure ()) R E s1:=by
    intro c s1 R h;cases c
    ·exact wu9 h
    ·exact iB h
   have p1:=layNew_perm t es (knd.hash k) x;have f1:=layNew_fits t es (knd.hash k) x;have o1:=y.ok.lay es (knd.hash k) x;generalize layNew t es (knd.hash k) x=L at p1 f1 o1 ⊢;obtain⟨es1,t1,d,gv⟩:=L;dsimp only at p1 f1 o1 ⊢;rw[Hm]at p1;have z1:es1.size=es.size+1:=by rw[<-aR,p1.length_eq,aw,aR];rfl
   refine wb9 (gw _ _ _ ?_);have fin:∀h' es' ep' t',cA S s.heap h'->jQ led h' S es' ep' t'->es'.toList.Perm es1.toList->Q c_ { s with heap:=h' }:=λh' es' ep' t' a b c=>new _ h' es' ep' t' no a b (c.trans p1);split
   ·refine wb9 ?_;rw[hashByValue_scannable 8 hx];refine wu9 ?_;refine Dw gw y ?_ ?_ (by omega) λh' es' ep' t' a b c=>wu9 (fin h' es' ep' t' a b c)
    ·split
     ·exact f1
     ·exact SetTable.fits_plain_off f1
    ·split
     ·exact o1
     ·exact o1.off
   ·refine wb9 (wu9 ?_);simp only[↓reduceIte];exact Dw gw y f1 o1 (by omega) λh' es' ep' t' a b c=>wu9 (fin h' es' ep' t' a b c)
end
def kQ{prog:aP}{w:bo}{K:Type}[DecidableEq K](knd:lP prog w K)(led:Bool)(h:bH)(S:ai)(n:Nat)(M:K->Prop):Prop:=
 ∃es ep t ks,jQ led h S es ep t/\Pa knd es.toList/\gp (λ(e:Int×ab)k=>knd.is k e.2=c_) es.toList ks/\ks.Nodup/\ks.length<=n/\∀q,q∈ks↔M q
section
variable{prog:aP}{w:bo}{K:Type}[DecidableEq K]{knd:lP prog w K}{A:br}{R:Result->ae->Prop}{I:ai}{fp wr:List ai}{G:Array vB->Array vB->Prop}{n:Nat}{P:Nat->ab->Prop}{St:Nat->ae->Prop}{led:Bool}
def kQ.keep{h h':bH}{S:ai}{M:K->Prop}(y:kQ knd led h S n M)(k:∀o,h.get? S=a_ o->h'.get? S=a_ o):kQ knd led h' S n M:=
 let ⟨es,ep,t,ks,a,r⟩:=y
 ⟨es,ep,t,ks,a.keep k,r⟩
def uH{val:Nat->K}{i:Nat}{q:K}:(∃j,j<i+1/\val j=q)↔(∃j,j<i/\val j=q)\/val i=q:=by
 constructor
 ·rintro⟨j,h,e⟩;by_cases hj:j=i
  ·subst hj;exact .inr e
  ·exact .inl ⟨j,by omega,e⟩
 ·rintro(⟨j,h,e⟩|e)
  ·exact⟨j,by omega,e⟩
  ·exact⟨i,by omega,e⟩
def HP(W:WalksS prog w A.in1 I fp wr G n P St)(S:ai)(hS:S∉fp)(val:Nat->K)(hv:∀i v,P i v->knd.is (val i) v=c_/\v.scannable=c_)(hb:n+1<oH) :
  ∀(k i:Nat)(s:ae),n - i=k->i<=n->St i s->kQ knd led s.heap S i (λq=>∃j,j<i/\val j=q)->
   (∀s',Moved (S::wr) G s s'->kQ knd led s'.heap S n (λq=>∃j,j<n/\val j=q)->R (.ok (.ret .none)) s')->
   codeAny (aB prog w) A (.builtin "set.update.loop" ⟨[.ref S,.ref I],[]⟩) R s:=by
 have hSw:S∉wr:=λh=>hS (W.sub _ h);have sub:∀b∈wr,b∈S::wr:=λb m=>ib _ m;intro k
 induction k with
 |zero=>
   intro i s hk hi hst y hR;obtain rfl:i=n:=by omega
   refine fo eK ?_;rw[dJ cB];show au _ A.in1 (pyNext (.ref I) >>= _) _ _ s;refine wb9 (W.done s _ _ hst λs' m=>?_);exact wu9 (hR s' (m.mono sub) (y.keep λo e=>m.heap S o hSw e))
 |succ k ih=>
   intro i s hk hi hst y hR;refine fo eK ?_;rw[dJ cB];show au _ A.in1 (pyNext (.ref I) >>= _) _ _ s;refine wb9 (W.item i s _ _ (by omega) hst λv s' hP hst' m=>?_);obtain⟨v1,v2⟩:=hv i v hP;obtain⟨es,ep,t,ks,ya,yb,yc,yd,ye,yf⟩:=y.keep λo e=>m.heap S o hSw e;show au _ A.in1 (holding [v] (setAdd S v) >>= _) _ _ s';refine wb9 (bZ ?_);unfold setAdd;refine bZ (wb9 (knd.pyHash v1 ?_));have len:=jM yc;rw[aR]at len
   have has:(∃e∈es.toList,knd.is (val i) e.2=c_)↔val i∈ks:=by
    constructor
    ·rintro⟨e,e1,e2⟩;obtain⟨q,q1,q2⟩:=ly yc e1;rw[knd.inj _ _ _ e2 q2];exact q1
    ·intro q;obtain⟨e,e1,e2⟩:=mL yc q;exact⟨e,e1,e2⟩
   have go:∀h',cA S s'.heap h'->kQ knd led h' S (i+1) (λq=>∃j,j<i+1/\val j=q)->
     au (aB prog w) A.in1 (again (.builtin "set.update.loop" ⟨[.ref S,.ref I],[]⟩)) (λfin s''=>match fin with | .done f=>R (.ok f) s'' | .again c'=>c'.quiet=c_/\codeAny (aB prog w) A c' R s'') (λe s''=>R (.error e) s'') { s' with heap:=h',toks:=s'.toks+1 }:=by
    intro h' sb y';refine wu9 ⟨kT cB _,ih (i+1) _ (by omega) (by omega) (W.frame _ s' _ _ hst' (mB _) λb hb o e=>?_) y' λs2 m2 y2=>?_⟩
    ·rw[sb.2 b λz=>hS (z▸hb)];exact e
    ·refine hR s2 (Moved.trans W.gtrans ((m.mono sub).then_heap (mB _) λb o hb e=>?_) m2) y2;rw[sb.2 b λz=>hb (z▸hJ)];exact e
   refine Qv (led:=led) (s:={ s' with toks:=s'.toks+1 }) v1 v2 ya yb (by omega) (λb hq=>?_) (λb h' es' ep' t' hq sb y' p=>?_)
   ·refine go s'.heap (xt ..) ⟨es,ep,t,ks,ya,yb,yc,yd,by omega,λq=>?_⟩;show q∈ks↔∃j,j<i+1/\val j=q;rw[uH,show(∃j,j<i/\val j=q)↔q∈ks from(yf q).symm];refine⟨.inl,λz=>z.elim id λe=>?_⟩;rw[<-e];exact has.mp hq
   ·obtain⟨ks',c1,c2⟩:=jY p (nU (R:=λ(e:Int×ab)k=>knd.is k e.2=c_) (x:=(knd.hash (val i),v)) (y:=val i) v1 yc);have nk:val i∉ks:=λz=>hq (has.mpr z);refine go h' sb ⟨es',ep',t',ks',y',(yb.push v1 v2).perm p,c1,?_,?_,λq=>?_⟩
    ·refine c2.nodup_iff.mpr (cR.mpr ⟨yd,be.mpr ⟨by simp,et⟩,λa ha b hb=>?_⟩);rw[aF]at hb;subst hb;exact λz=>nk (z▸ha)
    ·rw[c2.length_eq,aw,fD];omega
    ·show q∈ks'↔∃j,j<i+1/\val j=q;rw[c2.mem_iff,az,aF,uH,show(∃j,j<i/\val j=q)↔q∈ks from(yf q).symm];exact⟨λz=>z.imp id Eq.symm,λz=>z.imp id Eq.symm⟩
end
section
variable{P:aP}{w:bo}{A:br}{E:ab->ae->Prop}{z0:ae}
def K0{ks:List NK}{p:ai}{st:List ab}{Q:Bool->ae->Prop}(gk:pL P w z0.heap ks p)(hs:∀v∈st,∃l b,v=.ref b/\pL P w z0.heap l b)(h:Q d_ z0):au (aB P w) A (searchCouldBeSeen (.ref p) st) Q E z0:=by
 unfold searchCouldBeSeen;refine wb9 ?_;refine hV _ (λtl r z1=>r.1=b_/\z1=z0/\∀v∈tl,∃l b,v=.ref b/\pL P w z0.heap l b) _ ?_ ?_ _ _ ⟨rfl,rfl,hs⟩
 ·rintro v tl r z1 ⟨ge,rfl,gall⟩;obtain⟨l,b,rfl,gb⟩:=gall v hJ;dsimp only;split
  ·exact wu9 ⟨rfl,rfl,λu hu'=>gall u (ib _ hu')⟩
  ·refine wb9 (tF (n:=7) FE gk ?_);simp only[if_false,aG,dh];refine wb9 (tF (n:=7) FE gb ?_);simp only[if_false,aG,dh];refine wb9 (yx (n:=7) FE gk ?_);simp only[if_false,aG];refine wb9 (yx (n:=7) FE gb ?_);simp only[if_false,aG];exact wu9 ⟨rfl,rfl,λu hu'=>gall u (ib _ hu')⟩
 ·rintro⟨r1,r2⟩ z1 ⟨ge,rfl,_⟩;simp only at ge;subst ge;exact wu9 h
end
def below_at{xs:Array Nat}(hs:Bg xs){i:Nat}(hi:i<xs.size):aD xs xs[i]=i:=by
 obtain⟨h1,h2,h3⟩:=U0 hs xs[i]
 rcases my (aD xs xs[i]) i with hl|hl|hl
 ·have a:=hs.get hi hl;have b:=h3 (aD xs xs[i]) (by omega) (aC _);omega
 ·exact hl
 ·have:=h2 i hi hl;omega
def MF{t:aO}(hr:Bg t.place){i:Nat}(hi:i<t.place.size):t.slot t.place[i]=.live i:=by
 rw[zw hr (by simp),below_at hr hi]
abbrev Yq(es:Array (Int×ab))(i:Nat):Int:=(es[i]?.map (·.1)).getD 0
section
variable{P:aP}{w:bo}{A:br}{E:ab->ae->Prop}{s:ae}{led:Bool}{S:ai}{es:Array (Int×ab)}{ep:Nat}{t:aO}
structure Xa(P:aP)(w:bo)(h:bH)(es:Array (Int×ab))(t:aO)(kf:Nat->List NK):Prop where
 mask:t.mask=7\/t.mask=31\/t.mask=127\/t.mask=511
 el:∀(i:Nat)(hi:i<es.size),∃b,es[i].2=.ref b/\pL P w h (kf i) b/\es[i].1=dD P w (kf i)
 std:∀(i:Nat)(hi:i<es.size)(hp:i<t.place.size),mq t es[i].1 t.place[i]
 le:∀j∈t.place.toList,j<=t.mask
theorem zE{kf:Nat->List NK}{ks:List NK}{p:ai}{Q:SetFound->ae->Prop}(i_:A.units+3<=cg)(y:jQ led s.heap S es ep t)(z:Xa P w s.heap es t kf)(gk:pL P w s.heap ks p){N:Nat}
  (h1:t.slot (way t N (t.probeStart (dD P w ks))).j=.empty)(h2:∀k<N,t.slot (way t k (t.probeStart (dD P w ks))).j≠.empty)
  (old:∀i,i<es.size->kf i=ks->Q (.there b_) s)(new:(∀i,i<es.size->kf i≠ks)->Q (.free (way t N (t.probeStart (dD P w ks))).j d_) s) :
  ∀(fuel a:Nat)(pW:Option bA),a<=N->N - a<fuel->pW.getD (t.probeStart (dD P w ks))=way t a (t.probeStart (dD P w ks))->(∀k<a,∀i,t.slot (way t k (t.probeStart (dD P w ks))).j=.live i->kf i≠ks)->
   au (aB P w) A (setSearchFrom S (.ref p) (dD P w ks) c_ fuel pW) Q E s
 |0,a,pW,ha,hf,_,_=>by omega
 |fuel+1,a,pW,ha,hf,hst,hps=>by
   have hsz:t.place.size=es.size:=by
    have:=y.fits;simp only[lq,aq,beq_iff_eq]at this;exact this.1
   have hmask:=z.mask
   have hg:t.gaveWay=d_:=by
    unfold SetTable.gaveWay
    rcases hmask with e|e|e|e<;>rw[e]<;>rfl
   have hin:∀{j i:Nat},t.slot j=.live i->∃hi:i<es.size,Yq es i=es[i].1:=λ{j i}e=>by
    have:=N0 e;have hi:=(cj.mp this).1;refine⟨by omega,?_⟩;unfold Yq;simp[aH (show i<es.size by omega)]
   unfold setSearchFrom;refine wb9 (c8 y.obj rfl y.fits ?_);dsimp only;rw[hg];simp only[if_false,aG];rw[hst]
   rcases B2 hmask y.ok.d (ha:=Yq es) h1 h2 ha with⟨g1,g2⟩|⟨b,i,b1,b2,g1,g2,g3,g4⟩
   ·erw [g1]
    dsimp only;refine wu9 (new λi hi e=>?_);obtain⟨n,n1,n2⟩:=z.std i hi (by omega);have hh:es[i].1=dD P w ks:=by obtain⟨_,_,_,q⟩:=z.el i hi;rw[q,e]
    rw[hh]at n1 n2;have hlive:t.slot (way t n (t.probeStart (dD P w ks))).j=.live i:=by rw[n1];exact MF y.ok.r (by omega)
    have hnN:n<N:=by
     rcases my n N with hl|hl|hl
     ·exact hl
     ·rw[hl,h1]at hlive;cases hlive
     ·have:=n2 N hl;rw[zw y.ok.r this]at h1;cases h1
    rcases hZ n a with hl|hl
    ·exact hps n hl i hlive e
    ·obtain⟨i',e1,e2⟩:=g2 n hl hnN;rw[hlive]at e1
     injection e1 with e1
     subst e1;obtain⟨_,e3⟩:=hin hlive;exact e2 (by rw[e3,hh])
   ·erw [g1]
    dsimp only;obtain⟨hi,e3⟩:=hin g2;obtain⟨c,c1,c2,c3⟩:=z.el i hi
    have hgo:es[i]?=a_ (es[i].1,.ref c):=by
     rw[aH hi,<-c1]
    have next:au (aB P w) A (do
      let a_ (_,v):=es[i]? | unsupported "internal:set-entry"
      let equal <-holding [v] (eqBool v (.ref p));let (es',_,t') <-setState S
      if(c_ && equal)=c_ then return .there b_
      let a_ same:=t'.sameMemory t.moves t.mask|unsupported "set.changed-during-lookup:is-the-new-block-at-the-old-address"
      let still <-match(if same=c_ then t'.slot (way t b (t.probeStart (dD P w ks))).j else .empty)with
       | .live i'=>match es'[i']? with
         |some (_,y')=>do pure (if(<-isSame y' v)=c_ then a_ i' else b_)
         |none=>pure b_
       |_=>pure b_
      match still with
      |none=>rule "set.search.anew";setSearchFrom S (.ref p) (dD P w ks) c_ fuel b_
      |some i'=>if equal=c_ then return .there (a_ i')else setSearchFrom S (.ref p) (dD P w ks) c_ fuel (a_ (way t (b+1) (t.probeStart (dD P w ks))))) Q E s:=by
     rw[hgo];dsimp only;refine wb9 (bZ (Wy i_ c2 gk ?_));refine wb9 (c8 y.obj rfl y.fits ?_);dsimp only;by_cases e:kf i=ks
     ·rw[decide_eq_true e];simp only[iq,if_true];exact wu9 (old i hi e)
     ·rw[decide_eq_false e];simp only[iR,if_false,aG];have hsm:t.sameMemory t.moves t.mask=a_ c_:=by unfold SetTable.sameMemory;simp
      rw[hsm];simp only[if_true];rw[g2];dsimp only;rw[hgo];dsimp only;refine wb9 (wpAny_isSame_ref_self (wb9 (wu9 ?_)));simp only[if_true];refine zE i_ y z gk h1 h2 old new fuel (b+1) _ (by omega) (by omega) rfl λk hk i' e' e''=>?_
      rcases my k b with hl|hl|hl
      ·rcases hZ k a with hl2|hl2
       ·exact hps k hl2 i' e' e''
       ·obtain⟨i2,q1,q2⟩:=g4 k hl2 hl;rw[e']at q1
        injection q1 with q1
        subst q1;obtain⟨hi',q3⟩:=hin e';obtain⟨_,_,_,q4⟩:=z.el i' hi';exact q2 (by rw[q3,q4,e''])
      ·subst hl;rw[g2]at e'
       injection e' with e'
       subst e';exact e e''
      ·omega
    split
    ·refine wb9 (K0 gk (λv hv=>?_) ?_)
     ·obtain⟨x,hx,rfl⟩:=aQ.mp hv;have hx:=Array.mem_toList_iff.mp hx;obtain⟨hx,_⟩:=Array.mem_filter.mp hx;obtain⟨k,hk,rfl⟩:=Array.mem_iff_getElem.mp hx;obtain⟨c',d1,d2,_⟩:=z.el k hk;exact⟨_,c',d1,d2⟩
     ·simp only[if_false,aG];exact next
    ·exact next
end
section
variable{P:aP}{w:bo}{A:br}{E:ab->ae->Prop}{z0:ae}
def Wp{ks:List NK}{p:ai}{Q:Bool->ae->Prop}(gk:pL P w z0.heap ks p)(h:∀b,Q b z0):au (aB P w) A (hashByValue 8 (.ref p)) Q E z0:=PR (n:=7) FE gk h
end
section
variable{P:aP}{w:bo}{A:br}{E:ab->ae->Prop}{s:ae}{led:Bool}{S:ai}{es:Array (Int×ab)}{ep:Nat}{t:aO}
def _root_.L2.qI.keepsC{I:Ik P w}{h h':bH}{ks:List I.κ}{p d:ai}{o:fe}(x:qI I h ks p)(go:h.get? d=a_ o)(gc:o.cls≠.type "tuple")(sb:cA d h h'):qI I h' ks p:=
 x.m9 (WT go gc λb o n e=>(sb.2 b n).trans e)
structure C9(P:aP)(w:bo)(h:bH)(es:Array (Int×ab))(t:aO):Prop where
 mask:t.mask=7\/t.mask=31\/t.mask=127\/t.mask=511
 el:∀e∈es.toList,∃l b,e.2=.ref b/\pL P w h l b/\e.1=dD P w l
 std:∀q∈es.toList.zip t.place.toList,mq t q.1.1 q.2
 le:∀j∈t.place.toList,j<=t.mask
 nf:t.place.size * 5<t.mask * 3
def C9.toN{h:bH}(z:C9 P w h es t):∃kf,Xa P w h es t kf:=by
 refine⟨λi=>if hi:i<es.size then(z.el es[i] (by simp)).choose else [],z.mask,λi hi=>?_,λi hi hp=>?_,z.le⟩
 ·obtain⟨b,h1,h2,h3⟩:=(z.el es[i] (by simp)).choose_spec;refine⟨b,h1,?_,?_⟩
  ·rw[dif_pos hi];exact h2
  ·rw[dif_pos hi];exact h3
 ·refine z.std (es[i],t.place[i]) ?_;refine bR.mpr ⟨i,by simp;omega,by simp⟩
def qY{l l':List Nat}(hn:l.Nodup)(hn':l'.Nodup)(h:∀x∈l,x∈l'):l.length<=l'.length:=by
 have hl:(l'.filter λx=>decide (x∈l)).Nodup:=oi pK hn'
 have hp:l.Perm (l'.filter λx=>decide (x∈l)):=by
  rw[de hn hl];intro x;rw[cz];simp only[decide_eq_true_eq];exact⟨λq=>⟨h x q,q⟩,λq=>q.2⟩
 rw[hp.length_eq];exact bS _ _
def Tf(hr:Bg t.place)(hf:t.place.size<t.mask+1)(hd:t.dummies=#[]):∃j,j<t.mask+1/\t.slot j=.empty:=by
 rcases HK (∃j,j<t.mask+1/\t.slot j=.empty)with h|h
 ·exact h
 ·exfalso;have hn:t.place.toList.Nodup:=nJ (λh=>by omega) hr;have:=qY fX hn λj(hj:j∈ax (t.mask+1))=>JA hd λe=>h ⟨j,aZ.mp hj,e⟩;rw[bQ,aR]at this;omega
def B3{ks:List NK}{p:ai}{Q:SetFound->ae->Prop}(i_:A.units+3<=cg)(y:jQ led s.heap S es ep t)(z:C9 P w s.heap es t)(gk:pL P w s.heap ks p)
  (old:(∃e∈es.toList,∃b,e.2=.ref b/\pL P w s.heap ks b)->Q (.there b_) s)
  (new:∀j,(¬ ∃e∈es.toList,∃b,e.2=.ref b/\pL P w s.heap ks b)->t.slot j=.empty->j<=t.mask->mq (t.put j).1 (dD P w ks) j->Q (.free j d_) s) :
  au (aB P w) A (setSearch S (.ref p) (dD P w ks) c_) Q E s:=by
 obtain⟨kf,n⟩:=z.toN;have hnf:=z.nf;obtain⟨j,hj,he⟩:=Tf y.ok.r (by rcases z.mask with e|e|e|e<;>rw[e]at hnf ⊢<;>omega) y.ok.d;obtain⟨N,hN,h1,h2⟩:=CG z.mask y.ok.d (dD P w ks) hj he;unfold setSearch;refine zE i_ y n gk h1 h2 (λi hi e=>old ?_) (λhno=>new _ ?_ h1 (BI N _) ?_) 100000 0 b_ (by omega) (by omega) rfl λk hk=>by omega
 ·obtain⟨b,q1,q2,_⟩:=n.el i hi;exact⟨es[i],by simp,b,q1,e▸q2⟩
 ·rintro⟨e,he,b,q1,q2⟩;obtain⟨i,hi,rfl⟩:=bR.mp he;have hi':i<es.size:=by simpa using hi
  obtain⟨b',r1,r2,_⟩:=n.el i hi';rw[oK]at q1;rw[r1]at q1;cases q1;exact hno i hi' (r2.inj q2)
 ·exact mq.new λk hk=>JA y.ok.d (h2 k hk)
end
section
variable{P:aP}{w:bo}{A:br}{E:ab->ae->Prop}{s:ae}{led:Bool}{S:ai}{es:Array (Int×ab)}{ep:Nat}{t:aO}
def Nc{wanted:Nat}{t':aO}{o:Array Nat}{Q:Unit->ae->Prop}(y:jQ led s.heap S es ep t)(hw:dB wanted<=aE)(hl:t.relaid (es.map (·.1)) wanted=a_ (t',o))(hs:(o.filterMap (es[·]?)).size=es.size)
  (f:t'.fits (o.filterMap (es[·]?)).size=c_)(ok:o6 led t')(hz:es.size<=aE)(k:∀h',cA S s.heap h'->jQ led h' S (o.filterMap (es[·]?)) (ep+1) t'->Q () { s with heap:=h' }) :
  au (aB P w) A (setRelay S wanted) Q E s:=by
 unfold setRelay;refine wb9 (c8 y.obj rfl y.fits ?_);dsimp only;rw[if_neg (by omega),hl];refine wb9 ?_;change au _ _ (if((o.filterMap (es[·]?)).size != es.size)=c_ then(unsupported "internal:set-table-lost-an-element" >>= λ_=>pure (o.filterMap (es[·]?),t'))else pure (o.filterMap (es[·]?),t')) _ _ _;rw[if_neg (by simp[hs])];refine wu9 ?_;dsimp only;exact pX y f ok (by rw[hs];exact hz) k
end
theorem filterMap_map{α β:Type}{f:α->Option β}{g:α->β}:∀{l:List α},(∀k∈l,f k=a_ (g k))->l.filterMap f=l.map g
 |[],_=>rfl
 |a::l,h=>by rw[jb,h a hJ,ag,filterMap_map λk hk=>h k (ib _ hk)]
def Gj(es:Array (Int×ab)):(ax es.size).map (λk=>(es[k]?).getD (0,.none))=es.toList:=by
 apply gh
 ·simp
 ·intro i h1 h2;have:i<es.size:=by simpa using h2
  simp[this]
section
variable{P:aP}{w:bo}{A:br}{E:ab->ae->Prop}{s:ae}{led:Bool}{S:ai}{es:Array (Int×ab)}{ep:Nat}{t:aO}
def zS{o:Array Nat}(hp:o.toList.Perm (ax es.size)):(o.filterMap (es[·]?)).toList=o.toList.map (λk=>(es[k]?).getD (0,.none)):=by
 rw[Array.toList_filterMap];refine filterMap_map λk hk=>?_;have:k<es.size:=aZ.mp (hp.mem_iff.mp hk);rw[aH this];rfl
def uA{o:Array Nat}(hp:o.toList.Perm (ax es.size)):(o.filterMap (es[·]?)).toList.Perm es.toList:=by
 rw[zS hp];have:=hp.map (λk=>(es[k]?).getD (0,c9));rw[Gj]at this;exact this
def Nd{mask:Nat}{h h':bH}(hm:mask=7\/mask=31\/mask=127\/mask=511)(hn:es.size<=mask)(hnf:es.size * 5<mask * 3)(el:∀e∈es.toList,∃l b,e.2=.ref b/\pL P w h' l b/\e.1=dD P w l){f m:Nat}{pl:Bool} :
  ∃t' o,lp mask f m led pl (es.map (·.1))=a_ (t',o)/\(o.filterMap (es[·]?)).size=es.size/\t'.fits (o.filterMap (es[·]?)).size=c_/\o6 led t'/\(o.filterMap (es[·]?)).toList.Perm es.toList/\C9 P w h' (o.filterMap (es[·]?)) t':=by
 obtain⟨t',o,h1,h2,h3,h4,h5,h6,h7⟩:=N4 (f:=f) (m:=m) (led:=led) (pl:=pl) (hs:=es.map (·.1)) hm (by simpa using hn);have h4:o.toList.Perm (ax es.size):=by simpa using h4
 have hp:=uA h4;have hsz:(o.filterMap (es[·]?)).size=es.size:=by rw[<-aR,hp.length_eq,aR]
 have hos:o.size=es.size:=by rw[<-aR,h4.length_eq,bQ]
 have ok:=o6.laid h1;refine⟨t',o,h1,hsz,?_,ok,hp,?_⟩
 ·have hd:=ok.d;simp only[lq,oI,aq,beq_iff_eq,decide_eq_true_eq,hd];refine⟨by omega,?_⟩;show t'.place.size+0<=t'.mask;omega
 ·refine⟨by rw[h2];exact hm,λe he=>el e (hp.mem_iff.mp he),λq hq=>?_,λj hj=>by rw[h2];exact h6 j hj,by omega⟩;obtain⟨i,hi,rfl⟩:=bR.mp hq;rw[nF]at hi;have hi1:i<o.size:=by simp at hi;omega
  have hi2:i<t'.place.size:=by omega
  have hk:o[i]<es.size:=aZ.mp (h4.mem_iff.mp (by simp))
  have e1:(o.filterMap (es[·]?)).toList[i]'(by simp at hi ⊢;omega)=es[o[i]]:=by
   simp only[zS h4,tj,oK,aH hk,fW]
  have h8:=h7 i hi1 hi2;have e2:(es.map (·.1)).toList.getD o[i] 0=es[o[i]].1:=by simp[hk]
  rw[e2]at h8;rw[List.getElem_zip];rw[e1];simpa using h8
end
def Ew{α:Type}(xs:Array α){p:Nat}(hp:p<=xs.size)(x:α):(cM xs p x).size=xs.size+1:=by
 rw[<-aR,eF,aw,aM,fZ,j9,aR];omega
def An{α:Type}(xs:Array α)(p:Nat)(x:α):(cM xs p x).toList.Perm (xs.toList++[x]):=by
 rw[eF];refine List.perm_middle.trans ?_;rw[eG];exact List.perm_append_comm (l₁:=[x])
def Ob{α β:Type}(xs:Array α)(ys:Array β)(h:xs.size=ys.size){p:Nat}(hp:p<=xs.size)(x:α)(y:β){q:α×β}(hq:q∈(cM xs p x).toList.zip (cM ys p y).toList):q=(x,y)\/q∈xs.toList.zip ys.toList:=by
 rw[eF,eF,L5 (by simp;omega),fA]at hq
 have hz:xs.toList.zip ys.toList=(xs.toList.take p).zip (ys.toList.take p)++(xs.toList.drop p).zip (ys.toList.drop p):=by
  rw[<-L5 (by simp;omega),eG,eG]
 rw[hz]
 rcases az.mp hq with hq|hq
 ·exact .inr (az.mpr (.inl hq))
 ·rcases ao.mp hq with hq|hq
  ·exact .inl hq
  ·exact .inr (az.mpr (.inr hq))
section
variable{P:aP}{w:bo}{A:br}{E:ab->ae->Prop}{s:ae}{led:Bool}{S:ai}{es:Array (Int×ab)}{ep:Nat}{t:aO}
def zj{c:Prop}[Decidable c]{m m':Sem Bool}{k:Bool->Sem Bool}{Q:Bool->ae->Prop}(h:∀b,au (aB P w) A (k b) Q E s)(hm:∀{Q':Bool->ae->Prop},(∀b,Q' b s)->au (aB P w) A m Q' E s)(hm':∀{Q':Bool->ae->Prop},(∀b,Q' b s)->au (aB P w) A m' Q' E s) :
  au (aB P w) A (if c then m >>= k else m' >>= k) Q E s:=by
 split
 ·exact wb9 (hm h)
 ·exact wb9 (hm' h)
def mq.plain{t:aO}{x:Int}{j:Nat}{b:Bool}(h:mq t x j):mq { t with plain:=b } x j:=
 mq.mono (t:=t) (t':={ t with plain:=b }) rfl (λ_ h=>h) h
def Oe{n mask:Nat}(hm:mask=7\/mask=31\/mask=127\/mask=511)(h0:n * 5<mask * 3)(h1:(n+1) * 5>=mask * 3)(hr:n<300):(dB (cV (n+1)) - 1=31\/dB (cV (n+1)) - 1=127\/dB (cV (n+1)) - 1=511)/\n+1<=dB (cV (n+1)) - 1/\(n+1) * 5<(dB (cV (n+1)) - 1) * 3/\dB (cV (n+1))<=512:=by
 rcases hm with rfl|rfl|rfl|rfl
 ·obtain rfl:n=4:=by omega
  decide +kernel
 ·obtain rfl:n=18:=by omega
  decide +kernel
 ·obtain rfl:n=76:=by omega
  decide +kernel
 ·omega
end
section
variable{led:Bool}{S:ai}{es:Array (Int×ab)}{ep:Nat}{t:aO}{P:aP}{w:bo}{s:ae}{A:br}{E:ab->ae->Prop}
set_option tactic.hygienic true in
def add_n{ks:List NK}{p:ai}{Q:Bool->ae->Prop}(i_:A.units+3<=cg)(y:jQ led s.heap S es ep t)(z:C9 P w s.heap es t)(gk:pL P w s.heap ks p)(room:es.size<300)
  (old:∀b,(∃e∈es.toList,∃b,e.2=.ref b/\pL P w s.heap ks b)->Q b s)
  (new:∀b h' es' ep' t',(¬ ∃e∈es.toList,∃b,e.2=.ref b/\pL P w s.heap ks b)->cA S s.heap h'->jQ led h' S es' ep' t'->C9 P w h' es' t'->es'.toList.Perm (es.toList++[(dD P w ks,.ref p)])->Q b { s with heap:=h' }) :
  au (aB P w) A (setAddHashed S (.ref p) (dD P w ks)) Q E s:=by
 have hsz:t.place.size=es.size:=by
  have:=y.fits;simp only[lq,aq,beq_iff_eq]at this;exact this.1
 unfold setAddHashed;refine bZ ?_;unfold setAddHashedIn;refine wb9 (c8 y.obj rfl y.fits ?_);dsimp only;rw[show byScan (.ref p) es=d_ from rfl];simp only[if_false,aG];refine wb9 (B3 i_ y z gk (λh=>?_) (λj hno hs hle hst=>?_))
 ·exact wu9 (old _ h)
 ·dsimp only;refine wb9 (c8 y.obj rfl y.fits ?_);dsimp only;refine zj (m:=hashByValue 8 (.ref p)) (m':=pure c_) (λb=>?_) (λq=>Wp gk q) (λq=>wu9 (q _));have hbel:aD t.place j<=t.place.size:=(U0 y.ok.r j).1
  have hcls:({ cls:=.type "set",dict:=b_,data:=.set es ep t }:fe).cls≠.type "tuple":=by
   intro h
   injection h with h
   exact absurd h (by decide)
  generalize ht1:(if b=c_ then(t.put j).1 else { (t.put j).1 with plain:=d_ })=t1;have q1:t1.place=cM t.place (aD t.place j) j:=by rw[<-ht1];split<;>rfl
  have q2:t1.mask=t.mask:=by rw[<-ht1];split<;>rfl
  have q3:o6 led t1:=by
   have:=y.ok.put (ub y.ok.d hs);rw[<-ht1];split
   ·exact this
   ·exact this.off
  have q4:∀x a,mq (t.put j).1 x a->mq t1 x a:=λx a h=>by
   rw[<-ht1];split
   ·exact h
   ·exact h.plain
  have hps:t1.place.size=es.size+1:=by rw[q1,Ew _ hbel,hsz]
  have hes:(cM es (aD t.place j) (dD P w ks,bE p)).size=es.size+1:=Ew _ (by omega) _;have hperm:=An es (aD t.place j) (dD P w ks,bE p)
  have hmem:∀e,e∈(cM es (aD t.place j) (dD P w ks,bE p)).toList->e∈es.toList\/e=(dD P w ks,bE p):=λe he=>by
   rcases az.mp (hperm.mem_iff.mp he)with h|h
   ·exact .inl h
   ·exact .inr (aF.mp h)
  have hnf:=z.nf
  have hfit:t1.fits (cM es (aD t.place j) (dD P w ks,bE p)).size=c_:=by
   simp only[lq,oI,aq,beq_iff_eq,decide_eq_true_eq,q3.d];refine⟨by omega,?_⟩;show t1.place.size+0<=t1.mask;rw[q2]
   rcases z.mask with e|e|e|e<;>rw[e]at hnf ⊢<;>omega
  have hle1:∀a∈t1.place.toList,a<=t1.mask:=λa ha=>by
   rw[q1]at ha;rw[q2]
   rcases az.mp ((An t.place (aD t.place j) j).mem_iff.mp ha)with h|h
   ·exact z.le a h
   ·rw[aF.mp h];exact hle
  have hstd1:∀q∈(cM es (aD t.place j) (dD P w ks,bE p)).toList.zip t1.place.toList,mq t1 q.1.1 q.2:=λq hq=>by
   rw[q1]at hq
   rcases Ob es t.place hsz.symm (by omega) _ _ hq with h|h
   ·rw[h];exact q4 _ _ hst
   ·exact q4 _ _ (mq.mono (t:=t) (t':=(t.put j).1) rfl (λa ha=>Eg.mpr (.inr ha)) (z.std q h))
  rw[show(t.put j).2=aD t.place j from rfl];generalize cM es (aD t.place j) (dD P w ks,bE p)=es1 at hes hperm hmem hfit hstd1 ⊢;refine wb9 (pX y hfit q3 (by rw[hes,bB];omega) λh1 sb y1=>?_)
  have hel1:∀h',cA S s.heap h'->∀e∈es1.toList,∃l b,e.2=.ref b/\pL P w h' l b/\e.1=dD P w l:=λh' sb' e he=>by
   rcases hmem e he with h|h
   ·obtain⟨l,b,r1,r2,r3⟩:=z.el e h;exact⟨l,b,r1,r2.keepsC y.obj hcls sb',r3⟩
   ·rw[h];exact⟨ks,p,rfl,gk.keepsC y.obj hcls sb',rfl⟩
  split
  ·rename_i htf
   have htf:(es.size+1) * 5>=t.mask * 3:=by
    simp only[iQ,jk,Dg,oI,q3.d,decide_eq_true_eq]at htf;rw[q2]at htf;have:(#[]:Array Nat).size=0:=rfl;omega
   obtain⟨m1,m2,m3,m4⟩:=Oe z.mask (by rw[<-hsz];exact hnf) htf room;obtain⟨t',o,r1,r2,r3,r4,r5,r6⟩:=Nd (P:=P) (w:=w) (es:=es1) (led:=led) (h:=s.heap) (h':=h1) (mask:=dB (cV (es.size+1)) - 1) (f:=t1.finger) (m:=t1.movedTo (dB (cV (es.size+1)) - 1)) (pl:=t1.plain) (.inr m1) (by omega) (by omega) (hel1 h1 sb)
   have hrl:t1.relaid (es1.map (·.1)) (cV (es.size+1))=a_ (t',o):=by
    unfold Fo;rw[q3.l];exact r1
   refine wb9 (Nc y1 (by rw[bB];omega) hrl r2 r3 r4 (by rw[hes,bB];omega) λh2 pY y2=>?_)
   have hcls2:({ cls:=.type "set",dict:=b_,data:=.set es1 (ep+1) t1 }:fe).cls≠.type "tuple":=by
    intro h
    injection h with h
    exact absurd h (by decide)
   refine wu9 (new _ h2 _ _ _ hno (sb.trans pY) y2 ⟨r6.mask,λe he=>?_,r6.std,r6.le,r6.nf⟩ (r5.trans hperm));obtain⟨l,b,s1,s2,s3⟩:=r6.el e he;exact⟨l,b,s1,s2.keepsC y1.obj hcls2 pY,s3⟩
  ·rename_i htf
   have htf:(es.size+1) * 5<t.mask * 3:=by
    simp only[iQ,jk,Dg,oI,q3.d,decide_eq_true_eq]at htf;rw[q2]at htf;have:(#[]:Array Nat).size=0:=rfl;omega
   exact wu9 (new _ h1 _ _ _ hno sb y1 ⟨by rw[q2];exact z.mask,hel1 h1 sb,hstd1,hle1,by rw[q2,hps];exact htf⟩ hperm)
end
section
variable{prog:aP}{w:bo}{A:br}{E:ab->ae->Prop}{s:ae}
noncomputable abbrev lW(w:bo):fe:={ cls:=.type "set",dict:=b_,data:=.set #[] 0 (.fresh 0 0 (l8 w)) }
def DH(a:ab){Q:ab->ae->Prop}(k:Q (.ref s.heap.objs.size) { s with heap:=s.heap.push (lW w) }):codeAny (aB prog w) A (.call (.builtin "set.__new__") ⟨[.type "set",a],[]⟩) (wants Q E) s:=by
 refine qL PySem.F.plain_set_new PySem.F.entry_set_new (LQ (PySem.F.newCall_set_1 a) ?_);unfold fO.«set.__new__» LY;have ss:=sub_set_self;obtain⟨hp,g,d,tk,os⟩:=s;dsimp only
 wp_walk
 refine xp ?_;refine wu9 ?_;dsimp only;simp only[newObj];exact wb9 (wpAny_alloc (wu9 (wu9 k)))
def qw{T nI iI:String}{B:fO}{args:List ab}{Q Q1:ab->ae->Prop}(ft:TypeCalled T nI iI)(ct:checkTypeCall T ⟨args,[]⟩=pure ())(eI:entryFor table iI=a_ B)
  (hn:codeAny (aB prog w) A.in1 (.call (.builtin nI) ⟨.type T::args,[]⟩) (wants Q1 E) s)
  (hx:∀ob s1,Q1 ob s1->s1.TypeIs ob T/\codeAny (aB prog w) A.in1 (.call (.builtin iI) ⟨ob::args,[]⟩) (wants (λr s2=>r=.none/\Q ob s2) E) s1) :
  au (aB prog w) A (call (.type T) args) Q E s:=by
 obtain⟨c,tl,e1⟩:=ft.mro;have e2:=ft.made;have e3:=ft.sub;refine wpAny_call (codeAny_of_tree ?_);show au _ _ (callAny (.type T) _) _ _ _;refine wu9 (t5 (Code.quiet_builtin _ (by decide +kernel)) (fo PySem.F.entry_type_call ?_));rw[Around.under_plain (weight_type_call_type T args []) rfl];have e4:=ft.notType;have e5:=ft.canCreate
 repeat any_goals first|assumption|wp_step
 refine kb hn λr s1 hr=>?_
 cases r with
 |error e=>exact hr
 |ok fl=>
   cases fl with
   |ret ob=>
     obtain⟨hT,hI⟩:=hx _ _ hr;have e6:=ft.init.lookup;have e7:=ft.init.bind ob
     repeat any_goals first|assumption|wp_step
     refine kb hI λr2 s2 hr2=>?_
     cases r2 with
     |error e=>exact hr2
     |ok fl2=>
       cases fl2 with
       |ret r=>
         obtain⟨rfl,hq⟩:=hr2
         repeat any_goals first|assumption|wp_step
       |_=>exact hr2.elim
   |_=>exact hr.elim
def xk{M:LW}{v:ab}{T:String}{Q:Bool->ae->Prop}(ty:s.TypeIs v T)(a:isSubtype (.type T) (.type "set")=pure d_)(b:isSubtype (.type T) (.type "frozenset")=pure d_)(k:Q d_ s):au M A (oJ v) Q E s:=by
 unfold oJ;show au M A (isInstance v (.type "set") >>= _) Q E s;refine wb9 (eU ty a ?_);exact eU ty b k
variable{K:Type}[DecidableEq K]{knd:lP prog w K}
def Ff(prog:aP)(w:bo)(h:bH)(v:ab)(n:Nat)(P:Nat->ab->Prop):Prop:=
 ∀(A1:br)(E1:ab->ae->Prop)(s1:ae)(Q1:ab->ae->Prop),h.objs.size<s1.heap.objs.size->(∀b o,h.get? b=a_ o->s1.heap.get? b=a_ o)->
  (∀(o:fe)(fp:List ai)(St:Nat->bH->Prop),(∀A',A'.handled=b_->Walks prog w A' s1.heap.objs.size fp [s1.heap.objs.size] n P St)->(∀b∈fp,b=s1.heap.objs.size\/b<h.objs.size)->St 0 (s1.heap.push o)->
   Q1 (.ref s1.heap.objs.size) { s1 with heap:=s1.heap.push o })->au (aB prog w) A1 (Hx v) Q1 E1 s1
def ud{v:ab}{T:String}{n:Nat}{P:Nat->ab->Prop}{Q:ab->ae->Prop}(hh:A.handled=b_)(ty:∀s1:ae,(∀b o,s.heap.get? b=a_ o->s1.heap.get? b=a_ o)->s1.TypeIs v T)
  (a:isSubtype (.type T) (.type "set")=pure d_)(b:isSubtype (.type T) (.type "frozenset")=pure d_)(nd:(eX T == eX "dict")=d_)(itr:Ff prog w s.heap v n P)
  (val:Nat->K)(hv:∀i v,P i v->knd.is (val i) v=c_/\v.scannable=c_)(hb:n+1<oH)
  (k:∀h' tk,kQ knd (l8 w) h' s.heap.objs.size n (λq=>∃j,j<n/\val j=q)->(∀b o,s.heap.get? b=a_ o->h'.get? b=a_ o)->Q (.ref s.heap.objs.size) { s with heap:=h',toks:=tk }) :
  au (aB prog w) A (call (.type "set") [v]) Q E s:=by
 refine qw (Q1:=λob s1=>ob=.ref s.heap.objs.size/\s1={ s with heap:=s.heap.push (lW w) }) kD (xu v) jx (DH v ⟨rfl,rfl⟩) ?_;rintro ob s1 ⟨rfl,rfl⟩;have gS:(s.heap.push (lW w)).get? s.heap.objs.size=a_ (lW w):=aL _ rfl;have hT:o7 { s with heap:=s.heap.push (lW w) } (.ref s.heap.objs.size) "set":=⟨_,gS,rfl⟩
 refine⟨hT,qL kD.init.plain jx (check_set_init_1 hT ?_)⟩;have e1:∀b o,s.heap.get? b=a_ o->(s.heap.push (lW w)).get? b=a_ o:=λb o e=>hp9 _ e;unfold fO.«set.__init__» noKeywords;generalize hU:fK=U
 wp_walk
 subst hU;unfold fK;refine wb9 (xk (ty _ e1) a b ?_);simp only[aG,if_false];refine wb9 (iA (ty _ e1) ?_);rw[nd];simp only[aG,if_false];have sz:(s.heap.push (lW w)).objs.size=s.heap.objs.size+1:=cX ..;refine wb9 (itr _ _ _ _ (by show s.heap.objs.size<(s.heap.push (lW w)).objs.size;omega) e1 λo fp St W hfp st=>?_);have h3:A.in1.in1.in1.handled=b_:=by simp[hh]
 refine wb9 (qK ?_);refine HP (knd:=knd) (led:=l8 w) (W _ h3).toS s.heap.objs.size (λm=>?_) val hv hb n 0 _ rfl (bY _) st ?_ ?_
 ·rcases hfp _ m with q|q
  ·have q':s.heap.objs.size=(s.heap.push (lW w)).objs.size:=q;rw[sz]at q';exact absurd q' (bu (gC _))
  ·exact absurd q (bx _)
 ·refine⟨#[],0,_,[],⟨hp9 _ gS,by rfl,o6.fresh _⟩,λe he=>by simp at he,.nil,et,aC _,λq=>?_⟩;simp
 ·intro s' m y;refine wu9 ?_;obtain⟨h',g',d',tk',os'⟩:=s';obtain rfl:g'=s.gens:=m.gens;obtain rfl:d'=s.drawn:=m.drawn;obtain rfl:os'=s.os:=m.os;refine wu9 ⟨rfl,k h' tk' y λb o e=>m.heap b o (λz=>?_) (hp9 _ (hp9 _ e))⟩;have lt:=hl9 e;simp only[ao,bG,or_false]at z
  rcases z with z|z
  ·rw[z]at lt;exact absurd lt (bx _)
  ·have z':b=(s.heap.push (lW w)).objs.size:=z;rw[z',sz]at lt;exact absurd (mz lt) (bx _)
end
section
variable{P:aP}{w:bo}
def _root_.L2.qI.mono{I:Ik P w}{h h':bH}{ks:List I.κ}{p:ai}(x:qI I h ks p)(k:∀b o,h.get? b=a_ o->h'.get? b=a_ o):qI I h' ks p:=x.m9 λb o e _ _=>k b o e
def Bj(P:aP)(w:bo)(led:Bool)(h:bH)(S:ai)(kf:Nat->List NK)(av:Nat->ai)(i:Nat):Prop:=
 ∃es ep t js,jQ led h S es ep t/\C9 P w h es t/\gp (λ(e:Int×ab)j=>e.2=.ref (av j)) es.toList js/\(js.map kf).Nodup/\(∀j∈js,j<i)/\∀j,j<i->kf j∈js.map kf
variable{led:Bool}{S:ai}{kf:Nat->List NK}{av:Nat->ai}
def Bj.keep{h h':bH}{i:Nat}(y:Bj P w led h S kf av i)(k:∀o,h.get? S=a_ o->h'.get? S=a_ o)(a:∀j,j<i->pL P w h (kf j) (av j))(b:∀j,j<i->pL P w h' (kf j) (av j)):Bj P w led h' S kf av i:=by
 obtain⟨es,ep,t,js,y1,y2,y3,y4,y5,y6⟩:=y;refine⟨es,ep,t,js,y1.keep k,⟨y2.mask,λe he=>?_,y2.std,y2.le,y2.nf⟩,y3,y4,y5,y6⟩;obtain⟨l,b0,e1,e2,e3⟩:=y2.el e he;obtain⟨j,hj,e4⟩:=ly y3 he;rw[e4]at e1;cases e1;rw[e2.inj (a j (y5 j hj))]at e3;exact⟨kf j,av j,e4,b j (y5 j hj),e3⟩
variable{A:br}{R:Result->ae->Prop}{I:ai}{fp wr:List ai}{G:Array vB->Array vB->Prop}{n:Nat}{Pv:Nat->ab->Prop}{St:Nat->ae->Prop}
def Od{h:bH}{es:Array (Int×ab)}{js:List Nat}{i m:Nat}(y3:gp (λ(e:Int×ab) j=>e.2=.ref (av j)) es.toList js)(y5:∀j∈js,j<i)(a:∀j,j<m->pL P w h (kf j) (av j))(hi:i<m) :
  (∃e∈es.toList,∃b,e.2=.ref b/\pL P w h (kf i) b)↔kf i∈js.map kf:=by
 constructor
 ·rintro⟨e,he,b,e1,e2⟩;obtain⟨j,hj,e4⟩:=ly y3 he;rw[e4]at e1;cases e1;have hlt:=y5 j hj;rw[e2.inj (a j (by omega))];exact cL hj
 ·intro q;obtain⟨j,hj,e⟩:=aQ.mp q;obtain⟨x,hx,e4⟩:=mL y3 hj;have hlt:=y5 j hj;exact⟨x,hx,av j,e4,e▸a j (by omega)⟩
def FC(W:WalksS P w A.in1 I fp wr G n Pv St)(S:ai)(hS:S∉fp)(hv:∀i v,Pv i v->v=.ref (av i))(h0:bH)(hk:∀j,j<n->pL P w h0 (kf j) (av j))(h0S:h0.get? S=b_)(h0w:∀b∈wr,h0.get? b=b_)
  (hb:n<=300)(i_:A.in1.units+3<=cg) :
  ∀(k i:Nat)(s:ae),n - i=k->i<=n->St i s->(∀b o,h0.get? b=a_ o->s.heap.get? b=a_ o)->Bj P w led s.heap S kf av i->
   (∀s',Moved (S::wr) G s s'->Bj P w led s'.heap S kf av n->R (.ok (.ret .none)) s')->
   codeAny (aB P w) A (.builtin "set.update.loop" ⟨[.ref S,.ref I],[]⟩) R s:=by
 have hSw:S∉wr:=λh=>hS (W.sub _ h);have sub:∀b∈wr,b∈S::wr:=λb m=>ib _ m;have kin:∀(h:bH),(∀b o,h0.get? b=a_ o->h.get? b=a_ o)->∀j,j<n->pL P w h (kf j) (av j):=λh q j hj=>(hk j hj).mono q;intro k
 induction k with
 |zero=>
   intro i s hk' hi hst q0 y hR;obtain rfl:i=n:=by omega
   refine fo eK ?_;rw[dJ cB];show au _ A.in1 (pyNext (.ref I) >>= _) _ _ s;refine wb9 (W.done s _ _ hst λs' m=>?_);have q1:∀b o,h0.get? b=a_ o->s'.heap.get? b=a_ o:=λb o e=>m.heap b o (λz=>by rw[h0w b z]at e;cases e) (q0 b o e);exact wu9 (hR s' (m.mono sub) (y.keep (λo e=>m.heap S o hSw e) (kin _ q0) (kin _ q1)))
 |succ k ih=>
   intro i s hk' hi hst q0 y hR;refine fo eK ?_;rw[dJ cB];show au _ A.in1 (pyNext (.ref I) >>= _) _ _ s;refine wb9 (W.item i s _ _ (by omega) hst λv s' hP hst' m=>?_);have q1:∀b o,h0.get? b=a_ o->s'.heap.get? b=a_ o:=λb o e=>m.heap b o (λz=>by rw[h0w b z]at e;cases e) (q0 b o e);obtain rfl:=hv i v hP;have hi':i<n:=by omega
   obtain⟨es,ep,t,js,ya,yb,yc,yd,ye,yf⟩:=y.keep (h':=s'.heap) (λo e=>m.heap S o hSw e) (λj hj=>kin _ q0 j (by omega)) (λj hj=>kin _ q1 j (by omega));show au _ A.in1 (holding [.ref (av i)] (setAdd S (.ref (av i))) >>= _) _ _ s';refine wb9 (bZ ?_);unfold setAdd;refine bZ (wb9 (CC i_ (kin _ q1 i hi') ?_));have len:=jM yc;rw[aR]at len
   have hjl:js.length<=i:=by
    have hn:js.Nodup:=(eo.mp yd).imp λh e=>h (congrArg kf e);have:=qY hn fX λj hj=>aZ.mpr (ye j hj)
    rwa [bQ]at this
   have has:=Od (P:=P) (w:=w) (h:=s'.heap) (m:=n) yc ye (kin _ q1) hi'
   have go:∀h' tk,cA S s'.heap h'->s'.toks<=tk->Bj P w led h' S kf av (i+1)->
     au (aB P w) A.in1 (again (.builtin "set.update.loop" ⟨[.ref S,.ref I],[]⟩)) (λfin s''=>match fin with | .done f=>R (.ok f) s'' | .again c'=>c'.quiet=c_/\codeAny (aB P w) A c' R s'') (λe s''=>R (.error e) s'') { s' with heap:=h',toks:=tk }:=by
    intro h' tk sb htk y';refine wu9 ⟨kT cB _,ih (i+1) _ (by omega) (by omega) (W.frame _ s' _ _ hst' htk λb hb o e=>?_) (λb o e=>?_) y' λs2 m2 y2=>?_⟩
    ·rw[sb.2 b λz=>hS (z▸hb)];exact e
    ·show h'.get? b=a_ o;rw[sb.2 b λz=>by rw[z,h0S]at e;cases e];exact q1 b o e
    ·refine hR s2 (Moved.trans W.gtrans ((m.mono sub).then_heap htk λb o hb e=>?_) m2) y2;rw[sb.2 b λz=>hb (z▸hJ)];exact e
   refine add_n (led:=led) (s:={ s' with toks:=_ }) i_ ya yb (kin _ q1 i hi') (by omega) (λb hq=>?_) (λb h' es' ep' t' hq sb y' z' p=>?_)
   ·refine go s'.heap _ (xt ..) (mZ _ _) ⟨es,ep,t,js,ya,yb,yc,yd,λj hj=>iJ (ye j hj),λj hj=>?_⟩;by_cases e:j=i
    ·subst e;exact has.mp hq
    ·exact yf j (by omega)
   ·obtain⟨js',c1,c2⟩:=jY p (nU (R:=λ(e:Int×ab)j=>e.2=.ref (av j)) (x:=(dD P w (kf i),bE (av i))) (y:=i) rfl yc);have nk:kf i∉js.map kf:=λz=>hq (has.mpr z)
    have c3:(js'.map kf).Perm (js.map kf++[kf i]):=by
     have:=c2.map kf
     rwa [cO]at this
    refine go h' _ sb (mZ _ _) ⟨es',ep',t',js',y',z',c1,?_,λj hj=>?_,λj hj=>?_⟩
    ·refine c3.nodup_iff.mpr (cR.mpr ⟨yd,be.mpr ⟨by simp,et⟩,λa ha b hb=>?_⟩);rw[aF]at hb;subst hb;exact λz=>nk (z▸ha)
    ·rcases az.mp (c2.mem_iff.mp hj)with h|h
     ·exact iJ (ye j h)
     ·rw[aF.mp h];exact gC _
    ·rw[c3.mem_iff];by_cases e:j=i
     ·subst e;exact ak _ (aF.mpr rfl)
     ·exact aJ _ (yf j (by omega))
end
section
variable{P:aP}{w:bo}{A:br}{E:ab->ae->Prop}{s:ae}
def FT{v:ab}{T:String}{n:Nat}{Pv:Nat->ab->Prop}{Q:ab->ae->Prop}{kf:Nat->List NK}{av:Nat->ai}(hh:A.handled=b_)(ty:∀s1:ae,(∀b o,s.heap.get? b=a_ o->s1.heap.get? b=a_ o)->s1.TypeIs v T)
  (a:isSubtype (.type T) (.type "set")=pure d_)(b:isSubtype (.type T) (.type "frozenset")=pure d_)(nd:(eX T == eX "dict")=d_)(itr:Ff P w s.heap v n Pv)
  (hv:∀i v,Pv i v->v=.ref (av i))(hk:∀j,j<n->pL P w s.heap (kf j) (av j))(hb:n<=300)(i_:A.in1.in1.in1.units+3<=cg)
  (k:∀h' tk,Bj P w (l8 w) h' s.heap.objs.size kf av n->(∀b o,s.heap.get? b=a_ o->h'.get? b=a_ o)->Q (.ref s.heap.objs.size) { s with heap:=h',toks:=tk }) :
  au (aB P w) A (call (.type "set") [v]) Q E s:=by
 refine qw (Q1:=λob s1=>ob=.ref s.heap.objs.size/\s1={ s with heap:=s.heap.push (lW w) }) kD (xu v) jx (DH v ⟨rfl,rfl⟩) ?_;rintro ob s1 ⟨rfl,rfl⟩;have gS:(s.heap.push (lW w)).get? s.heap.objs.size=a_ (lW w):=aL _ rfl;have hT:o7 { s with heap:=s.heap.push (lW w) } (.ref s.heap.objs.size) "set":=⟨_,gS,rfl⟩
 refine⟨hT,qL kD.init.plain jx (check_set_init_1 hT ?_)⟩;have e1:∀b o,s.heap.get? b=a_ o->(s.heap.push (lW w)).get? b=a_ o:=λb o e=>hp9 _ e;unfold fO.«set.__init__» noKeywords;generalize hU:fK=U
 wp_walk
 subst hU;unfold fK;refine wb9 (xk (ty _ e1) a b ?_);simp only[aG,if_false];refine wb9 (iA (ty _ e1) ?_);rw[nd];simp only[aG,if_false];have sz:(s.heap.push (lW w)).objs.size=s.heap.objs.size+1:=cX ..;refine wb9 (itr _ _ _ _ (by show s.heap.objs.size<(s.heap.push (lW w)).objs.size;omega) e1 λo fp St W hfp st=>?_);have h3:A.in1.in1.in1.handled=b_:=by simp[hh]
 refine wb9 (qK ?_);refine FC (led:=l8 w) (W _ h3).toS s.heap.objs.size (λm=>?_) hv s.heap hk (oN (aC _)) (λb hb=>?_) hb i_ n 0 _ rfl (bY _) st (λb o e=>hp9 _ (e1 b o e)) ?_ ?_
 ·rcases hfp _ m with q|q
  ·have q':s.heap.objs.size=(s.heap.push (lW w)).objs.size:=q;rw[sz]at q';exact absurd q' (bu (gC _))
  ·exact absurd q (bx _)
 ·have hb':b=(s.heap.push (lW w)).objs.size:=by simpa using hb
  rw[hb',sz];exact oN (mB _)
 ·refine⟨#[],0,_,[],⟨hp9 _ gS,by rfl,o6.fresh _⟩,⟨.inl rfl,λe he=>by simp at he,λq hq=>by simp at hq,λj hj=>?_,by show 0 * 5<7 * 3;omega⟩,.nil,et,λj hj=>by simp at hj,λj hj=>by omega⟩;simp[SetTable.fresh]at hj
 ·intro s' m y;refine wu9 ?_;obtain⟨h',g',d',tk',os'⟩:=s';obtain rfl:g'=s.gens:=m.gens;obtain rfl:d'=s.drawn:=m.drawn;obtain rfl:os'=s.os:=m.os;refine wu9 ⟨rfl,k h' tk' y λb o e=>m.heap b o (λz=>?_) (hp9 _ (hp9 _ e))⟩;have lt:=hl9 e;simp only[ao,bG,or_false]at z
  rcases z with z|z
  ·rw[z]at lt;exact absurd lt (bx _)
  ·have z':b=(s.heap.push (lW w)).objs.size:=z;rw[z',sz]at lt;exact absurd (mz lt) (bx _)
end
end L2
namespace L2
open PySem PySem.W PySem.Spec PyProof.Rows
noncomputable def Kh{α:Type}(lt:Nat->Nat->Bool)(n:Nat):KasT α->(α->Prop)->Prop
 |.ret a,Q=>Q a
 |.ask i j k,Q=>i<n/\j<n/\Kh lt n (k (lt i j)) Q
section
variable{lt:Nat->Nat->Bool}{n:Nat}
theorem Kh.bind{α β:Type}{f:α->KasT β}{Q:β->Prop}:∀{t:KasT α},Kh lt n t (λa=>Kh lt n (f a) Q)->Kh lt n (t.bind f) Q
 |.ret _,h=>h
 |.ask _ _ _,h=>⟨h.1,h.2.1,Kh.bind h.2.2⟩
theorem Kh.mono{α:Type}{Q Q':α->Prop}(q:∀a,Q a->Q' a):∀{t:KasT α},Kh lt n t Q->Kh lt n t Q'
 |.ret _,h=>q _ h
 |.ask _ _ _,h=>⟨h.1,h.2.1,Kh.mono q h.2.2⟩
theorem Kh.wp{α:Type}{cmp:Nat->Nat->(Bool->ae->Prop)->ae->Prop}{Q:α->ae->Prop}{s:ae}(hc:∀i j,i<n->j<n->∀C:Bool->ae->Prop,C (lt i j) s->cmp i j C s):∀{t:KasT α},Kh lt n t (λa=>Q a s)->t.kasWp cmp Q s
 |.ret _,h=>h
 |.ask i j _,h=>hc i j h.1 h.2.1 _ (Kh.wp hc h.2.2)
structure sQ(lt:Nat->Nat->Bool)(n:Nat):Prop where
 tr:∀i j k,i<n->j<n->k<n->lt i j=c_->lt j k=c_->lt i k=c_
 co:∀i j,i<n->j<n->i≠j->lt i j=d_->lt j i=c_
 as:∀i j,i<n->j<n->lt i j=c_->lt j i=d_
abbrev pg(p:Array Nat)(k:Nat):Nat:=p.getD k 0
structure Pm(p:Array Nat)(n:Nat):Prop where
 sz:p.size=n
 lt:∀k,k<n->pg p k<n
 inj:∀i j,i<n->j<n->pg p i=pg p j->i=j
 pm:p.toList.Perm (ax n)
def sj{p:Array Nat}{k:Nat}(h:k<p.size):p[k]?=a_ (pg p k):=by
 simp[pg,vG,h]
def Jm{p:Array Nat}{k x:Nat}(h:p[k]?=a_ x):pg p k=x:=by
 simp[pg,c7,h]
def Pm.of{p:Array Nat}(h:p.toList.Perm (ax n)):Pm p n:=by
 have sz:p.size=n:=by rw[<-aR,h.length_eq,bQ]
 refine⟨sz,λk hk=>?_,λi j hi hj e=>?_,h⟩
 ·have:pg p k∈p.toList:=by
   have:=sj (p:=p) (k:=k) (by omega);rw[<-dA]at this;exact dO this
  exact aZ.mp (h.mem_iff.mp this)
 ·have hn:p.toList.Nodup:=h.nodup_iff.mpr fX;have a:=sj (p:=p) (k:=i) (by omega);have b:=sj (p:=p) (k:=j) (by omega);rw[<-dA]at a b;rw[e]at a;exact(HI (by rw[aR];omega) hn).mp (a.trans b.symm)
def Pm.perm{p q:Array Nat}(h:Pm p n)(x:q.Perm p):Pm q n:=.of ((Array.perm_iff_toList_perm.mp x).trans h.pm)
def Up(lt:Nat->Nat->Bool)(p:Array Nat)(m:Nat):Prop:=∀i j,i<j->j<m->lt (pg p i) (pg p j)=c_
def Dn(lt:Nat->Nat->Bool)(p:Array Nat)(m:Nat):Prop:=∀i j,i<j->j<m->lt (pg p j) (pg p i)=c_
variable{p:Array Nat}
def Up.one:Up lt p 1:=λi j h1 h2=>by omega
def Up.next(o:sQ lt n)(q:Pm p n){a:Nat}(h1:1<=a)(ha:a<n)(u:Up lt p a)(c:lt (pg p (a - 1)) (pg p a)=c_):Up lt p (a+1):=λi j hij hj=>by
 by_cases e:j=a
 ·subst e;by_cases e2:i=j - 1
  ·subst e2;exact c
  ·exact o.tr _ _ _ (q.lt i (by omega)) (q.lt (j - 1) (by omega)) (q.lt j ha) (u i (j - 1) (by omega) (by omega)) c
 ·exact u i j hij (by omega)
def Dn.next(o:sQ lt n)(q:Pm p n){a:Nat}(h1:1<=a)(ha:a<n)(u:Dn lt p a)(c:lt (pg p a) (pg p (a - 1))=c_):Dn lt p (a+1):=λi j hij hj=>by
 by_cases e:j=a
 ·subst e;by_cases e2:i=j - 1
  ·subst e2;exact c
  ·exact o.tr _ _ _ (q.lt j ha) (q.lt (j - 1) (by omega)) (q.lt i (by omega)) c (u i (j - 1) (by omega) (by omega))
 ·exact u i j hij (by omega)
theorem C6(o:sQ lt n)(q:Pm p n):∀(f a:Nat),1<=a->a+f<=n->Up lt p a->Kh lt n (kas_asc p f a) (λm=>a<=m/\m<=a+f/\Up lt p m/\(m<a+f->lt (pg p m) (pg p (m - 1))=c_))
 |0,a,_,_,u=>⟨aC _,aC _,u,λh=>by omega⟩
 |f+1,a,h1,ha,u=>by
   refine⟨q.lt a (by omega),q.lt (a - 1) (by omega),?_⟩;show Kh lt n (if lt (pg p a) (pg p (a - 1))=c_ then .ret a else kas_asc p f (a+1)) _;by_cases c:lt (pg p a) (pg p (a - 1))=c_
   ·rw[if_pos c];exact⟨aC _,by omega,u,λ_=>c⟩
   ·rw[if_neg c];have c':=o.co _ _ (q.lt a (by omega)) (q.lt (a - 1) (by omega)) (λe=>by have:=q.inj _ _ (by omega) (by omega) e;omega) (by simpa using c);exact Kh.mono (λm ⟨x1,x2,x3,x4⟩=>⟨by omega,by omega,x3,λh=>x4 (by omega)⟩) (C6 o q f (a+1) (by omega) (by omega) (Up.next o q h1 (by omega) u c'))
theorem ER(o:sQ lt n)(q:Pm p n):∀(f a:Nat),1<=a->a+f<=n->Dn lt p a->Kh lt n (Bz f p a 0) (λr=>r.1=p/\r.2.2=0/\a<=r.2.1/\r.2.1<=a+f/\Dn lt p r.2.1)
 |0,a,_,_,u=>⟨rfl,rfl,aC _,aC _,u⟩
 |f+1,a,h1,ha,u=>by
   refine⟨q.lt a (by omega),q.lt (a - 1) (by omega),?_⟩
   show Kh lt n (if lt (pg p a) (pg p (a - 1))=c_ then(if 0 > 0 then Bz f (kas_rev p (a - (0+1)) a) (a+1) 0 else Bz f p (a+1) 0)
    else .ask (pg p (a - 1)) (pg p a) λd=>if d=c_ then .ret (p,a,0)else Bz f p (a+1) (0+1)) _
   by_cases c:lt (pg p a) (pg p (a - 1))=c_
   ·rw[if_pos c,if_neg (by omega)];exact Kh.mono (λm ⟨x0,x1,x2,x3,x4⟩=>⟨x0,x1,by omega,by omega,x4⟩) (ER o q f (a+1) (by omega) (by omega) (Dn.next o q h1 (by omega) u c))
   ·rw[if_neg c];have c':=o.co _ _ (q.lt a (by omega)) (q.lt (a - 1) (by omega)) (λe=>by have:=q.inj _ _ (by omega) (by omega) e;omega) (by simpa using c);refine⟨q.lt (a - 1) (by omega),q.lt a (by omega),?_⟩;rw[c'];show Kh lt n (if c_=c_ then KasT.ret (p,a,0)else Bz f p (a+1) (0+1)) _;rw[if_pos rfl];exact⟨rfl,rfl,aC _,by show a<=a+(f+1);omega,u⟩
def Q9(q:Pm p n){m:Nat}(hm:m<=n)(u:Dn lt p m):Up lt (kas_rev p 0 m) m:=λi j hij hj=>by
 have e:∀k,k<m->pg (kas_rev p 0 m) k=pg p (m - 1 - k):=λk hk=>by
  refine Jm ?_;show(mirror p 0 m ((m - 0) / 2))[k]?=_;rw[getElem?_mirror_all (by rw[q.sz];omega),if_pos ⟨bY _,hk⟩,show 0+m - 1 - k=m - 1 - k by omega];exact sj (by rw[q.sz];omega)
 rw[e i (by omega),e j hj];exact u _ _ (by omega) (by omega)
def Mj(o:sQ lt n)(q:Pm p n){m:Nat}(h1:1<=m)(hm:m<=n)(u:Dn lt p m):Kh lt n (kas_tail3 m n p) (λr=>Pm r.2 n/\1<=r.1/\r.1<=n/\Up lt r.2 r.1):=by
 have q':Pm (kas_rev p 0 m) n:=q.perm (mirror_perm ..);exact Kh.bind (Kh.mono (λa ⟨x1,x2,x3,_⟩=>⟨q',by show 1<=a;omega,by show a<=n;omega,x3⟩) (C6 o q' (n - m) m h1 (by omega) (Q9 q hm u)))
def KZ(o:sQ lt n)(q:Pm p n)(h2:2<=n):Kh lt n (kas_count n p) (λr=>Pm r.2 n/\1<=r.1/\r.1<=n/\Up lt r.2 r.1):=by
 refine Kh.bind (Kh.mono (λm ⟨x1,x2,x3,x4⟩=>?_) (C6 o q (n - 1) 1 (aC _) (by omega) Up.one));by_cases e:(m == n)=c_
 ·rw[if_pos e];exact⟨q,x1,by show m<=n;omega,x3⟩
 ·rw[if_neg e];have e':m≠n:=λz=>e (by simp[z]);by_cases g:m > 1
  ·rw[if_pos g];refine⟨q.lt 0 (by omega),q.lt (m - 1) (by omega),?_⟩;have c:=x3 0 (m - 1) (by omega) (by omega);show Kh lt n (if lt (pg p 0) (pg p (m - 1))=c_ then _ else _) _;rw[c,if_pos rfl];exact⟨q,x1,by show m<=n;omega,x3⟩
  ·rw[if_neg g];obtain rfl:m=1:=by omega
   have c:=x4 (by omega);refine Kh.bind (Kh.mono (λr ⟨y0,y1,y2,y3,y4⟩=>?_) (ER o q (n - (1+1)) (1+1) (by omega) (by omega) (Dn.next o q (aC _) (by omega) (λi j h h'=>by omega) c)));rw[if_neg (by omega),y0];exact Mj o q (by omega) (by omega) y4
theorem uw(o:sQ lt n)(q:Pm p n){k:Nat}(hk:k<n)(u:Up lt p k):∀(f l r:Nat),r - l<=f->l<=r->r<=k->(∀i,i<l->lt (pg p k) (pg p i)=d_)->(∀i,r<=i->i<k->lt (pg p k) (pg p i)=c_)->
  Kh lt n (kas_place p k f l r) (λm=>m<=k/\(∀i,i<m->lt (pg p k) (pg p i)=d_)/\∀i,m<=i->i<k->lt (pg p k) (pg p i)=c_)
 |0,l,r,hf,hl,hr,a,b=>⟨by omega,a,λi h=>b i (by omega)⟩
 |f+1,l,r,hf,hl,hr,a,b=>by
   show Kh lt n (if l>=r then .ret l else _) _;by_cases g:l>=r
   ·rw[if_pos g];exact⟨by omega,a,λi h=>b i (by omega)⟩
   ·rw[if_neg g];refine⟨q.lt k hk,q.lt _ (by omega),?_⟩;show Kh lt n (if lt (pg p k) (pg p ((l+r) / 2))=c_ then _ else _) _;by_cases c:lt (pg p k) (pg p ((l+r) / 2))=c_
    ·rw[if_pos c];refine uw o q hk u f l ((l+r) / 2) (by omega) (by omega) (by omega) a λi h1 h2=>?_;by_cases e:i=(l+r) / 2
     ·rw[e];exact c
     ·exact o.tr _ _ _ (q.lt k hk) (q.lt _ (by omega)) (q.lt i (by omega)) c (u _ _ (by omega) h2)
    ·rw[if_neg c];refine uw o q hk u f ((l+r) / 2+1) r (by omega) (by omega) hr (λi h1=>?_) b;by_cases e:i=(l+r) / 2
     ·rw[e];simpa using c
     ·cases d:lt (pg p k) (pg p i)with
      |false=>rfl
      |true=>exact absurd (o.tr _ _ _ (q.lt k hk) (q.lt i (by omega)) (q.lt _ (by omega)) d (u i ((l+r) / 2) (by omega) (by omega))) c
def Ri(o:sQ lt n)(q:Pm p n){k m:Nat}(hk:k<n)(hm:m<=k)(u:Up lt p k)(a:∀i,i<m->lt (pg p k) (pg p i)=d_)(b:∀i,m<=i->i<k->lt (pg p k) (pg p i)=c_):Up lt (bubble p k (k - m)) (k+1):=λi j hij hj=>by
 have e:∀x,x<=k->pg (bubble p k (k - m)) x=if x=m then pg p k else if m<x then pg p (x - 1)else pg p x:=λx hx=>by
  refine Jm ?_;rw[getElem?_bubble (by rw[q.sz];exact hk) _ (by omega),show k - (k - m)=m by omega];by_cases h1:x=m
  ·rw[if_pos h1,if_pos h1];exact sj (by rw[q.sz];exact hk)
  ·rw[if_neg h1,if_neg h1];by_cases h2:m<x
   ·rw[if_pos ⟨h2,hx⟩,if_pos h2];exact sj (by rw[q.sz];omega)
   ·rw[if_neg (by omega),if_neg h2];exact sj (by rw[q.sz];omega)
 have low:∀x,x<m->lt (pg p x) (pg p k)=c_:=λx hx=>o.co _ _ (q.lt k hk) (q.lt x (by omega)) (λz=>by have:=q.inj _ _ hk (by omega) z;omega) (a x hx);rw[e i (by omega),e j (by omega)];by_cases i1:i=m
 ·rw[if_pos i1,if_neg (by omega),if_pos (by omega)];exact b (j - 1) (by omega) (by omega)
 ·rw[if_neg i1];by_cases i2:m<i
  ·rw[if_pos i2,if_neg (by omega),if_pos (by omega)];exact u (i - 1) (j - 1) (by omega) (by omega)
  ·rw[if_neg i2];by_cases j1:j=m
   ·rw[if_pos j1];exact low i (by omega)
   ·rw[if_neg j1];by_cases j2:m<j
    ·rw[if_pos j2];by_cases z:j - 1=i
     ·omega
     ·exact u i (j - 1) (by omega) (by omega)
    ·rw[if_neg j2];exact u i j hij (by omega)
theorem Lh(o:sQ lt n):∀(f k:Nat)(p:Array Nat),Pm p n->k+f=n->Up lt p k->Kh lt n (kas_bin f p k) (λr=>Pm r n/\Up lt r n)
 |0,k,p,q,h,u=>⟨q,by rw[<-h];exact u⟩
 |f+1,k,p,q,h,u=>by
   refine Kh.bind (Kh.mono (λm ⟨x1,x2,x3⟩=>?_) (uw o q (by omega) u k 0 k (by omega) (by omega) (aC _) (λi h=>by omega) λi h1 h2=>by omega));exact Lh o f (k+1) _ (q.perm (bubble_perm ..)) (by omega) (Ri o q (by omega) x1 u x2 x3)
def MB(o:sQ lt n)(h2:2<=n):Kh lt n (kas_sort n) (λr=>Pm r n/\Up lt r n):=by
 have q:Pm (List.toArray (ax n)) n:=.of (by simp);refine Kh.bind (Kh.mono (λr ⟨x1,x2,x3,x4⟩=>?_) (KZ o q h2));by_cases g:r.1<n
 ·rw[if_pos g];exact Lh o _ _ _ x1 (by omega) (by rw[show max r.1 1=r.1 by omega];exact x4)
 ·rw[if_neg g];exact⟨x1,by rw[show n=r.1 by omega];exact x4⟩
end
noncomputable def qd{α:Type}[DecidableEq α](f:α->α->Bool):List α->List α->Bool
 |[],[]=>d_
 |[],_::_=>c_
 |_::_,[]=>d_
 |x::xs,y::ys=>if x=y then qd f xs ys else f x y
structure LO{α:Type}(f:α->α->Bool):Prop where
 tr:∀a b c,f a b=c_->f b c=c_->f a c=c_
 co:∀a b,a≠b->f a b=d_->f b a=c_
 ir:∀a,f a a=d_
def LO.as{α:Type}{f:α->α->Bool}(h:LO f){a b:α}(x:f a b=c_):f b a=d_:=by
 cases q:f b a with
 |false=>rfl
 |true=>have:=h.tr _ _ _ x q;rw[h.ir]at this;cases this
def LO.int:LO (λi j:Int=>decide (i<j)):=
 ⟨λa b c x y=>by simp only[decide_eq_true_eq]at *;omega,λa b n x=>by simp only[decide_eq_false_iff_not,decide_eq_true_eq]at *;omega,λa=>by simp⟩
section
variable{α:Type}[DecidableEq α]{f:α->α->Bool}
def kK{x y:α}{xs ys:List α}:qd f (x::xs) (y::ys)=if x=y then qd f xs ys else f x y:=rfl
def LO.lex(h:LO f):LO (qd f):=by
 refine⟨λa=>?_,λa=>?_,λa=>?_⟩
 ·induction a with
  |nil=>
    intro b c x y
    cases b with
    |nil=>cases x
    | cons _ _=>cases c with
      |nil=>cases y
      |cons _ _=>rfl
  |cons p a ih=>
    intro b c x y
    cases b with
    |nil=>cases x
    |cons q b=>
      cases c with
      |nil=>cases y
      |cons r c=>
        rw[kK]at x y ⊢;by_cases e1:p=q
        ·subst e1;rw[if_pos rfl]at x;by_cases e2:p=r
         ·subst e2;rw[if_pos rfl]at y ⊢;exact ih b c x y
         ·rw[if_neg e2]at y ⊢;exact y
        ·rw[if_neg e1]at x;by_cases e2:q=r
         ·subst e2;rw[if_neg e1];exact x
         ·rw[if_neg e2]at y;have z:=h.tr _ _ _ x y;rw[if_neg λe=>by rw[<-e]at z;rw[h.ir]at z;cases z];exact z
 ·induction a with
  |nil=>
    intro b n x
    cases b with
    |nil=>exact absurd rfl n
    |cons _ _=>cases x
  |cons p a ih=>
    intro b n x
    cases b with
    |nil=>rfl
    |cons q b=>
      rw[kK]at x ⊢;by_cases e:p=q
      ·subst e;rw[if_pos rfl]at x ⊢;exact ih b (λz=>n (by rw[z])) x
      ·rw[if_neg e]at x;rw[if_neg λz=>e z.symm];exact h.co _ _ e x
 ·induction a with
  |nil=>rfl
  |cons p a ih=>rw[kK,if_pos rfl];exact ih
end
abbrev Hn:List Int->List Int->Bool:=qd λi j=>decide (i<j)
abbrev V2:List (List Int)->List (List Int)->Bool:=qd Hn
abbrev sr:List (List (List Int))->List (List (List Int))->Bool:=qd V2
def NX:LO Hn:=LO.int.lex
def mO:LO sr:=LO.int.lex.lex.lex
def NY{i j:Int}:Hn [i] [j]=decide (i<j):=by
 show(if i=j then d_ else decide (i<j))=decide (i<j);by_cases e:i=j
 ·rw[if_pos e,e];simp
 ·rw[if_neg e]
theorem xV:∀l l':List Nat,Hn (l.map eN) (l'.map eN)=decide (l<l')
 |[],[]=>by simp[Hn,qd]
 |[],_::_=>by simp[Hn,qd]
 |_::_,[]=>by simp[Hn,qd]
 |a::l,b::l'=>by
   have ih:=xV l l';show(if eN a=eN b then Hn (l.map eN) (l'.map eN)else decide (eN a<eN b))=_;by_cases e:a=b
   ·subst e;rw[if_pos rfl,ih]
    exact decide_eq_decide.mpr (by rw[BH];constructor
                                   ·exact λh=>.inr ⟨rfl,h⟩
                                   ·rintro(h|h)
                                    ·exact absurd h (bx _)
                                    ·exact h.2)
   ·rw[if_neg λz=>e (Hl z)];refine decide_eq_decide.mpr ?_;rw[BH];constructor
    ·exact λh=>.inl (Int.ofNat_lt.mp h)
    ·rintro(h|h)
     ·exact Int.ofNat_lt.mpr h
     ·exact absurd h.1 e
noncomputable def cK:Key->List Int
 |.inl i=>[i]
 |.inr x=>x.cps.toList.map eN
noncomputable def iK:Key->Int
 |.inl i=>i
 |.inr _=>0
noncomputable def sK:Key->Bool
 |.inl _=>c_
 |.inr _=>d_
noncomputable def c2:N2->List Int
 |.inl k=>cK k
 |.inr ks=>ks.map iK
noncomputable def s2:N2->Nat
 |.inl (.inl _)=>0
 |.inl (.inr _)=>1
 |.inr ks=>if ks.all sK=c_ then 2 else 3
noncomputable def sI:N2->Bool
 |.inl k=>sK k
 |.inr _=>d_
noncomputable def S7:N2->Int
 |.inl k=>iK k
 |.inr _=>0
noncomputable def cN:NK->List (List Int)
 |.inl k=>[cK k]
 |.inr ks=>if ks.all sI=c_ then [ks.map S7]else ks.map c2
noncomputable def sN:NK->List Nat
 |.inl (.inl _)=>[0]
 |.inl (.inr _)=>[1]
 |.inr ks=>if ks.all sI=c_ then [2]else 3::ks.map s2
noncomputable def vI:List Nat->Bool
 |3::l=>l.all λn=>decide (n<3)
 |_=>c_
theorem Ko:∀{x y:List Key},x.all sK=c_->y.all sK=c_->x.map iK=y.map iK->x=y
 |[],[],_,_,_=>rfl
 |[],_::_,_,_,h=>by cases h
 |_::_,[],_,_,h=>by cases h
 |.inl i::x,.inl j::y,hx,hy,h=>by
   simp only[ag,dw,iK]at h;simp only[cu,aq]at hx hy;rw[h.1,Ko hx.2 hy.2 h.2]
 |.inr _::_,_::_,hx,_,_=>by simp[sK]at hx
 |_::_,.inr _::_,_,hy,_=>by simp[sK]at hy
def Lb{x y:Key}(hs:sK x=sK y)(h:cK x=cK y):x=y:=by
 cases x with
 |inl i=>
   cases y with
   |inl j=>simp only[cK,dw,and_true]at h;rw[h]
   |inr b=>cases hs
 |inr a=>
   cases y with
   |inl j=>cases hs
   |inr b=>
     simp only[cK]at h;have:=(qF (λ_ _ z=>Hl z)).mp h;cases a;cases b;simp only at this;rw[Array.toList_inj.mp this]
def Lf{x y:N2}(hs:s2 x=s2 y)(h3:s2 x<3)(h:c2 x=c2 y):x=y:=by
 cases x with
 |inl a=>
   cases y with
   |inl b=>rw[Lb (by cases a<;>cases b<;>first|rfl|cases hs) h]
   |inr ks=>cases a<;>(simp only[s2]at hs;split at hs<;>cases hs)
 |inr ks=>
   cases y with
   |inl b=>cases b<;>(simp only[s2]at hs;split at hs<;>cases hs)
   |inr ks'=>
     simp only[s2]at hs h3;by_cases c1:ks.all sK=c_
     ·rw[if_pos c1]at hs;by_cases c2:ks'.all sK=c_
      ·rw[Ko c1 c2 h]
      ·rw[if_neg c2]at hs;cases hs
     ·rw[if_neg c1]at h3;omega
theorem Kp:∀{x y:List N2},x.all sI=c_->y.all sI=c_->x.map S7=y.map S7->x=y
 |[],[],_,_,_=>rfl
 |[],_::_,_,_,h=>by cases h
 |_::_,[],_,_,h=>by cases h
 |.inl (.inl i)::x,.inl (.inl j)::y,hx,hy,h=>by
   simp only[ag,dw,S7,iK]at h;simp only[cu,aq]at hx hy;rw[h.1,Kp hx.2 hy.2 h.2]
 |.inl (.inr _)::_,_::_,hx,_,_=>by simp[sI,sK]at hx
 |.inr _::_,_::_,hx,_,_=>by simp[sI]at hx
 |_::_,.inl (.inr _)::_,_,hy,_=>by simp[sI,sK]at hy
 |_::_,.inr _::_,_,hy,_=>by simp[sI]at hy
theorem E5:∀{x y:List N2},x.map s2=y.map s2->(∀n∈x.map s2,n<3)->x.map c2=y.map c2->x=y
 |[],[],_,_,_=>rfl
 |[],_::_,h,_,_=>by cases h
 |_::_,[],h,_,_=>by cases h
 |a::x,b::y,h,h3,e=>by
   simp only[ag,dw]at h e;rw[Lf h.1 (h3 _ (by simp)) e.1,E5 h.2 (λn hn=>h3 n (by simp only[ag];exact ib _ hn)) e.2]
def Jz{l:List Nat}(h:vI (3::l)=c_):∀n∈l,n<3:=λn hn=>by
 have:=aY.mp (show(l.all λn=>decide (n<3))=c_ from h) n hn;simpa using this
def uo{x y:NK}(hs:sN x=sN y)(h3:vI (sN x)=c_):(∃a b,x=.inl a/\y=.inl b/\sK a=sK b)\/(∃a b,x=.inr a/\y=.inr b/\a.all sI=c_/\b.all sI=c_)\/
  ∃a b,x=.inr a/\y=.inr b/\¬a.all sI=c_/\¬b.all sI=c_/\a.map s2=b.map s2/\∀n∈a.map s2,n<3:=by
 cases x with
 |inl a=>
   cases y with
   |inl b=>exact .inl ⟨a,b,rfl,rfl,by cases a<;>cases b<;>first|rfl|(simp[sN]at hs)⟩
   |inr ks=>exfalso;cases a<;>(simp only[sN]at hs;split at hs<;>simp at hs)
 |inr a=>
   cases y with
   |inl b=>exfalso;cases b<;>(simp only[sN]at hs;split at hs<;>simp at hs)
   |inr b=>
     simp only[sN]at hs h3;by_cases q1:a.all sI=c_
     ·by_cases q2:b.all sI=c_
      ·exact .inr (.inl ⟨a,b,rfl,rfl,q1,q2⟩)
      ·rw[if_pos q1,if_neg q2]at hs;simp at hs
     ·rw[if_neg q1]at hs h3;by_cases q2:b.all sI=c_
      ·rw[if_pos q2]at hs;simp at hs
      ·rw[if_neg q2]at hs;exact .inr (.inr ⟨a,b,rfl,rfl,q1,q2,(fI hs).2,Jz h3⟩)
def K9{x y:NK}(hs:sN x=sN y)(h3:vI (sN x)=c_)(h:cN x=cN y):x=y:=by
 rcases uo hs h3 with⟨a,b,rfl,rfl,q⟩|⟨a,b,rfl,rfl,q1,q2⟩|⟨a,b,rfl,rfl,q1,q2,q3,q4⟩
 ·rw[Lb q (fI h).1]
 ·simp only[cN]at h;rw[if_pos q1,if_pos q2]at h;rw[Kp q1 q2 (fI h).1]
 ·simp only[cN]at h;rw[if_neg q1,if_neg q2]at h;rw[E5 q3 q4 h]
section
variable{P:aP}{w:bo}{A:br}{E:ab->ae->Prop}{z0:ae}
def JX{I:Ik P w}{α:Type}[DecidableEq α]{f:α->α->Bool}{c:I.κ->α}{R:I.κ->I.κ->Prop}{x y:List I.κ}{p b:ai}{G:Fin->ae->Prop}(i_:A.units+I.d<=cg)(ex:qI I z0.heap x p)(ey:qI I z0.heap y b)
  (hR:∀q∈x.zip y,R q.1 q.2)(ci:∀a b,R a b->c a=c b->a=b)
  (lt:∀(E:ab->ae->Prop)(a b:I.κ)(u v:ab)(Q:ab->ae->Prop),R a b->I.is z0.heap a u->I.is z0.heap b v->Q (.bool (f (c a) (c b))) z0->au (aB P w) A (compareOp .Lt u v) Q E z0)
  (h:G (.done (.ret (.bool (qd f (x.map c) (y.map c))))) z0):au (aB P w) A (fO.«tuple.__lt__» ⟨[.ref p,.ref b],[]⟩) G E z0:=by
 have gtb:=ey.typeIs;obtain⟨oa,xs,na,goa,_,gda,gia⟩:=ex;obtain⟨ob,ys,nb,gob,_,gdb,gib⟩:=ey;show au _ _ (isInstance (.ref b) (.type "tuple") >>= _) _ _ z0;refine wb9 (eU gtb pM ?_);simp only[if_false,aG,dh];refine wb9 (jJ goa gda ?_);refine wb9 (jJ gob gdb ?_);refine wb9 ?_
 refine hV _
  (λtl r z1=>r.1=b_/\z1=z0/\∃x' y' xs' ys',tl=List.zip xs' ys'/\qH I z0.heap x' xs'/\qH I z0.heap y' ys'/\(∀q∈x'.zip y',R q.1 q.2)/\
   qd f (x'.map c) (y'.map c)=qd f (x.map c) (y.map c)/\decide (xs'.length<ys'.length)=decide (xs.size<ys.size))
  _ ?_ ?_ _ _ ⟨rfl,rfl,x,y,xs.toList,ys.toList,rfl,gia,gib,hR,rfl,by simp⟩
 ·rintro⟨u,v⟩ tl r z1 ⟨ge,rfl,x',y',xs',ys',gz,hx',hy',hr,gdec,glen⟩
  cases hx' with
  |nil=>simp at gz
  | @cons k1 u' x'' xs'' h1 hx''=>
    cases hy' with
    |nil=>simp at gz
    | @cons k2 v' y'' ys'' h2 hy''=>
      simp only[lH,dw,fA]at gz;obtain⟨⟨rfl,rfl⟩,rfl⟩:=gz;rw[fA]at hr;rw[ag,ag,kK]at gdec;refine wb9 (I.eqb i_ h1 h2 (λgk=>?_) λgk=>?_)
      ·subst gk;simp only[if_false,aG,dh];refine wu9 ⟨rfl,rfl,x'',y'',xs'',ys'',rfl,hx'',hy'',λq hq=>hr q (ib _ hq),?_,by simpa using glen⟩;rw[if_pos rfl]at gdec;exact gdec
      ·simp only[iQ,if_true];rw[if_neg λe=>gk (ci _ _ (hr _ hJ) e)]at gdec;rw[<-gdec]at h;refine wb9 (iB (wb9 (lt _ k1 k2 _ _ _ (hr _ hJ) h1 h2 ?_)));exact wb9 (wu9 (wu9 (wu9 h)))
 ·rintro⟨r1,r2⟩ z1 ⟨ge,rfl,x',y',xs',ys',gz,hx',hy',hr,gdec,glen⟩;simp only at ge;subst ge;refine wu9 ?_;show G (.done (.ret (.bool (decide (xs.size<ys.size))))) z1;rw[<-gdec,]at h;rw[<-glen]
  cases hx' with
  |nil=>
    cases hy' with
    |nil=>exact h
    |cons _ _=>exact h
  |cons _ _=>
    cases hy' with
    |nil=>exact h
    |cons _ _=>simp at gz
def xU{I:Ik P w}{α:Type}[DecidableEq α]{f:α->α->Bool}{c:I.κ->α}{R:I.κ->I.κ->Prop}{x y:List I.κ}{p b:ai}{Q:ab->ae->Prop}(i_:A.units+(I.d+1)<=cg)(ex:qI I z0.heap x p)(ey:qI I z0.heap y b)
  (hR:∀q∈x.zip y,R q.1 q.2)(ci:∀a b,R a b->c a=c b->a=b)
  (lt:∀(A':br)(E:ab->ae->Prop)(a b:I.κ)(u v:ab)(Q:ab->ae->Prop),A'.units=A.units+1->R a b->I.is z0.heap a u->I.is z0.heap b v->Q (.bool (f (c a) (c b))) z0->au (aB P w) A' (compareOp .Lt u v) Q E z0)
  (h:Q (.bool (qd f (x.map c) (y.map c))) z0):au (aB P w) A (compareOp .Lt (.ref p) (.ref b)) Q E z0:=by
 show au _ _ (richCompare .Lt (.ref p) (.ref b)) _ _ _
 exact Bl (op:=.Lt) ex.typeIs ey.typeIs yN
  (bW yN ex.typeIs PySem.F.entry_tuple_lt (JX (by show A.units+1+I.d<=cg;omega) ex ey hR ci (λE a b u v Q=>lt _ E a b u v Q rfl) ⟨_,rfl,(λe=>nomatch e),h⟩) (PySem.F.args_tuple_lt_2 _ _)) (by omega)
def tL{k:Key}{v:ab}(h:(bT P w).is k v=c_)(hs:sK k=c_):∃t,v=.int (iK k) t:=by
 cases k with
 |inl i=>
   rcases cx (k:=.inl i) (v:=v) h with⟨i',t,e,rfl⟩|⟨x,t,e,_⟩
   ·cases e;exact⟨t,rfl⟩
   ·cases e
 |inr x=>cases hs
def JW{a b:Key}{u v:ab}{Q:ab->ae->Prop}(hs:sK a=sK b)(ex:(bT P w).is a u=c_)(ey:(bT P w).is b v=c_)(h:Q (.bool (Hn (cK a) (cK b))) z0):au (aB P w) A (compareOp .Lt u v) Q E z0:=by
 cases a with
 |inl i=>
   cases b with
   |inr _=>cases hs
   |inl j=>
     obtain⟨t1,rfl⟩:=tL (P:=P) (w:=w) ex rfl;obtain⟨t2,rfl⟩:=tL (P:=P) (w:=w) ey rfl;refine mV ?_;rw[show cK (.inl i)=[i]from rfl,show cK (.inl j)=[j]from rfl,NY]at h;exact h
 |inr a=>
   cases b with
   |inl _=>cases hs
   |inr c=>
     rcases cx (k:=.inr a) (v:=u) ex with⟨i',t,e,_⟩|⟨x1,t1,e1,rfl⟩
     ·cases e
     ·rcases cx (k:=.inr c) (v:=v) ey with⟨i',t,e,_⟩|⟨x2,t2,e2,rfl⟩
      ·cases e
      ·cases e1;cases e2;refine PyProof.Rows.lt_str ?_;have:=xV a.cps.toList c.cps.toList;rw[show cK (.inr a)=a.cps.toList.map eN from rfl,show cK (.inr c)=c.cps.toList.map eN from rfl,this]at h;exact h
def Ei{a b:Key}{u v:ab}{Q:ab->ae->Prop}(ha:sK a=c_)(hb:sK b=c_)(ex:(bT P w).is a u=c_)(ey:(bT P w).is b v=c_)(h:Q (.bool (decide (iK a<iK b))) z0):au (aB P w) A (compareOp .Lt u v) Q E z0:=by
 obtain⟨t1,rfl⟩:=tL ex ha;obtain⟨t2,rfl⟩:=tL ey hb;exact mV h
def Fd{α:Type}{p:α->Bool}{x y:List α}(hx:x.all p=c_)(hy:y.all p=c_):∀q∈x.zip y,p q.1=c_/\p q.2=c_:=λq hq=>
 ⟨aY.mp hx _ (jr hq).1,aY.mp hy _ (jr hq).2⟩
def JY{x y:N2}{u v:ab}{Q:ab->ae->Prop}(i_:A.units+1<=cg)(ex:(i2 P w).is z0.heap x u)(ey:(i2 P w).is z0.heap y v)(hs:s2 x=s2 y)(h3:s2 x<3)(h:Q (.bool (Hn (c2 x) (c2 y))) z0) :
  au (aB P w) A (compareOp .Lt u v) Q E z0:=by
 cases x with
 |inl a=>
   cases y with
   |inl b=>exact JW (by cases a<;>cases b<;>first|rfl|cases hs) ex ey h
   |inr ks=>cases a<;>(simp only[s2]at hs;split at hs<;>cases hs)
 |inr ks=>
   cases y with
   |inl b=>cases b<;>(simp only[s2]at hs;split at hs<;>cases hs)
   |inr ks'=>
     obtain⟨p,rfl,q⟩:=ex;obtain⟨b,rfl,q'⟩:=ey;simp only[s2]at hs h3;by_cases c1:ks.all sK=c_
     ·rw[if_pos c1]at hs;by_cases c2:ks'.all sK=c_
      ·exact xU (I:=Ct P w) (R:=λa b=>sK a=c_/\sK b=c_) i_ q q' (Fd c1 c2) (λa b hr e=>by
         match a,b,hr,e with
         |.inl i,.inl j,_,e=>exact congrArg _ e) (λA' E' a b u v Q _ hr e1 e2 hq=>Ei hr.1 hr.2 e1 e2 hq) h
      ·rw[if_neg c2]at hs;cases hs
     ·rw[if_neg c1]at h3;omega
def xW{a b:List Int}:V2 [a] [b]=Hn a b:=by
 rw[V2,kK];by_cases e:a=b
 ·rw[if_pos e,e,NX.ir];rfl
 ·rw[if_neg e]
theorem Eh{α β:Type}{f:α->β}:∀{x y:List α},x.map f=y.map f->∀q∈x.zip y,f q.1=f q.2
 |[],_,_,_,h=>by simp at h
 |_::_,[],_,_,h=>by simp at h
 |a::x,b::y,h,q,hq=>by
   rw[ag,ag]at h;obtain⟨h1,h2⟩:=fI h;rw[fA]at hq
   rcases ao.mp hq with rfl|hq
   ·exact h1
   ·exact Eh h2 q hq
def NW{x y:NK}{u v:ab}{Q:ab->ae->Prop}(i_:A.units+2<=cg)(ex:Yc P w z0.heap x u)(ey:Yc P w z0.heap y v)(hs:sN x=sN y)(h3:vI (sN x)=c_)(h:Q (.bool (V2 (cN x) (cN y))) z0) :
  au (aB P w) A (compareOp .Lt u v) Q E z0:=by
 rcases uo hs h3 with⟨a,b,rfl,rfl,q⟩|⟨a,b,rfl,rfl,q1,q2⟩|⟨a,b,rfl,rfl,q1,q2,q3,q4⟩
 ·simp only[cN]at h;rw[xW]at h;exact JW q ex ey h
 ·simp only[cN]at h;rw[if_pos q1,if_pos q2,xW]at h;obtain⟨p,rfl,r⟩:=ex;obtain⟨b,rfl,r'⟩:=ey;refine xU (I:=i2 P w) (R:=λa b=>sI a=c_/\sI b=c_) (f:=λi j=>decide (i<j)) (c:=S7) i_ r r' (Fd q1 q2) (λa b hr e=>?_) (λA' E' a b u v Q _ hr e1 e2 hq=>?_) h
  ·match a,b,hr,e with
   |.inl (.inl i),.inl (.inl j),_,e=>exact congrArg _ (congrArg _ e)
  ·match a,b,hr,e1,e2,hq with
   |.inl a,.inl b,hr,e1,e2,hq=>exact Ei hr.1 hr.2 e1 e2 hq
 ·simp only[cN]at h;rw[if_neg q1,if_neg q2]at h;obtain⟨p,rfl,r⟩:=ex;obtain⟨b,rfl,r'⟩:=ey;refine xU (I:=i2 P w) (R:=λa b=>s2 a=s2 b/\s2 a<3) (f:=Hn) (c:=c2) i_ r r' (λq hq=>⟨Eh q3 q hq,q4 _ (cL (jr hq).1)⟩) (λa b hr e=>Lf hr.1 hr.2 e) (λA' E' a b u v Q hA hr e1 e2 hq=>?_) h;exact JY (by rw[hA];omega) e1 e2 hr.1 hr.2 hq
end
end L2
namespace L2
open PySem PySem.Spec PyProof.Rows
def AR:entryFor table "set.__iter__"=a_ fO.«frozenset.__iter__» :=entryFor_alias (id':="frozenset.__iter__") (by kernel_rfl) rfl (by decide +kernel) (by kernel_rfl)
def oW:entryFor table "set_iterator.__next__"=a_ fO.«set_iterator.__next__» :=entryFor_of_tree (by kernel_rfl)
def fh:Slot "set_iterator" "__next__" "set_iterator.__next__":=.of (owner:="set_iterator") (n:="__next__") (by rw[typeLookup_type,Lx];kernel_rfl) (by decide +kernel) (by decide +kernel) (by decide +kernel) (.inl (by decide +kernel)) (by rw[mF];kernel_rfl)
def zR:Manifest.owners.lookup (String.ofList ['r','o','t','a','r','e','t','i','_','t','e','s'].reverse)=a_ Manifest.sig_set_iterator:=by kernel_rfl
def oY(a:ab):argsOk "set_iterator.__next__" ⟨[a],[]⟩:=by
 unfold argsOk;rw[signature?_of (id:="set_iterator.__next__") (n:=['_','_','t','x','e','n','_','_']) (o:=['r','o','t','a','r','e','t','i','_','t','e','s']) (by kernel_rfl) zR];kernel_rfl
theorem pz{α:Type}:∀{xs:List α}{i:Nat}(h:i<xs.length),(xs[i]::xs.eraseIdx i).Perm xs
 |x::r,0,_=>by simp
 |x::r,i+1,h=>by
   have:=pz (xs:=r) (i:=i) (by simpa using h);simp only[Bq,List.eraseIdx_cons_succ];exact(List.Perm.swap _ _ _).trans (this.cons x)
theorem DW{α:Type}(nx:Nat->Nat):∀(fuel k:Nat)(left:List α)(out:Array α),left.length<=fuel->(vw nx fuel k left out).toList.Perm (out.toList++left)
 |0,k,left,out,h=>by
   obtain rfl:left=[]:=zf.mp (by omega);simp only[vw,aX];exact .refl _
 |fuel+1,k,left,out,h=>by
   simp only[vw]
   cases q:left[nx k % left.length]? with
   |none=>
     have:left=[]:=by
      cases left with
      |nil=>rfl
      |cons x r=>
        have hlt:nx k % (x::r).length<(x::r).length:=iU _ (by simp);rw[aj hlt]at q;cases q
     subst this;simp
   |some x=>
     obtain⟨hlt,e⟩:=bC.mp q;have ih:=DW nx fuel (k+1) (left.eraseIdx (nx k % left.length)) (out.push x) (by rw[vU hlt];omega);refine ih.trans ?_;rw[Hm,cC];refine List.Perm.append_left _ ?_;rw[<-e];exact pz hlt
def qU{α:Type}(nx:Nat->Nat)(xs:Array α):(pickOrder nx xs).toList.Perm xs.toList:=by
 have:=DW nx xs.size 0 xs.toList #[] (by simp);simpa [pickOrder]using this
section
variable{prog:aP}{w:bo}{A:br}{E:ab->ae->Prop}{s:ae}
def G5{src:Source}{n:Nat}{Q:Nat->ae->Prop}(hn:n≠0)(k:∀i d,i<n->Q i { s with drawn:=d }):au (aB prog w) A (choose src n) Q E s:=λΓ p _=>by
 unfold choose;rw[Sem.wp_choose];exact⟨hn,k _ _ (iU _ (by omega))⟩
theorem EO{α:Type}:∀(n:Nat)(xs:List α)(s:ae){Q:List α->ae->Prop},xs.length<=n->(∀ys d,ys.Perm xs->Q ys { s with drawn:=d })->au (aB prog w) A (drawOrder n xs) Q E s
 |0,xs,s,Q,h,k=>by
   obtain rfl:xs=[]:=zf.mp (by omega);exact wu9 (k [] s.drawn (.refl _))
 |n+1,[],s,Q,h,k=>wu9 (k [] s.drawn (.refl _))
 |n+1,x::r,s,Q,h,k=>by
   simp only[drawOrder];refine wb9 (G5 (by simp) λi d hlt=>?_);rw[aj hlt];refine wb9 (EO n ((x::r).eraseIdx i) _ (by rw[vU hlt];omega) λys d pm=>wu9 (k _ d ?_));exact(pm.cons _).trans (pz hlt)
end
inductive Mode where
 |tx|dr (T:ai) (ps:List Nat)|pl
noncomputable def slotAt(t:aO):Nat->Nat
 |0=>0
 |i+1=>t.place.getD i 0+1
noncomputable def Mode.first(t:aO)(i:Nat):Mode->ab
 |.tx=>rawInt 0
 |.dr T _=>.ref T
 |.pl=>rawInt (slotAt t i)
noncomputable def Mode.Ok(w:bo)(es:Array (Int×ab))(t:aO)(h:bH)(I:ai):Mode->Prop
 |.tx=>w.params.followText "set-order"=c_
 |.dr T ps=>T≠I/\ps.Perm (ax es.size)/\h.get? T=a_ { cls:=.type "tuple",data:=.seq (ps.map λ(p:Nat)=>rawInt p).toArray }
 |.pl=>w.params.followText "set-order"=d_/\(!t.plain && decide (es.size > 1))=d_
noncomputable def Mode.ord(w:bo)(S:ai)(es:Array (Int×ab))(ep:Nat):Mode->List ab
 |.tx=>(pickOrder (w.params.setOrder S ep) es).toList.map (·.2)
 |.dr _ ps=>ps.map λp=>(es[p]?.map (·.2)).getD .none
 |.pl=>es.toList.map (·.2)
def Mode.uA{w:bo}{S:ai}{es:Array (Int×ab)}{ep:Nat}{t:aO}{h:bH}{I:ai}:∀{m:Mode},m.Ok w es t h I->(m.ord w S es ep).Perm (es.toList.map (·.2))
 |.tx,_=>(qU _ _).map _
 |.dr T ps,h=>by
   refine(h.2.1.map _).trans ?_;rw[show(ax es.size).map (λp=>(es[p]?.map (·.2)).getD c9)=es.toList.map (·.2)from ?_];apply gh (by simp);intro n h1 h2;simp at h1 h2;simp[h1]
 |.pl,_=>.refl _
structure Bf(w:bo)(h:bH)(I S:ai)(es:Array (Int×ab))(ep:Nat)(t:aO)(m:Mode)(i:Nat):Prop where
 it:h.get? I=a_ { cls:=.type "set_iterator",data:=.fields #[m.first t i,rawInt i,.ref S,rawInt es.size,rawInt ep] }
 st:jQ (l8 w) h S es ep t
 md:m.Ok w es t h I
 ne:S≠I
section
variable{prog:aP}{w:bo}{A:br}{E:ab->ae->Prop}{s:ae}{I S:ai}{es:Array (Int×ab)}{ep:Nat}{t:aO}{m:Mode}{i:Nat}
def Mode.Ok.keep{h h':bH}(y:m.Ok w es t h I)(k:∀b o,b≠I->h.get? b=a_ o->h'.get? b=a_ o):m.Ok w es t h' I:=by
 cases m with
 |dr T ps=>exact⟨y.1,y.2.1,k _ _ y.1 y.2.2⟩
 |_=>exact y
def oF{Q:Bool->ae->Prop}(k:Q (w.params.followText "set-order") s):au (aB prog w) A setsByText Q E s:=by
 unfold setsByText;exact wb9 (xp (wu9 k))
def Md{Q:Array (Int×ab)->ae->Prop}(y:jQ (l8 w) s.heap S es ep t)(h:w.params.followText "set-order"=c_)(k:Q (pickOrder (w.params.setOrder S ep) es) s):au (aB prog w) A (setWalk S) Q E s:=by
 unfold setWalk;refine wb9 (c8 y.obj rfl y.fits ?_);dsimp only;refine wb9 (oF ?_);rw[h,if_pos rfl];exact wb9 (xp (wu9 k))
def pf(y:jQ (l8 w) s.heap S es ep t):t.place.size=es.size:=by
 have:=y.fits;simp only[lq,aq,beq_iff_eq]at this;exact this.1
def Ea{Q:Option (ab×Nat)->ae->Prop}{g e:Nat}(y:jQ (l8 w) s.heap S es ep t)(h:w.params.followText "set-order"=d_)(hd:(!t.plain && decide (es.size > 1))=d_)(hi:i<=es.size)
  (k:Q (match es[i]? with|some x=>a_ (x.2,slotAt t (i+1))|none=>b_) s):au (aB prog w) A (setNext S (slotAt t i) g e) Q E s:=by
 unfold setNext;refine wb9 (c8 y.obj rfl y.fits ?_);dsimp only;refine wb9 (oF ?_);rw[h,if_neg bh];show au (aB prog w) A (if(!t.plain && decide (es.size > 1))=c_ then _ else _) Q E s;rw[hd,if_neg bh];show au (aB prog w) A ((if(!t.led && !es.isEmpty)=c_ then _ else pure ()) >>= _) Q E s;rw[y.ok.l,l8,h];rw[if_neg (by simp)];refine wb9 (wu9 (wu9 ?_))
 have hb:aD t.place (slotAt t i)=i:=by
  cases i with
  |zero=>exact Li y.ok.r
  |succ j=>
    have hj:j<t.place.size:=by rw[pf y];omega
    show aD t.place (t.place.getD j 0+1)=j+1;rw[show t.place.getD j 0=t.place[j] by rw[c7,aH hj];rfl];exact Lj y.ok.r hj
 rw[hb]
 cases q:es[i]? with
 |none=>rw[q]at k;exact k
 |some x=>
   rw[q]at k
   have hlt:i<es.size:=by
    rcases cj.mp q with⟨a,_⟩;exact a
   have hp:t.place[i]?=a_ (t.place[i]'(by rw[pf y];exact hlt)):=aH _;rw[hp];simp only[slotAt]at k;rw[show t.place.getD i 0=t.place[i]'(by rw[pf y];exact hlt) by rw[c7,hp];rfl]at k;exact k
def D9{Q:Option (ab×Nat)->ae->Prop}{sl:Nat}(y:jQ (l8 w) s.heap S es ep t)(h:w.params.followText "set-order"=c_)(k:Q (((pickOrder (w.params.setOrder S ep) es)[i]?).map λe=>(e.2,sl)) s):au (aB prog w) A (setNext S sl i ep) Q E s:=by
 unfold setNext;refine wb9 (c8 y.obj rfl y.fits ?_);dsimp only;refine wb9 (oF ?_);rw[h,if_pos rfl];simp only[bne_self_eq_false,aG,if_false];exact wb9 (Md y h (wu9 k))
def NM{Q:ab->ae->Prop}{p:Nat}{x:Int×ab}(y:jQ (l8 w) s.heap S es ep t)(hx:es[p]?=a_ x)(k:Q x.2 s):au (aB prog w) A (setNextDrawn S p ep) Q E s:=by
 unfold setNextDrawn;refine wb9 (c8 y.obj rfl y.fits ?_);dsimp only;simp only[bne_self_eq_false,aG,if_false];rw[hx];exact wu9 k
def Kg{a b c:ab}{Q:Fin->ae->Prop}{r:ab}(y:Bf w s.heap I S es ep t m i)(k:∀h',Bf w h' I S es ep t m (i+1)->cA I s.heap h'->Q (.done (.ret r)) { s with heap:=h' })(hf:a=m.first t (i+1))(hb:b=rawInt ((i:Int)+1)) :
  au (aB prog w) A (do setField (.ref I) 0 a;setField (.ref I) 1 b;ret r) Q E s:=by
 subst hf;subst hb;refine wb9 (cq y.it (by simp) λh1 g1 s1=>wb9 (cq g1 (by simp) λh2 g2 s2=>wu9 ?_));have kp:∀b o,b≠I->s.heap.get? b=a_ o->h2.get? b=a_ o:=λb o n e=>s2.extBut _ _ n (s1.extBut _ _ n e);refine k h2 ⟨?_,y.st.keep λo e=>kp _ _ y.ne e,y.md.keep kp,y.ne⟩ (s1.trans s2);rw[g2];simp
end
section
variable{prog:aP}{w:bo}{A:br}{E:ab->ae->Prop}{s:ae}{I S:ai}{es:Array (Int×ab)}{ep:Nat}{t:aO}{m:Mode}{i:Nat}
def DD{Q:Fin->ae->Prop}(y:Bf w s.heap I S es ep t m i)
  (k:au (aB prog w) A (if let .int slot _:=m.first t i then do
    match <-setNext S slot.toNat (i:Int).toNat (ep:Int).toNat with
    |some (x,next)=>do setField (.ref I) 0 (rawInt next);setField (.ref I) 1 (rawInt ((i:Int)+1));ret x
    |none=>do setField (.ref I) 2 .none;raiseNew (<-newExc (.type "StopIteration") [])
   else do
    let a_ places <-seqItems? (m.first t i)|unsupported "internal:set_iterator"
    match places[(i:Int).toNat]? with
    |some (.int place _)=>do let x <-setNextDrawn S place.toNat (ep:Int).toNat;setField (.ref I) 1 (rawInt ((i:Int)+1));ret x
    |some _=>unsupported "internal:set_iterator"
    |none=>do setField (.ref I) 0 (rawInt 0);setField (.ref I) 2 .none;raiseNew (<-newExc (.type "StopIteration") [])) Q E s) :
  au (aB prog w) A (fO.«set_iterator.__next__» ⟨[.ref I],[]⟩) Q E s:=by
 show au (aB prog w) A (fieldsOf (.ref I) >>= _) Q E s;refine wb9 (wpAny_fieldsOf y.it rfl ?_);dsimp only[rawInt];refine wb9 (O7 y.st.obj rfl y.st.fits ?_);simp only[bne_self_eq_false,aG,if_false];exact k
def xB{α:Type}{Q:α->ae->Prop}(nh:A.handled=b_)(k:∀h' e,(∀b o,s.heap.get? b=a_ o->h'.get? b=a_ o)->(∃o,h'.get? e=a_ o/\o.cls=.type "StopIteration")->E (.ref e) { s with heap:=h' }) :
  au (aB prog w) A (do raiseNew (<-newExc (.type "StopIteration") []):Sem α) Q E s:=by
 refine wb9 ?_;simp only[newExc,newTuple];refine wb9 (cG (wb9 (m:=firstArgMember _ _) (LQ (a:=c9) (by first|rfl|(simp only[firstArgMember];rfl)) (cG ?_ (by size_fits)))) (by size_fits));simp only[raiseNew];refine wb9 (wpAny_handled ?_);rw[nh];exact wb9 (wu9 (wpAny_throw (k _ _ (λb o e=>hp9 _ (hp9 _ e)) ⟨_,aL _ rfl,rfl⟩)))
def ME{Q:ab->ae->Prop}(y:Bf w s.heap I S es ep t m i)(hi:i<es.size)(k:∀h' v,(m.ord w S es ep)[i]?=a_ v->Bf w h' I S es ep t m (i+1)->cA I s.heap h'->Q v { s with heap:=h' }) :
  au (aB prog w) A (fO.«set_iterator.__next__» ⟨[.ref I],[]⟩) (λf s'=>∃v,f=.done (.ret v)/\Q v s') E s:=by
 refine DD y ?_
 cases m with
 |tx=>
   show au (aB prog w) A (setNext S 0 i ep >>= _) _ E s;refine wb9 (D9 y.st y.md ?_)
   have hz:(pickOrder (w.params.setOrder S ep) es).size=es.size:=by
    have:=(qU (w.params.setOrder S ep) es).length_eq;simpa using this
   have hl:i<(pickOrder (w.params.setOrder S ep) es).size:=by rw[hz];exact hi
   rw[aH hl];dsimp only[kW];refine Kg (c:=.none) y (λh' y' sb=>⟨_,rfl,k h' _ ?_ y' sb⟩) rfl rfl;simp only[Mode.ord,aW,dA];rw[aH hl];rfl
 |dr T ps=>
   obtain⟨y1,y2,y3⟩:=id y.md;show au (aB prog w) A (seqItems? (.ref T) >>= _) _ E s;refine wb9 (dq y3 rfl ?_);have hl:ps.length=es.size:=by rw[y2.length_eq,bQ]
   have hps:i<ps.length:=by omega
   have hp:ps[i]<es.size:=aZ.mp (y2.mem_iff.mp (bI hps));have hg:((ps.map λ(p:Nat)=>rawInt p).toArray)[(i:Int).toNat]?=a_ (rawInt (ps[i]:Nat)):=by simp[hps]
   dsimp only;rw[hg];dsimp only[rawInt];refine wb9 (NM (p:=ps[i]) y.st (aH hp) ?_);refine wb9 (cq y.it (by simp) λh1 g1 s1=>wu9 ⟨_,rfl,k h1 _ ?_ ⟨?_,y.st.keep λo e=>s1.extBut _ _ y.ne e,y.md.keep λb o n e=>s1.extBut _ _ n e,y.ne⟩ s1⟩)
   ·simp only[Mode.ord,aW];rw[aj hps];simp[aH hp]
   ·rw[g1];simp[Mode.first,rawInt]
 |pl=>
   show au (aB prog w) A (setNext S (slotAt t i) i ep >>= _) _ E s;refine wb9 (Ea y.st y.md.1 y.md.2 (kZ hi) ?_);rw[aH hi];dsimp only;refine Kg (c:=.none) y (λh' y' sb=>⟨_,rfl,k h' _ ?_ y' sb⟩) rfl rfl;simp[Mode.ord,hi]
def QH{Q:Fin->ae->Prop}(nh:A.handled=b_)(y:Bf w s.heap I S es ep t m es.size)(k:∀h' e,(∀b o,b≠I->s.heap.get? b=a_ o->h'.get? b=a_ o)->(∃o,h'.get? e=a_ o/\o.cls=.type "StopIteration")->E (.ref e) { s with heap:=h' }) :
  au (aB prog w) A (fO.«set_iterator.__next__» ⟨[.ref I],[]⟩) Q E s:=by
 refine DD y ?_
 cases m with
 |tx=>
   show au (aB prog w) A (setNext S 0 es.size ep >>= _) _ E s;refine wb9 (D9 y.st y.md ?_)
   have hz:(pickOrder (w.params.setOrder S ep) es).size=es.size:=by
    have:=(qU (w.params.setOrder S ep) es).length_eq;simpa using this
   rw[fj (by omega)];dsimp only[kW];refine wb9 (cq y.it (by simp) λh1 g1 s1=>?_);exact xB nh λh' e kp he=>k h' e (λb o n q=>kp _ _ (s1.extBut _ _ n q)) he
 |dr T ps=>
   obtain⟨y1,y2,y3⟩:=id y.md;show au (aB prog w) A (seqItems? (.ref T) >>= _) _ E s;refine wb9 (dq y3 rfl ?_);have hl:ps.length=es.size:=by rw[y2.length_eq,bQ]
   dsimp only;rw[fj (by simp[hl])];dsimp only;refine wb9 (cq y.it (by simp) λh1 g1 s1=>wb9 (cq g1 (by simp) λh2 g2 s2=>?_));exact xB nh λh' e kp he=>k h' e (λb o n q=>kp _ _ (s2.extBut _ _ n (s1.extBut _ _ n q))) he
 |pl=>
   show au (aB prog w) A (setNext S (slotAt t es.size) es.size ep >>= _) _ E s;refine wb9 (Ea y.st y.md.1 y.md.2 (aC _) ?_);rw[fj (by omega)];dsimp only;refine wb9 (cq y.it (by simp) λh1 g1 s1=>?_);exact xB nh λh' e kp he=>k h' e (λb o n q=>kp _ _ (s1.extBut _ _ n q)) he
def Bf.ty(y:Bf w s.heap I S es ep t m i):s.TypeIs (.ref I) "set_iterator":=⟨_,y.it,rfl⟩
def Mz{Q:Option ab->ae->Prop}(y:Bf w s.heap I S es ep t m i)(hi:i<es.size)(k:∀h' v,(m.ord w S es ep)[i]?=a_ v->Bf w h' I S es ep t m (i+1)->cA I s.heap h'->Q (a_ v) { s with heap:=h' }) :
  au (aB prog w) A (pyNext (.ref I)) Q E s:=by
 unfold pyNext;exact wb9 (sX (di (name:=aa "__next__") y.ty fh (bW fh y.ty oW (ME y hi λh' v a b c=>wu9 (k h' v a b c)) (oY _))))
def QG{Q:Option ab->ae->Prop}(nh:A.handled=b_)(y:Bf w s.heap I S es ep t m es.size)(k:∀h',(∀b o,b≠I->s.heap.get? b=a_ o->h'.get? b=a_ o)->Q b_ { s with heap:=h' }) :
  au (aB prog w) A (pyNext (.ref I)) Q E s:=by
 unfold pyNext;refine wb9 (sX (di (name:=aa "__next__") y.ty fh (bW fh y.ty oW (QH nh y λh' e kp he=>?_) (oY _))));obtain⟨o,ho,hc⟩:=he;exact wb9 (eU (T:="StopIteration") (b:=c_) ⟨o,ho,hc⟩ isSubtype_stop (wu9 (k _ kp)))
end
def vK:entryFor table "set_iterator.__iter__"=a_ fO.«dict_keyiterator.__iter__» :=entryFor_alias (id':="dict_keyiterator.__iter__") (by kernel_rfl) rfl (by decide +kernel) (by kernel_rfl)
def oR:Slot "set_iterator" "__iter__" "set_iterator.__iter__":=.of (owner:="set_iterator") (n:="__iter__") (by rw[typeLookup_type,Lx];kernel_rfl) (by decide +kernel) (by decide +kernel) (by decide +kernel) (.inl (by decide +kernel)) (by rw[mF];kernel_rfl)
def vM(a:ab):argsOk "set_iterator.__iter__" ⟨[a],[]⟩:=by
 unfold argsOk;rw[signature?_of (id:="set_iterator.__iter__") (n:=['_','_','r','e','t','i','_','_']) (o:=['r','o','t','a','r','e','t','i','_','t','e','s']) (by kernel_rfl) zR];kernel_rfl
noncomputable def Mode.fp:Mode->List ai
 |.dr T _=>[T]
 |_=>[]
section
variable{prog:aP}{w:bo}{A:br}{E:ab->ae->Prop}{s:ae}{I S:ai}{es:Array (Int×ab)}{ep:Nat}{t:aO}{m:Mode}{i:Nat}
def Bf.frame{h h':bH}(y:Bf w h I S es ep t m i)(k:∀b∈I::S::m.fp,∀o,h.get? b=a_ o->h'.get? b=a_ o):Bf w h' I S es ep t m i:=by
 refine⟨k I (.head _) _ y.it,y.st.keep λo e=>k S (.tail _ (.head _)) o e,?_,y.ne⟩
 cases m with
 |dr T ps=>exact⟨y.md.1,y.md.2.1,k T (.tail _ (.tail _ (.head _))) _ y.md.2.2⟩
 |tx=>exact y.md
 |pl=>exact y.md
def zB(hh:A.handled=b_):Walks prog w A I (I::S::m.fp) [I] es.size (λi v=>(m.ord w S es ep)[i]?=a_ v) (λi h=>Bf w h I S es ep t m i) where
 sub:=λb hb=>by rw[aF.mp hb];exact .head _
 frame:=λi h h' st k=>st.frame k
 item:=λi s Q E hi st k=>Mz st hi λh' v a b c=>k v h' s.toks a b λb o hb e=>c.extBut _ _ (λz=>hb (z▸aF.mpr rfl)) e
 done:=λs Q E st k=>QG hh st λh' kp=>k h' s.toks λb o hb e=>kp b o (λz=>hb (z▸aF.mpr rfl)) e
 self:=λi s Q E st k=>by
  refine wpAny_pyIter_slot st.ty oR (bW oR st.ty vK ?_ (vM _));show au _ _ (ret (.ref I)) _ _ s;exact wu9 ⟨_,rfl,"set_iterator",_,st.ty,fh.lookup,k⟩
def B8{Q:ab->ae->Prop}(y:jQ (l8 w) s.heap S es ep t)(hz:es.size<=aE)
  (k:∀(h1:bH)d I m,s.heap.objs.size<=I->(∀b∈m.fp,s.heap.objs.size<=b)->(∀b o,s.heap.get? b=a_ o->h1.get? b=a_ o)->Bf w h1 I S es ep t m 0->Q (.ref I) { s with heap:=h1,drawn:=d }) :
  au (aB prog w) A (Hx (.ref S)) Q E s:=by
 have ty:s.TypeIs (.ref S) "set":=⟨_,y.obj,rfl⟩
 have lt:=hl9 y.obj;refine wpAny_pyIter_slot ty yO (bW yO ty AR ?_ (PySem.F.args_set_iter_1 _));show au (aB prog w) _ (pb S >>= _) _ _ s;unfold pb;refine wb9 (wb9 (O7 y.obj rfl y.fits (wu9 ?_)))
 have dr:∀{A1:br}{E1:ab->ae->Prop}{Q1:Bool->ae->Prop},Q1 (!w.params.followText "set-order" && (!t.plain && decide (es.size > 1))) s->au (aB prog w) A1 (setDrawn S) Q1 E1 s:=by
  intro A1 E1 Q1 h;unfold setDrawn;refine wb9 (c8 y.obj rfl y.fits ?_);dsimp only;exact wb9 (oF (wu9 h))
 have one:∀{A1:br} {E1:ab->ae->Prop} {Q1:Fin->ae->Prop} {m:Mode} (s1:ae) (f:ab),f=m.first t 0->m.Ok w es t s1.heap s1.heap.objs.size->s.heap.objs.size<=s1.heap.objs.size->(∀b o,s.heap.get? b=a_ o->s1.heap.get? b=a_ o)->
   (∀h1,h1=s1.heap.push { cls:=.type "set_iterator",data:=.fields #[m.first t 0,rawInt (0:Nat),.ref S,rawInt es.size,rawInt ep] }->Bf w h1 s1.heap.objs.size S es ep t m 0->Q1 (.done (.ret (.ref s1.heap.objs.size))) { s1 with heap:=h1 })->
   au (aB prog w) A1 (do ret (<-newFields "set_iterator" [f,rawInt 0,.ref S,rawInt es.size,rawInt (<-setEpoch S)])) Q1 E1 s1:=by
  intro A1 E1 Q1 m s1 f hf ok le ex h;have y1:=y.keep (h':=s1.heap) λo e=>ex _ _ e;refine wb9 (wpAny_setEpoch_of y1.obj rfl y1.fits ?_);refine wb9 ?_;unfold newFields;refine cG ?_ (by size_fits);subst hf;exact wu9 (h _ rfl ⟨aL _ rfl,y1.keep λo e=>hp9 _ e,ok.keep λb o n e=>hp9 _ e,by have:=bw lt le;exact bu this⟩)
 refine wb9 (dr ?_)
 cases hb:w.params.followText "set-order" with
 |true=>
   simp only[dh,jI,aG,if_false];refine wb9 (wu9 ?_);refine one (m:=.tx) s _ rfl hb (aC _) (λb o e=>e) λh1 e1 y1=>⟨_,rfl,"set_iterator",_,y1.ty (s:={ s with heap:=h1 }),fh.lookup,?_⟩
   subst e1;exact k _ s.drawn _ .tx (aC _) (λb h=>by cases h) (λb o e=>hp9 _ e) y1
 |false=>
   cases hd:(!t.plain && decide (es.size > 1))with
   |false=>
     simp only[iQ,iR,aG,if_false];refine wb9 (wu9 ?_);refine one (m:=.pl) s _ rfl ⟨hb,hd⟩ (aC _) (λb o e=>e) λh1 e1 y1=>⟨_,rfl,"set_iterator",_,y1.ty (s:={ s with heap:=h1 }),fh.lookup,?_⟩
     subst e1;exact k _ s.drawn _ .pl (aC _) (λb h=>by cases h) (λb o e=>hp9 _ e) y1
   |true=>
     simp only[iQ,fq,if_true];refine wb9 (EO es.size (ax es.size) s (by simp) λps d pm=>?_);have hl:ps.length=es.size:=by rw[pm.length_eq,bQ]
     refine wb9 (By ?_ (by rw[ah,hl];exact hz));refine one (m:=.dr s.heap.objs.size ps) _ _ rfl ⟨?_,pm,?_⟩ ?_ ?_ ?_
     ·show s.heap.objs.size≠(s.heap.push _).objs.size;rw[cX];exact bu (gC _)
     ·exact aL _ rfl
     ·show s.heap.objs.size<=(s.heap.push _).objs.size;rw[cX];exact mB _
     ·exact λb o e=>hp9 _ e
     ·intro h1 e1 y1;refine⟨_,rfl,"set_iterator",_,y1.ty (s:={ s with heap:=h1,drawn:=d }),fh.lookup,?_⟩;subst e1;refine k _ d _ _ ?_ ?_ ?_ y1
      ·show s.heap.objs.size<=(s.heap.push _).objs.size;rw[cX];exact mB _
      ·intro b hb;rw[aF.mp hb];exact aC _
      ·exact λb o e=>hp9 _ (hp9 _ e)
end
section
variable{prog:aP}{w:bo}{A:br}{E:ab->ae->Prop}{s:ae}
def BY:splitId "set.__len__"=a_ ("set","__len__"):=by decide +kernel
def BW:splitId "str.__len__"=a_ ("str","__len__"):=by decide +kernel
def Qr:isSubtype (.type "str") (.type "str")=pure c_:=by rw[mF];kernel_rfl
def Ks{M:LW}{v:ab}{Q:Bool->ae->Prop}(ty:s.TypeIs v "set")(k:Q d_ s):au M A (gr v) Q E s:=by
 unfold gr;refine wb9 (jF ty PySem.F.slot_set_len.lookup ?_);dsimp only;rw[BY];dsimp only;refine wb9 (eU ty sub_set_self ?_);simp only[dh,aG,if_false];rw[if_pos (by decide +kernel)];refine wb9 (iA ty ?_);exact wu9 k
def Kr{M:LW}{v:ab}{Q:Bool->ae->Prop}(ty:s.TypeIs v "str")(k:Q d_ s):au M A (gr v) Q E s:=by
 unfold gr;refine wb9 (jF ty PySem.F.slot_str_len.lookup ?_);dsimp only;rw[BW];dsimp only;refine wb9 (eU ty Qr ?_);simp only[dh,aG,if_false];rw[if_pos (by decide +kernel)];refine wb9 (iA ty ?_);exact wu9 k
def Cv{ord:List ab}{acc:Array ab}(h:ItemsOf (λi v=>ord[i]?=a_ v) acc ord.length):acc.toList=ord:=by
 obtain⟨h1,h2⟩:=h;apply rY;intro i;by_cases hi:i<acc.size
 ·have:=h2 i acc[i] (aH hi);rw[this,dA,aH hi]
 ·rw[jW (by simpa using hi),jW (by omega)]
def n8{Q:List ab->ae->Prop}{S:ai}{es:Array (Int×ab)}{ep:Nat}{t:aO}(hh:A.handled=b_)(y:jQ (l8 w) s.heap S es ep t)(hz:es.size<=aE)
  (k:∀h1 d tk vs,(∀b o,s.heap.get? b=a_ o->h1.get? b=a_ o)->s.heap.objs.size<=h1.objs.size->vs.Perm (es.toList.map (·.2))->Q vs { s with heap:=h1,drawn:=d,toks:=tk }):au (aB prog w) A (collect (.ref S)) Q E s:=by
 unfold collect;refine wb9 (qK (fo sZ ?_));rw[dJ sY];show au _ A.in1 (newList [] >>= λl=>again (.builtin "list.__iadd__" ⟨[l,.ref S],[]⟩)) _ _ s;refine wb9 (cG ?_);refine wu9 (t5 (kT ji _) (fo vS ?_));rw[dJ ji];have lt:=hl9 y.obj;generalize hL:s.heap.objs.size=L;generalize hlo:({ cls:=.type "list",data:=.seq ([]:List ab).toArray }:fe)=lo;have y1:jQ (l8 w) (s.heap.push lo) S es ep t:=y.keep λo e=>hp9 _ e;have gL:(s.heap.push lo).get? L=a_ { cls:=.type "list",data:=.seq (#[]:Array ab) }:=by rw[<-hL];exact(aL _ (by rw[<-hlo];rfl)).trans (by rw[<-hlo])
 have szL:(s.heap.push lo).objs.size=L+1:=by rw[cX,hL]
 have ne:L≠S:=by rw[<-hL];exact kY lt
 have ty:o7 { s with heap:=s.heap.push lo } (.ref S) "set":=⟨_,y1.obj,rfl⟩
 show au _ A.in1 (gu (.ref L) (.ref S) (.ref L)) _ _ { s with heap:=s.heap.push lo };unfold gu;refine wb9 (iA ty ?_);have b1:kz (.ref L) (.ref S)=d_:=by simp[kz,ne]
 have b2:(eX "set" == eX "list")=d_:=by decide
 have b3:(eX "set" == eX "tuple")=d_:=by decide
 simp only[b1,b2,b3,yT,aG,if_false];refine wb9 (B8 y1 hz λh1 d I m hI hm ex it=>?_);have ty2:o7 { s with heap:=h1,drawn:=d } (.ref S) "set":=⟨_,it.st.obj,rfl⟩
 refine wb9 (bZ (Ks ty2 ?_));rw[if_pos (by decide +kernel)];refine wb9 (iB ?_);have g1:=ex _ _ gL;refine wb9 ?_;show au _ A.in1 (updateSeq L (·.push .none) >>= λ_=>updateSeq L (·.pop)) _ _ _;refine wb9 (wpAny_updateSeq g1 rfl ?_);have g2:=iy (eM (·.push c9)) g1 rfl;refine wpAny_updateSeq g2 rfl ?_;have g3:=iy (eM (·.pop)) g2 rfl
 have oth:∀b o,b≠L->h1.get? b=a_ o->((h1.update L (eM (·.push c9))).update L (eM (·.pop))).get? b=a_ o:=
  λb o n e=>(jG _ _ (eZ n)).trans ((jG _ _ (eZ n)).trans e)
 have hI':L<I:=by have:(s.heap.push lo).objs.size<=I:=hI;rw[szL]at this;exact this
 have nf:L∉I::S::m.fp:=by
  intro z
  rcases ao.mp z with z|z
  ·rw[z]at hI';exact absurd hI' (bx _)
  ·rcases ao.mp z with z|z
   ·exact ne z
   ·have:=hm _ z;have this':(s.heap.push lo).objs.size<=L:=this;rw[szL]at this';exact absurd this' (Nat.not_succ_le_self _)
 have W:=(zB (prog:=prog) (w:=w) (A:=A.in1) (I:=I) (S:=S) (es:=es) (ep:=ep) (t:=t) (m:=m) (by simp[hh])).toS;refine wu9 (t5 (kT vp _) (LV W hz _ nf _ es.size 0 _ _ _ rfl (bY _) (it.frame λb hb o e=>oth b o (λz=>nf (z▸hb)) e) g3 (O9 _) λs' acc c mv gS hacc=>?_));show au _ A (load L >>= _) _ _ s';refine wb9 (wpAny_load gS ?_);have hp:=Mode.uA (S:=S) (ep:=ep) it.md;have hl:(m.ord w S es ep).length=es.size:=by rw[hp.length_eq,ah,aR]
 rw[<-hl]at hacc;have e:=Cv hacc;show au _ A (pure acc.toList) _ _ s';rw[e];obtain⟨h',g',d',tk',os'⟩:=s';obtain rfl:g'=s.gens:=mv.gens;obtain rfl:d'=d:=mv.drawn;obtain rfl:os'=s.os:=mv.os;refine wu9 (k h' _ tk' _ (λb o q=>mv.heap b o (λz=>?_) (oth b o (λz=>?_) (ex _ _ (hp9 _ q)))) (by rw[hL];exact kZ (hl9 gS)) hp)
 ·have lb:=hl9 q
  rcases ao.mp z with z|z
  ·rw[z,<-hL]at lb;exact absurd lb (bx _)
  ·rw[aF.mp z,hL]at lb;exact absurd (jK lb hI') (bx _)
 ·have lb:=hl9 q;rw[z,<-hL]at lb;exact absurd lb (bx _)
def AX{Q:List ab->ae->Prop}{x:aV}{tx:vQ}(hh:A.handled=b_)(hz:x.cps.size<=aE)
  (k:∀h1 tk acc,(∀b o,s.heap.get? b=a_ o->h1.get? b=a_ o)->s.heap.objs.size<=h1.objs.size->ItemsOf (SignAt x) acc x.cps.size->Q acc.toList { s with heap:=h1,toks:=tk }):au (aB prog w) A (collect (.str x tx)) Q E s:=by
 unfold collect;refine wb9 (qK (fo sZ ?_));rw[dJ sY];show au _ A.in1 (newList [] >>= λl=>again (.builtin "list.__iadd__" ⟨[l,.str x tx],[]⟩)) _ _ s;refine wb9 (cG ?_);refine wu9 (t5 (kT ji _) (fo vS ?_));rw[dJ ji];generalize hL:s.heap.objs.size=L;generalize hlo:({ cls:=.type "list",data:=.seq ([]:List ab).toArray }:fe)=lo;have gL:(s.heap.push lo).get? L=a_ { cls:=.type "list",data:=.seq (#[]:Array ab) }:=by rw[<-hL];exact(aL _ (by rw[<-hlo];rfl)).trans (by rw[<-hlo])
 have szL:(s.heap.push lo).objs.size=L+1:=by rw[cX,hL]
 have ty:∀s1:ae,s1.TypeIs (.str x tx) "str":=λs1=>rfl;show au _ A.in1 (gu (.ref L) (.str x tx) (.ref L)) _ _ { s with heap:=s.heap.push lo };unfold gu;refine wb9 (iA (ty _) ?_);have b1:kz (.ref L) (.str x tx)=d_:=rfl;have b2:(eX "str" == eX "list")=d_:=by decide
 have b3:(eX "str" == eX "tuple")=d_:=by decide
 simp only[b1,b2,b3,yT,aG,if_false];refine wb9 (wpAny_pyIter_str λo St W st=>?_);refine wb9 (bZ (Kr (ty _) ?_));rw[if_neg (by decide +kernel)];have g1:((s.heap.push lo).push o).get? L=a_ { cls:=.type "list",data:=.seq (#[]:Array ab) }:=hp9 _ gL
 have nf:L∉[(s.heap.push lo).objs.size]:=by
  rw[szL];intro z;exact absurd (aF.mp z) (bu (gC _))
 refine wu9 (t5 (kT vp _) (LV (W A.in1 (by simp[hh])).toS hz _ nf _ x.cps.size 0 _ _ _ rfl (bY _) st g1 (O9 _) λs' acc c mv gS hacc=>?_));show au _ A (load L >>= _) _ _ s';refine wb9 (wpAny_load gS ?_);show au _ A (pure acc.toList) _ _ s';obtain⟨h',g',d',tk',os'⟩:=s';obtain rfl:g'=s.gens:=mv.gens;obtain rfl:d'=s.drawn:=mv.drawn;obtain rfl:os'=s.os:=mv.os;refine wu9 (k h' tk' _ (λb o q=>mv.heap b o (λz=>?_) (hp9 _ (hp9 _ q))) (by rw[hL];exact kZ (hl9 gS)) hacc);have lb:=hl9 q
 rcases ao.mp z with z|z
 ·rw[z,<-hL]at lb;exact absurd lb (bx _)
 ·have z':b=(s.heap.push lo).objs.size:=aF.mp z;rw[z',szL,hL]at lb;exact absurd (mz lb) (bx _)
end
section
variable{prog:aP}{w:bo}{A:br}{E:ab->ae->Prop}{s:ae}
def vn(prog:aP)(w:bo)(A:br)(s:ae)(v:ab)(Gd:List ab->Prop):Prop:=
 ∀(A':br)(E':ab->ae->Prop)(Q':List ab->ae->Prop),A'.handled=A.handled->(∀vs h1 d tk,(∀b o,s.heap.get? b=a_ o->h1.get? b=a_ o)->s.heap.objs.size<=h1.objs.size->Gd vs->Q' vs { s with heap:=h1,drawn:=d,toks:=tk })->
  au (aB prog w) A' (collect v) Q' E' s
def Iu{v:ab}{is:List Int}{Q:ab->ae->Prop}(h64:is.length<64)(hc:vn prog w A s v (λvs=>∃is',kU vs is'/\is'.Perm is))
  (k:∀h' d tk l(out:List ab)is' e,(∀b o,s.heap.get? b=a_ o->h'.get? b=a_ o)->s.heap.objs.size<=l->h'.get? l=a_ (seqObj "list" out.toArray e)->kU out is'->is'.Perm is->is'.Pairwise (·<=·)->Q (.ref l) { s with heap:=h',drawn:=d,toks:=tk }) :
  au (aB prog w) A (call (.builtin "sorted") [v]) Q E s:=by
 refine lG L3 HC HD (HE _) ?_;unfold fO.«sorted»;refine wb9 (m:=checkCount "sorted" 1 1 _) (wu9 ?_);refine wb9 (hc _ _ _ (by rfl) λvs h1 d tk ex sz ⟨is1,i1,i2⟩=>?_);have hl:vs.length<64:=by rw[HF i1,i2.length_eq];exact h64
 refine wb9 (sW ?_ (by rw[bB];omega));have g1:(h1.push (seqObj "list" vs.toArray 0)).get? h1.objs.size=a_ (seqObj "list" vs.toArray 0):=aL _ rfl;refine wb9 (bZ (bW slot_list_sort ⟨_,g1,rfl⟩ entry_list_sort (list_sort_tree (s:={ s with heap:=h1.push (seqObj "list" vs.toArray 0),drawn:=d,toks:=tk }) g1 i1 hl λout is' a1 a2 a3=>⟨_,rfl,?_⟩) (BD _)));obtain⟨e,he⟩:=Fu (out:=out) g1;refine wu9 ⟨_,rfl,k _ d tk _ out.toList is' e (λb o q=>?_) ?_ (by simpa using he) a1 (a2.trans i2) a3⟩
 ·have lb:=hl9 (ex b o q);exact(BB (bu lb) (by rw[BC];exact iJ lb)).trans (hp9 _ (ex b o q))
 ·exact sz
def Ir{v:ab}{ss:List aV}{Q:ab->ae->Prop}(h64:ss.length<64)(hc:vn prog w A s v (λvs=>∃ss',lS vs ss'/\ss'.Perm ss))
  (k:∀h' d tk l(out:List ab)ss' e,(∀b o,s.heap.get? b=a_ o->h'.get? b=a_ o)->s.heap.objs.size<=l->h'.get? l=a_ (seqObj "list" out.toArray e)->lS out ss'->ss'.Perm ss->sortedS ss'=c_->Q (.ref l) { s with heap:=h',drawn:=d,toks:=tk }) :
  au (aB prog w) A (call (.builtin "sorted") [v]) Q E s:=by
 refine lG L3 HC HD (HE _) ?_;unfold fO.«sorted»;refine wb9 (m:=checkCount "sorted" 1 1 _) (wu9 ?_);refine wb9 (hc _ _ _ (by rfl) λvs h1 d tk ex sz ⟨ss1,i1,i2⟩=>?_);have hl:vs.length<64:=by rw[show vs.length=ss1.length by rw[<-i1.strs,ah],i2.length_eq];exact h64
 refine wb9 (sW ?_ (by rw[bB];omega));have g1:(h1.push (seqObj "list" vs.toArray 0)).get? h1.objs.size=a_ (seqObj "list" vs.toArray 0):=aL _ rfl;refine wb9 (bZ (bW slot_list_sort ⟨_,g1,rfl⟩ entry_list_sort (list_sort_treeK (s:={ s with heap:=h1.push (seqObj "list" vs.toArray 0),drawn:=d,toks:=tk }) strKind_oneLt g1 i1.keysOf (λv₁ v₂ r e=>keyKind_strs (by rw[<-e];exact i1)) hl λst' hp hs=>⟨_,rfl,?_⟩) (BD _)));obtain⟨ss',a1,a2,a3⟩:=sorted_out_str i1 hp hs;obtain⟨e,he⟩:=Fu (out:=(arrOf st').map (·.2)) g1;refine wu9 ⟨_,rfl,k _ d tk _ ((arrOf st').map (·.2)).toList ss' e (λb o q=>?_) ?_ (by rw[Array.toArray_toList];exact he) a1 (a2.trans i2) a3⟩
 ·have lb:=hl9 (ex b o q);exact(BB (bu lb) (by rw[BC];exact iJ lb)).trans (hp9 _ (ex b o q))
 ·exact sz
end
end L2
namespace L2
open PySem PySem.W PySem.Spec PyProof.Rows
section
variable{P:aP}{w:bo}{A:br}{E:ab->ae->Prop}{s:ae}
def _root_.L2.qH.first{I:Ik P w}{h:bH}{ks:List I.κ}{vs:List ab}(x:qH I h ks vs):(ks=[]/\vs=[])\/∃k v ks' vs',ks=k::ks'/\vs=v::vs'/\I.is h k v/\qH I h ks' vs':=by
 cases x with
 |nil=>exact .inl ⟨rfl,rfl⟩
 |cons a b=>exact .inr ⟨_,_,_,_,rfl,rfl,a,b⟩
def GI{b fin:Bool}{Q:Bool->ae->Prop}(i_:A.units+2<=cg){kx:List (i3 P w).κ}{xs:List ab}(hx:qH (i3 P w) s.heap kx xs):∀{ky:List (i3 P w).κ} {ys:List ab} (i:Nat),qH (i3 P w) s.heap ky ys->kx.map sN=ky.map sN->(∀k∈kx,vI (sN k)=c_)->
  (b=c_->i=0->∀k,kx.head? = a_ k->sN k=[1])->Q (if kx=ky then fin else sr (kx.map cN) (ky.map cN)) s->KatLex P w A b fin Q (xs.zip ys) i s:=by
 induction hx with
 |nil=>
   intro ky ys i hy hs _ _ h
   cases hy with
   |nil=>exact kat_nil (by simpa using h)
   |cons _ _=>cases hs
 | @cons k1 u kx xs h1 hx ih=>
   intro ky ys i hy hs h3 h0 h
   cases hy with
   |nil=>cases hs
   | @cons k2 v ky ys h2 hy=>
     simp only[ag,dw]at hs;rw[fA];refine kat_cons ((i3 P w).eqb i_ h1 h2 (λe=>?_) λe=>?_)
     ·subst e;refine kat_yes (ih (i+1) hy hs.2 (λk hk=>h3 k (ib _ hk)) (λ_ z=>by omega) ?_);by_cases e2:kx=ky
      ·subst e2;rw[if_pos rfl]at h ⊢;exact h
      ·rw[if_neg e2];rw[if_neg λz=>e2 (fI z).2,ag,ag]at h;rw[show sr (cN k1::kx.map cN) (cN k1::ky.map cN)=sr (kx.map cN) (ky.map cN) by rw[sr,kK,if_pos rfl]]at h;exact h
     ·have hne:cN k1≠cN k2:=λz=>e (K9 hs.1 (h3 _ hJ) z);rw[if_neg λz=>e (fI z).1,ag,ag]at h;rw[show sr (cN k1::kx.map cN) (cN k2::ky.map cN)=V2 (cN k1) (cN k2) by rw[sr,kK,if_neg hne]]at h;refine kat_no ?_;by_cases i0:(b && i == 0)=c_
      ·rw[i0];simp only[aq,beq_iff_eq]at i0;have g:=h0 i0.1 i0.2 k1 rfl
       rcases uo hs.1 (h3 _ hJ)with⟨a,c,rfl,rfl,q⟩|⟨a,c,rfl,rfl,q1,q2⟩|⟨a,c,rfl,rfl,q1,q2,q3,q4⟩
       ·cases a with
        |inl _=>simp[sN]at g
        |inr a=>
          cases c with
          |inl _=>cases q
          |inr c=>
            rcases cx (k:=.inr a) (v:=u) h1 with⟨_,_,e1,_⟩|⟨x1,t1,e1,rfl⟩
            ·cases e1
            ·rcases cx (k:=.inr c) (v:=v) h2 with⟨_,_,e2,_⟩|⟨x2,t2,e2,rfl⟩
             ·cases e2
             ·cases e1;cases e2;refine oneLt_str ?_;have:=xV a.cps.toList c.cps.toList;simp only[cN]at h;rw[xW,show cK (.inr a)=a.cps.toList.map eN from rfl,show cK (.inr c)=c.cps.toList.map eN from rfl,this]at h;exact h
       ·simp only[sN]at g;rw[if_pos q1]at g;simp at g
       ·simp only[sN]at g;rw[if_neg q1]at g;simp at g
      ·rw[Bool.eq_false_iff.mpr i0];refine kat_one _ _ (NW i_ h1 h2 hs.1 (h3 _ hJ) ?_);exact h
def Ye{x y:List NK}{p c:ai}{b:Bool}{Q:Bool->ae->Prop}(i_:A.units+2<=cg)(ex:pL P w s.heap x p)(ey:pL P w s.heap y c)(hs:x.map sN=y.map sN)(h3:∀k∈x,vI (sN k)=c_)(h1:b=c_->∀k,x.head? = a_ k->sN k=[1])
  (h:Q (sr (x.map cN) (y.map cN)) s):au (aB P w) A (keyLt' (tuples' b) (.ref p) (.ref c)) Q E s:=by
 obtain⟨oa,xs,na,goa,_,gda,gia⟩:=ex;obtain⟨ob,ys,nb,gob,_,gdb,gib⟩:=ey;refine kat_lt goa gda gob gdb (GI i_ gia 0 gib hs h3 (λz _=>h1 z) ?_)
 have hl:xs.size=ys.size:=by
  have e:=congrArg lT hs;simp only[ah]at e;rw[<-aR,<-aR,gia.length,gib.length,e]
 by_cases e:x=y
 ·rw[if_pos e,hl];rw[e,mO.ir]at h;simpa using h
 ·rw[if_neg e];exact h
noncomputable def PQ(sh:List (List Nat)):Option Bool:=match sh.head? with
 |some [1]=>a_ c_
 |some [2]=>a_ d_
 |some (3::_)=>a_ d_
 |_=>b_
def KJ{k:NK}{v:ab}{sh:List (List Nat)}{b:Bool}(q:Yc P w s.heap k v)(hb:PQ (sN k::sh)=a_ b):∃T:ab,(T=if b=c_ then .type "str" else .type "tuple")/\∀M,Looks M s.heap (typeOf v) T:=by
 cases k with
 |inl k=>
   cases k with
   |inl i=>simp[PQ,sN]at hb
   |inr a=>
     have e:b=c_:=by simpa [PQ,sN]using hb.symm
     subst e
     rcases cx (k:=.inr a) (v:=v) q with⟨_,_,z,_⟩|⟨x1,t1,_,rfl⟩
     ·cases z
     ·exact⟨_,rfl,λM=>Looks.of_pure rfl⟩
 |inr ks=>
   have e:b=d_:=by
    simp only[PQ,sN,L7]at hb;by_cases c:ks.all sI=c_
    ·rw[if_pos c]at hb;simpa using hb.symm
    ·rw[if_neg c]at hb;simpa using hb.symm
   subst e;obtain⟨p,rfl,o,its,n,go,gc,_⟩:=q;refine⟨_,rfl,λM=>?_⟩;exact gc▸(Looks.ld go).andThen .now
def Su{js:List Nat}{kf:Nat->List NK}{av:Nat->ai}{sh:List (List Nat)}{b:Bool}{Q:SortKind->ae->Prop}(hk:∀j∈js,pL P w s.heap (kf j) (av j))(h1:∀j∈js,(kf j).map sN=sh)(hb:PQ sh=a_ b)(hne:0<js.length)(h:Q (tuples' b) s) :
  au (aB P w) A (keyKind' (js.map λj=>bE (av j)).toArray) Q E s:=by
 have fs:∃fs,KatTups s.heap (js.map λj=>bE (av j)) fs/\fs.length=js.length/\∀v∈fs,Looks (aB P w) s.heap (typeOf v) (if b=c_ then .type "str" else .type "tuple"):=by
  clear h hne
  induction js with
  |nil=>exact⟨[],KatTups.nil,rfl,λv hv=>by cases hv⟩
  |cons j js ih=>
    obtain⟨fs,r1,r2,r3⟩:=ih (λj hj=>hk j (ib _ hj)) (λj hj=>h1 j (ib _ hj));obtain⟨o,its,n,e1,e2,e3,e4⟩:=hk j hJ;have g1:=h1 j hJ
    rcases e4.first with⟨z,_⟩|⟨k0,v0,ks0,vs0,z,hl,q1,q2⟩
    ·rw[z]at g1;rw[<-g1]at hb;cases hb
    ·rw[z]at g1;rw[<-g1,ag]at hb;have hf:its[0]?=a_ v0:=by rw[<-dA,hl];rfl
     obtain⟨T,hT,q3⟩:=KJ q1 hb;refine⟨v0::fs,KatTups.cons e1 e2 e3 hf r1,by simp[r2],λv hv=>?_⟩
     rcases ao.mp hv with rfl|hv
     ·rw[<-hT];exact q3 _
     ·exact r3 v hv
 obtain⟨fs,r1,r2,r3⟩:=fs;refine kat_kind (T:=if b=c_ then .type "str" else .type "tuple") r1 (by omega) r3 (by cases b<;>decide) ?_
 cases b with
 |true=>exact h
 |false=>exact h
end
section
variable{P:aP}{w:bo}{A:br}{E:ab->ae->Prop}{s:ae}
def FP{vs:List ab}(h:vs.length<2):((vs.toArray.zip vs.toArray).map λx=>x.2)=((ax vs.length).toArray.toList.map λi=>vs.getD i c9).toArray:=by
 match vs,h with
 |[],_=>simp
 |[v],_=>simp
def Iv{n:Nat}(h:n<2):Pm (ax n).toArray n:=by
 have hg:∀k,k<n->pg (ax n).toArray k=k:=λk hk=>Jm (by simp[hk]);exact⟨by simp,λk hk=>by rw[hg k hk];exact hk,λi j hi hj e=>by omega,by simp⟩
def Cs{a:ai}{vs:List ab}{n:Nat}{R:PySem.Fin->ae->Prop}{lt:Nat->Nat->Bool}{b:Bool}(ho:s.heap.get? a=a_ (seqObj "list" vs.toArray n))(h64:vs.length<64)(o:sQ lt vs.length)
  (hkk:2<=vs.length->∀(h':bH)(E':ab->ae->Prop)(Q:SortKind->ae->Prop),(∀b o,b≠a->s.heap.get? b=a_ o->h'.get? b=a_ o)->Q (tuples' b) { s with heap:=h' }->au (aB P w) A (keyKind' vs.toArray) Q E' { s with heap:=h' })
  (hlt:∀(h':bH)(E':ab->ae->Prop)(Q:Bool->ae->Prop)i j,i<vs.length->j<vs.length->(∀b o,b≠a->s.heap.get? b=a_ o->h'.get? b=a_ o)->Q (lt i j) { s with heap:=h' }->
   au (aB P w) A (keyLt' (tuples' b) (vs.getD i .none) (vs.getD j .none)) Q E' { s with heap:=h' })
  (h:∀p:Array Nat,Pm p vs.length->Up lt p vs.length->R (.done (.ret .none)) { s with heap:=sortedHeap s.heap a vs (p.toList.map λi=>vs.getD i .none).toArray }) :
  au (aB P w) A (fO.«list.sort» ⟨[.ref a],[]⟩) R E s:=by
 have la:a<s.heap.objs.size:=hl9 ho;rw[list_sort_plain];refine wb9 (listItems_at ho rfl (wb9 (Fv ho rfl ?_ (by rw[aA,bB];omega) (bY _))));obtain⟨e1,g1⟩:∃e1,(s.heap.update a (eM λ_=>(#[]:Array ab))).get? a=a_ (seqObj "list" #[] e1):=⟨_,get?_update_seq ho λ_=>#[]⟩
 refine wb9 (L0 g1 rfl (wb9 (By ?_ (by show vs.length<=_;rw[bB];omega))));refine wb9 (sW ?_ (bY _));refine bZ ?_;have g6:(((s.heap.update a (eM λ_=>(#[]:Array ab))).push (seqObj "tuple" vs.toArray 0)).push (seqObj "list" #[] 0)).get? a=a_ (seqObj "list" #[] e1):=hp9 _ (hp9 _ g1)
 have kp:∀b o,b≠a->s.heap.get? b=a_ o->(((s.heap.update a (eM λ_=>(#[]:Array ab))).push (seqObj "tuple" vs.toArray 0)).push (seqObj "list" #[] 0)).get? b=a_ o:=λb o nb e=>
  hp9 _ (hp9 _ ((Fq _ _ _ _ nb).trans e))
 show au (aB P w) A _ R E { s with heap:=((s.heap.update a (eM λ_=>(#[]:Array ab))).push (seqObj "tuple" vs.toArray 0)).push (seqObj "list" #[] 0) };generalize hH:((s.heap.update a (eM λ_=>(#[]:Array ab))).push (seqObj "tuple" vs.toArray 0)).push (seqObj "list" #[] 0)=h6 at g6 kp ⊢;dsimp only;by_cases hn2:vs.toArray.size<2
 ·rw[if_pos hn2,if_pos hn2];refine wb9 (wu9 ?_);refine wb9 (show au (aB P w) A (pure ((),SortSt.mk' general' (vs.toArray.zip vs.toArray) #[] 7 b_)) _ E { s with heap:=h6 }from wu9 ?_);have hl:vs.length<2:=by rw[aA]at hn2;exact hn2
  have har:=FP hl;have hh:=h (ax vs.length).toArray (Iv hl) (λi j h1 h2=>by omega);refine wb9 (L0 g6 rfl (wb9 (Fv g6 rfl ?_ (bY _) (by rw[bB];show((vs.toArray.zip vs.toArray).map λx=>x.2).size<=_;simp;omega))));rw[show failedOf (SortSt.mk' general' (vs.toArray.zip vs.toArray) #[] 7 b_)=b_ from rfl];simp only[bne_self_eq_false,aG,if_false];unfold sortedHeap at hh;rw[hH]at hh;rw[<-har]at hh;exact wu9 hh
 have h2:2<=vs.length:=by rw[aA]at hn2;omega
 rw[if_neg hn2,if_neg hn2];refine wb9 (hkk h2 h6 _ _ kp ?_)
 have run:=kat_run (prog:=P) (w:=w) (A:=A) (E:=E) (s:={ s with heap:=h6 }) (ks:=vs) (vs:=vs) (κ:=tuples' b)
  (Q:=λst' s'=>s'={ s with heap:=h6 }/\∃p:Array Nat,Pm p vs.length/\Up lt p vs.length/\arrOf st'=p.map (kas_item (vs.toArray.zip vs.toArray))/\failedOf st'=b_)
  (G:=λp s'=>s'={ s with heap:=h6 }/\Pm p vs.length/\Up lt p vs.length) rfl h2 h64 (λp st' s' _ a2 a3 ⟨z,p1,p2⟩=>⟨z,p,p1,p2,a2,a3⟩)
  (Kh.wp (lt:=lt) (n:=vs.length) (λi j hi hj C hC=>hlt h6 _ C i j hi hj kp hC) (Kh.mono (λp hp=>⟨rfl,hp⟩) (MB o h2)))
 refine wb9 (eT run ?_ λ_ _ e=>e);rintro⟨⟨⟩,st'⟩ s' ⟨rfl,p,p1,p2,har,hf⟩;dsimp only at har hf ⊢;have hout:=kat_snds (ks:=vs) (vs:=vs) rfl har;have hsz:(p.toList.map λi=>vs.getD i c9).length=vs.length:=by rw[ah,aR,p1.sz]
 refine wb9 (L0 g6 rfl (wb9 (Fv g6 rfl ?_ (bY _) (by rw[hout];show(p.toList.map λi=>vs.getD i c9).length<=_;rw[hsz,bB];omega))));rw[hf];simp only[bne_self_eq_false,aG,if_false];have:=h p p1 p2;unfold sortedHeap at this;rw[hH]at this;rw[hout];exact wu9 this
end
section
variable{P:aP}{w:bo}{A:br}{E:ab->ae->Prop}{s:ae}{kf:Nat->List NK}{av:Nat->ai}{n:Nat}
def Cf{js:List Nat}:∀{vs:List ab},gp (λv j=>v=bE (av j)) vs js->vs=js.map λj=>bE (av j):=by
 induction js with
 |nil=>intro vs h;cases h;rfl
 | cons j js ih=>intro vs h;cases h with
   |cons a b=>rw[a,ih b];rfl
def Ce{js:List Nat}:∀{es:List (Int×ab)},gp (λ(e:Int×ab)j=>e.2=bE (av j)) es js->gp (λv j=>v=bE (av j)) (es.map (·.2)) js:=by
 induction js with
 |nil=>intro es h;cases h;exact .nil
 | cons j js ih=>intro es h;cases h with
   |cons a b=>exact .cons a (ih b)
structure Sel(kf:Nat->List NK)(n:Nat)(js:List Nat):Prop where
 nd:(js.map kf).Nodup
 lt:∀j∈js,j<n
 all:∀j,j<n->kf j∈js.map kf
def Sel.perm{js js':List Nat}(h:Sel kf n js)(p:js'.Perm js):Sel kf n js':=
 ⟨(p.map kf).nodup_iff.mpr h.nd,λj hj=>h.lt j (p.mem_iff.mp hj),λj hj=>(p.map kf).mem_iff.mpr (h.all j hj)⟩
def Sel.len{js:List Nat}(h:Sel kf n js):js.length<=n:=by
 have hn:js.Nodup:=(eo.mp h.nd).imp λx e=>x (congrArg kf e);have:=qY hn fX λj hj=>aZ.mpr (h.lt j hj)
 rwa [bQ]at this
def G1{S:ai}(hh:A.handled=b_)(y:Bj P w (l8 w) s.heap S kf av n)(hn:n<=300) :
  vn P w A s (.ref S) (λvs=>∃js,vs=js.map (λj=>bE (av j))/\Sel kf n js):=by
 obtain⟨es,ep,t,js,y1,y2,y3,y4,y5,y6⟩:=y;have sl:Sel kf n js:=⟨y4,y5,y6⟩
 have len:=jM y3;rw[aR]at len;have:=sl.len;intro A' E' Q' e k;refine n8 (e.trans hh) y1 (by rw[bB];omega) λh1 d tk vs ex sz pm=>k vs h1 d tk ex sz ?_;obtain⟨js',p1,p2⟩:=jY pm (Ce y3);exact⟨js',Cf p1,sl.perm p2⟩
abbrev codeN(k:List NK):List (List (List Int)):=k.map cN
theorem code_inj:∀{x y:List NK},x.map sN=y.map sN->(∀k∈x,vI (sN k)=c_)->codeN x=codeN y->x=y
 |[],[],_,_,_=>rfl
 |[],_::_,h,_,_=>by cases h
 |_::_,[],h,_,_=>by cases h
 |a::x,b::y,h,h3,e=>by
   simp only[ag,dw]at h e;rw[K9 h.1 (h3 _ hJ) e.1,code_inj h.2 (λk hk=>h3 k (ib _ hk)) e.2]
set_option tactic.hygienic true in
def sorted_N{v:ab}{sh:List (List Nat)}{b:Bool}{Q:ab->ae->Prop}(i_:A.in1.in1.units+2<=cg)(hk:∀j,j<n->pL P w s.heap (kf j) (av j))(hsh:∀j,j<n->(kf j).map sN=sh)(h3:∀x∈sh,vI x=c_)(h1:PQ sh=a_ b)
  (hc:vn P w A s v (λvs=>∃js,vs=js.map (λj=>bE (av j))/\Sel kf n js/\js.length<64))
  (k:∀h' d tk l js e,(∀b o,s.heap.get? b=a_ o->h'.get? b=a_ o)->s.heap.objs.size<=l->h'.get? l=a_ (seqObj "list" (js.map λj=>bE (av j)).toArray e)->Sel kf n js->
   (js.map λj=>codeN (kf j)).Pairwise (λa b=>sr a b=c_)->Q (.ref l) { s with heap:=h',drawn:=d,toks:=tk }) :
  au (aB P w) A (call (.builtin "sorted") [v]) Q E s:=by
 have h3':∀j,j<n->∀k∈kf j,vI (sN k)=c_:=λj hj k hk=>h3 _ (by rw[<-hsh j hj];exact cL hk)
 have h1':b=c_->∀j,j<n->∀k,(kf j).head? = a_ k->sN k=[1]:=λhb j hj k hk=>by
  have:=hsh j hj
  cases q:kf j with
  |nil=>rw[q]at hk;cases hk
  |cons x r=>
    rw[q]at this hk;cases hk;rw[<-this,ag,hb]at h1;simp only[PQ,L7]at h1;split at h1
    ·rename_i z;exact aS z
    ·cases h1
    ·cases h1
    ·cases h1
 refine lG L3 HC HD (HE _) ?_;unfold fO.«sorted»;refine wb9 (m:=checkCount "sorted" 1 1 _) (wu9 ?_);refine wb9 (hc _ _ _ (by rfl) λvs hh1 d tk ex sz ⟨js,hvs,sl,l64⟩=>?_);have hl:vs.length=js.length:=by rw[hvs,ah]
 refine wb9 (sW ?_ (by rw[bB];omega));have g1:(hh1.push (seqObj "list" vs.toArray 0)).get? hh1.objs.size=a_ (seqObj "list" vs.toArray 0):=aL _ rfl
 have at_:∀i,i<vs.length->vs.getD i c9=.ref (av (js.getD i 0))/\js.getD i 0<n:=λi hi=>by
  have hi':i<js.length:=by omega
  constructor
  ·rw[hvs];simp[hi']
  ·rw[show js.getD i 0=js[i] by simp[hi']];exact sl.lt _ (bI hi')
 have inK:∀h',(∀b o,b≠hh1.objs.size->(hh1.push (seqObj "list" vs.toArray 0)).get? b=a_ o->h'.get? b=a_ o)->∀j,j<n->pL P w h' (kf j) (av j):=λh' q j hj=>
  (hk j hj).mono λb o e=>by
   have e1:=ex b o e;exact q b o (bu (hl9 e1)) (hp9 _ e1)
 have inj0:∀i j,i<vs.length->j<vs.length->codeN (kf (js.getD i 0))=codeN (kf (js.getD j 0))->i=j:=λi j hi hj e=>by
  have a:=at_ i hi
  have b:=at_ j hj
  have ek:=code_inj ((hsh _ a.2).trans (hsh _ b.2).symm) (h3' _ a.2) e;have hi':i<js.length:=by omega
  have hj':j<js.length:=by omega
  have e1:(js.map kf)[i]?=a_ (kf (js.getD i 0)):=by simp[hi']
  have e2:(js.map kf)[j]?=a_ (kf (js.getD j 0)):=by simp[hj']
  rw[ek]at e1;exact(HI (by rw[ah];exact hi') sl.nd).mp (e1.trans e2.symm)
 have o0:sQ (λi j=>sr (codeN (kf (js.getD i 0))) (codeN (kf (js.getD j 0)))) vs.length:=
  ⟨λi j k _ _ _ x y=>mO.tr _ _ _ x y,λi j hi hj ne x=>mO.co _ _ (λz=>ne (inj0 i j hi hj z)) x,λi j _ _ x=>mO.as x⟩
 refine wb9 (bZ (bW slot_list_sort ⟨_,g1,rfl⟩ entry_list_sort (Cs (s:={ s with heap:=hh1.push (seqObj "list" vs.toArray 0),drawn:=d,toks:=tk }) (b:=b) g1 (by omega) o0 (λh2 h' E' Q' q hq=>?_) (λh' E' Q' i j hi hj q hq=>?_) λp p1 p2=>⟨_,rfl,?_⟩) (BD _)))
 ·rw[hvs];exact Su (s:={ s with heap:=h',drawn:=d,toks:=tk }) (kf:=kf) (sh:=sh) (λj hj=>inK h' q j (sl.lt j hj)) (λj hj=>hsh j (sl.lt j hj)) h1 (by omega) hq
 ·obtain⟨a1,a2⟩:=at_ i hi
  obtain⟨b1,b2⟩:=at_ j hj
  rw[a1,b1];exact Ye (s:={ s with heap:=h',drawn:=d,toks:=tk }) i_ (inK h' q _ a2) (inK h' q _ b2) ((hsh _ a2).trans (hsh _ b2).symm) (h3' _ a2) (λz=>h1' z _ a2) hq
 ·obtain⟨e,he⟩:=Fu (out:=(p.toList.map λi=>vs.getD i c9).toArray) g1
  have ej:(p.toList.map λi=>vs.getD i c9)=(p.toList.map λi=>js.getD i 0).map λj=>bE (av j):=by
   rw[bc];exact dv λi hi=>(at_ i (by have:=aZ.mp (p1.pm.mem_iff.mp hi);exact this)).1
  rw[ej]at he
  have pj:(p.toList.map λi=>js.getD i 0).Perm js:=by
   have:=p1.pm.map λi=>js.getD i 0;refine this.trans ?_;rw[hl];refine List.Perm.of_eq ?_;apply rY;intro i;by_cases hi:i<js.length
   ·simp[hi]
   ·simp[hi]
  refine wu9 ⟨_,rfl,k _ d tk _ (p.toList.map λi=>js.getD i 0) e (λb o q=>?_) sz ?_ (sl.perm pj) ?_⟩
  ·have lb:=hl9 (ex b o q);exact(BB (bu lb) (by rw[BC];exact iJ lb)).trans (hp9 _ (ex b o q))
  ·rw[ej];exact he
  ·rw[bc,eo,xy];intro i j hi hj hij;have hj':j<vs.length:=by rw[aR,p1.sz]at hj;exact hj
   have:=p2 i j hij hj'
   have e1:∀x(hx:x<p.toList.length),p.toList[x]=pg p x:=λx hx=>by
    have:=sj (p:=p) (k:=x) (by simpa using hx);rw[<-dA,aj hx]at this;exact aS this
   rw[e1 i hi,e1 j hj];exact this
end
end L2
namespace M
open PySem PySem.Spec PyProof.Rows L2
inductive Lw|add|sub|mul|fdiv|mod|shr|shl|band|bor|pow|mn|mx
inductive Hf|eq|ne|lt|le|gt|ge|isin|nin|isn|nisn
inductive Ty|int|bool|str|tuple|list
inductive LP|len|list|tuple|all|any|isi (t:Ty)|listrev|int|str|min|max|sorted|sset|abs|sum
inductive O4|join|split|upper|lower|find|index|count|get|startswith|isalpha|tindex
inductive xm|app|ext|ins|pop|clr|seti|dput
mutual
noncomputable def jT:Dat->Dat->Bool
 | .non,y9=>match y9 with
   |.non=>c_
   |_=>d_
 | .bl a,y9=>match y9 with
   |.bl b=>a == b
   |.int j=>(if a then 1 else 0) == j
   |_=>d_
 | .int i,y9=>match y9 with
   |.bl b=>i == (if b then 1 else 0)
   |.int j=>i == j
   |_=>d_
 | .str x,y9=>match y9 with
   |.str y=>x == y
   |_=>d_
 | .tup xs,y9=>match y9 with
   |.tup ys=>kM xs ys
   |_=>d_
 | .lst xs,y9=>match y9 with
   |.lst ys=>kM xs ys
   |_=>d_
 |_,_=>d_
noncomputable def kM:List Dat->List Dat->Bool
 |[],[]=>c_
 |x::xs,y::ys=>jT x y && kM xs ys
 |_,_=>d_
end
mutual
noncomputable def fx:Nat->Dat->Bool
 |_,.dct _ _=>d_
 |_,.dcn _=>d_
 |0,.tup _=>d_
 |0,.lst _=>d_
 |n+1,.tup xs=>dm n xs
 |n+1,.lst xs=>dm n xs
 |_,_=>c_
noncomputable def dm:Nat->List Dat->Bool
 |_,[]=>c_
 |n,x::xs=>fx n x && dm n xs
end
noncomputable def iW:Dat->Option Bool
 |.non=>a_ d_
 |.bl b=>a_ b
 |.int i=>a_ (i != 0)
 |.str x=>if x.length<=aE then a_ ((x.length:Int) != 0)else b_
 |.tup xs=>a_ (!xs.isEmpty)
 |.lst xs=>a_ (!xs.isEmpty)
 |.dct ks _=>a_ (!ks.isEmpty)
 |.dcn _=>b_
noncomputable instance (i j:Int):Decidable (Hg i j):=by unfold Hg;infer_instance
noncomputable instance (i j:Int):Decidable (UI i j):=by unfold UI;infer_instance
noncomputable instance (i j:Int):Decidable (O6 i j):=by unfold O6;infer_instance
noncomputable instance (x:aV) (j:Int):Decidable (BA x j):=by unfold BA;infer_instance
abbrev g_:=Option (Dat×Bool)
noncomputable def yZ(f:Int->Int->g_):Dat->Dat->g_
 |.int i,.int j=>f i j
 |_,_=>b_
noncomputable def yF:Dat->Dat->g_
 | .int i,y9=>match y9 with
   |.int j=>a_ (.int (i+j),d_)
   |_=>b_
 | .str x,y9=>match y9 with
   |.str y=>if x.length+y.length<=aE then a_ (.str (x++y),d_)else b_
   |_=>b_
 | .lst xs,y9=>match y9 with
   |.lst ys=>if xs.length+ys.length<=aE then a_ (.lst (xs++ys),iX (xs++ys))else b_
   |_=>b_
 | .tup xs,y9=>match y9 with
   |.tup ys=>if xs.length+ys.length<=aE then a_ (.tup (xs++ys),d_)else b_
   |_=>b_
 |_,_=>b_
noncomputable def yE:Dat->Dat->g_
 | .int i,y9=>match y9 with
   |.int j=>if Hg i j then a_ (.int (i * j),d_)else b_
   |_=>b_
 | .str x,y9=>match y9 with
   |.int j=>if BA x j then a_ (.str (PySem.Txt.mul x j),d_)else b_
   |_=>b_
 |_,_=>b_
noncomputable def e8:Lw->Dat->Dat->g_
 |.add,a,b=>yF a b
 |.sub,a,b=>yZ (λi j=>a_ (.int (i - j),d_)) a b
 |.mul,a,b=>yE a b
 |.mn,a,b=>yZ (λi j=>a_ (.int (if j<i then j else i),d_)) a b
 |.mx,a,b=>yZ (λi j=>a_ (.int (if i<j then j else i),d_)) a b
 |.fdiv,a,b=>yZ (λi j=>if UI i j then a_ (.int (i / j),d_)else b_) a b
 |.mod,a,b=>yZ (λi j=>if 0<j then a_ (.int (i % j),d_)else b_) a b
 |.shr,a,b=>yZ (λi j=>if 0<=j then a_ (.int (i / 2 ^ j.toNat),d_)else b_) a b
 |.shl,a,b=>yZ (λi j=>if O6 i j then a_ (.int (i * 2 ^ j.toNat),d_)else b_) a b
 |.band,a,b=>yZ (λi j=>a_ (.int (tX i j),d_)) a b
 |.bor,a,b=>yZ (λi j=>a_ (.int (LA i j),d_)) a b
 |.pow,a,b=>yZ (λi j=>if O6 i j then a_ (.int (i ^ j.toNat),d_)else b_) a b
noncomputable def qg:Dat->Option Key
 |.int i=>a_ (.inl i)
 |.str x=>a_ (.inr x)
 |_=>b_
instance Y8 (k:List NK) (ks:List (List NK)):Decidable (k∈ks):=@List.instDecidableMemOfLawfulBEq _ instBEqOfDecidableEq inferInstance k ks
noncomputable def oT:List Dat->Option (List Key)
 |[]=>a_ []
 |d::ds=>(qg d).bind λk=>(oT ds).map λr=>k::r
noncomputable def PC:Dat->Option N2
 |.int i=>a_ (.inl (.inl i))
 |.str x=>a_ (.inl (.inr x))
 |.tup ds=>(oT ds).map .inr
 |_=>b_
noncomputable def Gv:List Dat->Option (List N2)
 |[]=>a_ []
 |d::ds=>(PC d).bind λk=>(Gv ds).map λr=>k::r
noncomputable def PB:Dat->Option NK
 |.int i=>a_ (.inl (.inl i))
 |.str x=>a_ (.inl (.inr x))
 |.tup ds=>(Gv ds).map .inr
 |_=>b_
noncomputable def JM:List Dat->Option (List NK)
 |[]=>a_ []
 |d::ds=>(PB d).bind λk=>(JM ds).map λr=>k::r
noncomputable def tK:Dat->Option (List NK)
 |.tup ds=>JM ds
 |_=>b_
noncomputable def lZ:List Dat->Option (List (List NK))
 |[]=>a_ []
 |d::ds=>(tK d).bind λk=>(lZ ds).map λr=>k::r
noncomputable def VQ:List Key->Bool
 |[]=>c_
 |k::ks=>!(ks.any λj=>decide (j=k)) && VQ ks
noncomputable def jm(k:Key):List Key->List Dat->Option Dat
 |j::ks,v::vs=>if j=k then a_ v else jm k ks vs
 |_,_=>b_
noncomputable def Jx(k:Key):List Key->Bool
 |[]=>c_
 |j::ks=>if j=k then !(ks.any λi=>decide (i=k))else Jx k ks
noncomputable def putD(k:Key)(d:Dat):List Key->List Dat->List Key×List Dat
 |j::ks,v::vs=>if j=k then(j::ks,d::vs)else((j::(putD k d ks vs).1),(v::(putD k d ks vs).2))
 |_,_=>([k],[d])
noncomputable def yY(f:Int->Int->Bool):Dat->Dat->Option Bool
 |.int i,.int j=>a_ (f i j)
 |_,_=>b_
noncomputable def CW(a:Dat):Dat->Option Bool
 | .str y=>match a with
   |.str x=>a_ (!(eJ y x 0 y.length 1).isEmpty)
   |_=>b_
 |.lst ys=>if fx 20 a && dm 20 ys then a_ (ys.any λy=>jT y a)else b_
 |.tup ys=>if fx 20 a && dm 20 ys then a_ (ys.any λy=>jT y a)else b_
 | .dct ks vs=>match qg a with
   |some k=>a_ (jm k ks vs).isSome
   |none=>if ks.isEmpty=c_ then(tK a).map λ_=>d_ else b_
 |.dcn ks=>(tK a).map λk=>decide (k∈ks)
 |_=>b_
noncomputable def pB(a:Dat):Dat->Option Bool
 | .str y=>match a with
   |.str x=>a_ (!(!(eJ y x 0 y.length 1).isEmpty))
   |_=>b_
 |.lst ys=>if fx 20 a && dm 20 ys then a_ (!(ys.any λy=>jT y a))else b_
 |.tup ys=>if fx 20 a && dm 20 ys then a_ (!(ys.any λy=>jT y a))else b_
 |.dct ks vs=>(qg a).map λk=>!(jm k ks vs).isSome
 |_=>b_
noncomputable def Bx(b:Bool)(a:Dat):Dat->Option Bool
 |.non=>a_ (match a with | .non=>b|_=>!b)
 |_=>b_
noncomputable def dF:Hf->Dat->Dat->Option Bool
 |.eq,a,b=>if fx 20 a && fx 20 b then a_ (jT a b)else b_
 |.ne,a,b=>if fx 20 a && fx 20 b then a_ (!jT a b)else b_
 |.lt,a,b=>yY (λi j=>decide (i<j)) a b
 |.le,a,b=>yY (λi j=>decide (i<=j)) a b
 |.gt,a,b=>yY (λi j=>decide (j<i)) a b
 |.ge,a,b=>yY (λi j=>decide (j<=i)) a b
 |.isin,a,b=>CW a b
 |.nin,a,b=>pB a b
 |.isn,a,b=>Bx c_ a b
 |.nisn,a,b=>Bx d_ a b
noncomputable def qh:Dat->Dat->Option Dat
 | .lst xs,y9=>match y9 with
   |.int i=>lN xs i
   |_=>b_
 | .tup xs,y9=>match y9 with
   |.int i=>lN xs i
   |_=>b_
 | .str z,y9=>match y9 with
   |.int i=>if z.length<=aE then(lN z.cps.toList i).map λc=>.str ⟨#[c]⟩else b_
   |_=>b_
 |.dct ks vs,k=>(qg k).bind λk=>jm k ks vs
 |_,_=>b_
noncomputable def Js(r:g_):Option (Option Int):=r.bind λx=>match x.1 with
 |.int i=>a_ (a_ i)
 |_=>b_
def cutD{α:Type}(xs:List α)(lo hi:Option Int):List α:=(xs.drop (HT.iN xs.length 0 lo)).take (HT.iN xs.length xs.length hi - HT.iN xs.length 0 lo)
noncomputable def Iy:Dat->Option Int->Option Int->g_
 |.str x,lo,hi=>if x.length<=aE then a_ (.str (iZ x lo hi),d_)else b_
 |.tup xs,lo,hi=>a_ (.tup (cutD xs lo hi),d_)
 |_,_,_=>b_
noncomputable def Cz:Ty->Dat->Bool
 |.int,.int _=>c_
 |.int,.bl _=>c_
 |.bool,.bl _=>c_
 |.str,.str _=>c_
 |.tuple,.tup _=>c_
 |.list,.lst _=>c_
 |_,_=>d_
noncomputable def pC:List Dat->Option (List Bool)
 |[]=>a_ []
 |.bl b::ds=>(pC ds).map λr=>b::r
 |_::_=>b_
noncomputable def jX:List Dat->Option (List aV)
 |[]=>a_ []
 |.str x::ds=>(jX ds).map λr=>x::r
 |_::_=>b_
noncomputable def lz:List Dat->Option (List Int)
 |[]=>a_ []
 |.int x::ds=>(lz ds).map λr=>x::r
 |_::_=>b_
noncomputable def uN{α:Type}(lt:α->α->Bool)(x:α):List α->List α
 |[]=>[x]
 |y::ys=>if lt x y=c_ then x::y::ys else if lt y x=c_ then y::uN lt x ys else y::ys
noncomputable def dQ{α:Type}(lt:α->α->Bool):List α->List α
 |[]=>[]
 |x::xs=>uN lt x (dQ lt xs)
noncomputable def CB{α:Type}(lt:α->α->Bool)(x:α):List α->List α
 |[]=>[x]
 |y::ys=>if lt y x=c_ then y::CB lt x ys else x::y::ys
noncomputable def mW{α:Type}(lt:α->α->Bool):List α->List α
 |[]=>[]
 |x::xs=>CB lt x (mW lt xs)
def ltI(i j:Int):Bool:=decide (i<j)
def p9(x y:aV):Bool:=decide (x.cps.toList<y.cps.toList)
def dW(x:aV):List aV:=x.cps.toList.map λc=>⟨#[c]⟩
noncomputable def OA:Nat->List Int->Dat
 |0,l=>.int (l.headD 0)
 |1,l=>.str ⟨(l.map t4).toArray⟩
 |_,l=>.tup (l.map .int)
noncomputable def TC:List Nat->List (List Int)->Dat
 |[],_=>.non
 |n::sh,c=>if n=3 then .tup (rV OA sh c)else OA n (c.headD [])
def uY(sh:List (List Nat))(c:List (List (List Int))):Dat:=.tup (rV TC sh c)
def xF(kk:List (List NK)):List (List Nat):=(kk.headD []).map sN
def Cj(kk:List (List NK)):Prop:=(PQ (xF kk)).isSome=c_/\(xF kk).all vI=c_/\(kk.all λk=>decide (k.map sN=xF kk))=c_/\(dQ sr (kk.map codeN)).length<64
noncomputable instance (kk:List (List NK)):Decidable (Cj kk):=inferInstanceAs (Decidable (_/\_))
def nQ(kk:List (List NK)):g_:=
 if kk.length<=300/\Cj kk then a_ (.lst ((dQ sr (kk.map codeN)).map (uY (xF kk))),c_)else b_
def t9(kk:List (List NK)):g_:=
 if kk.length<64/\Cj kk/\kk.Nodup then a_ (.lst ((dQ sr (kk.map codeN)).map (uY (xF kk))),c_)else b_
def sd(ss:List aV):g_:=if ss.length<4000/\(dQ p9 ss).length<64 then a_ (.lst ((dQ p9 ss).map .str),c_)else b_
def Dy(is:List Int):g_:=if is.length<4000/\(dQ ltI is).length<64 then a_ (.lst ((dQ ltI is).map .int),c_)else b_
def zv(ss:List aV):g_:=if ss.length<64 then a_ (.lst ((mW p9 ss).map .str),c_)else b_
def sortI(is:List Int):g_:=if is.length<64 then a_ (.lst ((mW ltI is).map .int),c_)else b_
noncomputable def Y9:Int->List Int->Int
 |i,[]=>i
 |i,j::r=>Y9 (if i<j then j else i) r
noncomputable def b1(f:Dat->g_):List Dat->g_
 |[d]=>f d
 |_=>b_
noncomputable def vf:Dat->g_
 |.lst xs=>a_ (.int xs.length,d_)
 |.tup xs=>a_ (.int xs.length,d_)
 |.str x=>if x.length<=aE then a_ (.int x.length,d_)else b_
 |.dct ks _=>a_ (.int ks.length,d_)
 |_=>b_
noncomputable def og:Dat->g_
 |.lst xs=>a_ (.lst xs,iX xs)
 |.tup xs=>a_ (.lst xs,iX xs)
 |_=>b_
noncomputable def ve:Dat->g_
 |.lst xs=>a_ (.lst xs.reverse,iX xs.reverse)
 |.tup xs=>if xs.length<=1000000 then a_ (.lst xs.reverse,iX xs.reverse)else b_
 |.str x=>if x.length<=1000000 then a_ (.lst ((dW x).reverse.map .str),c_)else b_
 |_=>b_
noncomputable def vc:Dat->g_
 |.lst xs=>a_ (.tup xs,d_)
 |.tup xs=>a_ (.tup xs,d_)
 |_=>b_
noncomputable def bL(f:List Dat->g_):Dat->g_
 |.lst xs=>f xs
 |_=>b_
noncomputable def Hs(f:List Dat->g_)(g:aV->g_):Dat->g_
 |.lst xs=>f xs
 |.str x=>g x
 |_=>b_
noncomputable def vg:Dat->g_
 |.int i=>a_ (.int i,d_)
 |.bl b=>a_ (.int (if b then 1 else 0),d_)
 |.str x=>if x.length<=640 then(PySem.intText? x).map λi=>(.int i,d_)else b_
 |_=>b_
noncomputable def vd:Dat->g_
 |.int i=>if i.natAbs.log2<1920 then a_ (.str (toString i),d_)else b_
 |_=>b_
noncomputable def eD:LP->List Dat->g_
 |.len,l=>b1 vf l
 |.list,l=>b1 og l
 |.listrev,l=>b1 ve l
 |.tuple,l=>b1 vc l
 |.all,l=>b1 (bL λxs=>(pC xs).map λbs=>(.bl (bs.all id),d_)) l
 |.any,l=>b1 (bL λxs=>(pC xs).map λbs=>(.bl (bs.any id),d_)) l
 |.isi t,l=>b1 (λd=>a_ (.bl (Cz t d),d_)) l
 | .sset,l=>b1 (Hs (λds=>match lz ds,jX ds with
   |some is,_=>Dy is
   |none,a_ ss=>sd ss
   |none,b_=>(lZ ds).bind nQ) λx=>sd (dW x)) l
 | .sorted,l=>b1 (Hs (λds=>match lz ds,jX ds with
   |some is,_=>sortI is
   |none,a_ ss=>zv ss
   |none,b_=>(lZ ds).bind t9) λx=>zv (dW x)) l
 |.int,l=>b1 vg l
 |.sum,l=>b1 (bL λds=>(lz ds).map λis=>(.int is.sum,d_)) l
 | .max,l=>b1 (bL λds=>(lz ds).bind λis=>match is with
   |[]=>b_
   |i::r=>a_ (.int (Y9 i r),d_)) l
 |.str,l=>b1 vd l
 |.min,_=>b_
 |.abs,_=>b_
noncomputable def gJ:Dat->Option (List Dat)
 |.lst xs=>a_ xs
 |.tup xs=>a_ xs
 |.str x=>a_ (x.cps.toList.map λc=>Dat.str ⟨#[c]⟩)
 |_=>b_
noncomputable def Vo:Dat->Option (List Dat)
 |.lst xs=>a_ xs
 |.tup xs=>a_ xs
 |_=>b_
noncomputable def Gg:List Dat->Option (List Dat)
 |[.int j]=>if j<=1000000/\-1000000<=j then a_ ((ax j.toNat).map λk:Nat=>Dat.int k)else b_
 |[.int i,.int j]=>if -1000000<=i/\i<=1000000/\-1000000<=j/\j<=1000000 then a_ ((ax (j - i).toNat).map λk:Nat=>Dat.int (i+k))else b_
 |_=>b_
noncomputable def m7:List Dat->List Dat->List Dat
 |x::xs,y::ys=>.tup [x,y]::m7 xs ys
 |_,_=>[]
noncomputable def n4:Nat->List Dat->List Dat
 |_,[]=>[]
 |k,x::xs=>.tup [.int k,x]::n4 (k+1) xs
noncomputable def k9(f:Dat->Option g_):List Dat->Option (List Dat×Bool)
 |[]=>a_ ([],c_)
 | d::ds=>(f d).bind λo=>(k9 f ds).map λr=>match o with
   |some y=>(y.1::r.1,(y.2 || im y.1) && r.2)
   |none=>r
noncomputable def xH:Nat->List Dat->eW->eW
 |_,[],ρ=>ρ
 |k,d::ds,ρ=>xH (k+1) ds (ρ.set k (a_ d))
noncomputable def E7(nt:Nat)(one:Bool)(d:Dat)(ρ:eW):Option eW:=match one with
 |true=>a_ (ρ.set 0 (a_ d))
 | false=>match d with
   |.tup ds=>if ds.length=nt then a_ (xH 0 ds ρ)else b_
   |_=>b_
def fJ(nt:Nat)(caps:List Nat)(ρ:eW):eW:=iP nt b_++caps.map λj=>(ρ[j]?).join
noncomputable def findD(d:Dat):List Dat->Nat->Option Nat
 |[],_=>b_
 |x::xs,k=>if jT x d=c_ then a_ k else findD d xs (k+1)
noncomputable def UP(f:aV->g_):Dat->List Dat->g_
 | .str x,y9=>match y9 with
   |[]=>f x
   |_=>b_
 |_,_=>b_
noncomputable def PD(f:aV->aV->g_):Dat->List Dat->g_
 | .str x,y9=>match y9 with
   |[.str y]=>f x y
   |_=>b_
 |_,_=>b_
noncomputable def Xj(f:aV->List Dat->g_):Dat->List Dat->g_
 | .str x,y9=>match y9 with
   |[.lst ds]=>f x ds
   |_=>b_
 |_,_=>b_
noncomputable def NU:Dat->List Dat->g_
 | .tup ds,y9=>match y9 with
   |[d]=>if fx 20 d && dm 20 ds then(findD d ds 0).map λk=>(.int k,d_)else b_
   |_=>b_
 |_,_=>b_
noncomputable def NV:Dat->List Dat->g_
 | .dct ks vs,[k]=>(qg k).bind λk=>match jm k ks vs with
   |some d=>a_ (d,d_)
   |none=>a_ (.non,d_)
 |_,_=>b_
noncomputable def j5:O4->Dat->List Dat->g_
 |.join,a,l=>Xj (λx ds=>(jX ds).bind λys=>if(ys.map (·.length)).sum+ys.length * x.length<=1000000 then a_ (.str (sL x ys),d_)else b_) a l
 |.split,a,l=>PD (λx y=>if 0<y.length/\x.length<=1000000 then a_ (.lst ((PySem.Txt.split x y).map Dat.str),c_)else b_) a l
 |.upper,a,l=>UP (λx=>if x.length<=1000000 then a_ (.str (qM x),d_)else b_) a l
 |.lower,a,l=>UP (λx=>if x.length<=1000000 then a_ (.str (PySem.Txt.lower x),d_)else b_) a l
 |.find,a,l=>PD (λx y=>a_ (.int (PySem.Txt.find x y),d_)) a l
 | .index,a,l=>PD (λx y=>match eJ x y 0 x.length 1 with
   |i::_=>a_ (.int i,d_)
   |[]=>b_) a l
 |.count,a,l=>PD (λx y=>a_ (.int (PySem.Txt.count x y),d_)) a l
 |.startswith,a,l=>PD (λx y=>a_ (.bl (PySem.Txt.startswith x y),d_)) a l
 |.tindex,a,l=>NU a l
 |.isalpha,a,l=>UP (λx=>a_ (.bl (PySem.Txt.isalpha x),d_)) a l
 |.get,a,l=>NV a l
def insI{α:Type}(x:α)(i:Int)(xs:List α):List α:=xs.take (HT.iN xs.length 0 (a_ i))++x::xs.drop (HT.iN xs.length 0 (a_ i))
noncomputable def xG{α:Type}(x:α)(i:Int)(xs:List α):Option (List α):=(Em xs.length i).map λk=>xs.set k x
noncomputable def zr:Dat->List Dat->Option Dat
 |.lst ds,[d]=>if ds.length<aE then a_ (.lst (ds++[d]))else b_
 |_,_=>b_
noncomputable def zq:Dat->List Dat->Option Dat
 | .lst ds,l=>match l with
   |[.lst es]=>if ds.length+es.length<=aE then a_ (.lst (ds++es))else b_
   |[.tup es]=>if ds.length+es.length<=aE then a_ (.lst (ds++es))else b_
   |_=>b_
 |_,_=>b_
noncomputable def zp:Dat->List Dat->Option Dat
 | .lst ds,l=>match l with
   |[.int i,d]=>if ds.length<aE/\-1000000<=i/\i<=1000000 then a_ (.lst (insI d i ds))else b_
   |_=>b_
 |_,_=>b_
noncomputable def zm:Dat->List Dat->Option Dat
 | .lst ds,l=>match l with
   |[d,.int i]=>if -1000000<=i/\i<=1000000 then(xG d i ds).map .lst else b_
   |_=>b_
 | .dct ks vs,l=>match l with
   |[d,k]=>(qg k).bind λk=>if ks.length<aE/\Jx k ks=c_ then a_ (.dct (putD k d ks vs).1 (putD k d ks vs).2)else b_
   |_=>b_
 |_,_=>b_
noncomputable def zo:Dat->List Dat->Option Dat
 | .dct ks _,l=>match l with
   |[.bl c_,k]=>if ks.isEmpty=c_ then(tK k).map λk=>.dcn [k]else b_
   |_=>b_
 | .dcn ks,l=>match l with
   |[.bl c_,k]=>(tK k).bind λk=>if ks.length<aE/\k∉ks then a_ (.dcn (ks++[k]))else b_
   |_=>b_
 |_,_=>b_
noncomputable def gX:xm->Dat->List Dat->Option Dat
 |.app,a,l=>zr a l
 |.ext,a,l=>zq a l
 |.ins,a,l=>zp a l
 |.seti,a,l=>zm a l
 |.dput,a,l=>zo a l
 |_,_,_=>b_
abbrev Fs:=Nat->List Dat->g_
structure Ex where
 fv:List Nat
 ev:Fs->eW->g_
def bF(C:Fs)(e:Ex)(ρ:eW):g_:=e.ev C ρ
noncomputable def j6(C:Fs):List Ex->eW->Option (List Dat)
 |[],_=>a_ []
 |e::es,ρ=>(bF C e ρ).bind λx=>(j6 C es ρ).map λr=>x.1::r
noncomputable def mf(C:Fs):List Ex->eW->Option (List Dat×Bool)
 |[],_=>a_ ([],c_)
 |e::es,ρ=>(bF C e ρ).bind λx=>(mf C es ρ).map λr=>(x.1::r.1,(x.2 || im x.1) && r.2)
noncomputable def wK(C:Fs):List Ex->eW->Option Bool
 |[],_=>a_ c_
 |e::es,ρ=>(bF C e ρ).bind λx=>(iW x.1).bind λz=>if z=c_ then wK C es ρ else a_ d_
def KE(es:List Ex):List Nat:=es.flatMap (·.fv)
inductive Iw where
 |itv (a:Ex)|rng (es:List Ex)|zip (es:List Ex)|enu (a:Ex)
noncomputable def ZO:Iw->List Nat
 |.itv a=>a.fv
 |.rng _=>[]
 |.zip es=>KE es
 |.enu a=>a.fv
noncomputable def zip2(a b:Dat):Option (List Dat):=match a with
 | .str x=>match b with
   |.tup ys=>a_ (m7 ((dW x).map .str) ys)
   |_=>b_
 |_=>b_
noncomputable def Ph(ds:List Dat):Option (List Dat):=match ds with
 |[a,b]=>zip2 a b
 |_=>b_
noncomputable def tU(C:Fs)(it:Iw)(ρ:eW):Option (List Dat):=match it with
 |.itv a=>(bF C a ρ).bind λx=>gJ x.1
 |.rng es=>(j6 C es ρ).bind Gg
 |.zip es=>(j6 C es ρ).bind Ph
 |.enu a=>(bF C a ρ).bind λx=>(Vo x.1).map λxs=>n4 0 xs
noncomputable def Uh(C:Fs)(ρ:eW):Option Ex->Option (Option Int)
 |none=>a_ b_
 |some e=>Js (bF C e ρ)
noncomputable def Ya:Dat->g_
 |.int i=>a_ (.int (-i),d_)
 |_=>b_
noncomputable def Uv(k:g_):Dat->g_
 |.bl b=>if b=c_ then k else a_ (.bl d_,d_)
 |_=>b_
noncomputable def X5(k:g_):Dat->g_
 |.bl b=>if b=c_ then a_ (.bl c_,d_)else k
 |_=>b_
def iG(C:Fs)(nt:Nat)(one:Bool)(ρ0:eW)(ifs:List Ex)(elt:Ex)(d:Dat):Option g_:=
 (E7 nt one d ρ0).bind λρ1=>(wK C ifs ρ1).bind λb=>if b=c_ then(bF C elt ρ1).map a_ else a_ b_
namespace Ex
def con(d:Dat):Ex:=⟨[],λ_ _=>a_ (d,d_)⟩
abbrev e_(i:Int):Ex:=con (.int i)
abbrev f_(x:aV):Ex:=con (.str x)
def v(i:Nat):Ex:=⟨[i],λ_ ρ=>((ρ[i]?).join).map λd=>(d,d_)⟩
def bin(o:Lw)(a b:Ex):Ex:=⟨a.fv++b.fv,λC ρ=>(bF C a ρ).bind λx=>(bF C b ρ).bind λy=>e8 o x.1 y.1⟩
def neg(a:Ex):Ex:=⟨[],λC ρ=>(bF C a ρ).bind λx=>Ya x.1⟩
def cmp(o:Hf)(a b:Ex):Ex:=⟨[],λC ρ=>(bF C a ρ).bind λx=>(bF C b ρ).bind λy=>(dF o x.1 y.1).map λr=>(.bl r,d_)⟩
def TR(o o':Hf)(a b c:Ex):Ex:=⟨[],λC ρ=>(bF C a ρ).bind λx=>(bF C b ρ).bind λy=>(dF o x.1 y.1).bind λr=>
 if r=c_ then(bF C c ρ).bind λz=>(dF o' y.1 z.1).map λr=>(.bl r,d_)else a_ (.bl d_,d_)⟩
def and(a b:Ex):Ex:=⟨a.fv++b.fv,λC ρ=>(bF C a ρ).bind λx=>Uv (bF C b ρ) x.1⟩
def or(a b:Ex):Ex:=⟨a.fv++b.fv,λC ρ=>(bF C a ρ).bind λx=>X5 (bF C b ρ) x.1⟩
def not(a:Ex):Ex:=⟨[],λC ρ=>(bF C a ρ).bind λx=>(iW x.1).map λb=>(.bl (!b),d_)⟩
def ite(c a b:Ex):Ex:=⟨c.fv++a.fv++b.fv,λC ρ=>(bF C c ρ).bind λx=>(iW x.1).bind λz=>if z=c_ then bF C a ρ else bF C b ρ⟩
noncomputable def tup(es:List Ex):Ex:=⟨KE es,λC ρ=>(mf C es ρ).bind λx=>if x.1.length<=1000000 then a_ (.tup x.1,x.2)else b_⟩
noncomputable def lst(es:List Ex):Ex:=⟨KE es,λC ρ=>(mf C es ρ).bind λx=>if x.1.length<=1000000 then a_ (.lst x.1,x.2)else b_⟩
def ix(a b:Ex):Ex:=⟨a.fv++b.fv,λC ρ=>(bF C a ρ).bind λx=>(bF C b ρ).bind λy=>(qh x.1 y.1).map λd=>(d,d_)⟩
noncomputable def Y7(o:Option Ex):List Nat:=match o with
 |none=>[]
 |some e=>e.fv
def sl(a:Ex)(lo hi:Option Ex):Ex:=⟨a.fv++Y7 lo++Y7 hi,λC ρ=>(bF C a ρ).bind λx=>(Uh C ρ lo).bind λl=>(Uh C ρ hi).bind λh=>Iy x.1 l h⟩
def call(f:Nat)(es:List Ex):Ex:=⟨KE es,λC ρ=>(j6 C es ρ).bind λds=>C f ds⟩
def blt(b:LP)(es:List Ex):Ex:=⟨KE es,λC ρ=>(j6 C es ρ).bind λds=>eD b ds⟩
def l5(m:O4)(o:Ex)(es:List Ex):Ex:=⟨o.fv++KE es,λC ρ=>(bF C o ρ).bind λx=>(j6 C es ρ).bind λds=>j5 m x.1 ds⟩
def vL:Ex:=⟨[],λ_ _=>a_ (.dct [] [],c_)⟩
def comp(nt:Nat)(one:Bool)(caps:List Nat)(it:Iw)(ifs:List Ex)(elt:Ex):Ex:=⟨caps++ZO it,λC ρ=>(tU C it ρ).bind λitems=>if items.length<=1000000 then
 (k9 (iG C nt one (fJ nt caps ρ) ifs elt) items).map λys=>(.lst ys.1,ys.2)else b_⟩
end Ex
abbrev cF:=List g_
inductive Out where
 |nx (ρ:cF)|rt (d:Dat) (fr:Bool)|bk (ρ:cF)|ct (ρ:cF)
noncomputable def rZ(ρ:cF):eW:=ρ.map λo=>match o with
 |some (d,d_)=>a_ d
 |_=>b_
def full(ρ:cF):eW:=ρ.map λo=>o.map (·.1)
def rK(ρ:cF):cF:=ρ.map λo=>o.map λs=>(s.1,d_)
def BJ(ρ:cF):rZ (rK ρ)=full ρ:=by
 unfold rZ rK full;rw[bc];exact dv λo _=>by cases o<;>rfl
def ka(is:List Nat)(ρ:cF):cF:=is.foldl (λρ i=>ρ.modify i λo=>o.map λs=>(s.1,d_)) ρ
def EK(C:Fs)(e:Ex)(ρ:cF):Option (Dat×Bool×cF):=(bF C e (full ρ)).bind λx=>if(im x.1 || x.2)=c_ then a_ (x.1,x.2,ρ)
 else(bF C e (rZ (ka e.fv ρ))).map λy=>(y.1,y.2,ka e.fv ρ)
noncomputable def Tr(C:Fs)(it:Iw)(ρ:cF):Option (List Dat×cF):=match it with
 |.itv a=>(EK C a ρ).bind λx=>(gJ x.1).map λds=>(ds,x.2.2)
 |.rng es=>(tU C (.rng es) (full ρ)).map λds=>(ds,ρ)
 |.zip es=>(tU C (.zip es) (rZ (ka (KE es) ρ))).map λds=>(ds,ka (KE es) ρ)
 |.enu a=>(tU C (.enu a) (rZ (ka a.fv ρ))).map λds=>(ds,ka a.fv ρ)
noncomputable def ot:List Nat->List Dat->cF->cF
 |i::is,d::ds,ρ=>ot is ds (ρ.set i (a_ (d,d_)))
 |_,_,ρ=>ρ
noncomputable def dC(one:Bool)(ts:List Nat)(d:Dat)(ρ:cF):Option cF:=match one with
 | true=>match ts with
   |[i]=>a_ (ρ.set i (a_ (d,d_)))
   |_=>b_
 | false=>match d with
   |.tup ds=>if ds.length=ts.length then a_ (ot ts ds ρ)else b_
   |_=>b_
noncomputable def nO(k:cF->Option Out):Out->Option Out
 |.nx ρ=>k ρ
 |.ct ρ=>k ρ
 |.bk ρ=>a_ (.nx ρ)
 |.rt d fr=>a_ (.rt d fr)
noncomputable def dn(bnd:Dat->cF->Option cF)(body:cF->Option Out):List Dat->cF->Option Out
 |[],ρ=>a_ (.nx ρ)
 |d::ds,ρ=>(bnd d ρ).bind λρ1=>(body ρ1).bind (nO (dn bnd body ds))
structure Sx where
 ex:Fs->cF->Option Out
def fE(C:Fs)(s:Sx)(ρ:cF):Option Out:=s.ex C ρ
noncomputable def MO(k:cF->Option Out):Out->Option Out
 |.nx ρ=>k ρ
 |o=>a_ o
noncomputable def bN(C:Fs):List Sx->cF->Option Out
 |[],ρ=>a_ (.nx ρ)
 |s::ss,ρ=>(fE C s ρ).bind (MO (bN C ss))
noncomputable def XA(ts:List Nat)(ρ:cF):Dat->Option Out
 |.tup ds=>if ds.length=ts.length then a_ (.nx (ot ts ds ρ))else b_
 |_=>b_
noncomputable def Gw(op:xm)(i:Nat)(ρ:cF)(ds:List Dat):g_->Option Out
 |some (d,c_)=>(gX op d ds).map λd'=>.nx (ρ.set i (a_ (d',c_)))
 |_=>b_
namespace Sx
noncomputable def set(i:Nat)(e:Ex):Sx:={ ex:=λC ρ=>(EK C e ρ).map λx=>.nx (x.2.2.set i (a_ (x.1,x.2.1 && !im x.1))) }
def Mg(ts:List Nat)(e:Ex):Sx:={ ex:=λC ρ=>(EK C e ρ).bind λx=>XA ts x.2.2 x.1 }
def exp(e:Ex):Sx:={ ex:=λC ρ=>(bF C e (full ρ)).map λ_=>.nx ρ }
def ret(e:Ex):Sx:={ ex:=λC ρ=>(bF C e (full ρ)).map λx=>.rt x.1 x.2 }
def pe(i:Nat):Sx:={ ex:=λ_ ρ=>((ρ[i]?).join).map λx=>.rt x.1 x.2 }
def xC:Sx:={ ex:=λ_ _=>b_ }
def brk:Sx:={ ex:=λ_ ρ=>a_ (.bk ρ) }
def ifs(c:Ex)(a b:List Sx):Sx:={ ex:=λC ρ=>(bF C c (full ρ)).bind λx=>(iW x.1).bind λz=>if z=c_ then bN C a ρ else bN C b ρ }
def loop(one:Bool)(ts:List Nat)(it:Iw)(body:List Sx):Sx:={ ex:=λC ρ=>(Tr C it ρ).bind λx=>dn (dC one ts) (bN C body) x.1 x.2 }
def «mut» (op:xm)(i:Nat)(es:List Ex):Sx:={ ex:=λC ρ=>(mf C es (full ρ)).bind λx=>if x.2=c_ then Gw op i ρ x.1 (ρ[i]?).join else b_ }
end Sx
noncomputable def Yx:Out->g_
 |.nx _=>a_ (.non,d_)
 |.rt d fr=>a_ (d,fr)
 |_=>b_
def Ov(C:Fs)(np nl:Nat)(body:List Sx)(ds:List Dat):g_:=
 if ds.length=np then(bN C body (ds.map (λd=>a_ (d,d_))++iP (nl - np) b_)).bind Yx else b_
def gE(K:Fg)(C:Fs)(x:Ex):TE:=λσ H Q=>∃ρ d fr,bF C x ρ=a_ (d,fr)/\tE K ρ d fr σ H Q
def gA(K:Fg)(C:Fs)(xs:List Ex):TA:=λσ H Q=>∃ρ ds,j6 C xs ρ=a_ ds/\ZG K ρ ds σ H Q
def gF(K:Fg)(C:Fs)(xs:List Ex):TA:=λσ H Q=>∃ρ ds al,mf C xs ρ=a_ (ds,al)/\ZF K ρ ds al σ H Q
def gT(K:Fg)(C:Fs)(x:Ex):TT:=λσ H Q=>∃ρ d fr b,bF C x ρ=a_ (d,fr)/\iW d=a_ b/\tT K ρ b σ H Q
abbrev SE(X:Cx)(C:Fs)(e:aI)(x:Ex):Prop:=PE X e (gE X.K C x)
abbrev SA(X:Cx)(C:Fs)(es:List aI)(xs:List Ex):Prop:=PA X es (gA X.K C xs)
abbrev SF(X:Cx)(C:Fs)(es:List aI)(xs:List Ex):Prop:=PA X es (gF X.K C xs)
abbrev ST(X:Cx)(C:Fs)(e:aI)(x:Ex):Prop:=PT X e (gT X.K C x)
def gB(K:Fg)(f:Dat->Dat->g_):R2:=λx y H Q=>∃da db d fr,f da db=a_ (d,fr)/\rD K da db d fr x y H Q
def gL(K:Fg)(f:List Dat->g_):List V->Hp->VK->Prop:=λxs H Q=>∃ds d fr,f ds=a_ (d,fr)/\ZJ K ds d fr xs H Q
section
variable{X:Cx}{C:Fs}{a b c e:aI}{xa xb xc:Ex}{pos:fu}{es:List aI}{xs:List Ex}
def bp{K:Fg}{H H':Hp}{d:Dat}{v:V}:(d_=c_->fi K H H' d v):=λh=>nomatch h
noncomputable def QP(i:Nat){x:aV}(hN:X.N[i]?=a_ x:=by rfl)(hv:Qe X.env.scope x:=by first|exact Or.inl rfl|exact Or.inr (Or.inl rfl)|exact Or.inr (Or.inr rfl))(hd:(x == ("__debug__":aV))=d_:=by decide)
  (hcd:(x == ("__classdict__":aV))=d_:=by decide):SE X C (.Name x pos) (.v i):=
 PE.imp (ux hN hv hd hcd) λσ H Q z3=>by
  obtain⟨ρ,d,fr,h,F,g,R,k⟩:=z3;obtain⟨d',h1,h2⟩:=dX h;cases h2
  have h1':ρ[i]?=a_ (a_ d):=by
   cases q:ρ[i]? with
   |none=>rw[q]at h1;cases h1
   |some z=>rw[q]at h1;exact congrArg a_ h1
  obtain⟨v,e1,r⟩:=R i d h1';exact⟨v,e1,k v F H (Step.refl g) r bp⟩
def uf{d:Dat}{v:V}(h:PE X e (tC v))(hd:∀F,Rep X.K F d v):SE X C e (.con d):=
 PE.imp h λσ H Q z3=>by
  obtain⟨ρ,d',fr,h,F,g,R,k⟩:=z3;cases h;exact k v F H (Step.refl g) (hd _) bp
def QX{i:Int}{j}:SE X C (.Constant (.int i) j pos) (.con (.int i)):=uf RA λ_=>rfl
def Vu{b:Bool}{j}:SE X C (.Constant (.bool b) j pos) (.con (.bl b)):=uf VJ λ_=>rfl
def QS{j}:SE X C (.Constant .none j pos) (.con .non):=uf Ry λ_=>rfl
def QR{x:aV}{j}:SE X C (.Constant (.str x) j pos) (.con (.str x)):=uf Rw λ_=>rfl
def MU{x:aV}{d:Dat}{v:V}{u:ab}(hg:Gl X x)(hm:X.mg x=a_ u)(r:RelV v u)(hd':∀F,Rep X.K F d v)(hd:(x == ("__debug__":aV))=d_:=by decide):SE X C (.Name x pos) (.con d):=uf (Np hg hm r hd) hd'
def Bc{α β γ:Type}{o:Option α}{o':Option β}{f:α->β->Option γ}{z:γ}(h:(o.bind λx=>o'.bind λy=>f x y)=a_ z):∃x y,o=a_ x/\o'=a_ y/\f x y=a_ z:=by
 obtain⟨x,h1,h⟩:=cU h;obtain⟨y,h2,h⟩:=cU h;exact⟨x,y,h1,h2,h⟩
def xA{f:Dat->Dat->g_}{x:Ex}(hev:∀ρ d fr,bF C x ρ=a_ (d,fr)->∃p q,bF C xa ρ=a_ p/\bF C xb ρ=a_ q/\f p.1 q.1=a_ (d,fr)) :
  ∀σ H Q,gE X.K C x σ H Q->UL (gB X.K f) (gE X.K C xa) (gE X.K C xb) σ H Q:=λσ H Q z3=>by
 obtain⟨ρ,d,fr,h,F,g,R,k⟩:=z3;obtain⟨⟨da,fa⟩,⟨db,fb⟩,h1,h2,h3⟩:=hev ρ d fr h;refine⟨ρ,da,fa,h1,F,g,R,λv F1 H1 ee r1 _=>⟨ρ,db,fb,h2,F1,ee.good,R.mono ee.ff,λw F2 H2 iu r2 _=>?_⟩⟩;exact⟨da,db,d,fr,h3,F2,iu.good,r1.mono iu.ff,r2,λu F3 H3 oo r3 f3=>k u F3 H3 ((ee.trans iu).trans oo) r3 λz=>(f3 z).back (F:=F) (ee.hh.trans iu.hh)⟩
def QZ{op:vA}{o:Lw}(ho:jd X (binaryOp op) (gB X.K (e8 o)))(ha:SE X C a xa)(hb:SE X C b xb):SE X C (.BinOp a op b pos) (.bin o xa xb):=
 PE.imp (VI ho ha hb) (xA λρ d fr h=>by
  exact Bc h)
def mj(o:Hf)(x y:Dat):g_:=(dF o x y).map λr=>(.bl r,d_)
def QY{op:pJ}{o:Hf}(ho:jd X (compareOp op) (gB X.K (mj o)))(ha:SE X C a xa)(hb:SE X C b xb)(hm:behindInMarks op b=d_):SE X C (.Compare a [op] [b] pos) (.cmp o xa xb):=
 PE.imp (Nr ho ha hb hm) (xA λρ d fr h=>by
  exact Bc h)
def Qt{op:pJ}{o:Hf}(ho:jd X (compareOp op) (gB X.K (mj o)))(ha:SE X C a xa)(hb:SE X C b xb)(hm:behindInMarks op b=d_):ST X C (.Compare a [op] [b] pos) (.cmp o xa xb):=
 PT.imp (Nj ho ha hb hm) λσ H Q z3=>by
  obtain⟨ρ,d,fr,b,h,hb,F,g,R,k⟩:=z3
  refine xA (X:=X) (x:=.cmp o xa xb) (f:=mj o) (λρ d fr h=>by
   exact Bc h) σ H _ ⟨ρ,d,fr,h,F,g,R,λv F1 H1 st r _=>?_⟩
  obtain⟨p,q,_,_,h3⟩:=Bc h;obtain⟨z,_,h4⟩:=dX h3;cases h4;cases hb;exact⟨_,r,k F1 H1 st⟩
def Vt(hr:UE X (gB X.K λx y=>(qh x y).map λd=>(d,d_)))(ha:SE X C a xa)(hb:SE X C b xb)(hs:yJ b):SE X C (.Subscript a b pos) (.ix xa xb):=
 PE.imp (Pr hr ha hb hs) (xA λρ d fr h=>by
  exact Bc h)
def QT(ha:SE X C a xa):SE X C (.UnaryOp .USub a pos) (.neg xa):=
 PE.imp (VG Ql ha) λσ H Q z3=>by
  obtain⟨ρ,d,fr,h,F,g,R,k⟩:=z3;obtain⟨⟨da,fa⟩,h1,h⟩:=cU h;refine⟨ρ,da,fa,h1,F,g,R,λv F1 H1 ee r1 _=>?_⟩
  cases da with
  |int i=>cases h;exact⟨i,r1,k _ F1 H1 ee rfl bp⟩
  |_=>cases h
set_option tactic.hygienic true in
def Dm{K:Fg}{F H:Hp}{d:Dat}{v:V}{b:Bool}(g:Good F H)(r:Rep K F d v)(h:iW d=a_ b):Ux K v H b:=by
 cases d with
 |non=>rw[show v=.non from r];cases h;exact rfl
 |bl c=>rw[show v=.bl c from r];cases h;exact rfl
 |int i=>rw[show v=.int i from r];cases h;exact rfl
 |str x=>
   rw[show v=.str x from r];simp only[iW]at h;split at h
   ·rename_i hz;cases h;exact⟨hz,rfl⟩
   ·cases h
 |tup ds=>
   obtain⟨p,vs,rfl,t,r⟩:=r;cases h
   have e:(!ds.isEmpty)=!vs.isEmpty:=by
    have:=r.length
    cases ds<;>cases vs<;>first|rfl|cases this
   rw[e];exact .inr (.inl ⟨vs,(t.mono g.sub).sq,rfl⟩)
 |lst ds=>
   obtain⟨p,vs,rfl,t,r⟩:=r;cases h
   have e:(!ds.isEmpty)=!vs.isEmpty:=by
    have:=r.length
    cases ds<;>cases vs<;>first|rfl|cases this
   rw[e];exact .inl ⟨vs,g.sub.seq t,rfl⟩
 |dcn _=>cases h
 |dct ks ds=>
   obtain⟨p,k_,rfl,t,kk,r⟩:=r;cases h
   have e:(!ks.isEmpty)=!k_.isEmpty:=by
    rw[<-kk];cases k_<;>rfl
   rw[e];exact .inr (.inr ⟨k_,g.sub _ _ t,rfl⟩)
noncomputable def lJ(h:SE X C e xa)(he:∀whole,isTrue e X.env whole=(do let v <-whole;standAt e.pos;holding [v] (truthy v)):=by intro _;rfl):ST X C e xa:=
 PT.imp (IZ h he) λσ H Q ⟨ρ,d,fr,b,h,hb,F,g,R,k⟩=>⟨ρ,d,fr,h,F,g,R,λv F1 H1 ee r1 _=>⟨b,Dm ee.good r1 hb,k F1 H1 ee⟩⟩
abbrev SW(X:Cx)(C:Fs)(e:aI)(x:Ex):Prop:=PW X e (gT X.K C x)
def Mm(ha:ST X C a xa):SW X C (.BoolOp .And [a] pos) xa:=Ng ha
def Qp(ha:ST X C a xa):SW X C (.BoolOp .Or [a] pos) xa:=Rg ha
def PW.imp{t t':TT}(h:PW X e t)(f:∀σ H Q,t' σ H Q->t σ H Q):PW X e t':=λwh h_ s σ H Q I q=>h wh h_ s σ H Q I (f _ _ _ q)
def Qq{rest:List aI}(ha:ST X C a xa)(hb:SW X C (.BoolOp .And (b::rest) pos) xb):SW X C (.BoolOp .And (a::b::rest) pos) (.and xa xb):=
 PW.imp (Rh ha hb) λσ H Q z3=>by
  obtain⟨ρ,d,fr,z,h,hz,F,g,R,k⟩:=z3;obtain⟨⟨da,fa⟩,h1,h⟩:=cU h
  cases da with
  |bl c=>
    cases c with
    |true=>exact⟨ρ,_,fa,c_,h1,rfl,F,g,R,λF1 H1 ee=>by
      refine Cw ?_
      exact⟨ρ,d,fr,z,h,hz,F1,ee.good,R.mono ee.ff,λF2 H2 iu=>k F2 H2 (ee.trans iu)⟩⟩
    |false=>
      cases h;cases hz
      exact⟨ρ,_,fa,d_,h1,rfl,F,g,R,λF1 H1 ee=>by
       refine Cy ?_
       exact k F1 H1 ee⟩
  |_=>cases h
def Vh{rest:List aI}(ha:ST X C a xa)(hb:SW X C (.BoolOp .Or (b::rest) pos) xb):SW X C (.BoolOp .Or (a::b::rest) pos) (.or xa xb):=
 PW.imp (VC ha hb) λσ H Q z3=>by
  obtain⟨ρ,d,fr,z,h,hz,F,g,R,k⟩:=z3;obtain⟨⟨da,fa⟩,h1,h⟩:=cU h
  cases da with
  |bl c=>
    cases c with
    |false=>exact⟨ρ,_,fa,d_,h1,rfl,F,g,R,λF1 H1 ee=>by
      refine Cy ?_
      exact⟨ρ,d,fr,z,h,hz,F1,ee.good,R.mono ee.ff,λF2 H2 iu=>k F2 H2 (ee.trans iu)⟩⟩
    |true=>
      cases h;cases hz
      exact⟨ρ,_,fa,c_,h1,rfl,F,g,R,λF1 H1 ee=>by
       refine Cw ?_
       exact k F1 H1 ee⟩
  |_=>cases h
def Qs(ha:ST X C a xa):ST X C (.UnaryOp .Not a pos) (.not xa):=
 PT.imp (Rn ha) λσ H Q z3=>by
  obtain⟨ρ,d,fr,z,h,hz,F,g,R,k⟩:=z3;obtain⟨⟨da,fa⟩,h1,h⟩:=cU h;obtain⟨b',hb,h⟩:=dX h;cases h;cases hz;exact⟨ρ,da,fa,b',h1,hb,F,g,R,k⟩
def DJ{op}(ha:SE X C a xa):SE X C (.BoolOp op [a] pos) xa:=Rx ha
def Q0{rest:List aI}(ha:SE X C a xa)(hb:SE X C (.BoolOp .And (b::rest) pos) xb):SE X C (.BoolOp .And (a::b::rest) pos) (.and xa xb):=
 PE.imp (RC ha hb) λσ H Q z3=>by
  obtain⟨ρ,d,fr,h,F,g,R,k⟩:=z3;obtain⟨⟨da,fa⟩,h1,h⟩:=cU h
  cases da with
  |bl c=>
    refine⟨ρ,_,fa,h1,F,g,R,λv F1 H1 ee r1 _=>⟨c,r1,?_⟩⟩
    cases c with
    |true=>
      refine Cw ?_;exact⟨ρ,d,fr,h,F1,ee.good,R.mono ee.ff,λv F2 H2 iu r2 f2=>k v F2 H2 (ee.trans iu) r2 λz=>(f2 z).back (F:=F) ee.hh⟩
    |false=>
      cases h;exact Cy (k _ F1 H1 ee rfl bp)
  |_=>cases h
def Vq{rest:List aI}(ha:SE X C a xa)(hb:SE X C (.BoolOp .Or (b::rest) pos) xb):SE X C (.BoolOp .Or (a::b::rest) pos) (.or xa xb):=
 PE.imp (VH ha hb) λσ H Q z3=>by
  obtain⟨ρ,d,fr,h,F,g,R,k⟩:=z3;obtain⟨⟨da,fa⟩,h1,h⟩:=cU h
  cases da with
  |bl c=>
    refine⟨ρ,_,fa,h1,F,g,R,λv F1 H1 ee r1 _=>⟨c,r1,?_⟩⟩
    cases c with
    |false=>
      refine Cy ?_;exact⟨ρ,d,fr,h,F1,ee.good,R.mono ee.ff,λv F2 H2 iu r2 f2=>k v F2 H2 (ee.trans iu) r2 λz=>(f2 z).back (F:=F) ee.hh⟩
    |true=>
      cases h;exact Cw (k _ F1 H1 ee rfl bp)
  |_=>cases h
def QV{cnd:aI}(hc:ST X C cnd xc)(ha:SE X C a xa)(hb:SE X C b xb):SE X C (.IfExp cnd a b pos) (.ite xc xa xb):=
 PE.imp (Jo hc ha hb) λσ H Q z3=>by
  obtain⟨ρ,d,fr,h,F,g,R,k⟩:=z3;obtain⟨⟨da,fa⟩,h1,h⟩:=cU h;obtain⟨z,hz,h⟩:=cU h;refine⟨ρ,da,fa,z,h1,hz,F,g,R,λF1 H1 ee=>?_⟩
  cases z with
  |true=>
    refine Cw ?_;exact⟨ρ,d,fr,h,F1,ee.good,R.mono ee.ff,λv F2 H2 iu r2 f2=>k v F2 H2 (ee.trans iu) r2 λz=>(f2 z).back (F:=F) ee.hh⟩
  |false=>
    refine Cy ?_;exact⟨ρ,d,fr,h,F1,ee.good,R.mono ee.ff,λv F2 H2 iu r2 f2=>k v F2 H2 (ee.trans iu) r2 λz=>(f2 z).back (F:=F) ee.hh⟩
def qQ:SA X C [] []:=PA.imp Cg λσ H Q z3=>by
 obtain⟨ρ,ds,h,F,g,R,k⟩:=z3;simp only[j6]at h;cases h;exact k [] F H (Step.refl g) rfl
def lx(ha:SE X C e xa)(hr:SA X C es xs)(hs:aU (e::es) X.env=(d_,eval e X.env)::aU es X.env:=by rfl):SA X C (e::es) (xa::xs):=
 PA.imp (tH ha hr hs) λσ H Q z3=>by
  obtain⟨ρ,ds,h,F,g,R,k⟩:=z3;simp only[j6]at h;obtain⟨⟨d,fr⟩,h1,h⟩:=cU h;obtain⟨r,h2,h⟩:=dX h;cases h;exact⟨ρ,d,fr,h1,F,g,R,λv F1 H1 ee r1 _=>⟨ρ,r,h2,F1,ee.good,R.mono ee.ff,λvs F2 H2 iu r2=>k _ F2 H2 (ee.trans iu) ⟨v,vs,rfl,r1.mono iu.ff,r2⟩⟩⟩
def tP{n:Nat}(h:n<=1000000):n<=aE:=by rw[bB];omega
def Iz:SF X C [] []:=PA.imp Cg λσ H Q z3=>by
 obtain⟨ρ,ds,al,h,F,g,R,k⟩:=z3;simp only[mf]at h;cases h;exact k [] F H (Step.refl g) rfl λ_=>⟨[],et,(λa z=>by cases z),rfl,rfl⟩
def DG(ha:SE X C e xa)(hr:SF X C es xs)(hs:aU (e::es) X.env=(d_,eval e X.env)::aU es X.env:=by rfl):SF X C (e::es) (xa::xs):=
 PA.imp (tH ha hr hs) λσ H Q z3=>by
  obtain⟨ρ,ds,al,h,F,g,R,k⟩:=z3;simp only[mf]at h;obtain⟨⟨d,fr⟩,h1,h⟩:=cU h;obtain⟨⟨r,ar⟩,h2,h⟩:=dX h;cases h;refine⟨ρ,d,fr,h1,F,g,R,λv F1 H1 ee r1 f1=>⟨ρ,r,ar,h2,F1,ee.good,R.mono ee.ff,λvs F2 H2 iu r2 f2=>k _ F2 H2 (ee.trans iu) ⟨v,vs,rfl,r1.mono iu.ff,r2⟩ λz=>?_⟩⟩;simp only[aq,jt]at z;refine e9.cons ee.hh iu.hh ?_ (f2 z.2)
  rcases z.1 with z1|z1
  ·exact f1 z1
  ·exact .j4 ee.good z1 r1
set_option tactic.hygienic true
def QQ{x1}(h:SF X C es xs):SE X C (.Tuple es x1 pos) (.tup xs):=
 PE.imp (Rv h) λσ H Q z3=>by
  obtain⟨ρ,d,fr,h,F,g,R,k⟩:=z3;obtain⟨⟨ds,al⟩,h1,h⟩:=cU h;dsimp only at h;split at h
  ·rename_i hz;cases h;refine⟨ρ,ds,_,h1,F,g,R,λvs F1 H1 ee r1 f1=>⟨by rw[r1.length];exact tP hz,λp hp=>?_⟩⟩;exact k _ _ _ (ee.trans (Step.alloc ee.good hp)) ⟨p,vs,rfl,.inl cw,r1.mono (bX.upd (ee.good.sub.free hp))⟩ λz=>.tup hp (f1 z)
  ·cases h
def QU(h:SF X C es xs):SE X C (.List es pos) (.lst xs):=
 PE.imp (Rz h) λσ H Q z3=>by
  obtain⟨ρ,d,fr,h,F,g,R,k⟩:=z3;obtain⟨⟨ds,al⟩,h1,h⟩:=cU h;dsimp only at h;split at h
  ·rename_i hz;cases h;refine⟨ρ,ds,_,h1,F,g,R,λvs F1 H1 ee r1 f1=>⟨by rw[r1.length];exact tP hz,λp hp=>?_⟩⟩;have r2:=r1.mono (bX.upd (o:=.lst vs) (ee.good.sub.free hp));exact k _ _ _ (ee.trans (Step.alloc ee.good hp)) ⟨p,vs,rfl,.inl (.inl cw),r2⟩ λz=>.lst ee.hh hp (f1 z)
  ·cases h
set_option tactic.hygienic false
def Pl(K:Fg)(n:Nat)(f:List Dat->g_):Sp:=λvs H Q _=>vs.length=n/\gL K f vs H Q
def qx{f:List Dat->g_}{x:Ex}(hev:∀ρ d fr,bF C x ρ=a_ (d,fr)->∃ds,j6 C xs ρ=a_ ds/\f ds=a_ (d,fr)) :
  ∀σ H Q,gE X.K C x σ H Q->XO (gL X.K f) (gA X.K C xs) σ H Q:=λσ H Q z3=>by
 obtain⟨ρ,d,fr,h,F,g,R,k⟩:=z3;obtain⟨ds,h1,h2⟩:=hev ρ d fr h;refine⟨ρ,ds,h1,F,g,R,λvs F1 H1 ee r1=>⟨ds,d,fr,h2,F1,ee.good,r1,λv F2 H2 iu r2 f2=>k v F2 H2 (ee.trans iu) r2 λz=>(f2 z).back (F:=F) ee.hh⟩⟩
theorem uV:∀{xs:List Ex}{ρ:eW}{ds:List Dat},j6 C xs ρ=a_ ds->ds.length=xs.length
 |[],ρ,ds,h=>by simp only[j6]at h;cases h;rfl
 |x::xs,ρ,ds,h=>by
   simp only[j6]at h;obtain⟨d,_,h⟩:=cU h;obtain⟨r,h2,h⟩:=dX h;cases h;rw[aM,aM,uV h2]
def MX{k:Nat}{f:ai}{fd:en}{ps:List aV}{x:aV}{p:fu}(j n:Nat)(G:mR X.prog X.w X.K X.mg X.base Fi k f fd ps (Pl X.K n (C j)))(hr:mr k X.A)(hg:Gl X x)(hm:X.mg x=a_ (.ref f))(hk:fS X.K (.ref f)=c_)(hb:Binds X.K fd ps [])
  (ha:SA X C (e::es) (xa::xs))(hn:(xa::xs).length=n:=by rfl)(hdb:(x == ("__debug__":aV))=d_:=by decide)(he:aU (e::es) X.env=(d_,eval e X.env)::aU es X.env:=by rfl)(hpl:(backTo pos (aU es X.env)).any (·.1)=d_:=by rfl) :
  SE X C (.Call (.Name x p) (e::es) [] pos) (.call j (xa::xs)):=
 PE.imp (Nt G hr hg hm hk hb .nil Pt ha hdb he hpl) λσ H Q h=>by
  have h':=qx (X:=X) (xs:=xa::xs) (f:=C j) (x:=.call j (xa::xs)) (λρ d fr h=>by
   exact cU h) σ H Q h
  obtain⟨ρ,ds,h1,F,g,R,k⟩:=h';refine⟨ρ,ds,h1,F,g,R,λvs F1 H1 ee r1=>?_⟩;show Pl X.K n (C j) (vs++[]) H1 Q E0;rw[aX];exact⟨by rw[r1.length,uV h1,hn],k vs F1 H1 ee r1⟩
def xJ{x:aV}{p:fu}{id:String}{bt:LP}(hc:jB X (.builtin id) (gL X.K (eD bt)))(hg:Gl X x)(hm:X.mg x=b_)(hv:bootBuiltins x=a_ (.builtin id))(ha:SA X C (e::es) xs)(hn:x≠"__name__":=by decide)(hdb:(x == ("__debug__":aV))=d_:=by decide)
  (he:aU (e::es) X.env=(d_,eval e X.env)::aU es X.env:=by rfl)(hpl:(backTo pos (aU es X.env)).any (·.1)=d_:=by rfl):SE X C (.Call (.Name x p) (e::es) [] pos) (.blt bt xs):=
 PE.imp (uy hc hg hm hv ha hn hdb he hpl) (qx λρ d fr h=>by
  exact cU h)
def xI{x:aV}{p:fu}{T:String}{bt:LP}(hc:jB X (.type T) (gL X.K (eD bt)))(hg:Gl X x)(hm:X.mg x=b_)(hv:bootBuiltins x=a_ (.type T))(ha:SA X C (e::es) xs)(hn:x≠"__name__":=by decide)(hdb:(x == ("__debug__":aV))=d_:=by decide)
  (he:aU (e::es) X.env=(d_,eval e X.env)::aU es X.env:=by rfl)(hpl:(backTo pos (aU es X.env)).any (·.1)=d_:=by rfl):SE X C (.Call (.Name x p) (e::es) [] pos) (.blt bt xs):=
 PE.imp (Gr hc hg hm hv ha hn hdb he hpl) (qx λρ d fr h=>by
  exact cU h)
end
section
variable{X:Cx}{C:Fs}{a b c e:aI}{xa xb xc:Ex}{pos:fu}{es:List aI}{xs:List Ex}{h_:List (ai×fe)}{σ:St}{F H:Hp}{s:ae}
theorem kA:∀{n:Nat}{ds:List Dat}{j:Nat}{d:Dat},dm n ds=c_->ds[j]?=a_ d->fx n d=c_
 |_,[],_,_,_,e=>by simp at e
 |n,x::xs,0,d,h,e=>by
   simp only[dm,aq]at h;simp at e;subst e;exact h.1
 |n,x::xs,j+1,d,h,e=>by
   simp only[dm,aq]at h;exact kA h.2 (by simpa using e)
theorem jg:∀xs ys:List Dat,kM xs ys=((ax (min xs.length ys.length)).all (λj=>jT (xs.getD j .non) (ys.getD j .non)) && xs.length == ys.length)
 |[],[]=>by simp[kM]
 |[],y::ys=>by simp[kM]
 |x::xs,[]=>by simp[kM]
 |x::xs,y::ys=>by
   have h:=jg xs ys;simp only[kM,aM,Nat.succ_min_succ,Nat.succ_eq_add_one];rw[h,List.range_succ_eq_map,cu,List.all_map];simp[Function.comp_def,Pf]
def _root_.L2.Inv.lstR{a:ai}{vs:List V}(I:Inv X h_ σ H s)(g:Good F H)(h:oG X.K F a vs):∃its:List ab,cD vs its/\PlainL s.heap a its.toArray/\vs.length<=aE:=I.list (g.sub.seq h)
def _root_.L2.Inv.tupR{a:ai}{vs:List V}(I:Inv X h_ σ H s)(g:Good F H)(h:Tq X.K F a vs):∃its:List ab,cD vs its/\L4 s.heap a its.toArray/\vs.length<=aE:=I.tuple (h.mono g.sub).sq
def _root_.L2.Inv.noLT{a:ai}{vs ws:List V}(I:Inv X h_ σ H s)(g:Good F H)(h:oG X.K F a vs)(h':Tq X.K F a ws):False:=by
 obtain⟨its,_,⟨o,n,e,c,_⟩,_⟩:=I.lstR g h;obtain⟨its',_,⟨o',e',c',_⟩,_⟩:=I.tupR g h';rw[e]at e';cases e';rw[c]at c'
 injection c' with z
 exact absurd z (by decide)
mutual
noncomputable def oS:Dat->Bool
 |.dct _ _=>d_
 |.dcn _=>d_
 |.tup xs=>gD xs
 |.lst xs=>gD xs
 |_=>c_
noncomputable def gD:List Dat->Bool
 |[]=>c_
 |x::xs=>oS x && gD xs
end
mutual
theorem uE:∀(n:Nat)(d:Dat),fx n d=c_->oS d=c_
 |n,.non,_=>rfl
 |n,.bl _,_=>rfl
 |n,.int _,_=>rfl
 |n,.str _,_=>rfl
 |0,.tup _,h=>by simp[fx]at h
 |0,.lst _,h=>by simp[fx]at h
 |n+1,.tup xs,h=>qZ n xs (by simpa [fx]using h)
 |n+1,.lst xs,h=>qZ n xs (by simpa [fx]using h)
 |n,.dct _ _,h=>by cases n<;>simp[fx]at h
 |n,.dcn _,h=>by cases n<;>simp[fx]at h
theorem qZ:∀(n:Nat)(ds:List Dat),dm n ds=c_->gD ds=c_
 |n,[],_=>rfl
 |n,d::ds,h=>by
   have h':fx n d=c_/\dm n ds=c_:=by cases n<;>simpa [dm]using h
   simp only[gD,uE n d h'.1,qZ n ds h'.2,iq]
end
mutual
theorem zK(I:Inv X h_ σ H s)(g:Good F H):∀(da db:Dat){x:V},oS da=c_->oS db=c_->Rep X.K F da x->Rep X.K F db x->jT da db=c_
 |.non,db,x,na,nb,ra,rb=>by
   rw[show x=.non from ra]at rb
   cases db with
   |non=>rfl
   |tup _=>obtain⟨_,_,z,_⟩:=rb;cases z
   |lst _=>obtain⟨_,_,z,_⟩:=rb;cases z
   |dct _ _=>exact nomatch nb
   |dcn _=>exact nomatch nb
   |_=>cases rb
 |.bl b,db,x,na,nb,ra,rb=>by
   rw[show x=.bl b from ra]at rb
   cases db with
   |bl c=>cases rb;simp[jT]
   |tup _=>obtain⟨_,_,z,_⟩:=rb;cases z
   |lst _=>obtain⟨_,_,z,_⟩:=rb;cases z
   |dct _ _=>exact nomatch nb
   |dcn _=>exact nomatch nb
   |_=>cases rb
 |.int i,db,x,na,nb,ra,rb=>by
   rw[show x=.int i from ra]at rb
   cases db with
   |int c=>cases rb;simp[jT]
   |tup _=>obtain⟨_,_,z,_⟩:=rb;cases z
   |lst _=>obtain⟨_,_,z,_⟩:=rb;cases z
   |dct _ _=>exact nomatch nb
   |dcn _=>exact nomatch nb
   |_=>cases rb
 |.str i,db,x,na,nb,ra,rb=>by
   rw[show x=.str i from ra]at rb
   cases db with
   |str c=>cases rb;simp[jT]
   |tup _=>obtain⟨_,_,z,_⟩:=rb;cases z
   |lst _=>obtain⟨_,_,z,_⟩:=rb;cases z
   |dct _ _=>exact nomatch nb
   |dcn _=>exact nomatch nb
   |_=>cases rb
 |.dct _ _,_,_,na,_,_,_=>nomatch na
 |.dcn _,_,_,na,_,_,_=>nomatch na
 |.tup ds,db,x,na,nb,z5,rb=>by
   obtain⟨p,vs,e,t,r⟩:=z5;subst e
   cases db with
   |tup es=>
     obtain⟨q,us,e',t',r'⟩:=rb;cases e';have ev:vs=us:=I.oj (t.mono g.sub).sq (t'.mono g.sub).sq;subst ev;simp only[jT];exact qS I g ds es na nb r r'
   |lst es=>
     obtain⟨q,us,e',t',r'⟩:=rb;cases e';exact(I.noLT g t' t).elim
   |dct _ _=>exact nomatch nb
   |dcn _=>exact nomatch nb
   |_=>cases rb
 |.lst ds,db,x,na,nb,z5,rb=>by
   obtain⟨p,vs,e,t,r⟩:=z5;subst e
   cases db with
   |lst es=>
     obtain⟨q,us,e',t',r'⟩:=rb;cases e';have ev:vs=us:=I.qc (g.sub.seq t) (g.sub.seq t');subst ev;simp only[jT];exact qS I g ds es na nb r r'
   |tup es=>
     obtain⟨q,us,e',t',r'⟩:=rb;cases e';exact(I.noLT g t t').elim
   |dct _ _=>exact nomatch nb
   |dcn _=>exact nomatch nb
   |_=>cases rb
theorem qS(I:Inv X h_ σ H s)(g:Good F H):∀(ds es:List Dat){vs:List V},gD ds=c_->gD es=c_->cy X.K F ds vs->cy X.K F es vs->kM ds es=c_
 |[],es,vs,na,nb,h,h'=>by
   rw[show vs=[]from h]at h'
   cases es with
   |nil=>rfl
   |cons _ _=>obtain⟨_,_,z,_⟩:=h';cases z
 |d::ds,es,vs,na,nb,z5,h'=>by
   obtain⟨v,r,e,h1,h2⟩:=z5;subst e
   cases es with
   |nil=>exact nomatch (show v::r=[]from h')
   |cons f fs=>
     obtain⟨v',r',e',h1',h2'⟩:=h';cases e';simp only[kM,aq];have na':oS d=c_/\gD ds=c_:=by simpa [gD]using na
     have nb':oS f=c_/\gD fs=c_:=by simpa [gD]using nb
     exact⟨zK I g d f na'.1 nb'.1 h1 h1',qS I g ds fs na'.2 nb'.2 h2 h2'⟩
end
def tB{vs:List V}{its:List ab}{j:Nat}(r:cD vs its)(h:j<its.toArray.size):∃v,vs[j]?=a_ v/\RelV v its.toArray[j]:=by
 have hl:=r.length;have hj:j<vs.length:=by simp at h;omega
 obtain⟨u,q1,q2⟩:=r.get (aj hj);refine⟨_,aj hj,?_⟩
 have:its.toArray[j]=u:=by
  have h':j<its.length:=by simpa using h
  rw[List.getElem_toArray];rw[aj h']at q1;exact aS q1
 rw[this];exact q2
def gH{n:Nat}{ks:List (List NK)}(h:fx n (.dcn ks)=c_):False:=by
 cases n<;>simp[fx]at h
def gG{n:Nat}{ks:List Key}{vs:List Dat}(h:fx n (.dct ks vs)=c_):False:=by
 cases n<;>simp[fx]at h
def AN(I:Inv X h_ σ H s)(g:Good F H)(A:br){da db:Dat}{x y:V}{u w:ab}(hu:A.units<cg)(sa:fx 0 da=c_)(sb:fx 0 db=c_)(ra:Rep X.K F da x)(rb:Rep X.K F db y)(rx:RelV x u)(ry:RelV y w) :
  mX A s u w (jT da db)/\vz A s u w (jT da db):=by
 cases da with
 |dct _ _=>exact(gG sa).elim
 |dcn _=>exact(gH sa).elim
 |tup _=>exact nomatch sa
 |lst _=>exact nomatch sa
 |non=>
   cases ra;obtain rfl:u=.none:=rx
   cases db with
   |dct _ _=>exact(gG sb).elim
   |dcn _=>exact(gH sb).elim
   |tup _=>exact nomatch sb
   |lst _=>exact nomatch sb
   |non=>
     cases rb;obtain rfl:w=.none:=ry;exact⟨SeqAt.EqAt.same _,SeqAt.RcAt.none_none⟩
   |bl b2=>
     cases rb;obtain rfl:w=.bool b2:=ry;exact⟨SeqAt.EqAt.none_bool _,SeqAt.RcAt.none_bool _⟩
   |int i2=>
     cases rb;obtain⟨t2,rfl⟩:=ry;exact⟨SeqAt.EqAt.none_int _ _,SeqAt.RcAt.none_int _ _⟩
   |str z2=>
     cases rb;obtain⟨t2,rfl⟩:=ry;exact⟨SeqAt.EqAt.none_str _ _,SeqAt.RcAt.none_str _ _⟩
 |bl b1=>
   cases ra;obtain rfl:u=.bool b1:=rx
   cases db with
   |dct _ _=>exact(gG sb).elim
   |dcn _=>exact(gH sb).elim
   |tup _=>exact nomatch sb
   |lst _=>exact nomatch sb
   |non=>
     cases rb;obtain rfl:w=.none:=ry;exact⟨SeqAt.EqAt.bool_none _,SeqAt.RcAt.bool_none _⟩
   |bl b2=>
     cases rb;obtain rfl:w=.bool b2:=ry;exact⟨SeqAt.EqAt.bool_bool _ _,SeqAt.RcAt.bool_bool _ _⟩
   |int i2=>
     cases rb;obtain⟨t2,rfl⟩:=ry;exact⟨SeqAt.EqAt.bool_int _ _ _,SeqAt.RcAt.bool_int _ _ _⟩
   |str z2=>
     cases rb;obtain⟨t2,rfl⟩:=ry;exact⟨SeqAt.EqAt.bool_str _ _ _,SeqAt.RcAt.bool_str _ _ _⟩
 |int i1=>
   cases ra;obtain⟨t1,rfl⟩:=rx
   cases db with
   |dct _ _=>exact(gG sb).elim
   |dcn _=>exact(gH sb).elim
   |tup _=>exact nomatch sb
   |lst _=>exact nomatch sb
   |non=>
     cases rb;obtain rfl:w=.none:=ry;exact⟨SeqAt.EqAt.int_none _ _,SeqAt.RcAt.int_none _ _⟩
   |bl b2=>
     cases rb;obtain rfl:w=.bool b2:=ry;exact⟨SeqAt.EqAt.int_bool _ _ _,SeqAt.RcAt.int_bool _ _ _⟩
   |int i2=>
     cases rb;obtain⟨t2,rfl⟩:=ry;exact⟨SeqAt.EqAt.int_int _ _ _ _,SeqAt.RcAt.int_int _ _ _ _⟩
   |str z2=>
     cases rb;obtain⟨t2,rfl⟩:=ry;exact⟨yM _ _ _ _,SeqAt.RcAt.int_str _ _ _ _⟩
 |str z1=>
   cases ra;obtain⟨t1,rfl⟩:=rx
   cases db with
   |dct _ _=>exact(gG sb).elim
   |dcn _=>exact(gH sb).elim
   |tup _=>exact nomatch sb
   |lst _=>exact nomatch sb
   |non=>
     cases rb;obtain rfl:w=.none:=ry;exact⟨SeqAt.EqAt.str_none _ _,SeqAt.RcAt.str_none _ _⟩
   |bl b2=>
     cases rb;obtain rfl:w=.bool b2:=ry;exact⟨SeqAt.EqAt.str_bool _ _ _,SeqAt.RcAt.str_bool _ _ _⟩
   |int i2=>
     cases rb;obtain⟨t2,rfl⟩:=ry;exact⟨yL _ _ _ _,SeqAt.RcAt.str_int _ _ _ _⟩
   |str z2=>
     cases rb;obtain⟨t2,rfl⟩:=ry;exact⟨SeqAt.EqAt.str_str _ _ _ _,SeqAt.RcAt.str_str _ _ _ _⟩
def uW(I:Inv X h_ σ H s)(g:Good F H):∀(n:Nat) (A:br) (da db:Dat) {x y:V} {u w:ab},A.units+n<cg->fx n da=c_->fx n db=c_->Rep X.K F da x->Rep X.K F db y->RelV x u->RelV y w->
  mX A s u w (jT da db)/\vz A s u w (jT da db):=by
 intro n
 induction n with
 |zero=>exact λA da db x y u w hu sa sb ra rb rx ry=>AN I g A hu sa sb ra rb rx ry
 |succ n ih=>
   intro A da db x y u w hu sa sb ra rb rx ry;have hu0:A.units<cg:=by omega
   have hu1:A.in1.units+n<cg:=by show A.units+1+n<cg;omega
   have items:∀{ds es:List Dat} {vs us:List V} {its j_:List ab},dm n ds=c_->dm n es=c_->cy X.K F ds vs->cy X.K F es us->cD vs its->cD us j_->
     ∀j(h1:j<its.toArray.size)(h2:j<j_.toArray.size),mX A.in1 s its.toArray[j] j_.toArray[j] (jT (ds.getD j .non) (es.getD j .non)):=by
    intro ds es vs us its j_ s1 s2 r1 r2 w1 w2 j h1 h2;obtain⟨v,e1,q1⟩:=tB w1 h1;obtain⟨v',e2,q2⟩:=tB w2 h2;have l1:j<ds.length:=by have:=r1.length;have:=(bC.mp e1).1;omega
    have l2:j<es.length:=by have:=r2.length;have:=(bC.mp e2).1;omega
    obtain⟨z1,f1,p1⟩:=r1.get (aj l1);obtain⟨z2,f2,p2⟩:=r2.get (aj l2);rw[e1]at f1;cases f1;rw[e2]at f2;cases f2;have g1:ds.getD j .non=ds[j]:=by simp[zg,l1]
    have g2:es.getD j .non=es[j]:=by simp[zg,l2]
    rw[g1,g2];exact(ih A.in1 _ _ hu1 (kA s1 (aj l1)) (kA s2 (aj l2)) p1 p2 q1 q2).1
   have both:∀{p q:ai}{k:Bool},x=.ref p->y=.ref q->vz A s (.ref p) (.ref q) k->k=jT da db->mX A s u w (jT da db)/\vz A s u w (jT da db):=by
    intro p q k e1 e2 h hk;subst e1 e2;obtain rfl:u=.ref p:=rx;obtain rfl:w=.ref q:=ry;subst hk;refine⟨?_,h⟩;by_cases hpq:p=q
    ·subst hpq;rw[zK I g da db (uE _ _ sa) (uE _ _ sb) ra rb];exact .same _
    ·exact .of_refs hpq h
   cases da with
   |dct _ _=>exact(gG sa).elim
   |dcn _=>exact(gH sa).elim
   |tup ds=>
     obtain⟨p,vs,rfl,t,r⟩:=id ra;obtain⟨its,w1,pl,_⟩:=I.tupR g t;obtain rfl:u=.ref p:=rx
     cases db with
     |dct _ _=>exact(gG sb).elim
     |dcn _=>exact(gH sb).elim
     |tup es=>
       obtain⟨q,us,rfl,t',r'⟩:=id rb;obtain⟨j_,w2,pl2,_⟩:=I.tupR g t';refine both rfl rfl (SeqAt.RcAt.tuples pl pl2 hu0 (items sa sb r r' w1 w2)) ?_;simp only[jT];rw[jg];have e1:its.toArray.size=ds.length:=by rw[aA,<-w1.length,r.length]
       have e2:j_.toArray.size=es.length:=by rw[aA,<-w2.length,r'.length]
       rw[e1,e2]
     |lst es=>
       obtain⟨q,us,rfl,t',r'⟩:=id rb;obtain⟨j_,w2,pl2,_⟩:=I.lstR g t';exact both rfl rfl (SeqAt.RcAt.tuple_list pl pl2.isList hu0) rfl
     | non=>obtain rfl:w=.none:=by cases rb;exact ry
            exact⟨.tuple_none pl hu0,.tuple_none pl hu0⟩
     | bl b=>obtain rfl:w=.bool b:=by cases rb;exact ry
             exact⟨.tuple_bool _ pl hu0,.tuple_bool _ pl hu0⟩
     | int i=>obtain⟨t2,rfl⟩:∃t,w=.int i t:=by cases rb;exact ry
              exact⟨.tuple_int _ _ pl hu0,.tuple_int _ _ pl hu0⟩
     | str i=>obtain⟨t2,rfl⟩:∃t,w=.str i t:=by cases rb;exact ry
              exact⟨.tuple_str _ _ pl hu0,.tuple_str _ _ pl hu0⟩
   |lst ds=>
     obtain⟨p,vs,rfl,t,r⟩:=id ra;obtain⟨its,w1,pl,_⟩:=I.lstR g t;obtain rfl:u=.ref p:=rx;have pl':=pl.isList
     cases db with
     |dct _ _=>exact(gG sb).elim
     |dcn _=>exact(gH sb).elim
     |lst es=>
       obtain⟨q,us,rfl,t',r'⟩:=id rb;obtain⟨j_,w2,pl2,_⟩:=I.lstR g t';have e1:its.toArray.size=ds.length:=by rw[aA,<-w1.length,r.length]
       have e2:j_.toArray.size=es.length:=by rw[aA,<-w2.length,r'.length]
       by_cases hsz:its.toArray.size=j_.toArray.size
       ·refine both rfl rfl (SeqAt.RcAt.lists pl' pl2.isList hsz hu0 (items sa sb r r' w1 w2)) ?_;simp only[jT];rw[jg];have e3:ds.length=es.length:=by rw[<-e1,<-e2];exact hsz
        rw[e1,e3,Nat.min_self];simp
       ·refine both rfl rfl (SeqAt.RcAt.lists_lengths pl' pl2.isList (by simpa using hsz) hu0) ?_;simp only[jT];rw[jg];have e3:(ds.length == es.length)=d_:=by simpa [<-e1,<-e2]using hsz
        rw[e3,iR]
     |tup es=>
       obtain⟨q,us,rfl,t',r'⟩:=id rb;obtain⟨j_,w2,pl2,_⟩:=I.tupR g t';exact both rfl rfl (SeqAt.RcAt.list_tuple pl' pl2 hu0) rfl
     | non=>obtain rfl:w=.none:=by cases rb;exact ry
            exact⟨.list_none pl' hu0,.list_none pl' hu0⟩
     | bl b=>obtain rfl:w=.bool b:=by cases rb;exact ry
             exact⟨.list_bool _ pl' hu0,.list_bool _ pl' hu0⟩
     | int i=>obtain⟨t2,rfl⟩:∃t,w=.int i t:=by cases rb;exact ry
              exact⟨.list_int _ _ pl' hu0,.list_int _ _ pl' hu0⟩
     | str i=>obtain⟨t2,rfl⟩:∃t,w=.str i t:=by cases rb;exact ry
              exact⟨.list_str _ _ pl' hu0,.list_str _ _ pl' hu0⟩
   |non=>
     cases ra;obtain rfl:u=.none:=rx
     cases db with
     |dct _ _=>exact(gG sb).elim
     |dcn _=>exact(gH sb).elim
     |tup es=>
       obtain⟨q,us,rfl,t',r'⟩:=id rb;obtain⟨j_,w2,pl2,_⟩:=I.tupR g t';obtain rfl:w=.ref q:=ry;exact⟨.none_tuple pl2 hu0,.none_tuple pl2 hu0⟩
     |lst es=>
       obtain⟨q,us,rfl,t',r'⟩:=id rb;obtain⟨j_,w2,pl2,_⟩:=I.lstR g t';obtain rfl:w=.ref q:=ry;exact⟨.none_list pl2.isList hu0,.none_list pl2.isList hu0⟩
     |_=>exact AN I g A hu0 (by rfl) (by rfl) (show Rep X.K F .non .non from rfl) rb rfl ry
   |bl b=>
     cases ra;obtain rfl:u=.bool b:=rx
     cases db with
     |dct _ _=>exact(gG sb).elim
     |dcn _=>exact(gH sb).elim
     |tup es=>
       obtain⟨q,us,rfl,t',r'⟩:=id rb;obtain⟨j_,w2,pl2,_⟩:=I.tupR g t';obtain rfl:w=.ref q:=ry;exact⟨.bool_tuple _ pl2 hu0,.bool_tuple _ pl2 hu0⟩
     |lst es=>
       obtain⟨q,us,rfl,t',r'⟩:=id rb;obtain⟨j_,w2,pl2,_⟩:=I.lstR g t';obtain rfl:w=.ref q:=ry;exact⟨.bool_list _ pl2.isList hu0,.bool_list _ pl2.isList hu0⟩
     |_=>exact AN I g A hu0 (by rfl) (by rfl) (show Rep X.K F (.bl b) (.bl b)from rfl) rb rfl ry
   |int i=>
     cases ra;obtain⟨t1,rfl⟩:=rx
     cases db with
     |dct _ _=>exact(gG sb).elim
     |dcn _=>exact(gH sb).elim
     |tup es=>
       obtain⟨q,us,rfl,t',r'⟩:=id rb;obtain⟨j_,w2,pl2,_⟩:=I.tupR g t';obtain rfl:w=.ref q:=ry;exact⟨.int_tuple _ _ pl2 hu0,.int_tuple _ _ pl2 hu0⟩
     |lst es=>
       obtain⟨q,us,rfl,t',r'⟩:=id rb;obtain⟨j_,w2,pl2,_⟩:=I.lstR g t';obtain rfl:w=.ref q:=ry;exact⟨.int_list _ _ pl2.isList hu0,.int_list _ _ pl2.isList hu0⟩
     |_=>exact AN I g A hu0 (by rfl) (by rfl) (show Rep X.K F (.int i) (.int i)from rfl) rb ⟨t1,rfl⟩ ry
   |str i=>
     cases ra;obtain⟨t1,rfl⟩:=rx
     cases db with
     |dct _ _=>exact(gG sb).elim
     |dcn _=>exact(gH sb).elim
     |tup es=>
       obtain⟨q,us,rfl,t',r'⟩:=id rb;obtain⟨j_,w2,pl2,_⟩:=I.tupR g t';obtain rfl:w=.ref q:=ry;exact⟨.str_tuple _ _ pl2 hu0,.str_tuple _ _ pl2 hu0⟩
     |lst es=>
       obtain⟨q,us,rfl,t',r'⟩:=id rb;obtain⟨j_,w2,pl2,_⟩:=I.lstR g t';obtain rfl:w=.ref q:=ry;exact⟨.str_list _ _ pl2.isList hu0,.str_list _ _ pl2.isList hu0⟩
     |_=>exact AN I g A hu0 (by rfl) (by rfl) (show Rep X.K F (.str i) (.str i)from rfl) rb ⟨t1,rfl⟩ ry
end
section
variable{X:Cx}{C:Fs}{a b c e:aI}{xa xb xc:Ex}{pos:fu}{es:List aI}{xs:List Ex}{h_:List (ai×fe)}{σ:St}{F H:Hp}{s:ae}
def DC{α β:Type}{a a':α}{b b':β}(h:a_ (a,b)=a_ (a',b')):a=a'/\b=b':=by cases h;exact⟨rfl,rfl⟩
def Ju:jd X (binaryOp .Add) (λx y H Q=>∃a b ys,x=.ref a/\y=.ref b/\vN X.K H a []/\vN X.K H b ys/\Q (.ref b) H):=by
 intro h_ s σ H x y v u Q I rx ry h;obtain⟨a,b,ys,rfl,rfl,ha,hb,q⟩:=h;cases rx;cases ry;obtain⟨its,r1,p1,_⟩:=I.tuple ha;obtain⟨j_,r2,p2,_⟩:=I.tuple hb;cases r1;obtain⟨⟨cls,dd,data,sl⟩,ho,hc,n,hd⟩:=id p1;obtain⟨⟨cls2,dd2,data2,MG⟩,ho2,hc2,n2,hd2⟩:=id p2;simp only at hc hd hc2 hd2;subst hc hd hc2 hd2;exact vx ⟨_,ho,rfl⟩ ⟨_,ho2,rfl⟩ xq Fl mH lR (lF _ _) (tuple_addW0 a b _ j_.toArray n n2 dd dd2 sl MG rfl) ⟨ho,ho2,.ref b,H,I,rfl,q⟩
set_option tactic.hygienic true
def NG:jd X (binaryOp .Add) (gB X.K (e8 .add)):=by
 intro h_ s σ H x y v u Q I rx ry h;obtain⟨da,db,d,fr,h,F,g,ra,rb,k⟩:=h;cases da<;>cases db<;>simp only[e8,yZ,yF,yE,reduceCtorEq]at h
 ·obtain⟨rfl,rfl⟩:=DC h;exact RV h_ s σ H _ _ v u Q I rx ry ⟨_,_,ra,rb,k _ F H (Step.refl g) rfl bp⟩
 ·split at h
  ·rename_i hz;obtain⟨rfl,rfl⟩:=DC h;exact Ci h_ s σ H _ _ v u Q I rx ry ⟨_,_,ra,rb,hz,k _ F H (Step.refl g) rfl bp⟩
  ·cases h
 ·split at h
  ·rename_i xs ys hz;obtain⟨rfl,rfl⟩:=DC h;obtain⟨p,vs,rfl,t,r⟩:=ra;obtain⟨q,us,rfl,t',r'⟩:=rb;by_cases hv:vs=[]
   ·subst hv;have e:xs=[]:=tZ r.length.symm;subst e;exact Ju h_ s σ H _ _ v u Q I rx ry ⟨p,q,us,rfl,rfl,(t.mono g.sub).sq,(t'.mono g.sub).sq,k _ F H (Step.refl g) ⟨q,us,rfl,t',r'⟩ bp⟩
   refine ND h_ s σ H _ _ v u Q I rx ry ⟨p,q,vs,us,rfl,rfl,(t.mono g.sub).sq,(t'.mono g.sub).sq,hv,?_,?_,?_⟩
   ·rw[r.length,r'.length];exact hz
   ·intro z;subst z;have:=r'.length;have e:ys=[]:=tZ this.symm;subst e;refine k _ F H (Step.refl g) ⟨p,vs,rfl,t,?_⟩ bp;rw[aX];exact r
   ·intro _ l hl;exact k _ _ _ (Step.alloc g hl) ⟨l,vs++us,rfl,.inl cw,(r.append r').mono (bX.upd (g.sub.free hl))⟩ bp
  ·cases h
 ·split at h
  ·rename_i xs ys hz;obtain⟨rfl,rfl⟩:=DC h;obtain⟨p,vs,rfl,t,r⟩:=ra;obtain⟨q,us,rfl,t',r'⟩:=rb;obtain⟨its,w1,pl,_⟩:=I.lstR g t;obtain⟨j_,w2,pl2,_⟩:=I.lstR g t';obtain rfl:v=.ref p:=rx;obtain rfl:u=.ref q:=ry;obtain⟨⟨cls,dd,data,sl⟩,ho,hc,n,hd⟩:=pl.isList;obtain⟨⟨cls2,dd2,data2,MG⟩,ho2,hc2,n2,hd2⟩:=pl2.isList;simp only at hc hd hc2 hd2;subst hc hd hc2 hd2;refine vx ⟨_,ho,rfl⟩ ⟨_,ho2,rfl⟩ noFill_list_add seq_list_add PySem.F.slot_list_add PySem.F.entry_list_add (PySem.F.args_list_add_2 _ _) (list_addW p q its.toArray j_.toArray n n2 dd dd2 sl MG (by rw[aA,aA,<-w1.length,<-w2.length,r.length,r'.length];exact hz)) ⟨ho,ho2,?_⟩;have ea:its.toArray++j_.toArray=(its++j_).toArray:=by simp
   rw[ea];have hz':(vs++us).length<=aE:=by rw[aw,r.length,r'.length];exact hz
   have r2:=(r.append r').mono (bX.upd (o:=.lst (vs++us)) (g.sub.free I.fresh));exact⟨.ref _,_,I.Yh (t':=s.toks) (w1.append w2) hz',rfl,k _ _ _ (Step.alloc g I.fresh) ⟨_,vs++us,rfl,.inl (.inl cw),r2⟩ λz=>.lst (bX.refl _) I.fresh (.j4 g z (r.append r'))⟩
  ·cases h
def Pu{op:vA}{o:Lw}{Cd:Int->Int->Prop}{f:Int->Int->Int}(h:jd X (binaryOp op) (rI Cd λi j=>.int (f i j)))
  (hb:∀da db d fr,e8 o da db=a_ (d,fr)->∃i j,da=.int i/\db=.int j/\Cd i j/\d=.int (f i j)/\fr=d_):jd X (binaryOp op) (gB X.K (e8 o)):=
 jd.imp h λx y H Q z4=>by
  obtain⟨da,db,d,fr,h,F,g,ra,rb,k⟩:=z4;obtain⟨i,j,rfl,rfl,hc,rfl,rfl⟩:=hb da db d fr h;exact⟨i,j,ra,rb,hc,k _ F H (Step.refl g) rfl bp⟩
def Jv{op:vA}{o:Lw}{f:Int->Int->Int}(h:jd X (binaryOp op) (IX λi j=>.int (f i j)))
  (hb:∀da db d fr,e8 o da db=a_ (d,fr)->∃i j,da=.int i/\db=.int j/\d=.int (f i j)/\fr=d_):jd X (binaryOp op) (gB X.K (e8 o)):=
 jd.imp h λx y H Q z4=>by
  obtain⟨da,db,d,fr,h,F,g,ra,rb,k⟩:=z4;obtain⟨i,j,rfl,rfl,rfl,rfl⟩:=hb da db d fr h;exact⟨i,j,ra,rb,k _ F H (Step.refl g) rfl bp⟩
def Nw:jd X (binaryOp .Sub) (gB X.K (e8 .sub)):=Jv RG λda db d fr h=>by
 cases da<;>cases db<;>simp only[e8,yZ,yF,yE,reduceCtorEq]at h
 cases h;exact⟨_,_,rfl,rfl,rfl,rfl⟩
def NF:jd X (binaryOp .BitAnd) (gB X.K (e8 .band)):=Jv RU λda db d fr h=>by
 cases da<;>cases db<;>simp only[e8,yZ,yF,yE,reduceCtorEq]at h
 cases h;exact⟨_,_,rfl,rfl,rfl,rfl⟩
def NA:jd X (binaryOp .Mult) (gB X.K (e8 .mul)):=by
 intro h_ s σ H x y v u Q I rx ry h;obtain⟨da,db,d,fr,h,F,g,ra,rb,k⟩:=h;cases da<;>cases db<;>simp only[e8,yZ,yF,yE,reduceCtorEq]at h
 ·split at h
  ·rename_i hz;cases h;exact RJ h_ s σ H _ _ v u Q I rx ry ⟨_,_,ra,rb,hz,k _ F H (Step.refl g) rfl bp⟩
  ·cases h
 ·split at h
  ·rename_i z j hz;cases h;rw[show x=.str z from ra]at rx;rw[show y=.int j from rb]at ry;obtain⟨t,rfl⟩:=rx;obtain⟨t',rfl⟩:=ry;exact PySem.SB.mul hz λt2 k2=>⟨.str _,H,I.tok k2,⟨t2,rfl⟩,k _ F H (Step.refl g) rfl bp⟩
  ·cases h
def NB:jd X (binaryOp .Mod) (gB X.K (e8 .mod)):=Pu RK λda db d fr h=>by
 cases da<;>cases db<;>simp only[e8,yZ,yF,yE,reduceCtorEq]at h
 split at h
 ·rename_i hz;cases h;exact⟨_,_,rfl,rfl,hz,rfl,rfl⟩
 ·cases h
def Nx:jd X (binaryOp .RShift) (gB X.K (e8 .shr)):=Pu RH λda db d fr h=>by
 cases da<;>cases db<;>simp only[e8,yZ,yF,yE,reduceCtorEq]at h
 split at h
 ·rename_i hz;cases h;exact⟨_,_,rfl,rfl,hz,rfl,rfl⟩
 ·cases h
def jP{o:Hf}{da db d:Dat}{fr:Bool}(h:mj o da db=a_ (d,fr)):∃b,dF o da db=a_ b/\d=.bl b/\fr=d_:=by
 obtain⟨b,h1,h2⟩:=dX h;cases h2;exact⟨b,h1,rfl,rfl⟩
def yw{op:pJ}{o:Hf}{f:Int->Int->Bool}(h:jd X (compareOp op) (IX λi j=>.bl (f i j)))(hb:∀da db b,dF o da db=a_ b->∃i j,da=.int i/\db=.int j/\b=f i j):jd X (compareOp op) (gB X.K (mj o)):=
 jd.imp h λx y H Q z4=>by
  obtain⟨da,db,d,fr,h,F,g,ra,rb,k⟩:=z4;obtain⟨b,hd,rfl,rfl⟩:=jP h;obtain⟨i,j,rfl,rfl,rfl⟩:=hb da db b hd;exact⟨i,j,ra,rb,k _ F H (Step.refl g) rfl bp⟩
def RL:jd X (compareOp .Lt) (gB X.K (mj .lt)):=yw VM λda db b h=>by
 cases da<;>cases db<;>simp only[dF,yY,CW,pB,Bx,reduceCtorEq]at h
 cases h;exact⟨_,_,rfl,rfl,rfl⟩
def RM:jd X (compareOp .LtE) (gB X.K (mj .le)):=yw VN λda db b h=>by
 cases da<;>cases db<;>simp only[dF,yY,CW,pB,Bx,reduceCtorEq]at h
 cases h;exact⟨_,_,rfl,rfl,rfl⟩
def RP:jd X (compareOp .Gt) (gB X.K (mj .gt)):=yw VO λda db b h=>by
 cases da<;>cases db<;>simp only[dF,yY,CW,pB,Bx,reduceCtorEq]at h
 cases h;exact⟨_,_,rfl,rfl,rfl⟩
def RQ:jd X (compareOp .GtE) (gB X.K (mj .ge)):=yw VP λda db b h=>by
 cases da<;>cases db<;>simp only[dF,yY,CW,pB,Bx,reduceCtorEq]at h
 cases h;exact⟨_,_,rfl,rfl,rfl⟩
def RR(hu:X.A.units+20<cg):jd X (compareOp .Eq) (gB X.K (mj .eq)):=λh_ s σ H x y v u Q I rx ry z12=>by
 obtain⟨da,db,d,fr,h,F,g,ra,rb,k⟩:=z12;obtain⟨b,hd,rfl,rfl⟩:=jP h;simp only[dF,yY,CW,pB,Bx]at hd;split at hd
 ·rename_i hs;cases hd;simp only[aq]at hs;exact(uW I g 20 X.A da db hu hs.1 hs.2 ra rb rx ry).2 X.prog X.w _ _ ⟨.bl _,H,I,rfl,k _ F H (Step.refl g) rfl bp⟩
 ·cases hd
set_option tactic.hygienic false
end
structure Ow(K:Fg)(H₀ F H:Hp)(σ:St)(ρ:cF)(Ss:Nat->List ai):Prop where
 own:∀(i:Nat)d,ρ[i]?=a_ (a_ (d,c_))->∃v,σ[i]?=a_ (a_ v)/\mC K H d v (Ss i)/\(Ss i).Nodup/\∀a∈Ss i,F a=b_/\H₀ a=b_
 sep:∀(i j:Nat)d d',i≠j->ρ[i]?=a_ (a_ (d,c_))->ρ[j]?=a_ (a_ (d',c_))->∀a∈Ss i,a∉Ss j
structure Rl(K:Fg)(Fz H₀ F H:Hp)(σ:St)(ρ:cF):Prop where
 step:Step Fz H₀ F H
 len:σ.length=ρ.length
 val:∀(i:Nat)d,ρ[i]?=a_ (a_ (d,d_))->∃v,σ[i]?=a_ (a_ v)/\Rep K F d v
 ow:∃Ss,Ow K H₀ F H σ ρ Ss
section
variable{K:Fg}{Fz H₀ F H F' H':Hp}{σ:St}{ρ:cF}
def Mf{i:Nat}{d:Dat}(h:(rZ ρ)[i]?=a_ (a_ d)):ρ[i]?=a_ (a_ (d,d_)):=by
 unfold rZ at h;rw[aW]at h
 cases q:ρ[i]? with
 |none=>rw[q]at h;cases h
 |some o=>
   rw[q]at h;have h':=aS h
   cases o with
   |none=>cases h'
   |some z=>
     obtain⟨d',b⟩:=z
     cases b with
     |true=>cases h'
     |false=>cases h';rfl
def Rl.rZ(R:Rl K Fz H₀ F H σ ρ):mw K F σ (rZ ρ):=λi d e=>R.val i d (Mf e)
def Ow.moved{Ss:Nat->List ai}(O:Ow K H₀ F H σ ρ Ss)(st:Step F H F' H'):Ow K H₀ F' H' σ ρ Ss where
 own:=λi d e=>by
  obtain⟨v,q1,q2,q3,q4⟩:=O.own i d e;refine⟨v,q1,q2.mono st.hh,q3,λa m=>⟨?_,(q4 a m).2⟩⟩;obtain⟨o,ho,_⟩:=q2.yX _ a m;exact st.un a o ho (q4 a m).1
 sep:=O.sep
def Rl.moved(R:Rl K Fz H₀ F H σ ρ)(st:Step F H F' H'):Rl K Fz H₀ F' H' σ ρ where
 step:=R.step.trans st
 len:=R.len
 val:=λi d e=>let ⟨v,q1,q2⟩:=R.val i d e;⟨v,q1,q2.mono st.ff⟩
 ow:=let ⟨Ss,O⟩:=R.ow;⟨Ss,O.moved st⟩
def Ef(i j:Nat)(f:g_->g_):(ρ.modify i f)[j]?=if i=j then(ρ[j]?).map f else ρ[j]? :=by
 rw[List.getElem?_modify];by_cases h:i=j
 ·simp only[h,if_true];rfl
 ·simp only[h,if_false];cases ρ[j]?<;>rfl
def jl{i j:Nat}{d:Dat}{b:Bool}(q:(ρ.modify i λo=>o.map λs=>(s.1,d_))[j]?=a_ (a_ (d,b))):(i=j/\b=d_/\∃b',ρ[j]?=a_ (a_ (d,b')))\/(i≠j/\ρ[j]?=a_ (a_ (d,b))):=by
 rw[Ef]at q;by_cases h:i=j
 ·rw[if_pos h]at q;refine .inl ⟨h,?_⟩
  cases z:ρ[j]? with
  |none=>rw[z]at q;cases q
  |some o=>
    rw[z]at q
    cases o with
    |none=>cases q
    |some s=>cases q;exact⟨rfl,s.2,rfl⟩
 ·rw[if_neg h]at q;exact .inr ⟨h,q⟩
def Rl.Oj(R:Rl K Fz H₀ F H σ ρ)(i:Nat):∃F',bX F F'/\Rl K Fz H₀ F' H σ (ρ.modify i λo=>o.map λs=>(s.1,d_)):=by
 obtain⟨Ss,O⟩:=R.ow;by_cases ho:∃d,ρ[i]?=a_ (a_ (d,c_))
 ·obtain⟨d,ho⟩:=ho;obtain⟨v,e1,e2,e3,e4⟩:=O.own i d ho;have sF:bX F (fz F H (Ss i)):=rH R.step.good.sub;refine⟨fz F H (Ss i),sF,⟨⟨yk R.step.good,R.step.ff.trans sF,R.step.hh,λa o q n=>?_⟩,?_,λj d' q=>?_,Ss,λj d' q=>?_,λj k d1 d2 hjk q1 q2=>?_⟩⟩
  ·rw[rJ λm=>?_]
   ·exact R.step.un a o q n
   ·rw[(e4 a m).2]at q;cases q
  ·rw[Hj];exact R.len
  ·rcases jl q with⟨rfl,_,b',q'⟩|⟨_,q'⟩
   ·rw[ho]at q';cases q';exact⟨v,e1,e2.ka R.step.good d λa m=>m⟩
   ·obtain⟨w,g1,g2⟩:=R.val j d' q';exact⟨w,g1,g2.mono sF⟩
  ·rcases jl q with⟨_,z,_⟩|⟨hne,q'⟩
   ·cases z
   ·obtain⟨w,g1,g2,g3,g4⟩:=O.own j d' q';refine⟨w,g1,g2,g3,λa m=>⟨?_,(g4 a m).2⟩⟩;rw[rJ (O.sep j i d' d (eZ hne) q' ho a m)];exact(g4 a m).1
  ·rcases jl q1 with⟨_,z,_⟩|⟨_,q1'⟩
   ·cases z
   ·rcases jl q2 with⟨_,z,_⟩|⟨_,q2'⟩
    ·cases z
    ·exact O.sep j k d1 d2 hjk q1' q2'
 ·refine⟨F,bX.refl _,⟨R.step,by rw[Hj];exact R.len,λj d' q=>?_,Ss,λj d' q=>?_,λj k d1 d2 hjk q1 q2=>?_⟩⟩
  ·rcases jl q with⟨rfl,_,b',q'⟩|⟨_,q'⟩
   ·cases b' with
    |true=>exact absurd ⟨_,q'⟩ ho
    |false=>exact R.val _ d' q'
   ·exact R.val j d' q'
  ·rcases jl q with⟨_,z,_⟩|⟨_,q'⟩
   ·cases z
   ·exact O.own j d' q'
  ·rcases jl q1 with⟨_,z,_⟩|⟨_,q1'⟩
   ·cases z
   ·rcases jl q2 with⟨_,z,_⟩|⟨_,q2'⟩
    ·cases z
    ·exact O.sep j k d1 d2 hjk q1' q2'
def Rl.freeze(R:Rl K Fz H₀ F H σ ρ):∀is:List Nat,∃F',bX F F'/\Rl K Fz H₀ F' H σ (ka is ρ):=by
 intro is
 induction is generalizing F ρ with
 |nil=>exact⟨F,bX.refl _,R⟩
 |cons i is ih=>
   obtain⟨F1,s1,R1⟩:=R.Oj i;obtain⟨F2,s2,R2⟩:=ih R1;exact⟨F2,s1.trans s2,R2⟩
theorem EG:∀(is:List Nat)(ρ:cF)(j:Nat),(ka is ρ)[j]?=if j∈is then(ρ[j]?).map (λo=>o.map λs=>(s.1,d_))else ρ[j]?
 |[],ρ,j=>by simp[ka]
 |i::is,ρ,j=>by
   have e:ka (i::is) ρ=ka is (ρ.modify i λo=>o.map λs=>(s.1,d_)):=rfl;rw[e,EG is,Ef];by_cases h:i=j
   ·subst h;rw[if_pos rfl,if_pos (hJ)];by_cases m:i∈is
    ·rw[if_pos m]
     cases ρ[i]? with
     |none=>rfl
     |some o=>cases o<;>rfl
    ·rw[if_neg m]
   ·rw[if_neg h];by_cases m:j∈is
    ·rw[if_pos m,if_pos (ib _ m)]
    ·rw[if_neg m,if_neg λz=>(ao.mp z).elim (λz=>h z.symm) m]
def GS:ka (ax ρ.length) ρ=rK ρ:=by
 apply rY;intro j;rw[EG];unfold rK;rw[aW];by_cases h:j∈ax ρ.length
 ·rw[if_pos h]
 ·rw[if_neg h];have:ρ[j]?=b_:=jW (by simpa using h);rw[this];rfl
def Rl.jO(R:Rl K Fz H₀ F H σ ρ):∃F',bX F F'/\Rl K Fz H₀ F' H σ (rK ρ):=by
 obtain⟨F',s,R'⟩:=R.freeze (ax ρ.length);rw[GS]at R';exact⟨F',s,R'⟩
def ik{i j:Nat}{x:g_}{d:Dat}{b:Bool}(q:(ρ.set i x)[j]?=a_ (a_ (d,b))):(i=j/\x=a_ (d,b))\/(i≠j/\ρ[j]?=a_ (a_ (d,b))):=by
 rw[rX]at q;by_cases h:i=j
 ·rw[if_pos h]at q;split at q
  ·exact .inl ⟨h,aS q⟩
  ·cases q
 ·rw[if_neg h]at q;exact .inr ⟨h,q⟩
def Pg{i:Nat}{v:V}(hl:i<σ.length):(σ.set i (a_ v))[i]?=a_ (a_ v):=nv hl
def wt{i:Nat}{x:g_}{y:g_}(q:(ρ.set i x)[i]?=a_ y):i<ρ.length:=by
 rw[rX,if_pos rfl]at q;split at q
 ·assumption
 ·cases q
def Rl.ue{i:Nat}{d:Dat}{v:V}(R:Rl K Fz H₀ F H σ ρ)(r:Rep K F d v):Rl K Fz H₀ F H (σ.set i (a_ v)) (ρ.set i (a_ (d,d_))):=by
 obtain⟨Ss,O⟩:=R.ow;refine⟨R.step,by simpa using R.len,λj d' q=>?_,Ss,λj d' q=>?_,λj k d1 d2 hjk q1 q2=>?_⟩
 ·rcases ik q with⟨rfl,e⟩|⟨hne,q'⟩
  ·cases e;exact⟨v,Pg (by rw[R.len];exact wt q),r⟩
  ·obtain⟨w,g1,g2⟩:=R.val j d' q';exact⟨w,by rw[eR hne];exact g1,g2⟩
 ·rcases ik q with⟨rfl,e⟩|⟨hne,q'⟩
  ·cases e
  ·obtain⟨w,g1,g2⟩:=O.own j d' q';exact⟨w,by rw[eR hne];exact g1,g2⟩
 ·rcases ik q1 with⟨_,e⟩|⟨_,q1'⟩
  ·cases e
  ·rcases ik q2 with⟨_,e⟩|⟨_,q2'⟩
   ·cases e
   ·exact O.sep j k d1 d2 hjk q1' q2'
def Rl.QO{i:Nat}{d:Dat}{v:V}{S:List ai}{Ss:Nat->List ai}(R:Rl K Fz H₀ F H σ ρ)(O:Ow K H₀ F H σ ρ Ss)(o:mC K H d v S)(nd:S.Nodup)(hS:∀a∈S,F a=b_/\H₀ a=b_)
  (hsep:∀(j:Nat)d',i≠j->ρ[j]?=a_ (a_ (d',c_))->∀a∈Ss j,a∉S):Rl K Fz H₀ F H (σ.set i (a_ v)) (ρ.set i (a_ (d,c_))):=by
 refine⟨R.step,by simpa using R.len,λj d' q=>?_,λj=>if j=i then S else Ss j,λj d' q=>?_,λj k d1 d2 hjk q1 q2=>?_⟩
 ·rcases ik q with⟨rfl,e⟩|⟨hne,q'⟩
  ·cases e
  ·obtain⟨w,g1,g2⟩:=R.val j d' q';exact⟨w,by rw[eR hne];exact g1,g2⟩
 ·rcases ik q with⟨rfl,e⟩|⟨hne,q'⟩
  ·cases e;rw[if_pos rfl];exact⟨v,Pg (by rw[R.len];exact wt q),o,nd,hS⟩
  ·obtain⟨w,g1,g2⟩:=O.own j d' q';rw[if_neg (eZ hne)];exact⟨w,by rw[eR hne];exact g1,g2⟩
 ·intro a m
  rcases ik q1 with⟨rfl,e⟩|⟨h1,q1'⟩
  ·rw[if_pos rfl]at m
   rcases ik q2 with⟨e2,_⟩|⟨h2,q2'⟩
   ·exact absurd e2 hjk
   ·rw[if_neg (eZ h2)];exact λm'=>hsep k d2 h2 q2' a m' m
  ·rw[if_neg (eZ h1)]at m
   rcases ik q2 with⟨rfl,e⟩|⟨h2,q2'⟩
   ·rw[if_pos rfl];exact hsep j d1 h1 q1' a m
   ·rw[if_neg (eZ h2)];exact O.sep j k d1 d2 hjk q1' q2' a m
def Rl.full{K:Fg}{Fz H₀ F H:Hp}{σ:St}{ρ:cF}(R:Rl K Fz H₀ F H σ (rK ρ)):mw K F σ (M.full ρ):=by rw[<-BJ];exact R.rZ
def uz(F:Hp)(S:List ai):Hp:=λa=>if a∈S then b_ else F a
def vX{F:Hp}{S:List ai}{a:ai}(h:a∈S):uz F S a=b_:=if_pos h
def nM{F:Hp}{S:List ai}{a:ai}(h:a∉S):uz F S a=F a:=if_neg h
def Step.XB{S:List ai}{d:Dat}{v:V}(st:Step F H F' H')(g:Good F H)(hS:∀a∈S,H a=b_)(o:mC K H' d v S):Step F H (uz F' S) H':=by
 refine⟨⟨λa o' q=>?_,λa vs q=>?_⟩,λa o' q=>?_,st.hh,λa o' q n=>?_⟩
 ·by_cases m:a∈S
  ·rw[vX m]at q;cases q
  ·rw[nM m]at q;exact st.good.sub a o' q
 ·rw[nM λm=>?_]
  ·exact st.good.tup a vs q
  ·obtain⟨u,hu,mu⟩:=o.yX _ a m;rw[q]at hu;cases hu;exact mu
 ·rw[nM λm=>?_]
  ·exact st.ff a o' q
  ·rw[g.sub.free (hS a m)]at q;cases q
 ·by_cases m:a∈S
  ·exact vX m
  ·rw[nM m];exact st.un a o' q n
def EJ{C:Fs}{e:Ex}{d:Dat}{fr:Bool}{ρ':cF}(R:Rl K Fz H₀ F H σ ρ)(h:EK C e ρ=a_ (d,fr,ρ')){Q:VK}
  (k:∀v Fm F' H',bX F Fm->Rl K Fz H₀ Fm H σ ρ'->Step Fm H F' H'->Rep K F' d v->(fr=c_->fi K H H' d v)->Q v H'):∃ρe,bF C e ρe=a_ (d,fr)/\tE K ρe d fr σ H Q:=by
 unfold EK at h;obtain⟨⟨d1,f1⟩,h2,h⟩:=cU h;dsimp only at h;by_cases hm:(im d1 || f1)=c_
 ·rw[if_pos hm]at h;have hh:d=d1/\fr=f1/\ρ'=ρ:=by cases h;exact⟨rfl,rfl,rfl⟩
  obtain⟨hh1,hh2,hh3⟩:=hh;subst hh1 hh2 hh3;obtain⟨Fp,sp,Rp⟩:=R.jO;refine⟨_,h2,Fp,Rp.step.good,Rp.full,λv F1 H1 st r f=>?_⟩;have stS:=Step.shrink R.step.good sp st
  cases hi:im d with
  |true=>exact k v F (shr F H F1) H1 (bX.refl _) R stS (r.shrink R.step.good st d hi) f
  |false=>
    rw[hi,yU]at hm;obtain⟨S,n,e1,o⟩:=f hm;have g2:=yk (S:=S) stS.good
    have iu:Step F H (fz (shr F H F1) H1 S) H1:=by
     refine⟨g2,stS.ff.trans (rH stS.good.sub),stS.hh,λa u q nn=>?_⟩;rw[rJ λm=>?_]
     ·exact stS.un a u q nn
     ·rw[e1 a m]at q;cases q
    exact k v F _ H1 (bX.refl _) R iu (o.ka stS.good d λa m=>m) f
 ·rw[if_neg hm]at h;obtain⟨⟨d2,f2⟩,h3,h⟩:=dX h;cases h;obtain⟨F2,s2,R2⟩:=R.freeze e.fv;exact⟨_,h3,F2,R2.step.good,R2.rZ,λv F' H' st r f=>k v F2 F' H' s2 R2 st r f⟩
def yo{C:Fs}{e:Ex}{d:Dat}{fr:Bool}{ρ':cF}(R:Rl K Fz H₀ F H σ ρ)(h:EK C e ρ=a_ (d,fr,ρ')){Q:VK}
  (k:∀v Fm F' H',bX F Fm->Rl K Fz H₀ Fm H σ ρ'->Step Fm H F' H'->Rep K F' d v->(fr=c_->fi K H H' d v)->Q v H'):gE K C e σ H Q:=
 let ⟨ρe,h1,h2⟩:=EJ R h k;⟨ρe,d,fr,h1,h2⟩
end
noncomputable def uP(K:Fg)(Fz H₀ F:Hp)(D:Ends):Out->Prop
 |.nx ρ'=>∀F' H' σ',bX F F'->Rl K Fz H₀ F' H' σ' ρ'->D.nx σ' H'
 |.bk ρ'=>∀F' H' σ',bX F F'->Rl K Fz H₀ F' H' σ' ρ'->D.bk σ' H'
 |.ct ρ'=>∀F' H' σ',bX F F'->Rl K Fz H₀ F' H' σ' ρ'->D.ct σ' H'
 |.rt d fr=>∀v F' H',Step Fz H₀ F' H'->Rep K F' d v->(fr=c_->fi K H₀ H' d v)->D.rt v H'
def uP.mono{K:Fg}{Fz H₀ F F1:Hp}{D:Ends}{o:Out}(s:bX F F1)(h:uP K Fz H₀ F D o):uP K Fz H₀ F1 D o:=by
 cases o with
 |nx ρ'=>exact λF' H' σ' s' R=>h F' H' σ' (s.trans s') R
 |bk ρ'=>exact λF' H' σ' s' R=>h F' H' σ' (s.trans s') R
 |ct ρ'=>exact λF' H' σ' s' R=>h F' H' σ' (s.trans s') R
 |rt d fr=>exact h
def gS(K:Fg)(C:Fs)(x:Sx):TS:=λD σ H=>∃Fz H₀ F ρ out,fE C x ρ=a_ out/\Rl K Fz H₀ F H σ ρ/\uP K Fz H₀ F D out
def Zd(K:Fg)(C:Fs)(xs:List Sx):TS:=λD σ H=>∃Fz H₀ F ρ out,bN C xs ρ=a_ out/\Rl K Fz H₀ F H σ ρ/\uP K Fz H₀ F D out
abbrev SS(X:Cx)(C:Fs)(st:jw)(x:Sx):Prop:=PS X st (gS X.K C x)
abbrev O2(X:Cx)(C:Fs)(st:List jw)(xs:List Sx):Prop:=Bh X st (Zd X.K C xs)
section
variable{X:Cx}{C:Fs}{e cnd:aI}{xe xc:Ex}{st:jw}{x:Sx}{sts sa sb:List jw}{xs ya yb:List Sx}{pos pos':fu}
def Mr:O2 X C [] []:=Bh.imp Nk λD σ H z3=>by
 obtain⟨Fz,H₀,F,ρ,out,h,R,k⟩:=z3;simp only[bN]at h;cases h;exact k F H σ (bX.refl _) R
def Im(h1:SS X C st x)(h2:O2 X C sts xs):O2 X C (st::sts) (x::xs):=Bh.imp (Ja h1 h2) λD σ H z3=>by
 obtain⟨Fz,H₀,F,ρ,out,h,R,k⟩:=z3;simp only[bN]at h;obtain⟨o,ho,h⟩:=cU h;refine⟨Fz,H₀,F,ρ,o,ho,R,?_⟩
 cases o with
 |nx ρ1=>exact λF1 H1 σ1 s1 R1=>⟨Fz,H₀,F1,ρ1,out,h,R1,k.mono s1⟩
 |bk ρ1=>cases h;exact k
 |ct ρ1=>cases h;exact k
 |rt d fr=>cases h;exact k
def Qy{st:jw}:SS X C st .xC:=λh_ s σ H D I z6=>by
 obtain⟨Fz,H₀,F,ρ,out,h,R,k⟩:=z6;cases h
def Qz(he:SE X C e xe):SS X C (.Return (a_ e) pos) (.ret xe):=PS.imp (Jb he) λD σ H z3=>by
 obtain⟨Fz,H₀,F,ρ,out,h,R,k⟩:=z3;obtain⟨⟨d,fr⟩,h1,h⟩:=dX h;cases h;obtain⟨Fp,sp,Rp⟩:=R.jO;exact⟨_,d,fr,h1,Fp,Rp.step.good,Rp.full,λv F' H' st r f=>k v F' H' (Rp.step.trans st) r λz=>(f z).back (F:=F) R.step.hh⟩
def Mv{i:Nat}{x:aV}{p:fu}(hN:X.N[i]?=a_ x)(hv:Qe X.env.scope x)(hd:(x == ("__debug__":aV))=d_)(hcd:(x == ("__classdict__":aV))=d_):SS X C (.Return (a_ (.Name x p)) pos) (.pe i):=
 PS.imp (Jb (ux hN hv hd hcd)) λD σ H z3=>by
  obtain⟨Fz,H₀,F,ρ,out,h,R,k⟩:=z3;obtain⟨⟨d,b⟩,h1,h⟩:=dX h;cases h
  have h1':ρ[i]?=a_ (a_ (d,b)):=by
   cases q:ρ[i]? with
   |none=>rw[q]at h1;cases h1
   |some z=>rw[q]at h1;exact congrArg a_ h1
  cases b with
  |false=>
    obtain⟨v,e1,r⟩:=R.val i d h1';exact⟨v,e1,k v F H R.step r bp⟩
  |true=>
    obtain⟨Ss,O⟩:=R.ow;obtain⟨v,e1,e2,e3,e4⟩:=O.own i d h1';have sF:bX F (fz F H (Ss i)):=rH R.step.good.sub
    have st:Step Fz H₀ (fz F H (Ss i)) H:=by
     refine⟨yk R.step.good,R.step.ff.trans sF,R.step.hh,λa o q n=>?_⟩;rw[rJ λm=>?_]
     ·exact R.step.un a o q n
     ·rw[(e4 a m).2]at q;cases q
    exact⟨v,e1,k v _ H st (e2.ka R.step.good d λa m=>m) λ_=>⟨Ss i,e3,λa m=>(e4 a m).2,e2⟩⟩
def QC(he:SE X C e xe)(hs:swapsWith e b_ pos.line X.env=pure d_:=by rfl):SS X C (.Expr e pos) (.exp xe):=PS.imp (tG he hs) λD σ H z3=>by
 obtain⟨Fz,H₀,F,ρ,out,h,R,k⟩:=z3;obtain⟨⟨d,fr⟩,h1,h⟩:=dX h;cases h;obtain⟨Fp,sp,Rp⟩:=R.jO;exact⟨_,d,fr,h1,Fp,Rp.step.good,Rp.full,λv F1 H1 st r f=>k (shr F H F1) H1 σ (Step.shrink R.step.good sp st).ff (R.moved (Step.shrink R.step.good sp st))⟩
def Vk(hc:ST X C cnd xc)(ha:O2 X C sa ya)(hb:O2 X C sb yb):SS X C (.If cnd sa sb pos) (.ifs xc ya yb):=PS.imp (VE hc ha hb) λD σ H z3=>by
 obtain⟨Fz,H₀,F,ρ,out,h,R,k⟩:=z3;obtain⟨⟨d,fr⟩,h1,h⟩:=cU h;obtain⟨z,hz,h⟩:=cU h;obtain⟨Fp,sp,Rp⟩:=R.jO;refine⟨_,d,fr,z,h1,hz,Fp,Rp.step.good,Rp.full,λF1 H1 st=>?_⟩;have stS:=Step.shrink R.step.good sp st
 cases z with
 |true=>
   exact Cw ⟨Fz,H₀,_,ρ,out,h,R.moved stS,k.mono stS.ff⟩
 |false=>
   exact Cy ⟨Fz,H₀,_,ρ,out,h,R.moved stS,k.mono stS.ff⟩
def FR{i:Nat}{D:Ends}{σ:St}{H Fz H₀ F:Hp}{ρ ρ':cF}{d:Dat}{fr:Bool}(R:Rl X.K Fz H₀ F H σ ρ)(h1:EK C xe ρ=a_ (d,fr,ρ'))(k:uP X.K Fz H₀ F D (.nx (ρ'.set i (a_ (d,fr && !im d))))) :
  ∃ρe,bF C xe ρe=a_ (d,fr)/\tE X.K ρe d fr σ H (λv H'=>D.nx (σ.set i (a_ v)) H'):=by
 refine EJ R h1 λv Fm F' H' sm Rm st r f=>?_;show D.nx (σ.set i (a_ v)) H';have k':∀F' H' σ',bX F F'->Rl X.K Fz H₀ F' H' σ' (ρ'.set i (a_ (d,fr && !im d)))->D.nx σ' H':=k
 cases hm:fr && !im d with
 |false=>
   rw[hm]at k';exact k' F' H' _ (sm.trans st.ff) ((Rm.moved st).ue r)
 |true=>
   rw[hm]at k';simp only[aq]at hm;obtain⟨S,nd,e1,o⟩:=f hm.1;have iu:=Step.XB st Rm.step.good e1 o;obtain⟨Ss0,O0⟩:=Rm.ow;refine k' (uz F' S) H' _ (sm.trans iu.ff) ((Rm.moved iu).QO (O0.moved iu) o nd (λa m=>⟨vX m,R.step.hh.free (e1 a m)⟩) λj d2 _ q a m1 m2=>?_);obtain⟨w',g1',g2',_,_⟩:=O0.own j d2 q;obtain⟨u,hu,_⟩:=g2'.yX _ a m1;rw[e1 a m2]at hu;cases hu
def zC{te:TE}{i:Nat}(hte:∀σ H Q,gE X.K C xe σ H Q->te σ H Q):∀D σ H,gS X.K C (.set i xe) D σ H->FK te (km i) D σ H:=λD σ H z3=>by
 obtain⟨Fz,H₀,F,ρ,out,h,R,k⟩:=z3;obtain⟨⟨d,fr,ρ'⟩,h1,h⟩:=dX h;cases h;obtain⟨ρe,e1,e2⟩:=FR R h1 k;exact hte _ _ _ ⟨ρe,d,fr,e1,e2⟩
noncomputable def Ip{i:Nat}{x:aV}(hN:X.N.Nodup)(hi:X.N[i]?=a_ x)(hx:Loc X.env.scope x)(he:SE X C e xe)(hs:swapsWith e (a_ (.Name x pos')) pos.line X.env=pure d_:=by rfl)
  (hf:X.fn x=c_\/X.env.scope.names.lookup x=a_ .local:=by first|exact .inl rfl|exact .inr rfl|assumption):SS X C (.Assign [.Name x pos'] e pos) (.set i xe):=
 PS.imp (Ro hN hi hx he hs hf) (zC λ_ _ _ h=>h)
end
end M
namespace L2
open PySem PySem.Spec PyProof.Rows
noncomputable def eO(X:Cx)(scope:fP)(cl:List (aV×ai))(N:List aV)(s₂:ae)(H₂:Hp)(C:ai)(ex:List ai):Cx:=
 { X with N:=N,s₀:=s₂,H₀:=H₂,env:=compEnvC scope cl C X.env,outer:=X.stack,stack:=X.stack,ex:=ex,fn:=λ_=>d_,pn:=[],xe:=λ_ _=>False }
def LJ(X:Cx)(ifs:List aI)(t:TT):Prop:=
 ∀(h_:List (ai×fe))(s:ae)(σ:St)(H:Hp)(Q:Bool->Hp->Prop),Inv X h_ σ H s->t σ H Q->
  au (aB X.prog X.w) X.A (forIn ifs c_ λc r=>if r=c_ then do let ok <-isTrue c X.env (eval c X.env);pure (i7 ok)else pure (i7 r)) (TP X h_ σ Q) X.xe s
def Ni{X:Cx}:LJ X [] (λ_ H Q=>Q c_ H):=λ_ _ _ H _ I h=>wpAny_tests_nil ⟨H,I,h⟩
def Nh{X:Cx}{c:aI}{t:TT}(h:PT X c t):LJ X [c] t:=λh_ s σ H Q I hq=>wpAny_tests_one (h h_ s σ H Q I hq)
def ic(nt:Nat)(caps:List Nat)(σ:St):St:=iP nt b_++caps.map λj=>(σ[j]?).join
noncomputable def Ig(wi:TI)(nt:Nat)(caps:List Nat)(g:TG)(tt:TT)(te:TE):TE:=λσ H Q=>wi σ H λJ H1=>∃W:Nat->Nat->List V->Hp->Prop,(∃m,W 0 m [] H1)/\∀i m ys H,W i m ys H->
 (J.stop i H/\ys.length<=aE/\∀p,H p=b_->Q (.ref p) (upd H p (.lst ys)))\/
 (J.go i H/\ys.length<aE/\∀x H',J.yld i H x H'->g x (ic nt caps σ) H' λσ2 H2=>tt σ2 H2 λb H3=>
  if b=c_ then te σ2 H3 λy H4=>∃m',m'<m/\W (i+1) m' (ys++[y]) H4 else ∃m',m'<m/\W (i+1) m' ys H3)
structure jq(X:Cx)(scope:fP)(tn cn:List aV)(caps:List Nat):Prop where
 kind:scope.kind=.function
 nocell:∀y∈scope.names,y.2≠.cell
 locs:∀y∈scope.names,y.2=.local->scope.names.lookup y.1=a_ .local
 frees:∀y∈scope.names,y.2=.free->X.env.kindOf y.1=a_ .cell\/X.env.kindOf y.1=a_ .free
 nofree:∀x,scope.names.lookup x=a_ .free->(x,dR)∈scope.names
 caps:caps.map (λj=>X.N[j]?)=cn.map a_
 capk:∀x∈cn,X.env.kindOf x=a_ .cell\/X.env.kindOf x=a_ .free
 capn:∀x∈cn,scope.names.lookup x=a_ .free
theorem ur{env:vq}(x:aV):∀names:List (aV×jC),(names.map λ(n,k)=>if(k == dR && env.scope.kind == .function && env.kindOf n == a_ .cell)then(n,lr)else(n,k)).lookup x =
  (names.lookup x).map λk=>if(k == dR && env.scope.kind == .function && env.kindOf x == a_ .cell)then lr else k
 |[]=>rfl
 |(n,k)::r=>by
   by_cases hx:x=n
   ·subst hx;simp only[ag,List.lookup_cons_self,aK];split<;>simp
   ·have hb:(x == n)=d_:=by simpa using hx
    rw[eL,hb,<-ur x r,ag];dsimp only;split<;>rw[eL,hb]
def nR{scope:fP}{env:vq}(x:aV):(relabel scope env).names.lookup x=(scope.names.lookup x).map λk=>if(k == dR && env.scope.kind == .function && env.kindOf x == a_ .cell)then lr else k:=ur x scope.names
def xM{scope:fP}{env:vq}{x:aV}(hc:∀y∈scope.names,y.2≠lr)(h:(relabel scope env).names.lookup x=a_ .cell\/(relabel scope env).names.lookup x=a_ .free):scope.names.lookup x=a_ .free:=by
 rw[nR]at h
 cases q:scope.names.lookup x with
 |none=>rw[q]at h;simp at h
 |some k=>
   rw[q]at h;simp only[aK,je]at h;by_cases hk:k=.free
   ·rw[hk]
   ·have hb:(k == dR)=d_:=by simpa using hk
    rw[hb]at h;simp only[jI,aG,if_false]at h
    rcases h with h|h
    ·subst h;exact absurd rfl (hc (x,.cell) (fV q))
    ·exact absurd h hk
def p5{scope:fP}{env:vq}{x:aV}(h:scope.names.lookup x=a_ .free):(relabel scope env).names.lookup x≠a_ .local:=by
 rw[nR,h];simp only[aK,ne_eq,je];split<;>(intro z;cases z)
section
variable{X:Cx}{h_:List (ai×fe)}{σ:St}{H:Hp}{s:ae}
theorem pA{env:vq}:∀(names:List (aV×jC)) (cs:List (aV×ai)),(∀y∈names,y.2=.free->∃c,env.cells.lookup y.1=a_ c)->(∀n c,cs.lookup n=a_ c->env.cells.lookup n=a_ c)->
  ∃cl:List (aV×ai),(forIn (m:=Sem) names cs λx r=>if(x.2 == dR)=c_ then do let a <-cellOf env x.1;pure (i7 ((x.1,a)::r))else pure (i7 r))=pure cl/\(∀n c,cl.lookup n=a_ c->env.cells.lookup n=a_ c)/\
   (∀n c,cs.lookup n=a_ c->∃c',cl.lookup n=a_ c')/\∀n,(n,dR)∈names->∃c,cl.lookup n=a_ c
 |[],cs,_,h2=>⟨cs,rfl,h2,λn c e=>⟨c,e⟩,λn z=>nomatch z⟩
 |(n,k)::r,cs,h1,h2=>by
   by_cases hk:k=.free
   ·subst hk;obtain⟨c,hc⟩:=h1 (n,.free) hJ rfl
    have hcell:cellOf env n=pure c:=by
     unfold cellOf;rw[hc]
    obtain⟨cl,e,q1,q2,q3⟩:=pA r ((n,c)::cs) (λy hy=>h1 y (ib _ hy)) (λm d e=>by
     rw[eL]at e;by_cases hm:m=n
     ·subst hm;simp at e;rw[<-e];exact hc
     ·have:(m == n)=d_:=by simpa using hm
      rw[this]at e
      exact h2 m d e)
    refine⟨cl,?_,q1,λm d hd=>?_,λm hm=>?_⟩
    ·rw[nG];simp only[beq_self_eq_true,if_true,hcell,pure_bind];exact e
    ·by_cases hmn:m=n
     ·subst hmn;exact q2 m c (by simp)
     ·have:(m == n)=d_:=by simpa using hmn
      exact q2 m d (by rw[eL,this];exact hd)
    ·rcases ao.mp hm with z|z
     ·cases z;exact q2 n c (by simp)
     ·exact q3 m z
   ·have hb:(k == dR)=d_:=by simpa using hk
    obtain⟨cl,e,q1,q2,q3⟩:=pA r cs (λy hy=>h1 y (ib _ hy)) h2;refine⟨cl,?_,q1,q2,λm hm=>?_⟩
    ·rw[nG];simp only[hb,aG,if_false,pure_bind];exact e
    ·rcases ao.mp hm with z|z
     ·cases z;exact absurd rfl hk
     ·exact q3 m z
def u7{scope:fP}{tn cn:List aV}{caps:List Nat}(ok:X.Ok)(S:jq X scope tn cn caps):∃cl:List (aV×ai),closureFor scope X.env=pure cl/\(∀n c,cl.lookup n=a_ c->X.env.cells.lookup n=a_ c)/\∀n,(n,dR)∈scope.names->∃c,cl.lookup n=a_ c:=by
 obtain⟨cl,e,q1,_,q3⟩:=pA (env:=X.env) scope.names [] (λy hy hk=>ok.has y.1 (S.frees y hy hk)) (λn c e=>by simp at e);refine⟨cl,?_,q1,q3⟩;unfold closureFor;rw[bind_pure];exact e
def Inv.HX{D:ai}{o:HO}(I:Inv X h_ σ H s)(hD:pE X h_ H D)(hs:X.s₀.heap.objs.size<=D)(new:iT X.prog X.w (upd H D o) s.heap D o):Inv X h_ σ (upd H D o) s:=by
 obtain⟨hn,hL,hf,_,hc,hp⟩:=hD
 have old:∀b ob,X.s₀.heap.get? b=a_ ob->b≠D:=λb ob e z=>by
  subst z;exact absurd (bw (hl9 e) hs) (bx _)
 refine⟨I.ok,I.os,I.bare,⟨I.base.keep,I.base.slot,λb ob e n hx=>?_,I.base.there,λb xs e=>?_,λb ob u e=>?_,λb ps e=>?_⟩,I.loc,I.cell,?_,λx c e=>?_,λp hpp=>?_,λb u e=>?_,I.len⟩
 ·rw[cH (old b ob e)];exact I.base.free b ob e n hx
 ·rw[cH (dY (I.base.tups b xs e) hn)];exact I.base.tups b xs e
 ·rw[cH (dY (I.base.frzs b ob u e) hn)];exact I.base.frzs b ob u e
 ·obtain⟨m,q⟩:=I.base.tbls b ps e;exact⟨m,by rw[cH (dY q hn)];exact q⟩
 ·rw[cH (eZ hL)];exact I.free
 ·rw[cH (hc x c e)];exact I.freeC x c e
 ·obtain⟨q1,q2,q3,q4,q5⟩:=I.pin p hpp;exact⟨q1,by rw[cH (hp p hpp)];exact q2,q3,q4,q5⟩
 ·by_cases hb:b=D
  ·subst hb;rw[cw]at e;cases e;exact new
  ·rw[cH hb]at e;exact(I.hok b u e).m9 (λ_ _ _ q=>q) (λc q=>by rw[cH (dY q hn)];exact q) λc xs q=>by rw[cH (dY q hn)];exact q
def n9{prog:aP}{w:bo}{A:br}{R:Result->ae->Prop}{elt target iter:aI}{ifs:List aI}{scope:fP}{pos:fu}{it acc:ab}{env:vq}(J:Nat->ae->Prop)
  (turn:∀n s,J n s->au (aB prog w) A (pyNext it) (λr s₁=>match r with
   |none=>R (.ok .next) s₁
   |some v=>au (aB prog w) A (letOwnedTupleGo target it v) (λ_ s₁'=>au (aB prog w) A (assign target env v) (λ_ s₂=>
     au (aB prog w) A (forIn ifs c_ λc r=>if r=c_ then do let ok <-isTrue c env (eval c env);pure (i7 ok)else pure (i7 r)) (λok s₃=>
      if ok=c_ then au (aB prog w) A (eval elt env) (λx s₄=>
       au (aB prog w) A (call (.builtin "list.append") [acc,x]) (λ_ s₅=>∃m,m<n/\J m s₅) (λ_ _=>False) s₄) (λ_ _=>False) s₃
      else ∃m,m<n/\J m s₃) (λ_ _=>False) s₂) (λ_ _=>False) s₁') (λ_ _=>False) s₁) (λ_ _=>False) s)
  (n:Nat){s:ae}(h:J n s) :
  codeAny (aB prog w) A (.compLoop (.ListComp elt [⟨target,iter,ifs,0⟩] scope pos) 0 it acc env) R s:=by
 refine codeAny_loop rfl J (λn s hI=>?_) n h;show au _ A ((compTurn (.ListComp elt [⟨target,iter,ifs,0⟩] scope pos) 0 it acc env).onRaise (λx=>do noteFrame x env;theTreesLotGoes x)) _ _ s;refine wpAny_noted ?_;rw[compTurn_list];refine wb9 (sU (wb9 (eT (turn n s hI) (λr s₁ h₁=>?_) λ_ _ h'=>h'.elim)))
 cases r with
 |none=>exact wu9 h₁
 |some v=>
   refine wb9 (eT h₁ (λ_ s₁' h₁'=>?_) λ_ _ h'=>h'.elim);refine wb9 (eT h₁' (λ_ s₂ h₂=>wb9 (eT h₂ (λok s₃ h₃=>?_) λ_ _ h'=>h'.elim)) λ_ _ h'=>h'.elim)
   cases ok with
   |false=>exact wu9 ⟨rfl,h₃⟩
   |true=>
     exact wb9 (wb9 (eT h₃ (λx s₄ h₄=>wb9 (eT h₄ (λ_ s₅ h₅=>wu9 (wu9 ⟨rfl,h₅⟩)) λ_ _ h'=>h'.elim)) λ_ _ h'=>h'.elim))
def oZ(nt:Nat)(g:TG):Prop:=∀x σ H Q,g x σ H Q->g x σ H λσ2 H2=>Q σ2 H2/\σ2.length=σ.length/\∀i,nt<=i->σ2[i]?=σ[i]?
def t7{nt i:Nat}(h:i<nt):oZ nt (km i):=λx σ H Q q=>by
 refine⟨q,by simp,λj hj=>?_⟩;rw[eR (by omega)]
def vi(nt:Nat)(g:Hd):Prop:=∀xs σ H Q,g xs σ H Q->g xs σ H λσ2 H2=>Q σ2 H2/\σ2.length=σ.length/\∀i,nt<=i->σ2[i]?=σ[i]?
def FJ{nt:Nat}:vi nt GQ:=λxs σ H Q ⟨e,q⟩=>⟨e,q,rfl,λ_ _=>rfl⟩
def BO{nt:Nat}{t:TG}{u:Hd}(mono:∀x σ H Q Q',(∀σ2 H2,Q σ2 H2->Q' σ2 H2)->t x σ H Q->t x σ H Q')(monou:∀x σ H Q Q',(∀σ2 H2,Q σ2 H2->Q' σ2 H2)->u x σ H Q->u x σ H Q')(ht:oZ nt t)(hu:vi nt u):vi nt (wF t u):=λxs σ H Q z4=>by
 obtain⟨v,r,e,q⟩:=z4;refine⟨v,r,e,?_⟩;refine mono _ _ _ _ _ (λσ2 H2 ⟨q2,l2,s2⟩=>?_) (ht _ _ _ _ q);exact monou _ _ _ _ _ (λσ3 H3 ⟨q3,l3,s3⟩=>⟨q3,l3.trans l2,λi hi=>(s3 i hi).trans (s2 i hi)⟩) (hu _ _ _ _ q2)
def FI{K:aN}{nt n:Nat}{u:Hd}(hu:vi nt u):oZ nt (Kw K n u):=λx σ H Q ⟨a,xs,e,h1,h2,q⟩=>⟨a,xs,e,h1,h2,hu _ _ _ _ q⟩
def uO{i:Nat}:∀x σ H Q Q',(∀σ2 H2,Q σ2 H2->Q' σ2 H2)->km i x σ H Q->km i x σ H Q':=λ_ _ _ _ _ h q=>h _ _ q
def GP:∀x σ H Q Q',(∀σ2 H2,Q σ2 H2->Q' σ2 H2)->GQ x σ H Q->GQ x σ H Q':=λ_ _ _ _ _ h q=>⟨q.1,h _ _ q.2⟩
def CD{t:TG}{u:Hd}(mt:∀x σ H Q Q',(∀σ2 H2,Q σ2 H2->Q' σ2 H2)->t x σ H Q->t x σ H Q')(mu:∀x σ H Q Q',(∀σ2 H2,Q σ2 H2->Q' σ2 H2)->u x σ H Q->u x σ H Q') :
  ∀x σ H Q Q',(∀σ2 H2,Q σ2 H2->Q' σ2 H2)->wF t u x σ H Q->wF t u x σ H Q':=λ_ _ _ _ _ h ⟨v,r,e,q⟩=>⟨v,r,e,mt _ _ _ _ _ (λ_ _ q2=>mu _ _ _ _ _ h q2) q⟩
def BE(X:Cx)(h_:List (ai×fe))(σ:St)(Q:VK)(acc:ab)(C:ai)(r:Result)(s':ae):Prop:=
 r=.ok .next/\∃D H',acc=.ref D/\(∃m,s'.heap.Ns C m)/\Inv X h_ σ H' s'/\pE X h_ H' C/\Q (.ref D) H'
def u6{elt iter tg:aI}{ifs:List aI}{scope:fP}{pos:fu}{tn cn:List aV}{caps:List Nat}{g:TG}{tt:TT}{te:TE}{Q:VK}{s₂:ae}{itv:ab}{cl:List (aV×ai)}{E:ab->ae->Prop}
  (hcalm:X.calm=c_)(S:jq X scope tn cn caps)(hclos:∀n c,cl.lookup n=a_ c->X.env.cells.lookup n=a_ c)(hhas:∀n,(n,dR)∈scope.names->∃c,cl.lookup n=a_ c)
  (hg:∀(cl:List (aV×ai))(s₂:ae)(H₂:Hp)(C:ai)(ex:List ai),PG (eO X scope cl (tn++cn) s₂ H₂ C ex) tg g)(touch:oZ tn.length g)
  (ht:∀(cl:List (aV×ai))(s₂:ae)(H₂:Hp)(C:ai)(ex:List ai),LJ (eO X scope cl (tn++cn) s₂ H₂ C ex) ifs tt)
  (he:∀(cl:List (aV×ai))(s₂:ae)(H₂:Hp)(C:ai)(ex:List ai),PE (eO X scope cl (tn++cn) s₂ H₂ C ex) elt te)
  (hi:YU X h_ σ tg (λJ H1=>∃W:Nat->Nat->List V->Hp->Prop,(∃m,W 0 m [] H1)/\∀i m ys H,W i m ys H->
   (J.stop i H/\ys.length<=aE/\∀p,H p=b_->Q (.ref p) (upd H p (.lst ys)))\/
   (J.go i H/\ys.length<aE/\∀x H',J.yld i H x H'->g x (ic tn.length caps σ) H' λσ2 H2=>tt σ2 H2 λb H3=>
    if b=c_ then te σ2 H3 λy H4=>∃m',m'<m/\W (i+1) m' (ys++[y]) H4 else ∃m',m'<m/\W (i+1) m' ys H3)) itv s₂) :
  au (aB X.prog X.w) X.A (newList []) (λacc s₃=>au (aB X.prog X.w) X.A (newFunctionEnv scope X.env.globals cl [] X.env.qual b_ .none (a_ X.env)) (λcenv s₄=>
   codeAny (aB X.prog X.w) X.A (.compStart (.ListComp elt [⟨tg,iter,ifs,0⟩] scope pos) 0 itv acc { cenv with scope:=relabel scope X.env }) (BE X h_ σ Q acc cenv.locals) s₄) E s₃) E s₂:=by
 obtain⟨it,fp,tnn,J,H2,e,I2,T,iu,f2,W,⟨m0,w0⟩,turn⟩:=hi;subst e;refine cG (wpAny_newFunctionEnv S.nocell (by intro y hy;simp at hy) (λh₁ hns₁ hsb₁=>?_) S.kind);dsimp only at hns₁ hsb₁ ⊢;generalize hH2:s₂.heap.push { cls:=.type "list",dict:=b_,data:=.seq ([]:List ab).toArray }=G2 at hns₁ hsb₁ ⊢;have hC:G2.objs.size=s₂.heap.objs.size+1:=by rw[<-hH2,cX]
 have hDC:s₂.heap.objs.size≠G2.objs.size:=by rw[hC];exact bu (gC _)
 have old:∀b o,s₂.heap.get? b=a_ o->h₁.get? b=a_ o:=λb o e=>hsb₁.extBut b o (by rw[hC];exact bu (iJ (hl9 e))) (hp9 _ (hH2▸hp9 _ e));have hacc:h₁.get? s₂.heap.objs.size=a_ { cls:=.type "list",data:=.seq ([]:List ab).toArray }:=hsb₁.extBut _ _ hDC (hp9 _ (hH2▸aL _ rfl));generalize hDd:s₂.heap.objs.size=D at *;generalize hCd:G2.objs.size=C at *;have hCD:@Eq Nat C (D+1):=hC;have hlt:D<C:=by rw[hC];exact gC _
 have hDD:@Eq Nat s₂.heap.objs.size D:=hDd;have p9:∀b o,s₂.heap.get? b=a_ o->b<D:=λb o e=>hDd▸hl9 e;have fresh:∀a,D<=a->H2 a=b_:=λa h=>I2.hok.fresh (hDd▸h);have hfpS:∀b∈fp,b<D:=λb hb=>by obtain⟨o,e,_⟩:=T.obj 0 _ iu b hb;exact p9 b o e
 have frL:∀b∈Ho X.stack,b<D:=λb hb=>by
  obtain⟨_,o,ho,_⟩:=I2.stack.mem hb;exact p9 b o ho
 have clL:∀x c,cl.lookup x=a_ c->c<D:=λx c e=>by
  obtain⟨v,q⟩:=I2.cell x c (hclos x c e);exact hDd▸q.lt
 let Y:Cx:=eO X scope cl (tn++cn) s₂ H2 C fp
 have okY:Y.Ok:=by
  refine⟨I2.ok.mod,S.kind,I2.ok.glob,I2.ok.blt,?_,λx y c h1 h2=>I2.ok.inj x y c (hclos x c h1) (hclos y c h2),λx hx=>?_,(λx c h=>nomatch h),I2.ok.hd,I2.ok.frames,.inl rfl,λb hb=>⟨?_,λx c e=>?_⟩,λb o e=>I2.bs b o e,?_,λb o e hb=>?_,λb hb z=>?_,I2.stack,I2.Dv⟩
  ·show s₂.heap.objs.size<=C;omega
  ·have hx':(relabel scope X.env).names.lookup x=a_ .cell\/(relabel scope X.env).names.lookup x=a_ .free:=hx;have hfree:scope.names.lookup x=a_ .free:=xM S.nocell hx';exact hhas x (S.nofree x hfree)
  ·show b≠C;exact bu (jK (hfpS b hb) hlt)
  ·have e':cl.lookup x=a_ c:=e;exact(f2 b hb).2.2.2.2.1 x c (hclos x c e')
  ·show X.base.objs.size<=s₂.heap.objs.size;exact cW I2.ok.bsz I2.sz
  ·rcases(f2 b hb).2.2.2.1 with z|z
   ·exact I2.ok.noex b o e z
   ·exact absurd (bw (bw (hl9 e) I2.ok.bsz) z) (bx _)
  ·have hb':=f2 b hb
   rcases ao.mp (I2.t8 b z)with q|q
   ·exact hb'.2.1 q
   ·exact hb'.2.2.1 q
 have invY:∀(s':ae) (m:aV->Option ab),s'.os=s₂.os->nj s'.gens->(∀b o,s₂.heap.get? b=a_ o->s'.heap.get? b=a_ o)->s'.heap.Ns C m->(∀(i:Nat) (x:aV) (v:V),(tn++cn)[i]?=a_ x->(ic tn.length caps σ)[i]?=a_ (a_ v)->Qe Y.env.scope x->∃u,RelV v u/\Look Y.env s'.heap m x u)->
   Inv Y (X.pn++h_) (ic tn.length caps σ) H2 s':=λs' m ho hb hk hn hl=>by
  refine⟨okY,ho,hb,Un.kept hk,⟨m,hn,hl⟩,λx c e=>?_,fresh C (by omega),λx c e=>I2.freeC x c (hclos x c e),λp hp=>?_,I2.hok.kept hk,?_⟩
  ·obtain⟨v,q⟩:=I2.cell x c (hclos x c e);exact⟨v,q.keeps hk⟩
  ·have hp':p∈X.pn++h_:=by simpa [Y,eO]using hp
   obtain⟨q1,q2,q3,q4,q5⟩:=I2.pin p hp';refine⟨hk _ _ q1,q2,?_,λz=>?_,q5⟩
   ·show p.1≠C;exact bu (jK (p9 _ _ q1) hlt)
   ·rcases ao.mp (I2.t8 p.1 z)with w|w
    ·exact q3 w
    ·exact q4 w
  ·show(ic tn.length caps σ).length=(tn++cn).length;have e:=congrArg lT S.caps;simp only[ah]at e;simp[ic,e]
 have loop:∀s₃:ae,s₃={ s₂ with heap:=h₁,toks:=s₂.toks+([]:List (aV×ab)).length }->
   codeAny (aB X.prog X.w) X.A (.compLoop (.ListComp elt [⟨tg,iter,ifs,0⟩] scope pos) 0 (.ref it) (.ref D) (compEnvC scope cl C X.env)) (BE X h_ σ Q (.ref D) C) s₃:=by
  rintro s₃ rfl
  have I3:Inv Y (X.pn++h_) (ic tn.length caps σ) H2 { s₂ with heap:=h₁,toks:=s₂.toks+([]:List (aV×ab)).length }:=by
   refine invY _ _ rfl I2.bare old hns₁ λi x v e1 e2 e3=>?_
   have hi:tn.length<=i:=by
    by_cases hi:tn.length<=i
    ·exact hi
    ·unfold ic at e2;rw[cv (by simpa using hi),dP]at e2;split at e2<;>cases e2
   unfold ic at e2;rw[cP (by simpa using hi),jV]at e2;rw[cP hi]at e1;rw[aW]at e2
   cases hj:caps[i - tn.length]? with
   |none=>rw[hj]at e2;cases e2
   |some j=>
     rw[hj]at e2;have e2':(σ[j]?).join=a_ v:=aS e2
     have hσ:σ[j]?=a_ (a_ v):=by
      cases q:σ[j]? with
      |none=>rw[q]at e2';cases e2'
      | some z=>rw[q]at e2';cases z with
        |none=>cases e2'
        |some z=>exact congrArg a_ e2'
     have hN:X.N[j]?=a_ x:=by
      have e:=congrArg (λl=>l[i - tn.length]?) S.caps;simp only[aW,hj,e1,aK]at e;exact aS e
     have hk:=S.capk x (dO e1);obtain⟨m,hn,hl⟩:=I2.loc;have hv:Qe X.env.scope x:=hk.elim (λz=>.inr (.inl z)) λz=>.inr (.inr z);obtain⟨u,ru,l⟩:=hl j x v hN hσ hv;refine⟨u,ru,.inr ?_⟩
     rcases l with⟨k,_⟩|⟨k,c,ec,hcell⟩
     ·rw[k]at hk;rcases hk with z|z<;>cases z
     ·
      rcases e3 with z|z|z
      ·
       exact absurd z (p5 (S.capn x (dO e1)))
      ·obtain⟨c',ec'⟩:=okY.has x (.inl z);have ecc:c'=c:=aS ((hclos x c' ec').symm.trans ec);rw[ecc]at ec';exact⟨.inl z,c,ec',hcell.keeps old⟩
      ·obtain⟨c',ec'⟩:=okY.has x (.inr z);have ecc:c'=c:=aS ((hclos x c' ec').symm.trans ec);rw[ecc]at ec';exact⟨.inr z,c,ec',hcell.keeps old⟩
  have pinD:∀{σ':St} {H':Hp} {s':ae} {its:List ab} {n:Nat},Inv Y (X.pn++h_) σ' H' s'->H' D=b_->s'.heap.get? D=a_ { cls:=.type "list",data:=.seq its.toArray n }->
    Inv Y ((X.pn++h_)++[(D,{ cls:=.type "list",data:=.seq its.toArray n })]) σ' H' s':=λ{σ' H' s' its n}I' hn hd=>by
   refine I'.p6 λp hp=>?_
   rcases az.mp hp with z|z
   ·exact I'.pin p (ak _ z)
   ·have e:=aF.mp z;subst e;refine⟨hd,hn,hDC,λz=>?_,(λv z=>nomatch z)⟩;exact absurd (frL D z) (bx _)
  have fpD:∀{H':Hp},H' D=b_->∀b,b=D->pE Y (X.pn++h_) H' b:=λ{H'}hn b hb=>by
   subst hb;refine⟨hn,hDC,λz=>absurd (frL b z) (bx _),.inr (BG hDd),λx c e z=>?_,λp hp z=>?_⟩
   ·have:=clL x c e;rw[z]at this;exact absurd this (bx _)
   ·have hp':p∈X.pn++h_:=by simpa [Y,eO]using hp
    have:=p9 _ _ (I2.pin p hp').1;rw[z]at this;exact absurd this (bx _)
  have stat:∀{H':Hp}{pl:List (ai×fe)},(∀b∈fp,H' b=b_)->(∀p∈pl,p.1=D)->∀b∈fp,pE Y ((X.pn++h_)++pl) H' b:=λ{H' pl}hn hpl b hb=>by
   obtain⟨g0,g1,g2,g3,g4,g5⟩:=f2 b hb;refine⟨hn b hb,?_,λz=>?_,.inl hb,λx c e=>g4 x c (hclos x c e),λp hp z=>?_⟩
   ·show b≠C;exact bu (jK (hfpS b hb) hlt)
   ·rcases ao.mp (I2.t8 b z)with w|w
    ·exact g1 w
    ·exact g2 w
   ·have hp':p∈(X.pn++h_)++pl:=by simpa [Y,eO]using hp
    rcases az.mp hp' with w|w
    ·exact g5 p w z
    ·have h1:=hpl p w;have h2:=hfpS b hb;rw[<-z,h1]at h2;exact absurd h2 (bx _)
  refine n9 (λn s'=>∃(i:Nat) (ys:List V) (its:List ab) (k:Nat) (H':Hp),Inv Y (X.pn++h_) (ic tn.length caps σ) H' s'/\H' D=b_/\s'.heap.get? D=a_ { cls:=.type "list",data:=.seq its.toArray k }/\cD ys its/\
   tnn i s'.heap/\(∀b∈fp,H' b=b_)/\W i n ys H') ?_ m0 ⟨0,[],[],0,H2,I3,fresh D (aC _),hacc,.nil,T.keep _ _ _ iu λb hb o e=>old b o e,λb hb=>(f2 b hb).1,w0⟩
  rintro n s4 ⟨i,ys,its,k,H4,I4,hD4,ho4,rv4,st4,fr4,w4⟩;have I4':=pinD I4 hD4 ho4
  have pl1:∀p∈[((D,{ cls:=.type "list",data:=.seq its.toArray k }):ai×fe)],p.1=D:=λp hp=>by
   rw[aF.mp hp]
  rcases turn i n ys H4 w4 with⟨stop,hz,qn⟩|⟨go,hz,step⟩
  ·
   refine gW (T.done Y rfl rfl rfl hcalm i _ s4 _ H4 _ I4' (stat fr4 pl1) st4 stop) λr s5 ⟨hr,I5⟩=>?_;subst hr;have hd5:=(I5.pin (D,{ cls:=.type "list",data:=.seq its.toArray k }) (ak _ (ak _ (aF.mpr rfl)))).1;have I5':Inv Y (X.pn++h_) (ic tn.length caps σ) H4 s5:=I5.lU;have J5:Inv X h_ σ H4 s5:=I2.WK (ch:=fp) I5'.os I5'.base I5'.hok I5'.bare λb hb=>⟨(f2 b hb).2.2.2.1,(f2 b hb).2.1,(f2 b hb).2.2.2.2.1,(f2 b hb).2.2.2.2.2⟩
   have up:∀a,D<=a->H4 a=b_->pE X h_ H4 a:=λa ha hn=>by
    refine⟨hn,?_,λz=>?_,.inr ?_,λx c e z=>?_,λp hp z=>?_⟩
    ·have h1:=I2.lt;intro z;rw[<-z,hDd]at h1;exact absurd (bw h1 ha) (bx _)
    ·exact I2.VW (a:=a) (by rw[hDd];exact ha) z
    ·exact cW I2.sz (by rw[hDd];exact ha)
    ·obtain⟨v,q⟩:=I2.cell x c e;have h1:=q.lt;rw[z,hDd]at h1;exact absurd (bw h1 ha) (bx _)
    ·have h1:=p9 _ _ (I2.pin p hp).1;rw[z]at h1;exact absurd (bw h1 ha) (bx _)
   have J6:Inv X h_ σ (upd H4 D (.lst ys)) s5:=J5.HX (up D (aC _) hD4) (by have h1:=I2.sz;rw[hDd]at h1;exact h1) ⟨hz,its,k,rv4,hd5⟩;obtain⟨m5,hn5,_⟩:=I5'.loc;refine⟨rfl,D,upd H4 D (.lst ys),rfl,⟨m5,hn5⟩,J6,?_,qn D hD4⟩;have hC4:H4 C=b_:=I5'.free;obtain⟨u0,u1,u2,u3,u4,u5⟩:=up C (by omega) hC4;exact⟨by rw[cH (eZ hDC)];exact u0,u1,u2,u3,u4,u5⟩
  ·refine gW (T.item Y rfl rfl rfl hcalm i _ s4 _ H4 _ I4' (stat fr4 pl1) st4 go) λr s5 ⟨u,hr,h5⟩=>?_;subst hr;refine gW h5 λ_ s6 ⟨x,H6,I6,r6,y6,st6,fr6⟩=>?_;have I6':=I6.pinned (stat fr6 pl1) (T.obj _ _ st6);refine gW (hg cl s₂ H2 C fp _ s6 _ H6 x u _ I6' r6 (touch _ _ _ _ (step x H6 y6))) λ_ s7 ⟨σ7,H7,I7,q7,l7,e7⟩=>?_
   have back:∀{H':Hp} {s':ae} {ys':List V} {its':List ab} {k':Nat} {n':Nat},Inv Y (X.pn++h_++lL fp s6.heap) σ7 H' s'->H' D=b_->s'.heap.get? D=a_ { cls:=.type "list",data:=.seq its'.toArray k' }->cD ys' its'->W (i+1) n' ys' H'->
     ∃(i:Nat) (ys:List V) (its:List ab) (k:Nat) (H':Hp),Inv Y (X.pn++h_) (ic tn.length caps σ) H' s'/\H' D=b_/\s'.heap.get? D=a_ { cls:=.type "list",data:=.seq its.toArray k }/\cD ys its/\tnn i s'.heap/\(∀b∈fp,H' b=b_)/\W i n' ys H':=
    λ{H' s' ys' its' k' n'}I' hd ho rv w=>by
     refine⟨i+1,ys',its',k',H',(I'.lU).weak (by rw[l7]) (λj v hj=>?_),hd,ho,rv,T.keep _ _ _ st6 λb hb o e=>(I'.pin (b,o) (ak _ (ak _ (mN hb e)))).1,λb hb=>?_,w⟩
     ·have hj':tn.length<=j:=by
       by_cases hj':tn.length<=j
       ·exact hj'
       ·unfold ic at hj;rw[cv (by simpa using hj'),dP]at hj;split at hj<;>cases hj
      rw[e7 j hj'];exact hj
     ·obtain⟨o,e,d⟩:=T.obj _ _ st6 b hb;exact(I'.pin (b,o) (ak _ (ak _ (mN hb e)))).2.1
   have pinOf:∀{σ':St}{H':Hp}{s':ae},Inv Y (((X.pn++h_)++[(D,{ cls:=.type "list",data:=.seq its.toArray k })])++lL fp s6.heap) σ' H' s'->s'.heap.get? D=a_ { cls:=.type "list",data:=.seq its.toArray k }/\H' D=b_:=λI'=>by
    obtain⟨q1,q2,_⟩:=I'.pin (D,{ cls:=.type "list",data:=.seq its.toArray k }) (ak _ (aJ _ (ak _ (aF.mpr rfl))));exact⟨q1,q2⟩
   have dropD:∀{σ':St}{H':Hp}{s':ae},Inv Y (((X.pn++h_)++[(D,{ cls:=.type "list",data:=.seq its.toArray k })])++lL fp s6.heap) σ' H' s'->Inv Y (X.pn++h_++lL fp s6.heap) σ' H' s':=λI'=>
    I'.p6 λp hp=>I'.pin p (ak _ (by
     rcases az.mp hp with z|z
     ·exact aJ _ (aJ _ z)
     ·exact ak _ z))
   refine gW (ht cl s₂ H2 C fp _ s7 σ7 H7 _ I7 q7) λb s8 ⟨H8,I8,q8⟩=>?_
   cases b with
   |false=>
     rw[if_neg bh];rw[if_neg bh]at q8;obtain⟨m',hm,w8⟩:=q8;exact⟨m',hm,back (dropD I8) (pinOf I8).2 (pinOf I8).1 rv4 w8⟩
   |true=>
     rw[if_pos rfl];rw[if_pos rfl]at q8;refine gW (he cl s₂ H2 C fp _ s8 σ7 H8 _ I8 q8) λv s9 ⟨y,H9,I9,r9,m',hm,w9⟩=>?_;obtain⟨ho9,hD9⟩:=pinOf I9;refine wpAny_list_append_plain (hsz:=by have:=rv4.length;simp;omega) (items:=its.toArray) ⟨k,ho9⟩ λh' hl' hs'=>?_;obtain⟨k',hk'⟩:=hl';have I9':=dropD I9;have f9:=fpD hD9 D rfl
     have I10:Inv Y (X.pn++h_++lL fp s6.heap) σ7 H9 { s9 with heap:=h' }:=by
      refine I9'.turned (t':=s9.toks) (it:=D) (λb o hb e=>hs'.extBut b o hb e) hD9 hDC (.inr (BG hDd)) f9.2.2.2.2.1 λp hp=>?_;have hp':p∈X.pn++h_++lL fp s6.heap:=by simpa [Y,eO]using hp
      rcases az.mp hp' with z|z
      ·exact bu (p9 _ _ (I2.pin p z).1)
      ·obtain⟨hb,_⟩:=wo z;exact bu (hfpS _ hb)
     refine⟨m',hm,back (ys':=ys++[y]) (its':=its++[v]) (k':=k') I10 hD9 ?_ (rv4.append (.cons r9 .nil)) w9⟩;simpa using hk'
 exact codeAny_compStart_list (loop _ rfl) (T.self X.A 0 _ _ _ (T.keep _ _ _ iu λb hb o e=>old b o e) (loop _ rfl))
def Nq{elt iter tg:aI}{ifs:List aI}{scope:fP}{pos:fu}{tn cn:List aV}{caps:List Nat}{wi:TI}{g:TG}{tt:TT}{te:TE}
  (hcalm:X.calm=c_)(S:jq X scope tn cn caps)(hi:PI X tg iter wi)
  (hg:∀(cl:List (aV×ai))(s₂:ae)(H₂:Hp)(C:ai)(ex:List ai),PG (eO X scope cl (tn++cn) s₂ H₂ C ex) tg g)(touch:oZ tn.length g)
  (ht:∀(cl:List (aV×ai))(s₂:ae)(H₂:Hp)(C:ai)(ex:List ai),LJ (eO X scope cl (tn++cn) s₂ H₂ C ex) ifs tt)
  (he:∀(cl:List (aV×ai))(s₂:ae)(H₂:Hp)(C:ai)(ex:List ai),PE (eO X scope cl (tn++cn) s₂ H₂ C ex) elt te)
  (hs:∀x,foldedSetIterable iter X.env x=pure x:=by intro _;rfl):PE X (.ListComp elt [⟨tg,iter,ifs,0⟩] scope pos) (Ig wi tn.length caps g tt te):=by
 intro h_ s σ H Q I h;obtain⟨cl,hcl,h1,h2⟩:=u7 I.ok S;rw[eval_ListComp];refine Fk (use:=b_) rfl hs hcl S.kind S.locs (gW (hi h_ s σ H _ I h) λv s1 hv=>gW hv λitv s2 h2'=>?_);refine eT (u6 (Q:=Q) (E:=X.xe) hcalm S h1 h2 hg touch ht he h2') (λacc s3 q3=>eT q3 (λcenv s4 q4=>kb q4 λr s5 q5=>?_) λ_ _ z=>z) λ_ _ z=>z;obtain⟨rfl,D,H',rfl,⟨m,hn⟩,J,fC,q⟩:=q5;refine⟨m,hn,λh' hs'=>⟨.ref D,H',?_,rfl,q⟩⟩;exact J.turned (t':=s5.toks) (it:=cenv.locals) (λb o hb e=>hs'.extBut b o hb e) fC.1 fC.2.1 fC.2.2.2.1 fC.2.2.2.2.1 fC.2.2.2.2.2
def B9{i:Nat}{x:aV}{elt iter tg:aI}{ifs:List aI}{scope:fP}{pos pos' spos:fu}{tn cn:List aV}{caps:List Nat}{wi:TI}{g:TG}{tt:TT}{te:TE}(hN:X.N.Nodup)(hi':X.N[i]?=a_ x)(hx:Loc X.env.scope x)
  (hcalm:X.calm=c_)(S:jq X scope tn cn caps)(hi:PI X tg iter wi)
  (hg:∀(cl:List (aV×ai))(s₂:ae)(H₂:Hp)(C:ai)(ex:List ai),PG (eO X scope cl (tn++cn) s₂ H₂ C ex) tg g)(touch:oZ tn.length g)
  (ht:∀(cl:List (aV×ai))(s₂:ae)(H₂:Hp)(C:ai)(ex:List ai),LJ (eO X scope cl (tn++cn) s₂ H₂ C ex) ifs tt)
  (he:∀(cl:List (aV×ai))(s₂:ae)(H₂:Hp)(C:ai)(ex:List ai),PE (eO X scope cl (tn++cn) s₂ H₂ C ex) elt te)
  (hsw:swapsWith (.ListComp elt [⟨tg,iter,ifs,0⟩] scope pos) (a_ (.Name x pos')) spos.line X.env=pure c_)
  (hs:∀x,foldedSetIterable iter X.env x=pure x:=by intro _;rfl)(hf:X.fn x=c_\/X.env.scope.names.lookup x=a_ .local:=by first|exact .inl rfl|exact .inr rfl|assumption) :
  PS X (.Assign [.Name x pos'] (.ListComp elt [⟨tg,iter,ifs,0⟩] scope pos) spos) (FK (Ig wi tn.length caps g tt te) (km i)):=by
 intro h_ s σ H D I h;obtain⟨cl,hcl,h1,h2⟩:=u7 I.ok S;rw[exec_Assign_Name_used _ _ _ _ hsw];refine wb9 (sU (wb9 ?_));show au _ X.A (do let _ <-comprehension (.ListComp elt [⟨tg,iter,ifs,0⟩] scope pos) scope X.env _ (newList []) d_ (eval iter X.env) (a_ (assign (.Name x pos') X.env))) _ _ s;refine wb9 (eT (Fk (use:=a_ (assign (.Name x pos') X.env)) (Q:=λ_ s'=>SP X h_ D .next s') rfl hs hcl S.kind S.locs (gW (hi h_ s σ H _ I h) λv s1 hv=>gW hv λitv s2 h2'=>?_)) (λ_ s' hq=>wu9 (wu9 hq)) λ_ _ e=>e);refine eT (u6 (Q:=λx H1=>km i x σ H1 D.nx) (E:=X.xe) hcalm S h1 h2 hg touch ht he h2') (λacc s3 q3=>eT q3 (λcenv s4 q4=>kb q4 λr s5 q5=>?_) λ_ _ z=>z) λ_ _ z=>z;obtain⟨rfl,D',H',rfl,⟨m,hn⟩,J,fC,q⟩:=q5;show au _ X.A (assign (.Name x pos') X.env (.ref D')) _ _ _;refine wpAny_assign_Name ?_;obtain⟨oC,es,ep,hoC,hdC,hkC⟩:=id hn
 have J':Inv X (h_++[(cenv.locals,oC)]) σ H' s5:=J.p6 λp hp=>by
  rcases az.mp hp with z|z
  ·exact J.pin p (ak _ z)
  ·have e:p=(cenv.locals,oC):=by simpa using z
   subst e;exact⟨hoC,fC.1,fC.2.1,fC.2.2.1,λv z=>by rw[hdC]at z;cases z⟩
 refine nP J' hN hi' hx (v:=.ref D') (u:=.ref D') rfl (λs6 I6=>?_) hf;have e6:=(I6.pin (cenv.locals,oC) (by simp)).1;refine⟨m,⟨oC,es,ep,e6,hdC,hkC⟩,λh' hs'=>⟨_,H',?_,q⟩⟩;exact(I6.lU).turned (t':=s6.toks) (it:=cenv.locals) (λb o hb e=>hs'.extBut b o hb e) fC.1 fC.2.1 fC.2.2.2.1 fC.2.2.2.2.1 fC.2.2.2.2.2
end
end L2
namespace M
open PySem PySem.Spec PyProof.Rows L2
def kR(K:Fg)(F1:Hp)(J:It)(items:List Dat):Prop:=∀F H,Good F H->bX F1 F->
 (∀(i:Nat)d,items[i]?=a_ d->J.go i H/\∀x H',J.yld i H x H'->∃F',Step F H F' H'/\Rep K F' d x)/\∀i,items.length<=i->J.stop i H
noncomputable def uS(x:Iw)(F:Hp):Hp:=match x with
 |.rng _=>λ_=>b_
 |_=>F
def AD{x:Iw}{F F':Hp}(h:bX F F'):bX (uS x F) F':=by
 unfold uS;split
 ·intro a o e;cases e
 ·exact h
def gI(K:Fg)(C:Fs)(x:Iw):TI:=λσ H R=>∃ρ items F,tU C x ρ=a_ items/\Good F H/\mw K F σ ρ/\∀J F1 H1,Step F H F1 H1->kR K (uS x F1) J items->R J H1
abbrev SI(X:Cx)(C:Fs)(tg iter:aI)(x:Iw):Prop:=PI X tg iter (gI X.K C x)
def Xc(x:aV):It:=⟨λi _=>i<x.cps.size,λi H v H'=>H'=H/\∃c,x.cps[i]?=a_ c/\v=V.str ⟨#[c]⟩,λi _=>x.cps.size<=i⟩
def HU{P:aP}{w:bo}{K:aN}{tg:aI}(x:aV)(t:vQ)(it:ai):Turn P w K tg (Xc x) [it] it (λi h=>h.IsStrIter it "str_ascii_iterator" x t i) where
 mem:=by simp
 obj:=λi h st b hb=>by
  have e:b=it:=by simpa using hb
  subst e;obtain⟨o,e,c,d⟩:=st;exact⟨o,e,λv z=>by rw[d]at z;cases z⟩
 keep:=λi h h' st k=>by
  obtain⟨o,e,c,d⟩:=st;exact⟨o,k it (by simp) o e,c,d⟩
 item:=by
  intro X hP hw hK hc i h_ s σ H E I hf st hg;subst hP hw hK;obtain⟨f0,f1,f2,f3,f4,f5⟩:=hf it (by simp);have hx:x.cps[i]?=a_ (x.cps[i]'hg):=aH hg;refine wpAny_pyNext_ascii_item st hx λh' st' sb=>?_;have I1:Inv X h_ σ H { s with heap:=h',toks:=s.toks+1 }:=I.turned (λb o hb e=>(sb.2 b hb).trans e) f0 f1 f3 f4 f5;obtain⟨o,e,c,d⟩:=id st';exact⟨_,rfl,As (s:={ s with heap:=h',toks:=s.toks+1 }) e c d (by decide) ⟨.str ⟨#[x.cps[i]'hg]⟩,H,I1,⟨_,rfl⟩,⟨rfl,_,hx,rfl⟩,st',λb hb=>(hf b hb).1⟩⟩
 done:=by
  intro X hP hw hK hc i h_ s σ H E I hf st hg;subst hP hw hK;obtain⟨f0,f1,f2,f3,f4,f5⟩:=hf it (by simp);have hg':x.cps.size<=i:=hg;exact wpAny_pyNext_ascii_end (I.ok.hd hc) st (fj hg') λh' eb=>⟨rfl,I.turned (t':=s.toks) (λb o hb e=>eb b o hb e) f0 f1 f3 f4 f5⟩
 self:=λ_ _ _ _ _ st h=>wpAny_pyIter_striter_ascii st h
def HR{P:aP}{w:bo}{K:aN}{tg:aI}(x:aV)(t:vQ)(it:ai):Turn P w K tg (Xc x) [it] it (λi h=>h.IsStrIter it "str_iterator" x t i) where
 mem:=by simp
 obj:=λi h st b hb=>by
  have e:b=it:=by simpa using hb
  subst e;obtain⟨o,e,c,d⟩:=st;exact⟨o,e,λv z=>by rw[d]at z;cases z⟩
 keep:=λi h h' st k=>by
  obtain⟨o,e,c,d⟩:=st;exact⟨o,k it (by simp) o e,c,d⟩
 item:=by
  intro X hP hw hK hc i h_ s σ H E I hf st hg;subst hP hw hK;obtain⟨f0,f1,f2,f3,f4,f5⟩:=hf it (by simp);have hx:x.cps[i]?=a_ (x.cps[i]'hg):=aH hg;refine wpAny_pyNext_wide_item st hx λh' st' sb=>?_;have I1:Inv X h_ σ H { s with heap:=h',toks:=s.toks+1 }:=I.turned (λb o hb e=>(sb.2 b hb).trans e) f0 f1 f3 f4 f5;obtain⟨o,e,c,d⟩:=id st';exact⟨_,rfl,As (s:={ s with heap:=h',toks:=s.toks+1 }) e c d (by decide) ⟨.str ⟨#[x.cps[i]'hg]⟩,H,I1,⟨_,rfl⟩,⟨rfl,_,hx,rfl⟩,st',λb hb=>(hf b hb).1⟩⟩
 done:=by
  intro X hP hw hK hc i h_ s σ H E I hf st hg;subst hP hw hK;obtain⟨f0,f1,f2,f3,f4,f5⟩:=hf it (by simp);have hg':x.cps.size<=i:=hg;exact wpAny_pyNext_wide_end (I.ok.hd hc) st (fj hg') λh' eb=>⟨rfl,I.turned (t':=s.toks) (λb o hb e=>eb b o hb e) f0 f1 f3 f4 f5⟩
 self:=λ_ _ _ _ _ st h=>wpAny_pyIter_striter_wide st h
def Yo(tl:TE):TI:=λσ H R=>tl σ H λv H1=>∃x,v=.str x/\R (Xc x) H1
def Jh{X:Cx}{tg l:aI}{tl:TE}(hl:PE X l tl):PI X tg l (Yo tl):=by
 intro h_ s σ H R I h;refine gW (hl h_ s σ H _ I h) λv s1 ⟨y,H1,I1,r1,q1⟩=>?_;obtain⟨x,e,q⟩:=q1;subst e;obtain⟨t,rfl⟩:=r1
 have fin:∀b∈[s1.heap.objs.size],pE X h_ H1 b:=λb hb=>by
  have e:b=s1.heap.objs.size:=by simpa using hb
  subst e;exact I1.AF (aC _) (I1.hok.fresh (aC _))
 cases ha:x.cps.all (·< 128)with
 |true=>exact wpAny_pyIter_ascii ha ⟨s1.heap.objs.size,[s1.heap.objs.size],_,_,H1,rfl,I1.kept (t':=s1.toks) λb o e=>hp9 _ e,HU x t _,⟨_,aL _ rfl,rfl,rfl⟩,fin,q⟩
 |false=>exact wpAny_pyIter_wide ha ⟨s1.heap.objs.size,[s1.heap.objs.size],_,_,H1,rfl,I1.kept (t':=s1.toks) λb o e=>hp9 _ e,HR x t _,⟨_,aL _ rfl,rfl,rfl⟩,fin,q⟩
def Ai{K:Fg}{F1:Hp}{x:aV}:kR K F1 (Xc x) (x.cps.toList.map λc=>Dat.str ⟨#[c]⟩):=λF H g s=>by
 refine⟨λi d hd=>?_,λi hi=>(by simpa using hi:x.cps.size<=i)⟩;rw[aW]at hd;obtain⟨c,hc,rfl⟩:=dX hd;have hc':x.cps[i]?=a_ c:=by rw[<-dA];exact hc
 refine⟨(cj.mp hc').1,λv H' y=>?_⟩;obtain⟨rfl,c',e1,rfl⟩:=y;rw[hc']at e1;cases e1;exact⟨F,Step.refl g,rfl⟩
section
variable{X:Cx}{C:Fs}{tg iter e:aI}{xe:Ex}{pos:fu}
def PI.imp{w w':TI}(h:PI X tg iter w)(f:∀σ H R,w' σ H R->w σ H R):PI X tg iter w':=λh_ s σ H R I q=>h h_ s σ H R I (f _ _ _ q)
def PI.or{w w':TI}(h:PI X tg iter w)(h':PI X tg iter w'):PI X tg iter (λσ H R=>w σ H R\/w' σ H R):=λh_ s σ H R I q=>by
 rcases q with q|q
 ·exact h h_ s σ H R I q
 ·exact h' h_ s σ H R I q
def wz{K:Fg}{F1:Hp}{a:ai}{vs:List V}{ds:List Dat}(h:oG K F1 a vs)(r:cy K F1 ds vs):kR K F1 (YY K a) ds:=λF H g s=>by
 have hq:=g.sub.seq (s.seq h);refine⟨λi d hd=>?_,λi hi=>⟨vs,hq,by rw[r.length];exact hi⟩⟩;obtain⟨v,e1,e2⟩:=r.get hd;refine⟨⟨vs,v,hq,e1⟩,λx H' y=>?_⟩;obtain⟨rfl,y⟩:=y;have:=y vs hq;rw[e1]at this;cases this;exact⟨F,Step.refl g,e2.mono s⟩
def Ah{K:Fg}{F1:Hp}{a:ai}{vs:List V}{ds:List Dat}(h:Tq K F1 a vs)(r:cy K F1 ds vs):kR K F1 (YX K a) ds:=λF H g s=>by
 have hq:=((h.mono s).mono g.sub).sq;refine⟨λi d hd=>?_,λi hi=>⟨vs,hq,by rw[r.length];exact hi⟩⟩;obtain⟨v,e1,e2⟩:=r.get hd;refine⟨⟨vs,v,hq,e1⟩,λx H' y=>?_⟩;obtain⟨rfl,y⟩:=y;have:=y vs hq;rw[e1]at this;cases this;exact⟨F,Step.refl g,e2.mono s⟩
def QL(h:SE X C e xe):SI X C tg e (.itv xe):=PI.imp (PI.or (PI.or (DX h) (Jg h)) (Jh h)) λσ H R z3=>by
 obtain⟨ρ,items,F,hi,g,RS,k⟩:=z3;obtain⟨⟨d,fr⟩,h1,h2⟩:=cU hi
 cases d with
 |lst ds=>
   cases h2;refine .inl (.inl ⟨ρ,_,fr,h1,F,g,RS,λv F1 H1 st r _=>?_⟩);obtain⟨a,vs,rfl,hq,r⟩:=r;exact⟨a,rfl,⟨vs,st.good.sub.seq hq⟩,k _ F1 H1 st (wz hq r)⟩
 |tup ds=>
   cases h2;refine .inl (.inr ⟨ρ,_,fr,h1,F,g,RS,λv F1 H1 st r _=>?_⟩);obtain⟨a,vs,rfl,hq,r⟩:=r;exact⟨a,rfl,⟨vs,(hq.mono st.good.sub).sq⟩,k _ F1 H1 st (Ah hq r)⟩
 |str x=>
   cases h2;refine .inr ⟨ρ,_,fr,h1,F,g,RS,λv F1 H1 st r _=>?_⟩;cases r;exact⟨x,rfl,k _ F1 H1 st Ai⟩
 |_=>cases h2
def Kd{K:Fg}{F1:Hp}{lo:Int}{n:Nat}:kR K F1 (Xu lo n) ((ax n).map λk:Nat=>Dat.int (lo+k)):=λF H g s=>by
 refine⟨λi d hd=>?_,λi hi=>(by simpa using hi:n<=i)⟩;rw[aW]at hd
 have hi:i<n:=by
  by_cases hi:i<n
  ·exact hi
  ·rw[jW (by simpa using hi)]at hd;cases hd
 rw[aj (by simpa using hi)]at hd;simp only[Hk,aK,je]at hd;subst hd;refine⟨hi,λx H' y=>?_⟩;obtain⟨rfl,rfl⟩:=y;exact⟨F,Step.refl g,rfl⟩
set_option tactic.hygienic true in
def MI{a:aI}{xa:Ex}{p:fu}(hg:Gl X "range")(hm:X.mg "range"=b_)(ha:SA X C [a] [xa])(hs:aU [a] X.env=[(d_,eval a X.env)]:=by rfl):SI X C tg (.Call (.Name "range" p) [a] [] pos) (.rng [xa]):=
 PI.imp (Gq hg hm ha hs) λσ H R z3=>by
  obtain⟨ρ,items,F,hi,g,RS,k⟩:=z3;obtain⟨ds,h1,h2⟩:=cU hi;refine⟨ρ,ds,h1,F,g,RS,λvs F1 H1 st r=>?_⟩;unfold Gg at h2;split at h2
  ·rename_i j;split at h2
   ·rename_i hz;cases h2;obtain⟨v,w,rfl,rv,rw'⟩:=r;cases rv;cases rw';refine⟨j,rfl,by omega,by omega,k _ F1 H1 st ?_⟩;have:=Kd (K:=X.K) (F1:=uS (.rng [xa]) F1) (lo:=0) (n:=j.toNat);simpa using this
   ·cases h2
  ·have:=uV h1;cases this
  ·cases h2
end
def Gz{f:Dat->Option g_}{d:Dat}{ds:List Dat}{ys:List Dat×Bool}(h:k9 f (d::ds)=a_ ys):∃o r,f d=a_ o/\k9 f ds=a_ r/\ys=(match o with|some y=>(y.1::r.1,(y.2 || im y.1) && r.2)|none=>r):=by
 simp only[k9]at h;obtain⟨o,h1,h⟩:=cU h;obtain⟨r,h2,h⟩:=dX h;exact⟨o,r,h1,h2,by cases o<;>exact h.symm⟩
def UA(K:Fg)(nt:Nat)(one:Bool)(g:TG):Prop:=∀F H σ ρ d x ρ1 Q,Good F H->mw K F σ ρ->nt<=σ.length->σ.length=ρ.length->Rep K F d x->E7 nt one d ρ=a_ ρ1->(∀σ1,mw K F σ1 ρ1->Q σ1 H)->g x σ H Q
def zN{K:Fg}{F:Hp}{σ:St}{ρ:eW}{i:Nat}{d:Dat}{v:V}(hl:σ.length=ρ.length)(R:mw K F σ ρ)(r:Rep K F d v):mw K F (σ.set i (a_ v)) (ρ.set i (a_ d)):=λj d' q=>by
 rw[rX]at q ⊢;by_cases hj:i=j
 ·rw[if_pos hj]at q ⊢;split at q
  ·cases q;rw[if_pos (by omega)];exact⟨v,rfl,r⟩
  ·cases q
 ·rw[if_neg hj]at q ⊢;exact R j d' q
def Mi{K:Fg}{nt:Nat}:UA K nt c_ (km 0):=λF H σ ρ d x ρ1 Q g R hn hl r hb k=>by
 simp only[E7,je]at hb;subst hb;exact k _ (zN hl R r)
def G6{K:Fg}{F:Hp}{σ:St}{ρ:eW}{nt:Nat}{caps:List Nat}(R:mw K F σ ρ):mw K F (ic nt caps σ) (fJ nt caps ρ):=λi d q=>by
 unfold fJ at q;unfold ic;by_cases hi:i<nt
 ·rw[cv (by simpa using hi),dP,if_pos hi]at q;cases q
 ·rw[cP (by simpa using hi),jV,aW]at q;rw[cP (by simpa using hi),jV,aW]
  cases hj:caps[i - nt]? with
  |none=>rw[hj]at q;cases q
  |some j=>
    rw[hj]at q;have q':(ρ[j]?).join=a_ d:=aS q
    have q2:ρ[j]?=a_ (a_ d):=by
     cases z:ρ[j]? with
     |none=>rw[z]at q';cases q'
     |some o=>rw[z]at q';exact congrArg a_ q'
    obtain⟨v,e1,e2⟩:=R j d q2;refine⟨v,?_,e2⟩;rw[aK,e1];rfl
def UX(K:Fg)(C:Fs)(xs:List Ex):TT:=λσ H Q=>∃ρ b,wK C xs ρ=a_ b/\tT K ρ b σ H Q
section
variable{X Y:Cx}{C:Fs}{tg iter elt:aI}{it:Iw}{xe:Ex}{xs:List Ex}
def Mo:LJ Y [] (UX Y.K C []):=λh_ s σ H Q I z6=>by
 obtain⟨ρ,b,h,F,g,R,k⟩:=z6;simp only[wK]at h;cases h;exact Ni h_ s σ H Q I (k F H (Step.refl g))
def Mn{c:aI}(h:ST Y C c xe):LJ Y [c] (UX Y.K C [xe]):=λh_ s σ H Q I z6=>by
 obtain⟨ρ,b,hb,F,g,R,k⟩:=z6;refine Nh h h_ s σ H Q I ?_;simp only[wK]at hb;obtain⟨⟨d,fr⟩,h1,hb⟩:=cU hb;obtain⟨z,hz,hb⟩:=cU hb;refine⟨ρ,d,fr,z,h1,hz,F,g,R,λF1 H1 st=>?_⟩
 cases z with
 |true=>rw[if_pos rfl]at hb;cases hb;exact k F1 H1 st
 |false=>rw[if_neg bh]at hb;cases hb;exact k F1 H1 st
set_option tactic.hygienic true in
def wQ{nt:Nat}{one:Bool}{caps:List Nat}{g:TG}{K:Fg}(tgc:UA K nt one g)(hcl:∀ρ items,tU C it ρ=a_ items->True) :
  ∀σ H Q,gE K C (.comp nt one caps it xs xe) σ H Q->Ig (gI K C it) nt caps g (UX K C xs) (gE K C xe) σ H Q:=λσ H Q z3=>by
 obtain⟨ρ,d,fr,h,F,g0,R,k⟩:=z3;obtain⟨items,h1,h⟩:=cU h;split at h
 ·rename_i hz;obtain⟨⟨all,av⟩,h2,h⟩:=dX h;cases h;refine⟨ρ,items,F,h1,g0,R,λJ F1 H1 ee ok=>?_⟩;refine⟨λi m ys H'=>∃F' dy ay dr ar,Step F1 H1 F' H'/\k9 (iG C nt one (fJ nt caps ρ) xs xe) (items.drop i)=a_ (dr,ar)/\all=dy++dr/\av=(ay && ar)/\cy K F' dy ys/\(ay=c_->e9 K H1 H' dy ys)/\m=items.length - i/\i<=items.length/\dy.length<=i,⟨items.length,F1,[],c_,all,av,Step.refl ee.good,h2,rfl,rfl,rfl,λ_=>.nil,rfl,bY _,aC _⟩,?_⟩;rintro i m ys H' ⟨F',dy,ay,dr,ar,st,hm,ha,hav,ry,fy,rfl,hi,hdy⟩;have hy:ys.length<=1000000:=by rw[ry.length];omega
  obtain⟨okg,VS⟩:=ok F' H' st.good (AD st.ff);by_cases hlt:i<items.length
  ·obtain⟨go,yl⟩:=okg i items[i] (aj hlt);refine .inr ⟨go,by rw[bB];omega,λx H2 y2=>?_⟩;obtain⟨F2,iu,r2⟩:=yl x H2 y2;rw[i8 hlt]at hm;obtain⟨o,⟨rr,rv⟩,h3,h4,h5⟩:=Gz hm;obtain⟨ρ1,h6,h3⟩:=cU h3;obtain⟨b,h7,h3⟩:=cU h3;have RS:mw K F2 (ic nt caps σ) (fJ nt caps ρ):=(G6 R).mono ((ee.ff.trans st.ff).trans iu.ff);refine tgc F2 H2 _ _ _ x ρ1 _ iu.good RS (by simp[ic]) (by simp[ic,fJ]) r2 h6 λσ1 RS1=>?_;refine⟨ρ1,b,h7,F2,iu.good,RS1,λF3 H3 oo=>?_⟩
   cases b with
   |true=>
     rw[if_pos rfl]at h3 ⊢;obtain⟨⟨dy1,fr1⟩,h8,h3⟩:=dX h3;cases h3;refine⟨ρ1,dy1,fr1,h8,F3,oo.good,RS1.mono oo.ff,λv F4 H4 st4 r4 f4=>?_⟩;have XR:=((st.trans iu).trans oo).trans st4;have e5:dr=dy1::rr/\ar=((fr1 || im dy1) && rv):=by cases h5;exact⟨rfl,rfl⟩
     refine⟨items.length - (i+1),by omega,F4,dy++[dy1],ay && (fr1 || im dy1),rr,rv,XR,h4,by rw[ha,e5.1];simp,by rw[hav,e5.2,Pf],(ry.mono ((iu.ff.trans oo.ff).trans st4.ff)).append (.one r4),λz=>?_,rfl,hlt,by simp;omega⟩;simp only[aq,jt]at z;have s23:=iu.hh.trans oo.hh;refine e9.snoc (st.hh.trans s23) st4.hh ((fy z.1).mono s23) ?_
     rcases z.2 with z2|z2
     ·exact f4 z2
     ·exact .j4 st4.good z2 r4
   |false=>
     rw[if_neg bh]at h3 ⊢;cases h3;have e5:dr=rr/\ar=rv:=by cases h5;exact⟨rfl,rfl⟩
     exact⟨items.length - (i+1),by omega,F3,dy,ay,rr,rv,(st.trans iu).trans oo,h4,by rw[ha,e5.1],by rw[hav,e5.2],ry.mono (iu.ff.trans oo.ff),λz=>(fy z).mono (iu.hh.trans oo.hh),rfl,hlt,by omega⟩
  ·have e:i=items.length:=by omega
   subst e;refine .inl ⟨VS _ (aC _),tP hy,λp hp=>?_⟩;rw[LG]at hm;simp only[k9]at hm;cases hm;rw[aX]at ha;rw[fq]at hav;subst ha hav;have ry':=ry.mono (bX.upd (o:=.lst ys) (st.good.sub.free hp));exact k _ _ _ ((ee.trans st).trans (Step.alloc st.good hp)) ⟨p,ys,rfl,.inl (.inl cw),ry'⟩ λz=>.lst (ee.hh.trans st.hh) hp ((fy z).back (F:=F) ee.hh)
 ·cases h
end
def qf{K:Fg}{F:Hp}{d:Dat}{k:Key}{v:V}(h:qg d=a_ k)(r:Rep K F d v):v=kV k:=by
 cases d with
 |int i=>cases h;exact r
 |str x=>cases h;exact r
 |_=>cases h
set_option tactic.hygienic true
theorem oz{K:Fg}{F:Hp}{k:Key}{d:Dat}:∀{ds:List Dat}{k_:List (Key×V)},jm k (k_.map (·.1)) ds=a_ d->cy K F ds (k_.map (·.2))->∃v,k8 k_ k=a_ v/\Rep K F d v
 |[],[],h,_=>by cases h
 |[],_::_,h,_=>by cases h
 |_::_,[],h,_=>by cases h
 |e::ds,p::k_,h,r=>by
   obtain⟨v,w,q,r1,r2⟩:=r;cases q;simp only[ag,jm]at h;split at h
   ·rename_i z;cases h;exact⟨p.2,pU z,r1⟩
   ·rename_i z;obtain⟨v,g1,g2⟩:=oz h r2;exact⟨v,(nL z).trans g1,g2⟩
theorem rl{K:Fg}{F:Hp}{k:Key}:∀{ds:List Dat}{k_:List (Key×V)},jm k (k_.map (·.1)) ds=b_->cy K F ds (k_.map (·.2))->k8 k_ k=b_
 |_,[],_,_=>rfl
 |[],p::k_,_,r=>by cases r
 |e::ds,p::k_,h,r=>by
   obtain⟨v,w,q,r1,r2⟩:=r;cases q;simp only[ag,jm]at h;split at h
   ·cases h
   ·rename_i z;exact(nL z).trans (rl h r2)
set_option tactic.hygienic false
section
variable{X:Cx}{C:Fs}{a b c e:aI}{xa xb xc:Ex}{pos:fu}{es:List aI}{xs:List Ex}{h_:List (ai×fe)}{σ:St}{F H:Hp}{s:ae}
def Fb{K:Fg}{F:Hp}{ds:List Dat}{vs:List V}{i:Int}{d:Dat}(r:cy K F ds vs)(h:lN ds i=a_ d):∃v,lN vs i=a_ v/\Rep K F d v:=by
 unfold lN at h ⊢;rw[r.length];obtain⟨j,h1,h2⟩:=cU h;obtain⟨v,e1,e2⟩:=r.get h2;exact⟨v,by rw[h1];exact e1,e2⟩
set_option tactic.hygienic true in
def Yj(hu:X.A.units+1<cg):UE X (gB X.K λx y=>(qh x y).map λd=>(d,d_)):=by
 intro value slice h_ s σ H x y v u Q I rx ry h hs;obtain⟨da,db,d,fr,h,F,g,ra,rb,k⟩:=h;obtain⟨d',h1,h2⟩:=dX h;obtain⟨rfl,rfl⟩:d'=d/\d_=fr:=by cases h2;exact⟨rfl,rfl⟩
 by_cases hdc:∃ks ds,da=.dct ks ds
 ·obtain⟨ks,ds,rfl⟩:=hdc;have h1':(qg db).bind (λk=>jm k ks ds)=a_ d':=by cases db<;>exact h1
  obtain⟨kk,hk,hl⟩:=cU h1';obtain⟨a,k_,rfl,hF,rfl,rr⟩:=ra;obtain⟨w,e1,e2⟩:=oz hl rr;obtain rfl:=qf hk rb;cases rx;have dg:sS H a (kV kk) (a_ w):=by rw[<-e1];exact sS.k (g.sub _ _ hF)
  exact LZ (sE I dg) vo.lookup (wO hu I dg ry λu' s' I' r'=>⟨w,H,I',r',k _ F H (Step.refl g) e2 bp⟩) hs
 cases da<;>first|exact absurd ⟨_,_,rfl⟩ hdc|skip
 all_goals cases db<;>simp only[qh,reduceCtorEq]at h1
 ·
  split at h1
  ·rename_i z i hz;obtain⟨c,h3,h4⟩:=dX h1;subst h4;exact SM value slice h_ s σ H x y v u Q I rx ry ⟨z,i,c,ra,rb,hz,h3,k _ F H (Step.refl g) rfl bp⟩ hs
  ·cases h1
 ·rename_i ds i;obtain⟨p,vs,rfl,t,r⟩:=ra;obtain⟨w,e1,e2⟩:=Fb r h1;exact SK value slice h_ s σ H _ y v u Q I rx ry ⟨p,vs,i,w,rfl,rb,(t.mono g.sub).sq,e1,k _ F H (Step.refl g) e2 bp⟩ hs
 ·rename_i ds i;obtain⟨p,vs,rfl,t,r⟩:=ra;obtain⟨w,e1,e2⟩:=Fb r h1;exact N6 value slice h_ s σ H _ y v u Q I rx ry ⟨p,vs,i,w,rfl,rb,g.sub.seq t,e1,k _ F H (Step.refl g) e2 bp⟩ hs
def gO(K:Fg)(C:Fs)(x:Option Ex):TO:=λσ H Q=>∃ρ o F,Uh C ρ x=a_ o/\Good F H/\mw K F σ ρ/\∀F' H',Step F H F' H'->Q o H'
abbrev SO(X:Cx)(C:Fs)(e:Option aI)(x:Option Ex):Prop:=PO X e (gO X.K C x)
def PO.imp{e:Option aI}{t t':TO}(h:PO X e t)(f:∀σ H Q,t' σ H Q->t σ H Q):PO X e t':=λh_ s σ H Q I q=>h h_ s σ H Q I (f _ _ _ q)
def MD:SO X C b_ b_:=PO.imp Nm λσ H Q z3=>by
 obtain⟨ρ,o,F,ho,g,R,k⟩:=z3;cases ho;exact k F H (Step.refl g)
def MC(h:SE X C e xa):SO X C (a_ e) (a_ xa):=PO.imp (Nl h) λσ H Q z3=>by
 obtain⟨ρ,o,F,ho,g,R,k⟩:=z3;obtain⟨⟨d,fr⟩,h1,h2⟩:=cU ho
 cases d with
 |int i=>
   cases h2;exact⟨ρ,_,fr,h1,F,g,R,λv F1 H1 st r _=>⟨i,r,k F1 H1 st⟩⟩
 |_=>cases h2
def ZN(K:Fg):V->Option Int->Option Int->Hp->VK->Prop:=λx lo hi H Q=>∃da d fr F,Iy da lo hi=a_ (d,fr)/\Good F H/\Rep K F da x/\∀v F' H',Step F H F' H'->Rep K F' d v->(fr=c_->fi K H H' d v)->Q v H'
def OD{K:Fg}{F:Hp}{ds:List Dat}{vs:List V}(lo hi:Option Int)(r:cy K F ds vs):cy K F (cutD ds lo hi) (GY vs lo hi):=by
 unfold cutD GY;rw[<-r.length];exact(r.drop _).take _
def qm{prog:aP}{w:bo}{A:br}{E:ab->ae->Prop}{s:ae}{t sl:ai}{items:Array ab}{vl vu:ab}{lo hi:Option Int}{Q:ab->ae->Prop}(ht:L4 s.heap t items)(hs:s.heap.IsSliceOf sl vl vu .none)(pl:qN vl lo)(pu:qN vu hi)
  (hw:HT.iN items.size 0 lo=0/\HT.iN items.size items.size hi=items.size)
  (h:Q (.ref t) s):au (aB prog w) A (getItem (.ref t) (.ref sl)) Q E s:=by
 obtain⟨os,hos,hcs,hds⟩:=id hs;have hTs:s.TypeIs (.ref sl) "slice":=⟨os,hos,hcs⟩
 unfold getItem
 try with_reducible refine bZ ?_
 first|refine wb9 (wu9 ?_)|skip
 refine wb9 (wpAny_sequenceKey ht.typeIs (by decide) ?_)
 refine wb9 (di (name:=aa "__getitem__") ht.typeIs c5
  (bW c5 ht.typeIs entry_tuple_getitem ?_ (args_tuple_getitem _ _)))
 show au _ _ (jU (.ref t) >>= _) _ _ s;refine wb9 (tupleItemsOf_ ht ?_);refine wb9 (iA hTs ?_);rw[if_pos (by decide)];refine wb9 (HT.lV hs pl pu ?_)
 have hyes:((((HT.iN items.size 0 lo:Nat):Int) == 0 && (1:Int) == 1 && (HT.iN items.size items.size hi - HT.iN items.size 0 lo) == items.size)=c_):=by
  rw[hw.1,hw.2];simp
 show au _ _ (if(((HT.iN items.size 0 lo:Nat):Int) == 0 && (1:Int) == 1 && (HT.iN items.size items.size hi - HT.iN items.size 0 lo) == items.size)=c_ then _ else _) _ _ s;rw[if_pos hyes];refine wb9 (m:=pQ (.ref t)) ?_;unfold pQ;refine wb9 (iA ht.typeIs (wu9 ?_));rw[if_pos (by decide)];exact wb9 (iB (wu9 ⟨_,rfl,wu9 h⟩))
set_option tactic.hygienic true
def XT:YT X (ZN X.K):=by
 intro h_ s σ H x v vl vu lo hi sl Q I rx hs pl pu h;obtain⟨da,d,fr,F,h,g,ra,k⟩:=h
 cases da with
 |str z=>
   simp only[Iy]at h;split at h
   ·rename_i hz;cases h;rw[show x=.str z from ra]at rx;obtain⟨t,rfl⟩:=rx;obtain⟨o,ho,hc,hd⟩:=hs;refine⟨"str",_,PySem.F.slot_str_getitem.lookup,typeIs_str _ _ _,?_⟩;have fin:∀t' k',EP X h_ σ Q (.str (iZ z lo hi) t') { s with toks:=k' }:=λt' k'=>⟨.str _,H,I.tok k',⟨t',rfl⟩,k _ F H (Step.refl g) rfl bp⟩
    have hle:=cW (zb z lo hi) hz
    cases pl with
    |none=>
      cases pu with
      |none=>exact jR (l:=b_) (u:=b_) (st:=b_) ⟨o,ho,hc,hd⟩ rfl (pG ⟨hle,fin⟩)
      |int j uj=>exact jR (l:=b_) (u:=a_ (j,uj)) (st:=b_) ⟨o,ho,hc,hd⟩ rfl (pG ⟨hle,fin⟩)
    |int i ui=>
      cases pu with
      |none=>exact jR (l:=a_ (i,ui)) (u:=b_) (st:=b_) ⟨o,ho,hc,hd⟩ rfl (pG ⟨hle,fin⟩)
      |int j uj=>exact jR (l:=a_ (i,ui)) (u:=a_ (j,uj)) (st:=b_) ⟨o,ho,hc,hd⟩ rfl (pG ⟨hle,fin⟩)
   ·cases h
 |tup ds=>
   simp only[Iy]at h;cases h;obtain⟨p,vs,rfl,t,r⟩:=ra;by_cases hw:HT.iN ds.length 0 lo=0/\HT.iN ds.length ds.length hi=ds.length
   ·have e:cutD ds lo hi=ds:=by
     unfold cutD;rw[hw.1,hw.2,Pe,Nat.sub_zero,List.take_length]
    rw[e]at k;cases rx;obtain⟨its,w1,ht,hz⟩:=I.tuple (t.mono g.sub).sq;have hlen:its.toArray.size=ds.length:=by rw[aA,<-w1.length,r.length]
    exact⟨"tuple",_,c5.lookup,ht.typeIs,qm ht hs pl pu (by rw[hlen];exact hw) ⟨.ref p,H,I,rfl,k _ F H (Step.refl g) ⟨p,vs,rfl,t,r⟩ bp⟩⟩
   ·refine QI h_ s σ H _ v vl vu lo hi sl Q I rx hs pl pu ⟨p,vs,rfl,(t.mono g.sub).sq,by rw[r.length];exact hw,λq hq=>?_⟩;exact k _ _ _ (Step.alloc g hq) ⟨q,_,rfl,.inl cw,(OD lo hi r).mono (bX.upd (g.sub.free hq))⟩ bp
 |_=>cases h
def Vp{lo hi:Option aI}{xb xc:Option Ex}{p2:fu}(ha:SE X C a xa)(hl:SO X C lo xb)(hh:SO X C hi xc):SE X C (.Subscript a (.Slice lo hi b_ p2) pos) (.sl xa xb xc):=
 PE.imp (Jn XT ha hl hh) λσ H Q z3=>by
  obtain⟨ρ,d,fr,h,F,g,R,k⟩:=z3;obtain⟨⟨da,fa⟩,h1,h⟩:=cU h;obtain⟨l,h2,h⟩:=cU h;obtain⟨u,h3,h⟩:=cU h;refine⟨ρ,da,fa,h1,F,g,R,λv F1 H1 ee r1 _=>⟨ρ,l,F1,h2,ee.good,R.mono ee.ff,λF2 H2 iu=>⟨ρ,u,F2,h3,iu.good,R.mono (ee.ff.trans iu.ff),λF3 H3 oo=>?_⟩⟩⟩;exact⟨da,d,fr,F3,h,oo.good,r1.mono (iu.ff.trans oo.ff),λw F4 H4 st4 r4 f4=>k w F4 H4 (((ee.trans iu).trans oo).trans st4) r4 λz=>(f4 z).back (F:=F) ((ee.hh.trans iu.hh).trans oo.hh)⟩
def JN(I:Inv X h_ σ H s)(g:Good F H)(A:br){da db:Dat}{x y:V}{u w:ab}(hu:A.units+20<cg)(sa:fx 20 da=c_)(sb:fx 20 db=c_)(ra:Rep X.K F da x)(rb:Rep X.K F db y)(rx:RelV x u)(ry:RelV y w) :
  SeqAt.RcNeAt A s u w (!jT da db):=by
 have hu0:A.units<cg:=by omega
 have hu1:A.in1.units+19<cg:=by show A.units+1+19<cg;omega
 have items:∀{ds es:List Dat} {vs us:List V} {its j_:List ab},dm 19 ds=c_->dm 19 es=c_->cy X.K F ds vs->cy X.K F es us->cD vs its->cD us j_->
   ∀j(h1:j<its.toArray.size)(h2:j<j_.toArray.size),mX A.in1 s its.toArray[j] j_.toArray[j] (jT (ds.getD j .non) (es.getD j .non)):=by
  intro ds es vs us its j_ s1 s2 r1 r2 w1 w2 j h1 h2;obtain⟨v,e1,q1⟩:=tB w1 h1;obtain⟨v',e2,q2⟩:=tB w2 h2;have l1:j<ds.length:=by have:=r1.length;have:=(bC.mp e1).1;omega
  have l2:j<es.length:=by have:=r2.length;have:=(bC.mp e2).1;omega
  obtain⟨z1,f1,p1⟩:=r1.get (aj l1);obtain⟨z2,f2,p2⟩:=r2.get (aj l2);rw[e1]at f1;cases f1;rw[e2]at f2;cases f2;have g1:ds.getD j .non=ds[j]:=by simp[zg,l1]
  have g2:es.getD j .non=es[j]:=by simp[zg,l2]
  rw[g1,g2];exact(uW I g 19 A.in1 _ _ hu1 (kA s1 (aj l1)) (kA s2 (aj l2)) p1 p2 q1 q2).1
 cases da with
 |dct _ _=>exact(gG sa).elim
 |dcn _=>exact(gH sa).elim
 |non=>
   cases ra;obtain rfl:u=.none:=rx
   cases db with
   |dct _ _=>exact(gG sb).elim
   |dcn _=>exact(gH sb).elim
   |tup es=>
     obtain⟨q,us,rfl,t',r'⟩:=id rb;obtain⟨j_,w2,pl2,_⟩:=I.tupR g t';obtain rfl:w=.ref q:=ry;exact SeqAt.RcNeAt.none_tuple pl2 hu0
   |lst es=>
     obtain⟨q,us,rfl,t',r'⟩:=id rb;obtain⟨j_,w2,pl2,_⟩:=I.lstR g t';obtain rfl:w=.ref q:=ry;exact SeqAt.RcNeAt.none_list pl2.isList hu0
   |non=>
     cases rb;obtain rfl:w=.none:=ry;exact SeqAt.RcNeAt.none_none
   |bl b2=>
     cases rb;obtain rfl:w=.bool b2:=ry;exact SeqAt.RcNeAt.none_bool _
   |int i2=>
     cases rb;obtain⟨t2,rfl⟩:=ry;exact SeqAt.RcNeAt.none_int _ _
   |str z2=>
     cases rb;obtain⟨t2,rfl⟩:=ry;exact SeqAt.RcNeAt.none_str _ _
 |bl b1=>
   cases ra;obtain rfl:u=.bool b1:=rx
   cases db with
   |dct _ _=>exact(gG sb).elim
   |dcn _=>exact(gH sb).elim
   |tup es=>
     obtain⟨q,us,rfl,t',r'⟩:=id rb;obtain⟨j_,w2,pl2,_⟩:=I.tupR g t';obtain rfl:w=.ref q:=ry;exact SeqAt.RcNeAt.bool_tuple _ pl2 hu0
   |lst es=>
     obtain⟨q,us,rfl,t',r'⟩:=id rb;obtain⟨j_,w2,pl2,_⟩:=I.lstR g t';obtain rfl:w=.ref q:=ry;exact SeqAt.RcNeAt.bool_list _ pl2.isList hu0
   |non=>
     cases rb;obtain rfl:w=.none:=ry;exact SeqAt.RcNeAt.bool_none _
   |bl b2=>
     cases rb;obtain rfl:w=.bool b2:=ry;exact SeqAt.RcNeAt.bool_bool _ _
   |int i2=>
     cases rb;obtain⟨t2,rfl⟩:=ry;exact SeqAt.RcNeAt.bool_int _ _ _
   |str z2=>
     cases rb;obtain⟨t2,rfl⟩:=ry;exact SeqAt.RcNeAt.bool_str _ _ _
 |int i1=>
   cases ra;obtain⟨t1,rfl⟩:=rx
   cases db with
   |dct _ _=>exact(gG sb).elim
   |dcn _=>exact(gH sb).elim
   |tup es=>
     obtain⟨q,us,rfl,t',r'⟩:=id rb;obtain⟨j_,w2,pl2,_⟩:=I.tupR g t';obtain rfl:w=.ref q:=ry;exact SeqAt.RcNeAt.int_tuple _ _ pl2 hu0
   |lst es=>
     obtain⟨q,us,rfl,t',r'⟩:=id rb;obtain⟨j_,w2,pl2,_⟩:=I.lstR g t';obtain rfl:w=.ref q:=ry;exact SeqAt.RcNeAt.int_list _ _ pl2.isList hu0
   |non=>
     cases rb;obtain rfl:w=.none:=ry;exact SeqAt.RcNeAt.int_none _ _
   |bl b2=>
     cases rb;obtain rfl:w=.bool b2:=ry;exact SeqAt.RcNeAt.int_bool _ _ _
   |int i2=>
     cases rb;obtain⟨t2,rfl⟩:=ry;exact SeqAt.RcNeAt.int_int _ _ _ _
   |str z2=>
     cases rb;obtain⟨t2,rfl⟩:=ry;exact SeqAt.RcNeAt.int_str _ _ _ _
 |str z1=>
   cases ra;obtain⟨t1,rfl⟩:=rx
   cases db with
   |dct _ _=>exact(gG sb).elim
   |dcn _=>exact(gH sb).elim
   |tup es=>
     obtain⟨q,us,rfl,t',r'⟩:=id rb;obtain⟨j_,w2,pl2,_⟩:=I.tupR g t';obtain rfl:w=.ref q:=ry;exact SeqAt.RcNeAt.str_tuple _ _ pl2 hu0
   |lst es=>
     obtain⟨q,us,rfl,t',r'⟩:=id rb;obtain⟨j_,w2,pl2,_⟩:=I.lstR g t';obtain rfl:w=.ref q:=ry;exact SeqAt.RcNeAt.str_list _ _ pl2.isList hu0
   |non=>
     cases rb;obtain rfl:w=.none:=ry;exact SeqAt.RcNeAt.str_none _ _
   |bl b2=>
     cases rb;obtain rfl:w=.bool b2:=ry;exact SeqAt.RcNeAt.str_bool _ _ _
   |int i2=>
     cases rb;obtain⟨t2,rfl⟩:=ry;exact SeqAt.RcNeAt.str_int _ _ _ _
   |str z2=>
     cases rb;obtain⟨t2,rfl⟩:=ry;exact SeqAt.RcNeAt.str_str _ _ _ _
 |tup ds=>
   obtain⟨p,vs,rfl,t,r⟩:=id ra;obtain⟨its,w1,pl,_⟩:=I.tupR g t;obtain rfl:u=.ref p:=rx
   cases db with
   |dct _ _=>exact(gG sb).elim
   |dcn _=>exact(gH sb).elim
   |non=>
     cases rb;obtain rfl:w=.none:=ry;exact SeqAt.RcNeAt.tuple_none pl hu0
   |bl b2=>
     cases rb;obtain rfl:w=.bool b2:=ry;exact SeqAt.RcNeAt.tuple_bool _ pl hu0
   |int i2=>
     cases rb;obtain⟨t2,rfl⟩:=ry;exact SeqAt.RcNeAt.tuple_int _ _ pl hu0
   |str z2=>
     cases rb;obtain⟨t2,rfl⟩:=ry;exact SeqAt.RcNeAt.tuple_str _ _ pl hu0
   |tup es=>
     obtain⟨q,us,rfl,t',r'⟩:=id rb;obtain⟨j_,w2,pl2,_⟩:=I.tupR g t';obtain rfl:w=.ref q:=ry;have e1:its.toArray.size=ds.length:=by rw[aA,<-w1.length,r.length]
     have e2:j_.toArray.size=es.length:=by rw[aA,<-w2.length,r'.length]
     have h:=SeqAt.RcNeAt.tuples pl pl2 hu0 (items sa sb r r' w1 w2);simp only[jT];rw[jg];rw[e1,e2]at h;exact h
   |lst es=>
     obtain⟨q,us,rfl,t',r'⟩:=id rb;obtain⟨j_,w2,pl2,_⟩:=I.lstR g t';obtain rfl:w=.ref q:=ry;exact SeqAt.RcNeAt.tuple_list pl pl2.isList hu0
 |lst ds=>
   obtain⟨p,vs,rfl,t,r⟩:=id ra;obtain⟨its,w1,pl,_⟩:=I.lstR g t;obtain rfl:u=.ref p:=rx
   cases db with
   |dct _ _=>exact(gG sb).elim
   |dcn _=>exact(gH sb).elim
   |non=>
     cases rb;obtain rfl:w=.none:=ry;exact SeqAt.RcNeAt.list_none pl.isList hu0
   |bl b2=>
     cases rb;obtain rfl:w=.bool b2:=ry;exact SeqAt.RcNeAt.list_bool _ pl.isList hu0
   |int i2=>
     cases rb;obtain⟨t2,rfl⟩:=ry;exact SeqAt.RcNeAt.list_int _ _ pl.isList hu0
   |str z2=>
     cases rb;obtain⟨t2,rfl⟩:=ry;exact SeqAt.RcNeAt.list_str _ _ pl.isList hu0
   |tup es=>
     obtain⟨q,us,rfl,t',r'⟩:=id rb;obtain⟨j_,w2,pl2,_⟩:=I.tupR g t';obtain rfl:w=.ref q:=ry;exact SeqAt.RcNeAt.list_tuple pl.isList pl2 hu0
   |lst es=>
     obtain⟨q,us,rfl,t',r'⟩:=id rb;obtain⟨j_,w2,pl2,_⟩:=I.lstR g t';obtain rfl:w=.ref q:=ry;have e1:its.toArray.size=ds.length:=by rw[aA,<-w1.length,r.length]
     have e2:j_.toArray.size=es.length:=by rw[aA,<-w2.length,r'.length]
     by_cases hsz:its.toArray.size=j_.toArray.size
     ·have h:=SeqAt.RcNeAt.lists pl.isList pl2.isList hsz hu0 (items sa sb r r' w1 w2);simp only[jT];rw[jg];have e3:ds.length=es.length:=by rw[<-e1,<-e2];exact hsz
      rw[e1]at h;have e4:(ds.length == es.length)=c_:=by simpa using e3
      rw[e4,fq,<-e3,Nat.min_self];exact h
     ·have h:=SeqAt.RcNeAt.lists_lengths pl.isList pl2.isList (by simpa using hsz) hu0;simp only[jT];rw[jg];have e3:(ds.length == es.length)=d_:=by simpa [<-e1,<-e2]using hsz
      rw[e3,iR];exact h
def RI(hu:X.A.units+20<cg):jd X (compareOp .NotEq) (gB X.K (mj .ne)):=λh_ s σ H x y v u Q I rx ry z12=>by
 obtain⟨da,db,d,fr,h,F,g,ra,rb,k⟩:=z12;obtain⟨b,hd,rfl,rfl⟩:=jP h;simp only[dF,yY,CW,pB,Bx]at hd;split at hd
 ·rename_i hs;cases hd;simp only[aq]at hs;exact(JN I g X.A hu hs.1 hs.2 ra rb rx ry) X.prog X.w _ _ ⟨.bl _,H,I,rfl,k _ F H (Step.refl g) rfl bp⟩
 ·cases hd
set_option tactic.hygienic false
def NC:jd X (compareOp .Is) (gB X.K (mj .isn)):=jd.imp RN λx y H Q z4=>by
 obtain⟨da,db,d,fr,h,F,g,ra,rb,k⟩:=z4;obtain⟨b,hd,rfl,rfl⟩:=jP h
 cases db with
 |non=>
   simp only[dF,yY,CW,pB,Bx]at hd;cases hd;refine⟨rb,?_⟩
   cases da with
   |non=>cases ra;exact k _ F H (Step.refl g) rfl bp
   |tup ds=>obtain⟨p,vs,rfl,_⟩:=ra;exact k _ F H (Step.refl g) rfl bp
   |lst ds=>obtain⟨p,vs,rfl,_⟩:=ra;exact k _ F H (Step.refl g) rfl bp
   |dct _ ds=>obtain⟨p,vs,rfl,_⟩:=ra;exact k _ F H (Step.refl g) rfl bp
   |dcn _=>obtain⟨p,vs,rfl,_⟩:=ra;exact k _ F H (Step.refl g) rfl bp
   |_=>cases ra;exact k _ F H (Step.refl g) rfl bp
 |_=>cases da<;>cases hd
def Jt:jd X (compareOp .IsNot) (gB X.K (mj .nisn)):=jd.imp Ny λx y H Q z4=>by
 obtain⟨da,db,d,fr,h,F,g,ra,rb,k⟩:=z4;obtain⟨b,hd,rfl,rfl⟩:=jP h
 cases db with
 |non=>
   simp only[dF,yY,CW,pB,Bx]at hd;cases hd;refine⟨rb,?_⟩
   cases da with
   |non=>cases ra;exact k _ F H (Step.refl g) rfl bp
   |tup ds=>obtain⟨p,vs,rfl,_⟩:=ra;exact k _ F H (Step.refl g) rfl bp
   |lst ds=>obtain⟨p,vs,rfl,_⟩:=ra;exact k _ F H (Step.refl g) rfl bp
   |dct _ ds=>obtain⟨p,vs,rfl,_⟩:=ra;exact k _ F H (Step.refl g) rfl bp
   |dcn _=>obtain⟨p,vs,rfl,_⟩:=ra;exact k _ F H (Step.refl g) rfl bp
   |_=>cases ra;exact k _ F H (Step.refl g) rfl bp
 |_=>cases da<;>cases hd
end
end M
namespace L2
open PySem PySem.Spec PyProof.Rows
def lh(tp:Bool)(h:bH)(it l:ai)(i:Nat):Prop:=match tp with
 |true=>h.IsTupleIter it l i
 |false=>h.IsListIter it l i
def lg(tp:Bool)(h:bH)(l:ai)(xs:Array ab):Prop:=match tp with
 |true=>h.IsTuple l xs
 |false=>h.IsList l xs
def lh.keep{tp:Bool}{h h':bH}{it l:ai}{i:Nat}(y:lh tp h it l i)(k:∀o,h.get? it=a_ o->h'.get? it=a_ o):lh tp h' it l i:=by
 cases tp<;>exact(let ⟨o,e,r⟩:=y;⟨o,k o e,r⟩)
def lg.keep{tp:Bool}{h h':bH}{l:ai}{xs:Array ab}(y:lg tp h l xs)(k:∀o,h.get? l=a_ o->h'.get? l=a_ o):lg tp h' l xs:=by
 cases tp<;>exact(let ⟨o,e,r⟩:=y;⟨o,k o e,r⟩)
def lh.obj{tp:Bool}{h:bH}{it l:ai}{i:Nat}(y:lh tp h it l i):∃o,h.get? it=a_ o/\o.cls=.type (if tp then "tuple_iterator" else "list_iterator")/\o.data=.fields #[.ref l,.int i 0]:=by
 cases tp<;>exact y
def lg.obj{tp:Bool}{h:bH}{l:ai}{xs:Array ab}(y:lg tp h l xs):∃o,h.get? l=a_ o/\o.cls=.type (if tp then "tuple" else "list")/\∃n,o.data=.seq xs n:=by
 cases tp<;>exact y
section
open Builtin
variable{prog:aP}{w:bo}{A:br}{E:ab->ae->Prop}{s:ae}
def JB{it q:ai}{i:Nat}{xs:Array ab}{v:ab}{Q:ab->ae->Prop}(gi:s.heap.IsTupleIter it q i)(gq:s.heap.IsTuple q xs)(gx:xs[i]?=a_ v)
  (k:∀h',h'.IsTupleIter it q (i+1)->cA it s.heap h'->Q v { s with heap:=h' }):au (aB prog w) A (cJ (.ref it)) Q E s:=by
 obtain⟨ob,gb,gc,gd⟩:=id gi;obtain⟨oq,gq1,_,nq,gq2⟩:=gq;unfold cJ;refine wb9 (di (name:=aa "__next__") gi.typeIs fH (bW fH gi.typeIs pI ?_ (o9 _)));show au (aB prog w) _ (field (.ref it) 0 >>= _) _ _ s;refine wb9 (eh gb gd (x:=.ref q) rfl ?_);show au (aB prog w) _ (if(bE q == c9)=c_ then _ else _) _ _ s;rw[if_neg (show¬((bE q == c9)=c_)from bh)];show au (aB prog w) _ (field (.ref it) 1 >>= _) _ _ s;refine wb9 (eh gb gd (x:=.int i 0) rfl ?_);show au (aB prog w) _ (seqItems? (.ref q) >>= _) _ _ s;refine wb9 (dq gq1 gq2 ?_);simp only[sM,gx];refine wb9 (wpAny_setField gb gd (by simp) (wu9 ⟨v,rfl,wu9 (k _ ⟨_,iy _ gb (Obj.isFreed_of_fields (HA gd _)),(Obj.cls_mapFields ..).trans gc,?_⟩ (mT ..))⟩));rw[HA gd];simp[rawInt]
def NL{it q:ai}{i:Nat}{xs:Array ab}{Q:ab->ae->Prop}(nh:A.handled=b_)(gi:s.heap.IsTupleIter it q i)(gq:s.heap.IsTuple q xs)(gx:xs[i]?=b_)
  (k:∀h' e,Dh it s.heap h'->(∃o,h'.get? e=a_ o/\o.cls=.type "StopIteration")->E (.ref e) { s with heap:=h' }):au (aB prog w) A (cJ (.ref it)) Q E s:=by
 obtain⟨ob,gb,gc,gd⟩:=id gi;obtain⟨oq,gq1,_,nq,gq2⟩:=gq;unfold cJ;refine wb9 (di (name:=aa "__next__") gi.typeIs fH (bW fH gi.typeIs pI ?_ (o9 _)));show au (aB prog w) _ (field (.ref it) 0 >>= _) _ _ s;refine wb9 (eh gb gd (x:=.ref q) rfl ?_);show au (aB prog w) _ (if(bE q == c9)=c_ then _ else _) _ _ s;rw[if_neg (show¬((bE q == c9)=c_)from bh)];show au (aB prog w) _ (field (.ref it) 1 >>= _) _ _ s;refine wb9 (eh gb gd (x:=.int i 0) rfl ?_);show au (aB prog w) _ (seqItems? (.ref q) >>= _) _ _ s;refine wb9 (dq gq1 gq2 ?_);simp only[sM,gx];refine wb9 (iB (wb9 (wpAny_setField gb gd (by simp) ?_)));show au (aB prog w) _ (newExc (.type "StopIteration") [] >>= _) _ _ _;refine wb9 ?_;simp only[newExc,newTuple];refine wb9 (cG (wb9 (m:=firstArgMember _ _) (LQ (a:=c9) (by first|rfl|(simp only[firstArgMember];rfl)) (cG ?_ (by size_fits)))) (by size_fits));simp only[raiseNew];refine wb9 (wpAny_handled ?_)
 first|rw[show A.in1.handled=b_ from nh]|rw[nh]
 exact wb9 (wu9 (wpAny_throw (k _ _ (((mT ..).extBut.push _).push _) ⟨_,aL _ rfl,rfl⟩)))
def D4{tp:Bool}{it q:ai}{i:Nat}{xs:Array ab}{v:ab}{Q:ab->ae->Prop}(gi:lh tp s.heap it q i)(gq:lg tp s.heap q xs)(gx:xs[i]?=a_ v)
  (k:∀h',lh tp h' it q (i+1)->cA it s.heap h'->Q v { s with heap:=h' }):au (aB prog w) A (cJ (.ref it)) Q E s:=by
 cases tp
 ·exact wpAny_nextOf_list_item gi gq gx k
 ·exact JB gi gq gx k
def Ck{tp:Bool}{it q:ai}{i:Nat}{xs:Array ab}{Q:ab->ae->Prop}(nh:A.handled=b_)(gi:lh tp s.heap it q i)(gq:lg tp s.heap q xs)(gx:xs[i]?=b_)
  (k:∀h' e,Dh it s.heap h'->(∃o,h'.get? e=a_ o/\o.cls=.type "StopIteration")->E (.ref e) { s with heap:=h' }):au (aB prog w) A (cJ (.ref it)) Q E s:=by
 cases tp
 ·exact wpAny_nextOf_list_end nh gi gq gx k
 ·exact NL nh gi gq gx k
end
def Yl(tp:Bool):String:=if tp then "tuple_iterator" else "list_iterator"
def qj(tp:Bool)(l:ai):fe:={ cls:=.type (Yl tp),data:=.fields #[.ref l,.int 0 0] }
def Es{tp:Bool}{h:bH}{it l:ai}(e:h.get? it=a_ (qj tp l)):lh tp h it l 0:=by
 cases tp<;>exact⟨_,e,rfl,rfl⟩
section
variable{prog:aP}{w:bo}{A:br}{E:ab->ae->Prop}{s:ae}
def ou{tp:Bool}{l:ai}{xs:Array ab}{Q:ab->ae->Prop}(gl:lg tp s.heap l xs)(k:Q (.ref s.heap.objs.size) { s with heap:=s.heap.push (qj tp l) }):au (aB prog w) A (Hx (.ref l)) Q E s:=by
 cases tp
 ·exact ng gl k
 ·exact wpAny_pyIter_tuple gl k
end
section
variable{prog:aP}{w:bo}{A:br}{E:ab->ae->Prop}{s:ae}
end
section
variable{X:Cx}{h_:List (ai×fe)}{σ:St}{H:Hp}{s:ae}{h':bH}
def Inv.tD{t':Nat}{ch:List ai}(I:Inv X h_ σ H s)(k:∀b o,b∉ch->s.heap.get? b=a_ o->h'.get? b=a_ o)(hf:∀b∈ch,pE X h_ H b):Inv X h_ σ H { s with heap:=h',toks:=t' }:=by
 have nit:∀b u,H b=a_ u->b∉ch:=λb u e z=>by rw[(hf b z).1]at e;cases e
 refine I.step (g':=s.gens) (d':=s.drawn) (ch:=ch) (λb hb=>⟨(hf b hb).2.2.2.1,(hf b hb).2.1,(hf b hb).2.2.2.2.1,(hf b hb).2.2.2.2.2⟩) (λb o _ _ hc e _=>k b o hc e) (λb o _ _ hc e _=>⟨o.slots,k b o hc e⟩) (λ_ _ _ _ n=>n)
  (λb o hc e=>⟨o,k b o hc e⟩) (λ_ _ e=>e) (λ_ _ _ e=>e) (λb ps e=>⟨#[],by rw[e];simp⟩) (λm hm=>?_) (λb u e=>?_) I.bare
 ·obtain⟨o,es,ep,ho,r⟩:=hm;exact⟨o,es,ep,k _ o (λz=>(hf _ z).2.1 rfl) ho,r⟩
 ·refine(I.hok b u e).m9 (λc v hc q=>k c v ?_ q) (λ_ q=>q) λ_ _ q=>q
  rcases hc with z|z
  ·rw[z];exact nit b u e
  ·exact nit c _ z
end
def vj(tp:Bool)(K:aN)(H:Hp)(a:ai)(xs:List V):Prop:=match tp with
 |true=>vN K H a xs
 |false=>oG K H a xs
def vj.inj{X:Cx}{h_:List (ai×fe)}{σ:St}{H:Hp}{s:ae}{tp:Bool}{a:ai}{xs ys:List V}(I:Inv X h_ σ H s)(h:vj tp X.K H a xs)(h':vj tp X.K H a ys):xs=ys:=by
 cases tp
 ·exact I.qc h h'
 ·exact I.oj h h'
def vj.at{X:Cx}{h_:List (ai×fe)}{σ:St}{H:Hp}{s:ae}{tp:Bool}{a:ai}{xs:List V}(I:Inv X h_ σ H s)(h:vj tp X.K H a xs):∃its:List ab,cD xs its/\lg tp s.heap a its.toArray:=by
 cases tp
 ·obtain⟨its,rv,p,_⟩:=I.list h;exact⟨its,rv,p.isList⟩
 ·obtain⟨its,rv,p,_⟩:=I.tuple h;exact⟨its,rv,p⟩
def nc(h:bH)(it:ai)(x:aV)(t:vQ)(i:Nat):Prop:=h.IsStrIter it (strIterType x) x t i
def nc.keep{h h':bH}{it:ai}{x:aV}{t:vQ}{i:Nat}(y:nc h it x t i)(k:∀o,h.get? it=a_ o->h'.get? it=a_ o):nc h' it x t i:=let ⟨o,e,r⟩:=y;⟨o,k o e,r⟩
section
open Builtin
variable{prog:aP}{w:bo}{A:br}{E:ab->ae->Prop}{s:ae}
def Dp{it:ai}{x:aV}{t:vQ}{i c:Nat}{Q:ab->ae->Prop}(gi:nc s.heap it x t i)(gx:x.cps[i]?=a_ c)
  (k:∀h',nc h' it x t (i+1)->cA it s.heap h'->Q (.str ⟨#[c]⟩ s.toks) { s with heap:=h',toks:=s.toks+1 }):au (aB prog w) A (cJ (.ref it)) Q E s:=by
 unfold nc strIterType at gi k;cases ha:x.cps.all (·< 128)
 ·simp only[ha,aG,if_false]at gi k;exact wpAny_nextOf_wide_item gi gx k
 ·simp only[ha,if_true]at gi k;exact wpAny_nextOf_ascii_item gi gx k
def Qo{it:ai}{x:aV}{t:vQ}{i:Nat}{Q:ab->ae->Prop}(nh:A.handled=b_)(gi:nc s.heap it x t i)(gx:x.cps[i]?=b_)
  (k:∀h' e,Dh it s.heap h'->(∃o,h'.get? e=a_ o/\o.cls=.type "StopIteration")->E (.ref e) { s with heap:=h' }):au (aB prog w) A (cJ (.ref it)) Q E s:=by
 unfold nc strIterType at gi;cases ha:x.cps.all (·< 128)
 ·simp only[ha,aG,if_false]at gi;exact wpAny_nextOf_wide_end nh gi gx k
 ·simp only[ha,if_true]at gi;exact wpAny_nextOf_ascii_end nh gi gx k
end
def xE(x:aV)(t:vQ):fe:={ cls:=.type (strIterType x),data:=.fields #[.str x t,.int 0 0] }
def MJ{h:bH}{it:ai}{x:aV}{t:vQ}(e:h.get? it=a_ (xE x t)):nc h it x t 0:=⟨_,e,rfl,rfl⟩
section
variable{prog:aP}{w:bo}{A:br}{E:ab->ae->Prop}{s:ae}
end
def Xc(x y:aV):It:=
 ⟨λi _=>∃c d,x.cps[i]?=a_ c/\y.cps[i]?=a_ d,
  λi H v H'=>∃T,H T=b_/\v=.ref T/\∃c d,x.cps[i]?=a_ c/\y.cps[i]?=a_ d/\H'=upd H T (.tup [.str ⟨#[c]⟩,.str ⟨#[d]⟩]),
  λi _=>x.cps[i]?=b_\/y.cps[i]?=b_⟩
def KR{tp:Bool}{prog:aP}{w:bo}{A:br}(hh:A.handled=b_)(it l:ai)(hne:l≠it)(items:Array ab) :
  Draws prog w A it [it,l] items.size (λi v=>items[i]?=a_ v) (λi h=>lh tp h it l i/\lg tp h l items) where
 live:=λ_ _ st=>let ⟨o,ho,_⟩:=st.1.obj;⟨o,ho⟩
 frame:=λ_ _ _ st hk=>⟨st.1.keep λo e=>hk it (by simp) o e,st.2.keep λo e=>hk l (by simp) o e⟩
 item:=λi s Q E hi st hQ=>by
  refine D4 st.1 st.2 (v:=items[i]) (by simp[hi]) λh' hit' hs'=>?_;exact hQ _ h' s.toks (by simp[hi]) ⟨hit',st.2.keep λo e=>hs'.extBut _ o hne e⟩ hs'
 done:=λs Q E st hE=>Ck hh st.1 st.2 (by simp) hE
set_option tactic.hygienic true in
def Tt{tp:Bool}(l:ai)(items:Array ab) :
  Meets (fO.«enumerate.__new__» ⟨[.type "enumerate",.ref l],[]⟩) (λ_ R s=>lg tp s.heap l items/\
   R (.ok (.ret (.ref (s.heap.push (qj tp l)).objs.size))) { s with heap:=(s.heap.push (qj tp l)).push { cls:=.type "enumerate",data:=.fields #[.none,.bool d_,.ref s.heap.objs.size,rawInt 0,.none,.none] } }):=
 .of_wp λprog w A R s h=>by
  obtain⟨hp,g,d,tk,os⟩:=s;obtain⟨hl,h⟩:=h;have hsub:=sub_enumerate;have hL:lg tp (Shared.heap ⟨hp,g,d,tk,os⟩) l items:=hl
  wp_walk
  refine wpAny_stack_any λst=>wu9 ?_;split
  ·rename_i c _ _ _ _ _;cases(c == eX "enumerate")
   ·wp_walk using ou hL
    exact⟨_,rfl,h⟩
   ·wp_walk using ou hL
    exact⟨_,rfl,h⟩
  ·wp_walk using ou hL
   exact⟨_,rfl,h⟩
section
variable{prog:aP}{w:bo}{A:br}{E:ab->ae->Prop}{s:ae}
def Oy{tp:Bool}{l:ai}{items:Array ab}{Q:ab->ae->Prop}(hL:lg tp s.heap l items)
  (k:∀h',IsEnum h' (s.heap.objs.size+1) s.heap.objs.size 0 .none->lh tp h' s.heap.objs.size l 0->(∀b o,s.heap.get? b=a_ o->h'.get? b=a_ o)->Q (.ref (s.heap.objs.size+1)) { s with heap:=h' }) :
  au (aB prog w) A (call (.type "enumerate") [.ref l]) Q E s:=by
 refine callType_new PySem.F.called_enumerate (by decide) (PySem.F.typeCall_enumerate_1 _) (PySem.F.newCall_enumerate_1 _) (λobj=>PySem.F.args_object_init_2 obj _) PySem.F.entry_enumerate_new (Tt (tp:=tp) l items) ⟨hL,?_⟩;have z1:(s.heap.push (qj tp l)).objs.size=s.heap.objs.size+1:=cX ..;have g1:((s.heap.push (qj tp l)).push { cls:=.type "enumerate",data:=.fields #[.none,.bool d_,.ref s.heap.objs.size,rawInt 0,.none,.none] }).get? (s.heap.push (qj tp l)).objs.size=a_ _:=aL _ rfl;have g2:((s.heap.push (qj tp l)).push { cls:=.type "enumerate",data:=.fields #[.none,.bool d_,.ref s.heap.objs.size,rawInt 0,.none,.none] }).get? s.heap.objs.size=a_ (qj tp l):=hp9 _ (aL _ rfl);show _/\_;rw[z1]at g1;rw[z1];exact⟨⟨_,g1,rfl⟩,k _ g1 (Es g2) λb o x=>hp9 _ (hp9 _ x)⟩
end
def YZ(tp:Bool)(K:aN)(a:ai):It:=
 ⟨λi H=>∃xs x,vj tp K H a xs/\xs[i]?=a_ x,
  λi H x H'=>∃T,H T=b_/\x=.ref T/\∃x1,(∀xs,vj tp K H a xs->xs[i]?=a_ x1)/\H'=upd H T (.tup [.int i,x1]),
  λi H=>∃xs,vj tp K H a xs/\xs.length<=i⟩
def GV{tp:Bool}{prog:aP}{w:bo}{A:br}(hh:A.handled=b_)(it l:ai)(items:Array ab)(i:Nat)(hi:items.size<=i) :
  Draws prog w A it [it,l] i (λ_ _=>True) (λj h=>j=i/\lh tp h it l i/\lg tp h l items) where
 live:=λ_ _ st=>let ⟨o,ho,_⟩:=st.2.1.obj;⟨o,ho⟩
 frame:=λ_ _ _ st hk=>⟨st.1,st.2.1.keep λo e=>hk it (by simp) o e,st.2.2.keep λo e=>hk l (by simp) o e⟩
 item:=λj s Q E hj st hQ=>absurd st.1 (bu hj)
 done:=λs Q E st hE=>Ck hh st.2.1 st.2.2 (by simp[hi]) hE
def HS{tp:Bool}{P:aP}{w:bo}{K:aN}{elts:List aI}{k:Nat}{pos:fu}(a e it:ai)(hei:e≠it)(hae:a≠e)(hai:a≠it) :
  Turn P w K (.Tuple elts k pos) (YZ tp K a) [e,it] e (λi h=>(∃old,IsEnum h e it i old)/\lh tp h it a i) where
 mem:=by simp
 obj:=λi h st c hc=>by
  obtain⟨⟨old,he⟩,h1⟩:=st;obtain⟨o1,e1,_,d1⟩:=h1.obj;simp only[ao,bG,or_false]at hc
  rcases hc with rfl|rfl
  ·exact⟨_,he,λv z=>nomatch z⟩
  ·exact⟨_,e1,λv z=>by rw[d1]at z;cases z⟩
 keep:=λi h h' st k=>by
  obtain⟨⟨old,he⟩,h1⟩:=st;exact⟨⟨old,k e (by simp) _ he⟩,h1.keep λo q=>k it (by simp) o q⟩
 item:=by
  intro X hP hw hK hc i h_ s σ H E I hf st hg;subst hP hw hK;obtain⟨xs,x,ha,hx⟩:=hg;obtain⟨its,rv,p⟩:=vj.at I ha;obtain⟨u,hu,ru⟩:=rv.get hx;obtain⟨⟨old,he⟩,h1⟩:=st
  have hil:i<its.toArray.size:=by
   rw[aA];exact(bC.mp hu).1
  refine wpAny_pyNext_enum_itemD (KR (tp:=tp) (A:=X.A.in1) (I.ok.hd hc) it a hai its.toArray) he ⟨h1,p⟩ hil hei (by simp[hei,eZ hae]) λv h' tk hv g1 g2 g3 g4 hk=>?_
  have hv':v=u:=by
   have:its.toArray[i]?=a_ u:=by simpa using hu
   exact aS (hv.symm.trans this)
  subst hv';refine⟨_,rfl,wpAny_letOwnedTupleGo_enum g1 λh'' g1' hs''=>?_⟩;have fc:∀c∈[e,it],pE X h_ H c:=hf
  have kk:∀c o,c∉[e,it]->s.heap.get? c=a_ o->h''.get? c=a_ o:=λc o hc q=>by
   simp only[ao,bG,or_false,not_or]at hc;exact hs''.extBut c o hc.1 (hk c o hc.1 hc.2 q)
  have I1:Inv X h_ σ H { s with heap:=h'',toks:=tk+1 }:=I.tD (t':=tk+1) kk fc;have nz:s.heap.objs.size≠e:=kY (hl9 he);have hT:h''.get? s.heap.objs.size=a_ { cls:=.type "tuple",data:=.seq #[.int i tk,v] }:=hs''.extBut _ _ nz g3;have hfr:H s.heap.objs.size=b_:=I.hok.fresh (aC _)
  have I2:Inv X h_ σ (upd H s.heap.objs.size (.tup [.int i,x])) { s with heap:=h'',toks:=tk+1 }:=by
   refine I1.HX (I.AF (aC _) hfr) I.sz ⟨by rw[bB];show 2<=16777216;decide,[.int i tk,v],.cons ⟨_,rfl⟩ (.cons ru .nil),?_⟩;exact⟨_,hT,rfl,_,rfl⟩
  refine⟨.ref s.heap.objs.size,_,I2,rfl,⟨_,hfr,rfl,x,λxs' h1=>by rw[vj.inj I h1 ha];exact hx,rfl⟩,⟨⟨_,by simpa using g1'⟩,g2.1.keep λo q=>hs''.extBut _ o hei.symm q⟩,λc hc=>?_⟩;rw[cH ?_]
  ·exact(hf c hc).1
  ·have:c<s.heap.objs.size:=by
    simp only[ao,bG,or_false]at hc
    rcases hc with rfl|rfl
    ·exact hl9 he
    ·obtain⟨_,q,_⟩:=h1.obj;exact hl9 q
   exact bu this
 done:=by
  intro X hP hw hK hc i h_ s σ H E I hf st hg;subst hP hw hK;obtain⟨xs,ha,hx⟩:=hg;obtain⟨its,rv,p⟩:=vj.at I ha;obtain⟨⟨old,he⟩,h1⟩:=st;have l1:=rv.length;refine wpAny_pyNext_enum_endD (GV (tp:=tp) (A:=X.A.in1) (I.ok.hd hc) it a its.toArray i (by simp;omega)) he ⟨rfl,h1,p⟩ λh' hk=>⟨rfl,I.tD (t':=s.toks) (ch:=[it]) (λc o hc q=>?_) λc hc=>hf c ?_⟩
  ·exact hk c o (by simpa using hc) q
  ·simp only[ao,bG,or_false]at hc ⊢;exact .inr hc
 self:=λ_ _ _ _ _ st h=>let ⟨⟨_,he⟩,_⟩:=st;wpAny_pyIter_enum he h
section
open Builtin
variable{prog:aP}{w:bo}{A:br}{E:ab->ae->Prop}{s:ae}
structure W5(z T U i j b:ai):Prop where
 Tz:T≠z
 Uz:U≠z
 iz:i≠z
 jz:j≠z
 TU:T≠U
 Ti:T≠i
 Tj:T≠j
 Ui:U≠i
 Uj:U≠j
 ij:i≠j
 bz:b≠z
 bU:b≠U
 bi:b≠i
 bj:b≠j
def L9{z T U i j:ai}{p:aV}{tp:vQ}{b:ai}{ys:Array ab}{m n x:Nat}{y:ab}{c d:ab}{Q:ab->ae->Prop}(P:W5 z T U i j b)(gz:ni s.heap z T U .none)(gT:hX s.heap T (.ref i) (.ref j))(gU:hX s.heap U c d)
  (gi:nc s.heap i p tp m)(gj:lh c_ s.heap j b n)(gb:lg c_ s.heap b ys)(gx:p.cps[m]?=a_ x)(gy:ys[n]?=a_ y)
  (k:∀h',ni h' z T U (rawInt s.heap.objs.size)->hX h' U (.str ⟨#[x]⟩ s.toks) y->nc h' i p tp (m+1)->lh c_ h' j b (n+1)->hX h' s.heap.objs.size (.str ⟨#[x]⟩ s.toks) y->h'.objs.size=s.heap.objs.size+1->
   (∀e o,e≠z->e≠U->e≠i->e≠j->s.heap.get? e=a_ o->h'.get? e=a_ o)->Q (.ref s.heap.objs.size) { s with heap:=h',toks:=s.toks+1 }) :
  au (aB prog w) A (fO.«zip.__next__» ⟨[.ref z],[]⟩) (λf s'=>∃v,f=.done (.ret v)/\Q v s') E s:=by
 show au (aB prog w) _ (field (.ref z) 2 >>= _) _ _ _;refine wb9 (eh gz rfl (x:=.bool d_) rfl ?_);show au (aB prog w) _ (field (.ref z) 3 >>= _) _ _ _;refine wb9 (eh gz rfl (x:=.ref T) rfl (wb9 (dq gT rfl ?_)));show au (aB prog w) _ (gR (.ref z) >>= _) _ _ _;refine wb9 ?_;unfold gR;refine wb9 (eh gz rfl (x:=.none) rfl (wu9 ?_));simp only[if_true];refine wb9 (iB (wb9 (eh gz rfl (x:=.ref U) rfl (wb9 (cq gz (by simp) λh1 gz1 s1=>?_)))));replace gz1:ni h1 z T U .ellipsis:=gz1;refine wb9 ?_;simp only[LB,L6,nG,Pd];refine wb9 (wb9 (sV ?_));show au (aB prog w) _ (cJ (.ref i) >>= _) _ _ _;refine wb9 (Dp (gi.keep λo e=>s1.extBut _ o P.iz e) gx λh2 gi2 s2=>wu9 ?_);have gU2:hX h2 U c d:=s2.extBut _ _ P.Ui (s1.extBut _ _ P.Uz gU);refine wb9 (dq gU2 rfl (wb9 (qJ gU2 λh3 gU3 s3=>wb9 (LR (wu9 ?_)))));replace gU3:hX h3 U (.str ⟨#[x]⟩ s.toks) d:=gU3;refine wb9 (wb9 (sV ?_));show au (aB prog w) _ (cJ (.ref j) >>= _) _ _ _;refine wb9 (D4 (gj.keep λo e=>s3.extBut _ o P.Uj.symm (s2.extBut _ o P.ij.symm (s1.extBut _ o P.jz e))) (gb.keep λo e=>s3.extBut _ o P.bU (s2.extBut _ o P.bi (s1.extBut _ o P.bz e))) gy λh4 gj4 s4=>wu9 ?_);have gU4:hX h4 U (.str ⟨#[x]⟩ s.toks) d:=s4.extBut _ _ P.Uj gU3;refine wb9 (dq gU4 rfl (wb9 (qJ gU4 λh5 gU5 s5=>wb9 (LR (wu9 (wu9 ?_))))));replace gU5:hX h5 U (.str ⟨#[x]⟩ s.toks) y:=gU5;refine wb9 (dq gU5 rfl (wb9 (By ?_)));have sz:h5.objs.size=s.heap.objs.size:=by rw[s5.1,s4.1,s3.1,s2.1,s1.1]
 have gz5:ni h5 z T U .ellipsis:=s5.extBut _ _ P.Uz.symm (s4.extBut _ _ P.jz.symm (s3.extBut _ _ P.Uz.symm (s2.extBut _ _ P.iz.symm gz1)));have k5:∀e o,e≠z->e≠U->e≠i->e≠j->s.heap.get? e=a_ o->h5.get? e=a_ o:=λe o e1 e2 e3 e4 q=>s5.extBut _ _ e2 (s4.extBut _ _ e4 (s3.extBut _ _ e2 (s2.extBut _ _ e3 (s1.extBut _ _ e1 q))));have gi5:nc h5 i p tp (m+1):=gi2.keep λo e=>s5.extBut _ o P.Ui.symm (s4.extBut _ o P.ij (s3.extBut _ o P.Ui.symm e));have gj5:lh c_ h5 j b (n+1):=gj4.keep λo e=>s5.extBut _ o P.Uj.symm e;have zlt:z<h5.objs.size:=hl9 gz5;show au (aB prog w) _ (qB (.ref z) (.ref h5.objs.size) >>= _) _ _ _;refine wb9 ?_;unfold qB;have gz6:ni (h5.push { cls:=.type "tuple",data:=.seq #[.str ⟨#[x]⟩ s.toks,y] }) z T U .ellipsis:=hp9 _ gz5;refine wb9 (cq gz6 (by simp) λh7 gz7 s7=>?_);replace gz7:ni h7 z T U (rawInt h5.objs.size):=gz7;refine cq gz7 (by simp) λh8 gz8 s8=>wu9 ⟨_,rfl,?_⟩;replace gz8:ni h8 z T U (rawInt h5.objs.size):=gz8;have up:∀e o,e≠z->h5.get? e=a_ o->h8.get? e=a_ o:=λe o e1 q=>s8.extBut _ _ e1 (s7.extBut _ _ e1 (hp9 _ q));have gN:hX h8 h5.objs.size (.str ⟨#[x]⟩ s.toks) y:=s8.extBut _ _ (kY zlt) (s7.extBut _ _ (kY zlt) (aL _ rfl));have sz8:h8.objs.size=h5.objs.size+1:=by rw[s8.1,s7.1,cX]
 rw[sz]at gz8 gN sz8;show Q (.ref h5.objs.size) _;rw[sz];exact k h8 gz8 (up _ _ P.Uz gU5) (gi5.keep λo e=>up _ o P.iz e) (gj5.keep λo e=>up _ o P.jz e) gN sz8 λe o e1 e2 e3 e4 q=>up e o e1 (k5 e o e1 e2 e3 e4 q)
def Qh{z T U i j:ai}{p:aV}{tp:vQ}{b:ai}{ys:Array ab}{m n:Nat}{c d:ab}{Q:Fin->ae->Prop}(nh:A.handled=b_)(P:W5 z T U i j b)(gz:ni s.heap z T U .none)(gT:hX s.heap T (.ref i) (.ref j))(gU:hX s.heap U c d)
  (gi:nc s.heap i p tp m)(gj:lh c_ s.heap j b n)(gb:lg c_ s.heap b ys)(ge:p.cps[m]?=b_\/ys[n]?=b_)
  (k:∀h' e,(∀e o,e≠z->e≠U->e≠i->e≠j->s.heap.get? e=a_ o->h'.get? e=a_ o)->(∃o,h'.get? e=a_ o/\o.cls=.type "StopIteration")->∀tk,E (.ref e) { s with heap:=h',toks:=tk }) :
  au (aB prog w) A (fO.«zip.__next__» ⟨[.ref z],[]⟩) Q E s:=by
 show au (aB prog w) _ (field (.ref z) 2 >>= _) _ _ _;refine wb9 (eh gz rfl (x:=.bool d_) rfl ?_);show au (aB prog w) _ (field (.ref z) 3 >>= _) _ _ _;refine wb9 (eh gz rfl (x:=.ref T) rfl (wb9 (dq gT rfl ?_)));show au (aB prog w) _ (gR (.ref z) >>= _) _ _ _;refine wb9 ?_;unfold gR;refine wb9 (eh gz rfl (x:=.none) rfl (wu9 ?_));simp only[if_true];refine wb9 (iB (wb9 (eh gz rfl (x:=.ref U) rfl (wb9 (cq gz (by simp) λh1 gz1 s1=>?_)))));replace gz1:ni h1 z T U .ellipsis:=gz1;refine wb9 ?_;simp only[LB,L6,nG,Pd];refine wb9 (wb9 (sV ?_));show au (aB prog w) _ (cJ (.ref i) >>= _) _ _ _
 cases gx:p.cps[m]? with
 |none=>
   refine wb9 (Qo nh (gi.keep λo e=>s1.extBut _ o P.iz e) gx λh2 e s2 he=>?_);obtain⟨oe,he1,he2⟩:=he;have gz2:ni h2 z T U .ellipsis:=s2 _ _ P.iz.symm gz1;have ez:e≠z:=λq=>by subst q;rw[gz2]at he1;cases he1;simp at he2
   exact cq gz2 (by simp) λh3 _ s3=>k h3 e (λc o c1 _ c3 _ q=>s3.extBut _ _ c1 (s2 _ _ c3 (s1.extBut _ _ c1 q))) ⟨oe,s3.extBut _ _ ez he1,he2⟩ _
 |some x=>
   have gy:ys[n]?=b_:=by
    rcases ge with g|g
    ·rw[gx]at g;cases g
    ·exact g
   refine wb9 (Dp (gi.keep λo e=>s1.extBut _ o P.iz e) gx λh2 gi2 s2=>wu9 ?_);have gU2:hX h2 U c d:=s2.extBut _ _ P.Ui (s1.extBut _ _ P.Uz gU);refine wb9 (dq gU2 rfl (wb9 (qJ gU2 λh3 gU3 s3=>wb9 (LR (wu9 ?_)))));refine wb9 (wb9 (sV ?_));show au (aB prog w) _ (cJ (.ref j) >>= _) _ _ _;refine wb9 (Ck nh (gj.keep λo e=>s3.extBut _ o P.Uj.symm (s2.extBut _ o P.ij.symm (s1.extBut _ o P.jz e))) (gb.keep λo e=>s3.extBut _ o P.bU (s2.extBut _ o P.bi (s1.extBut _ o P.bz e))) gy λh4 e s4 he=>?_);obtain⟨oe,he1,he2⟩:=he;have gz4:ni h4 z T U .ellipsis:=s4 _ _ P.jz.symm (s3.extBut _ _ P.Uz.symm (s2.extBut _ _ P.iz.symm gz1));have ez:e≠z:=λq=>by subst q;rw[gz4]at he1;cases he1;simp at he2
   exact cq gz4 (by simp) λh5 _ s5=>k h5 e (λc o c1 c2 c3 c4 q=>s5.extBut _ _ c1 (s4 _ _ c4 (s3.extBut _ _ c2 (s2.extBut _ _ c3 (s1.extBut _ _ c1 q))))) ⟨oe,s5.extBut _ _ ez he1,he2⟩ _
def IY{z T U i j:ai}{p:aV}{tp:vQ}{b:ai}{ys:Array ab}{m n x:Nat}{y:ab}{c d:ab}{Q:Option ab->ae->Prop}(P:W5 z T U i j b)(gz:ni s.heap z T U .none)(gT:hX s.heap T (.ref i) (.ref j))(gU:hX s.heap U c d)
  (gi:nc s.heap i p tp m)(gj:lh c_ s.heap j b n)(gb:lg c_ s.heap b ys)(gx:p.cps[m]?=a_ x)(gy:ys[n]?=a_ y)
  (k:∀h',ni h' z T U (rawInt s.heap.objs.size)->hX h' U (.str ⟨#[x]⟩ s.toks) y->nc h' i p tp (m+1)->lh c_ h' j b (n+1)->hX h' s.heap.objs.size (.str ⟨#[x]⟩ s.toks) y->h'.objs.size=s.heap.objs.size+1->
   (∀e o,e≠z->e≠U->e≠i->e≠j->s.heap.get? e=a_ o->h'.get? e=a_ o)->Q (a_ (.ref s.heap.objs.size)) { s with heap:=h',toks:=s.toks+1 }):au (aB prog w) A (pyNext (.ref z)) Q E s:=by
 have ty:s.TypeIs (.ref z) "zip":=⟨_,gz,rfl⟩
 unfold pyNext;exact wb9 (sX (di (name:=aa "__next__") ty jH (bW jH ty xw (L9 P gz gT gU gi gj gb gx gy λh' a1 a2 a3 a4 a5 a6 a7=>wu9 (k h' a1 a2 a3 a4 a5 a6 a7)) (vT _))))
def Nf{z T U i j:ai}{p:aV}{tp:vQ}{b:ai}{ys:Array ab}{m n:Nat}{c d:ab}{Q:Option ab->ae->Prop}(nh:A.handled=b_)(P:W5 z T U i j b)(gz:ni s.heap z T U .none)(gT:hX s.heap T (.ref i) (.ref j))(gU:hX s.heap U c d)
  (gi:nc s.heap i p tp m)(gj:lh c_ s.heap j b n)(gb:lg c_ s.heap b ys)(ge:p.cps[m]?=b_\/ys[n]?=b_)
  (k:∀h',(∀e o,e≠z->e≠U->e≠i->e≠j->s.heap.get? e=a_ o->h'.get? e=a_ o)->∀tk,Q b_ { s with heap:=h',toks:=tk }):au (aB prog w) A (pyNext (.ref z)) Q E s:=by
 have ty:s.TypeIs (.ref z) "zip":=⟨_,gz,rfl⟩
 unfold pyNext;refine wb9 (sX (di (name:=aa "__next__") ty jH (bW jH ty xw (Qh nh P gz gT gU gi gj gb ge λh' e hk he tk=>?_) (vT _))));obtain⟨o,ho,hc⟩:=he;exact wb9 (eU (T:="StopIteration") (b:=c_) ⟨o,ho,hc⟩ isSubtype_stop (wu9 (k _ hk _)))
end
noncomputable abbrev Xe(h:bH)(x:aV)(t:vQ)(b:ai):bH:=((h.push (xE x t)).push (qj c_ b)).push { cls:=.type "tuple",data:=.seq #[.ref h.objs.size,.ref (h.push (xE x t)).objs.size] }
abbrev Xd(h:bH)(x:aV)(t:vQ)(b:ai):bH:=(Xe h x t b).push { cls:=.type "tuple",data:=.seq #[.none,.none] }
noncomputable abbrev UK(h:bH)(x:aV)(t:vQ)(b:ai):bH:=(Xd h x t b).push { cls:=.type "zip",data:=.fields #[.none,.bool d_,.bool d_,.ref ((h.push (xE x t)).push (qj c_ b)).objs.size,.ref (Xe h x t b).objs.size] }
def Qg(x:aV)(t:vQ)(b:ai)(ys:Array ab):Meets (fO.«zip.__new__» ⟨[.type "zip",.str x t,.ref b],[]⟩) (λ_ R s=>lg c_ s.heap b ys/\R (.ok (.ret (.ref (Xd s.heap x t b).objs.size))) { s with heap:=UK s.heap x t b }):=
 .of_wp λprog w A R s q=>by
  obtain⟨hp,g,d,tk,os⟩:=s;obtain⟨q2,q⟩:=q;have sz:=PySem.sub_zip;have e2:lg c_ (Shared.heap ⟨hp.push { cls:=.type (strIterType x),data:=.fields #[.str x t,.int 0 0] },g,d,tk,os⟩) b ys:=lg.keep q2 λo e=>hp9 _ e
  wp_walk using wpAny_pyIter_strU (x:=x) (t:=t),ou e2
  exact⟨_,rfl,q⟩
section
variable{prog:aP}{w:bo}{A:br}{E:ab->ae->Prop}{s:ae}
def Ma{x:aV}{t:vQ}{b:ai}{ys:Array ab}{Q:ab->ae->Prop}
  (gb:lg c_ s.heap b ys)(k:∀h',ni h' (s.heap.objs.size+4) (s.heap.objs.size+2) (s.heap.objs.size+3) .none->hX h' (s.heap.objs.size+2) (.ref s.heap.objs.size) (.ref (s.heap.objs.size+1))->hX h' (s.heap.objs.size+3) .none .none->
   nc h' s.heap.objs.size x t 0->lh c_ h' (s.heap.objs.size+1) b 0->(∀c o,s.heap.get? c=a_ o->h'.get? c=a_ o)->Q (.ref (s.heap.objs.size+4)) { s with heap:=h' }):au (aB prog w) A (call (.type "zip") [.str x t,.ref b]) Q E s:=by
 refine callType_new PySem.F.called_zip (by decide) (PySem.F.typeCall_zip_2 _ _) (PySem.F.newCall_zip_2 _ _) (λob=>PySem.F.args_object_init_3 ob _ _) PySem.F.entry_zip_new (Qg x t b ys) ⟨gb,?_⟩;have z1:(s.heap.push (xE x t)).objs.size=s.heap.objs.size+1:=cX ..;have z2:((s.heap.push (xE x t)).push (qj c_ b)).objs.size=s.heap.objs.size+2:=by rw[cX,z1]
 have z3:(Xe s.heap x t b).objs.size=s.heap.objs.size+3:=by rw[cX,z2]
 have z4:(Xd s.heap x t b).objs.size=s.heap.objs.size+4:=by rw[cX,z3]
 have g5:(UK s.heap x t b).get? (Xd s.heap x t b).objs.size=a_ _:=aL _ rfl;have g4:(UK s.heap x t b).get? (Xe s.heap x t b).objs.size=a_ _:=hp9 _ (aL _ rfl);have g3:(UK s.heap x t b).get? ((s.heap.push (xE x t)).push (qj c_ b)).objs.size=a_ _:=hp9 _ (hp9 _ (aL _ rfl));have g2:(UK s.heap x t b).get? (s.heap.push (xE x t)).objs.size=a_ (qj c_ b):=hp9 _ (hp9 _ (hp9 _ (aL _ rfl)));have g1:(UK s.heap x t b).get? s.heap.objs.size=a_ (xE x t):=hp9 _ (hp9 _ (hp9 _ (hp9 _ (aL _ rfl))));show _/\_;rw[z2,z3,z4]at g5;rw[z1,z2]at g3;rw[z3]at g4;rw[z1]at g2;rw[z4];exact⟨⟨_,g5,rfl⟩,k _ g5 g3 g4 (MJ g1) (Es g2) λc o q=>hp9 _ (hp9 _ (hp9 _ (hp9 _ (hp9 _ q))))⟩
end
noncomputable def Itm(K:aN)(x:aV)(b:ai):It:=
 ⟨λi H=>∃c ys y,x.cps[i]?=a_ c/\vj c_ K H b ys/\ys[i]?=a_ y,
  λi H v H'=>∃T,H T=b_/\v=.ref T/\∃c y,x.cps[i]?=a_ c/\(∀ys,vj c_ K H b ys->ys[i]?=a_ y)/\H'=upd H T (.tup [.str ⟨#[c]⟩,y]),
  λi H=>∃ys,vj c_ K H b ys/\(x.cps[i]?=b_\/ys.length<=i)⟩
def FF{P:aP}{w:bo}{K:aN}{elts:List aI}{k:Nat}{pos:fu}(x:aV)(t:vQ)(b z TI TO i1 i2:ai)(D:W5 z TI TO i1 i2 b) :
  Turn P w K (.Tuple elts k pos) (Itm K x b) [z,TI,TO,i1,i2] z (λi h=>ni h z TI TO .none/\hX h TI (.ref i1) (.ref i2)/\(∃u v,hX h TO u v)/\nc h i1 x t i/\lh c_ h i2 b i) where
 mem:=by simp
 obj:=λi h st c hc=>by
  obtain⟨hz,hTI,⟨u,v,hTO⟩,⟨o1,e1,_,d1⟩,h2⟩:=st;obtain⟨o2,e2,_,d2⟩:=h2.obj;simp only[ao,bG,or_false]at hc
  rcases hc with rfl|rfl|rfl|rfl|rfl
  ·exact⟨_,hz,λv z=>nomatch z⟩
  ·exact⟨_,hTI,λv z=>nomatch z⟩
  ·exact⟨_,hTO,λv z=>nomatch z⟩
  ·exact⟨_,e1,λv z=>by rw[d1]at z;cases z⟩
  ·exact⟨_,e2,λv z=>by rw[d2]at z;cases z⟩
 keep:=λi h h' st k=>by
  obtain⟨hz,hTI,⟨u,v,hTO⟩,h1,h2⟩:=st;exact⟨k z (by simp) _ hz,k TI (by simp) _ hTI,⟨u,v,k TO (by simp) _ hTO⟩,h1.keep λo e=>k i1 (by simp) o e,h2.keep λo e=>k i2 (by simp) o e⟩
 item:=by
  intro X hP hw hK hc i h_ s σ H E I hf st hg;subst hP hw hK;obtain⟨c1,ys,y,hx,hb,hy⟩:=hg;obtain⟨j_,rv2,p2⟩:=vj.at I hb;obtain⟨u2,hu2,ru2⟩:=rv2.get hy;obtain⟨hz,hTI,⟨w1,w2,hTO⟩,h1,h2⟩:=st;refine IY D hz hTI hTO h1 h2 p2 hx (y:=u2) (by simpa using hu2) λh' g1 g2 g3 g4 g5 g6 hk=>?_;refine⟨_,rfl,wpAny_letOwnedTupleGo_zip g1 λh'' g1' hs''=>?_⟩
  have fc:∀c∈[z,TO,i1,i2],pE X h_ H c:=λc hc=>hf c (by
   simp only[ao,bG,or_false]at hc ⊢
   rcases hc with rfl|rfl|rfl|rfl<;>simp)
  have kk:∀c o,c∉[z,TO,i1,i2]->s.heap.get? c=a_ o->h''.get? c=a_ o:=λc o hc e=>by
   simp only[ao,bG,or_false,not_or]at hc;exact hs''.extBut c o hc.1 (hk c o hc.1 hc.2.1 hc.2.2.1 hc.2.2.2 e)
  have I1:Inv X h_ σ H { s with heap:=h'',toks:=s.toks+1 }:=I.tD (t':=s.toks+1) kk fc;have nz:s.heap.objs.size≠z:=kY (hl9 hz);have hT:h''.get? s.heap.objs.size=a_ { cls:=.type "tuple",data:=.seq #[.str ⟨#[c1]⟩ s.toks,u2] }:=hs''.extBut _ _ nz g5;have hfr:H s.heap.objs.size=b_:=I.hok.fresh (aC _)
  have I2:Inv X h_ σ (upd H s.heap.objs.size (.tup [.str ⟨#[c1]⟩,y])) { s with heap:=h'',toks:=s.toks+1 }:=by
   refine I1.HX (I.AF (aC _) hfr) I.sz ⟨by rw[bB];show 2<=16777216;decide,[.str ⟨#[c1]⟩ s.toks,u2],.cons ⟨_,rfl⟩ (.cons ru2 .nil),?_⟩;exact⟨_,hT,rfl,_,rfl⟩
  refine⟨.ref s.heap.objs.size,_,I2,rfl,⟨_,hfr,rfl,c1,y,hx,λys' h1=>by rw[vj.inj I h1 hb];exact hy,rfl⟩,⟨g1',?_,⟨_,_,hs''.extBut _ _ D.Uz g2⟩,g3.keep λo e=>hs''.extBut _ o D.iz e,g4.keep λo e=>hs''.extBut _ o D.jz e⟩,λc hc=>?_⟩
  ·exact hs''.extBut _ _ D.Tz (hk _ _ D.Tz D.TU D.Ti D.Tj hTI)
  ·rw[cH ?_]
   ·exact(hf c hc).1
   ·have:c<s.heap.objs.size:=by
     simp only[ao,bG,or_false]at hc
     rcases hc with rfl|rfl|rfl|rfl|rfl
     ·exact hl9 hz
     ·exact hl9 hTI
     ·exact hl9 hTO
     ·obtain⟨_,e,_⟩:=h1;exact hl9 e
     ·obtain⟨_,e,_⟩:=h2.obj;exact hl9 e
    exact bu this
 done:=by
  intro X hP hw hK hc i h_ s σ H E I hf st hg;subst hP hw hK;obtain⟨hz,hTI,⟨w1,w2,hTO⟩,h1,h2⟩:=st;obtain⟨ys,hb,hg⟩:=hg;obtain⟨j_,rv2,p2⟩:=vj.at I hb;refine Nf (I.ok.hd hc) D hz hTI hTO h1 h2 p2 (hg.imp id λh=>by simpa [rv2.length]using h) λh' hk tk=>⟨rfl,I.tD (t':=tk) (ch:=[z,TO,i1,i2]) (λc o hc e=>?_) λc hc=>hf c ?_⟩
  ·simp only[ao,bG,or_false,not_or]at hc;exact hk c o hc.1 hc.2.1 hc.2.2.1 hc.2.2.2 e
  ·simp only[ao,bG,or_false]at hc ⊢
   rcases hc with rfl|rfl|rfl|rfl<;>simp
 self:=λ_ _ _ _ _ st h=>wpAny_pyIter_zip st.1 h
end L2
namespace M
open PySem PySem.Spec PyProof.Rows L2
section
variable{X:Cx}{C:Fs}{a b c e:aI}{xa xb xc:Ex}{pos:fu}{es:List aI}{xs:List Ex}{h_:List (ai×fe)}{σ:St}{F H:Hp}{s:ae}{tg iter:aI}
theorem zi:∀(xs ys:List Dat) (i:Nat),(m7 xs ys)[i]?=match xs[i]?,ys[i]? with
  |some x,a_ y=>a_ (.tup [x,y])
  |_,_=>b_
 |[],_,_=>by simp[m7]
 |_::_,[],i=>by
   have:∀o:Option Dat,(match o,(b_:Option Dat)with|some x,a_ y=>a_ (Dat.tup [x,y])|_,_=>b_)=b_:=λo=>by cases o<;>rfl
   simp[m7,this]
 |x::xs,y::ys,0=>by simp[m7]
 |x::xs,y::ys,i+1=>by simp only[m7,bf];exact zi xs ys i
theorem zh:∀(xs ys:List Dat),(m7 xs ys).length=min xs.length ys.length
 |[],_=>by simp[m7]
 |_::_,[]=>by simp[m7]
 |x::xs,y::ys=>by simp only[m7,aM,zh xs ys];omega
def U2(tp:Bool)(K:Fg)(F:Hp)(a:ai)(vs:List V):Prop:=match tp with
 |true=>Tq K F a vs
 |false=>oG K F a vs
def U2.up{tp:Bool}{K:Fg}{F F' H:Hp}{a:ai}{vs:List V}(h:U2 tp K F a vs)(s:bX F F')(g:Good F' H):vj tp K H a vs:=by
 cases tp
 ·exact g.sub.seq (s.seq h)
 ·exact((Tq.mono s h).mono g.sub).sq
def Wl(K:Fg)(ta:TA):TI:=λσ H R=>ta σ H λvs H1=>∃x b,vs=[.str x,.ref b]/\(∃ys,vj c_ K H1 b ys)/\R (L2.Itm K x b) H1
def Nn{elts:List aI}{k:Nat}{tpos:fu}{ta:TA}{p:fu}(hg:Gl X "zip")(hm:X.mg "zip"=b_)(ha:PA X [a,b] ta)(hs:aU [a,b] X.env=[(d_,eval a X.env),(d_,eval b X.env)]:=by rfl)(hs2:aU [b] X.env=[(d_,eval b X.env)]:=by rfl) :
  PI X (.Tuple elts k tpos) (.Call (.Name "zip" p) [a,b] [] pos) (Wl X.K ta):=by
 intro h_ s σ H R I h;refine Call_ (nX I hg hm (by decide +kernel:bootBuiltins "zip"=a_ (.type "zip")) (eQ (gW (ha pos h_ s σ H _ I h) λus s1 ⟨vs,H1,I1,r1,q1⟩=>?_) (by rw[hs,hs2]) (by rw[hs2];rfl)));obtain⟨x,b,e,⟨ys,hy⟩,q⟩:=q1;subst e
 cases r1 with
 |cons r rr=>
   cases rr with
   |cons r' rr=>
     cases rr;obtain⟨t,rfl⟩:=r;cases r';obtain⟨j_,rv2,pl2⟩:=vj.at I1 hy;have n2:@LT.lt Nat _ b s1.heap.objs.size:=by obtain⟨_,e,_⟩:=pl2.obj;exact hl9 e
     refine Ma pl2 λh' g1 g2 g3 g4 g5 kk=>?_;have I2:Inv X h_ σ H1 { s1 with heap:=h' }:=I1.kept (t':=s1.toks) kk
     refine wpAny_pyIter_zip g1 ⟨_,[s1.heap.objs.size+4,s1.heap.objs.size+2,s1.heap.objs.size+3,s1.heap.objs.size,s1.heap.objs.size+1],_,_,H1,rfl,I2,
      FF x t b _ _ _ _ _ ⟨?_,?_,?_,?_,?_,?_,?_,?_,?_,?_,?_,?_,?_,?_⟩,⟨g1,g2,⟨_,_,g3⟩,g4,g5⟩,λc hc=>?_,q⟩
     all_goals try (show@Ne Nat _ _;omega)
     have hle:s1.heap.objs.size<=c:=by
      simp only[ao,bG,or_false]at hc
      rcases hc with rfl|rfl|rfl|rfl|rfl<;>first|exact mZ _ _|exact aC _
     exact I1.AF hle (I1.hok.fresh hle)
def signs_get(x:aV)(i:Nat):((dW x).map Dat.str)[i]?=(x.cps[i]?).map λc=>.str ⟨#[c]⟩:=by
 unfold dW;rw[aW,aW,dA];cases x.cps[i]?<;>rfl
def GK{K:Fg}{F1:Hp}(x:aV){b:ai}{us:List V}{es:List Dat}(h':Tq K F1 b us)(r':cy K F1 es us):kR K F1 (L2.Itm K x b) (m7 ((dW x).map .str) es):=λF H g s=>by
 have hq':vj c_ K H b us:=U2.up (tp:=c_) h' s g;refine⟨λi d hd=>?_,λi hi=>⟨us,hq',?_⟩⟩
 ·rw[zi,signs_get]at hd
  cases e1:x.cps[i]? with
  |none=>rw[e1]at hd;cases hd
  |some c1=>
    cases e2:es[i]? with
    |none=>rw[e1,e2]at hd;cases hd
    |some d2=>
      rw[e1,e2]at hd;cases hd;obtain⟨v2,f2,p2⟩:=r'.get e2;refine⟨⟨c1,us,v2,e1,hq',f2⟩,λv H' z=>?_⟩;obtain⟨T,hT,rfl,d1,y1,q1,q2,rfl⟩:=z;rw[e1]at q1;cases q1;have q4:=aS (f2.symm.trans (q2 us hq'));subst q4;refine⟨_,Step.alloc g hT,⟨T,_,rfl,.inl cw,?_⟩⟩;have sm:bX F1 (upd F T (.tup [.str ⟨#[c1]⟩,v2])):=s.trans (bX.upd (g.sub.free hT));exact⟨_,_,rfl,rfl,v2,[],rfl,p2.mono sm,rfl⟩
 ·rw[zh]at hi;simp only[dW,ah,aR]at hi;rw[r'.length];have:x.cps.size<=i\/es.length<=i:=by omega
  exact this.imp (λz=>fj z) id
noncomputable def Pn:Dat->Option (Bool×List Dat)
 |.lst xs=>a_ (d_,xs)
 |.tup xs=>a_ (c_,xs)
 |_=>b_
def FU{K:Fg}{F:Hp}{d:Dat}{tp:Bool}{xs:List Dat}{v:V}(h:Pn d=a_ (tp,xs))(r:Rep K F d v):∃p vs,v=.ref p/\U2 tp K F p vs/\cy K F xs vs:=by
 cases d with
 |lst ds=>cases h;exact r
 |tup ds=>cases h;exact r
 |_=>cases h
def Qi{ds:List Dat}{items:List Dat}(h:Ph ds=a_ items):∃x ys,ds=[.str x,.tup ys]/\items=m7 ((dW x).map .str) ys:=by
 obtain⟨a,b,rfl⟩:∃a b,ds=[a,b]:=by
  cases ds with
  |nil=>cases h
  |cons a r=>
    cases r with
    |nil=>cases h
    |cons b r=>
      cases r with
      |nil=>exact⟨a,b,rfl⟩
      |cons _ _=>cases h
 have h:zip2 a b=a_ items:=h
 cases a with
 |str x=>
   cases b with
   |tup ys=>cases h;exact⟨_,_,rfl,rfl⟩
   |_=>cases h
 |_=>cases h
def QK{elts:List aI}{k:Nat}{tp p:fu}(hg:Gl X "zip")(hm:X.mg "zip"=b_)(ha:SA X C [a,b] [xa,xb])(hs:aU [a,b] X.env=[(d_,eval a X.env),(d_,eval b X.env)]:=by rfl)(hs2:aU [b] X.env=[(d_,eval b X.env)]:=by rfl) :
  SI X C (.Tuple elts k tp) (.Call (.Name "zip" p) [a,b] [] pos) (.zip [xa,xb]):=λh_ s σ H R I z6=>by
 obtain⟨ρ,items,F,hi,g,RS,kk⟩:=z6;obtain⟨ds,h1,h2⟩:=cU hi;obtain⟨x,ys,rfl,rfl⟩:=Qi h2;refine Nn hg hm ha hs hs2 h_ s σ H R I ⟨ρ,_,h1,F,g,RS,λvs F1 H1 st r=>?_⟩;obtain⟨v,w,rfl,r1,v',w',rfl,r2,e3⟩:=r;cases e3;cases r1;obtain⟨p2,vs2,rfl,q2,r2'⟩:=r2;exact⟨x,p2,rfl,⟨vs2,U2.up (tp:=c_) q2 (bX.refl _) st.good⟩,kk _ F1 H1 st (GK x q2 r2')⟩
def Yp(tp:Bool)(K:Fg)(ta:TA):TI:=λσ H R=>ta σ H λvs H1=>∃a,vs=[.ref a]/\(∃xs,vj tp K H1 a xs)/\R (YZ tp K a) H1
def Rr{tp:Bool}{elts:List aI}{k:Nat}{tpos:fu}{ta:TA}{p:fu}(hg:Gl X "enumerate")(hm:X.mg "enumerate"=b_)(ha:PA X [a] ta)(hs:aU [a] X.env=[(d_,eval a X.env)]:=by rfl) :
  PI X (.Tuple elts k tpos) (.Call (.Name "enumerate" p) [a] [] pos) (Yp tp X.K ta):=by
 intro h_ s σ H R I h;refine Call_ (nX I hg hm (by decide +kernel:bootBuiltins "enumerate"=a_ (.type "enumerate")) (eQ (gW (ha pos h_ s σ H _ I h) λus s1 ⟨vs,H1,I1,r1,q1⟩=>?_) (by rw[hs];rfl) (by rfl)));obtain⟨l1,e,⟨xs,hx⟩,q⟩:=q1;subst e;obtain⟨u,rfl,ru⟩:=vals1 r1;cases ru;obtain⟨its,rv,pl⟩:=vj.at I1 hx;refine Oy pl λh' g1 g2 kk=>?_;have I2:Inv X h_ σ H1 { s1 with heap:=h' }:=I1.kept (t':=s1.toks) kk;have n1:@LT.lt Nat _ l1 s1.heap.objs.size:=by obtain⟨_,e,_⟩:=pl.obj;exact hl9 e
 refine wpAny_pyIter_enum g1 ⟨_,[s1.heap.objs.size+1,s1.heap.objs.size],_,_,H1,rfl,I2,HS (tp:=tp) l1 _ _ ?_ ?_ ?_,⟨⟨_,g1⟩,g2⟩,λc hc=>?_,q⟩
 all_goals try (show@Ne Nat _ _;omega)
 have hle:s1.heap.objs.size<=c:=by
  simp only[ao,bG,or_false]at hc
  rcases hc with rfl|rfl<;>first|exact mZ _ _|exact aC _
 exact I1.AF hle (I1.hok.fresh hle)
theorem AQ:∀(xs:List Dat)(k i:Nat),(n4 k xs)[i]?=(xs[i]?).map λx=>.tup [.int (k+i:Nat),x]
 |[],_,_=>by simp[n4]
 |x::xs,k,0=>by simp[n4]
 |x::xs,k,i+1=>by
   simp only[n4,bf];rw[AQ xs (k+1) i]
   congr 2
   funext y;rw[show k+1+i=k+(i+1) by omega]
theorem AO:∀(xs:List Dat)(k:Nat),(n4 k xs).length=xs.length
 |[],_=>rfl
 |x::xs,k=>by simp only[n4,aM,AO xs (k+1)]
def Ke{tp:Bool}{K:Fg}{F1:Hp}{a:ai}{vs:List V}{ds:List Dat}(h:U2 tp K F1 a vs)(r:cy K F1 ds vs):kR K F1 (YZ tp K a) (n4 0 ds):=λF H g s=>by
 have hq:=h.up s g;refine⟨λi d hd=>?_,λi hi=>⟨vs,hq,?_⟩⟩
 ·rw[AQ]at hd
  cases e1:ds[i]? with
  |none=>rw[e1]at hd;cases hd
  |some d1=>
    rw[e1]at hd;cases hd;obtain⟨v1,f1,p1⟩:=r.get e1;refine⟨⟨vs,v1,hq,f1⟩,λx H' y=>?_⟩;obtain⟨T,hT,rfl,x1,q1,rfl⟩:=y;have q3:=aS (f1.symm.trans (q1 vs hq));subst q3;refine⟨_,Step.alloc g hT,⟨T,_,rfl,.inl cw,?_⟩⟩;have sm:bX F1 (upd F T (.tup [.int i,v1])):=s.trans (bX.upd (g.sub.free hT));exact⟨.int i,[v1],rfl,by rw[nD];exact rfl,v1,[],rfl,p1.mono sm,rfl⟩
 ·rw[AO]at hi;rw[r.length];exact hi
def MP{d:Dat}{xs:List Dat}(h:Vo d=a_ xs):∃tp,Pn d=a_ (tp,xs):=by
 cases d with
 |lst ds=>cases h;exact⟨_,rfl⟩
 |tup ds=>cases h;exact⟨_,rfl⟩
 |_=>cases h
noncomputable def QM{elts:List aI}{k:Nat}{tp p:fu}(hg:Gl X "enumerate")(hm:X.mg "enumerate"=b_)(ha:SA X C [a] [xa])(hs:aU [a] X.env=[(d_,eval a X.env)]:=by rfl) :
  SI X C (.Tuple elts k tp) (.Call (.Name "enumerate" p) [a] [] pos) (.enu xa):=λh_ s σ H R I z6=>by
 obtain⟨ρ,items,F,hi,g,RS,kk⟩:=z6;obtain⟨⟨d,fr⟩,h1,h2⟩:=cU hi;obtain⟨xs,h3,h4⟩:=dX h2;subst h4;obtain⟨t1,hx⟩:=MP h3;refine Rr (tp:=t1) hg hm ha hs h_ s σ H R I ⟨ρ,[d],by simp only[j6,h1,af,aK],F,g,RS,λvs F1 H1 st r=>?_⟩;obtain⟨v,w,rfl,r1,e3⟩:=r;cases e3;obtain⟨p1,vs1,rfl,q1,r1'⟩:=FU hx r1;exact⟨p1,rfl,⟨vs1,q1.up (bX.refl _) st.good⟩,kk _ F1 H1 st (Ke q1 r1')⟩
def rE{f:List Dat->g_}{K:Fg}{xs:List V}{H:Hp}{Q:VK}(hf:∀ds d fr,f ds=a_ (d,fr)->ds.length=1)(h:gL K f xs H Q) :
  ∃da d fr F v,f [da]=a_ (d,fr)/\xs=[v]/\Good F H/\Rep K F da v/\∀w F' H',Step F H F' H'->Rep K F' d w->(fr=c_->fi K H H' d w)->Q w H':=by
 obtain⟨ds,d,fr,h1,F,g,r,k⟩:=h
 match ds,hf ds d fr h1 with
 |[da],_=>
   obtain⟨v,w,rfl,rv,rw'⟩:=r;cases rw';exact⟨da,d,fr,F,v,h1,rfl,g,rv,k⟩
def Um{f:Dat->g_}:∀{ds:List Dat}{r:Dat×Bool},b1 f ds=a_ r->ds.length=1
 |[_],_,_=>rfl
 |[],_,h=>by cases h
 |_::_::_,_,h=>by cases h
def ml{b:LP}:∀ds d fr,eD b ds=a_ (d,fr)->ds.length=1:=λds d fr h=>by
 cases b<;>first|exact Um h|cases h
set_option tactic.hygienic true
def G7:jB X (.builtin "len") (gL X.K (eD .len)):=λh_ s σ H xs us Q I r h=>by
 obtain⟨da,d,fr,F,v,h1,rfl,g,rv,k⟩:=rE ml h
 cases da with
 |lst ds=>
   cases h1;obtain⟨p,vs,rfl,t,r'⟩:=rv;refine qv h_ s σ H _ us Q I r ⟨p,vs,rfl,.inl (g.sub.seq t),?_⟩;rw[r'.length];exact k _ F H (Step.refl g) rfl bp
 |tup ds=>
   cases h1;obtain⟨p,vs,rfl,t,r'⟩:=rv;refine qv h_ s σ H _ us Q I r ⟨p,vs,rfl,.inr (t.mono g.sub).sq,?_⟩;rw[r'.length];exact k _ F H (Step.refl g) rfl bp
 |str z=>
   simp only[eD,b1,vf,og,ve,vc,bL,Hs,vg,vd]at h1;split at h1
   ·rename_i hz;cases h1;cases rv;exact yA h_ s σ H _ us Q I r ⟨z,rfl,hz,k _ F H (Step.refl g) rfl bp⟩
   ·cases h1
 |dct ks ds=>
   cases h1;obtain⟨p,k_,rfl,hF,rfl,rr⟩:=rv;obtain⟨u,rfl,ru⟩:=vals1 r;cases ru;refine WE I (.inl (g.sub _ _ hF)) λt s' I'=>⟨.int _,H,I',⟨t,rfl⟩,?_⟩
   have e1:k_.length=(k_.map (·.1)).length:=(ah ..).symm;rw[e1];exact k _ F H (Step.refl g) rfl bp
 |_=>cases h1
def G9:jB X (.type "int") (gL X.K (eD .int)):=λh_ s σ H xs us Q I r h=>by
 obtain⟨da,d,fr,F,v,h1,rfl,g,rv,k⟩:=rE ml h
 cases da with
 |int i=>
   cases h1;cases rv;exact Ha h_ s σ H _ us Q I r (.inl ⟨i,rfl,k _ F H (Step.refl g) rfl bp⟩)
 |bl b=>
   cases h1;cases rv;obtain⟨u,rfl,ru⟩:=vals1 r;cases ru;exact call_int_bool ⟨.int _,H,I.tok _,⟨_,rfl⟩,k _ F H (Step.refl g) rfl bp⟩
 |str x=>
   simp only[eD,b1,vf,og,ve,vc,bL,Hs,vg,vd]at h1;split at h1
   ·rename_i hl;obtain⟨i,h2,h1⟩:=dX h1;cases h1;cases rv;obtain⟨u,rfl,t,rfl⟩:=vals1 r;exact PySem.W.KIN.call_text h2 hl ⟨.int i,H,I.tok _,⟨_,rfl⟩,k _ F H (Step.refl g) rfl bp⟩
   ·cases h1
 |_=>cases h1
set_option tactic.hygienic false
def CT:jB X (.type "list") (gL X.K (eD .list)):=λh_ s σ H xs us Q I r h=>by
 obtain⟨da,d,fr,F,v,h1,rfl,g,rv,k⟩:=rE ml h
 have fin:∀{vs:List V}{ds:List Dat},cy X.K F ds vs->(d,fr)=(Dat.lst ds,iX ds)->∀l,H l=b_->Q (.ref l) (upd H l (.lst vs)):=λ{vs ds}r' e l hl=>by
  cases e;have r2:=r'.mono (bX.upd (o:=.lst vs) (g.sub.free hl));exact k _ _ _ (Step.alloc g hl) ⟨l,vs,rfl,.inl (.inl cw),r2⟩ λz=>.lst (bX.refl _) hl (.j4 g z r')
 cases da with
 |lst ds=>
   obtain⟨p,vs,rfl,t,r'⟩:=rv;exact qu h_ s σ H _ us Q I r ⟨p,vs,rfl,.inl (g.sub.seq t),fin r' (aS h1).symm⟩
 |tup ds=>
   obtain⟨p,vs,rfl,t,r'⟩:=rv;exact qu h_ s σ H _ us Q I r ⟨p,vs,rfl,.inr (t.mono g.sub).sq,fin r' (aS h1).symm⟩
 |_=>cases h1
def A3:jB X (.type "tuple") (gL X.K (eD .tuple)):=λh_ s σ H xs us Q I r h=>by
 obtain⟨da,d,fr,F,v,h1,rfl,g,rv,k⟩:=rE ml h
 cases da with
 |lst ds=>
   cases h1;obtain⟨p,vs,rfl,t,r'⟩:=rv;exact oX h_ s σ H _ us Q I r ⟨p,vs,rfl,.inl ⟨g.sub.seq t,λl hl=>k _ _ _ (Step.alloc g hl) ⟨l,vs,rfl,.inl cw,r'.mono (bX.upd (g.sub.free hl))⟩ bp⟩⟩
 |tup ds=>
   cases h1;obtain⟨p,vs,rfl,t,r'⟩:=rv;exact oX h_ s σ H _ us Q I r ⟨p,vs,rfl,.inr ⟨(t.mono g.sub).sq,k _ F H (Step.refl g) ⟨p,vs,rfl,t,r'⟩ bp⟩⟩
 |_=>cases h1
theorem wW{K:Fg}{F:Hp}:∀{ds:List Dat}{bs:List Bool}{vs:List V}{us:List ab},pC ds=a_ bs->cy K F ds vs->cD vs us->us=bs.map pP
 |[],bs,vs,us,h,r,w=>by
   cases h;rw[show vs=[]from r]at w;cases w;rfl
 |d::ds,bs,vs,us,h,z5,w=>by
   obtain⟨v,r,e,h1,h2⟩:=z5;subst e
   cases d with
   |bl b=>
     simp only[pC]at h;obtain⟨bs',hb,h⟩:=dX h;cases h;cases h1
     cases w with
     |cons q w=>cases q;rw[wW hb h2 w];rfl
   |_=>cases h
def GH{s:ae}{h':bH}{o:fe}(hk:∀b x,b∉[s.heap.objs.size]->(s.heap.push o).get? b=a_ x->h'.get? b=a_ x):∀b x,s.heap.get? b=a_ x->h'.get? b=a_ x:=
 λb x e=>hk b x (λhm=>absurd (hl9 e) (by rw[aF.mp hm];exact bx _)) (hp9 _ e)
def B7(bs:List Bool):((ax bs.length).all λi=>(bs[i]?).getD c_)=bs.all id:=by
 rw[L8,aY,aY];constructor
 ·intro h b hb;obtain⟨i,hi,rfl⟩:=kE hb;have:=h i (aZ.mpr hi);simpa [aj hi]using this
 ·intro h i hi;have hi':=aZ.mp hi;simp only[aj hi',fW];exact h _ (bI hi')
def Hb(hcalm:X.calm=c_):jB X (.builtin "all") (gL X.K (eD .all)):=λh_ s σ H xs us Q I r h=>by
 obtain⟨da,d,fr,F,v,h1,rfl,g,rv,k⟩:=rE ml h
 cases da with
 |lst ds=>
   simp only[eD,b1,vf,og,ve,vc,bL,Hs,vg,vd]at h1;obtain⟨bs,hb,h1⟩:=dX h1;cases h1;obtain⟨p,vs,rfl,t,r'⟩:=rv;obtain⟨its,w1,pl,_⟩:=I.lstR g t;obtain⟨u,rfl,ru⟩:=vals1 r;cases ru;have ei:=wW hb r' w1;have hlt:=pl.lt;refine call_all_walk (ng pl.isList ?_)
   refine⟨s.heap.objs.size,[s.heap.objs.size,p],[s.heap.objs.size],its.toArray.size,_,_,λi=>(bs[i]?).getD c_,rfl,Walks.list (A:=X.A.in1) (I.ok.hd hcalm) _ p (bu hlt) its.toArray,
    ⟨⟨_,aL _ rfl,rfl,rfl⟩,pl.isList.push _⟩,λi v s' Q' E' hP hQ=>?_,λh' tk hk=>?_⟩
   ·subst ei;have hP':(bs.map pP)[i]?=a_ v:=by simpa using hP
    rw[aW]at hP'
    cases hi:bs[i]? with
    |none=>rw[hi]at hP';cases hP'
    |some b=>
      rw[hi]at hP';cases hP';simp only[hi,fW]at hQ;exact dG hQ
   ·have e1:its.toArray.size=bs.length:=by rw[ei];simp
    rw[e1,B7];exact⟨.bl _,H,I.kept (GH hk),rfl,k _ F H (Step.refl g) rfl bp⟩
 |_=>cases h1
noncomputable def OW(o:Lw):List Dat->g_
 |[x,y]=>e8 o x y
 |_=>b_
def Kz{o:Lw}{K:Fg}{xs:List V}{H:Hp}{Q:VK}(h:gL K (OW o) xs H Q) :
  ∃da db d fr F v w,e8 o da db=a_ (d,fr)/\xs=[v,w]/\Good F H/\Rep K F da v/\Rep K F db w/\∀w F' H',Step F H F' H'->Rep K F' d w->(fr=c_->fi K H H' d w)->Q w H':=by
 obtain⟨ds,d,fr,h1,F,g,r,k⟩:=h
 match ds,h1 with
 |[da,db],h1=>
   obtain⟨v,w,rfl,rv,v',w',rfl,rv',e⟩:=r;cases e;exact⟨da,db,d,fr,F,v,v',h1,rfl,g,rv,rv',k⟩
set_option tactic.hygienic true
def CQ(hcalm:X.calm=c_):jB X (.builtin "max") (gL X.K (OW .mx)):=λh_ s σ H xs us Q I r h=>by
 obtain⟨da,db,d,fr,F,v,w,h1,rfl,g,ra,rb,k⟩:=Kz h;cases da<;>cases db<;>simp only[e8,yZ,yF,yE,reduceCtorEq]at h1
 rename_i i j;cases h1;cases ra;cases rb;obtain⟨u,u',rfl,⟨t,rfl⟩,⟨t',rfl⟩⟩:=vals2 r;refine max_two_ints (I.ok.hd hcalm) λh' tk hk=>⟨.int (if i<j then j else i),H,I.kept hk,?_,k _ F H (Step.refl g) rfl bp⟩
 by_cases c:i<j
 ·rw[if_pos c,if_pos (show j > i from c)];exact⟨_,rfl⟩
 ·rw[if_neg c,if_neg (show¬j > i from c)];exact⟨_,rfl⟩
def CP(hcalm:X.calm=c_):jB X (.builtin "min") (gL X.K (OW .mn)):=λh_ s σ H xs us Q I r h=>by
 obtain⟨da,db,d,fr,F,v,w,h1,rfl,g,ra,rb,k⟩:=Kz h;cases da<;>cases db<;>simp only[e8,yZ,yF,yE,reduceCtorEq]at h1
 rename_i i j;cases h1;cases ra;cases rb;obtain⟨u,u',rfl,⟨t,rfl⟩,⟨t',rfl⟩⟩:=vals2 r;refine min_two_ints (I.ok.hd hcalm) λh' tk hk=>⟨.int (if j<i then j else i),H,I.kept hk,?_,k _ F H (Step.refl g) rfl bp⟩
 by_cases c:j<i
 ·rw[if_pos c,if_pos c];exact⟨_,rfl⟩
 ·rw[if_neg c,if_neg c];exact⟨_,rfl⟩
set_option tactic.hygienic false
def IB{x:aV}{p:fu}{id:String}{o:Lw}{e2:aI}(hc:jB X (.builtin id) (gL X.K (OW o)))(hg:Gl X x)(hm:X.mg x=b_)(hv:bootBuiltins x=a_ (.builtin id))(ha:SA X C [e,e2] [xa,xb])(hn:x≠"__name__":=by decide)(hdb:(x == ("__debug__":aV))=d_:=by decide)
  (he:aU [e,e2] X.env=(d_,eval e X.env)::aU [e2] X.env:=by rfl)(hpl:(backTo pos (aU [e2] X.env)).any (·.1)=d_:=by rfl):SE X C (.Call (.Name x p) [e,e2] [] pos) (.bin o xa xb):=
 PE.imp (uy hc hg hm hv ha hn hdb he hpl) (qx λρ d fr h=>by
  obtain⟨⟨da,fa⟩,h1,h⟩:=cU h;obtain⟨⟨db,fb⟩,h2,h⟩:=cU h
  exact⟨[da,db],by simp only[j6,h1,h2,af,aK],h⟩)
end
section
variable{X:Cx}{C:Fs}{a b c e:aI}{xa xb xc:Ex}{pos:fu}{es:List aI}{xs:List Ex}{h_:List (ai×fe)}{σ:St}{F H:Hp}{s:ae}{tg iter:aI}
noncomputable def tyName:Ty->String
 |.int=>"int"
 |.bool=>"bool"
 |.str=>"str"
 |.tuple=>"tuple"
 |.list=>"list"
noncomputable def V9:Dat->String
 |.non=>"NoneType"
 |.bl _=>"bool"
 |.int _=>"int"
 |.str _=>"str"
 |.tup _=>"tuple"
 |.lst _=>"list"
 |.dct _ _=>"dict"
 |.dcn _=>"dict"
def Sr(K:Fg)(t:Ty)(d:Dat):PySem.W.kitOne K (.type (V9 d)) (.type (tyName t))=a_ (Cz t d):=by
 cases t<;>cases d<;>rfl
def X1(K:Fg)(t:Ty):List V->Hp->VK->Prop:=λxs H Q=>∃da F v,xs=[v,.ty (tyName t)]/\Good F H/\Rep K F da v/\Q (.bl (Cz t da)) H
def G8{t:Ty}:jB X (.builtin "isinstance") (X1 X.K t):=λh_ s σ H xs us Q I r h=>by
 obtain⟨da,F,v,rfl,g,rv,q⟩:=h;obtain⟨u,w,rfl,ru,rw'⟩:=vals2 r;obtain rfl:w=.type (tyName t):=rw';have e:=Sr X.K t da;have fin:∀tk,EP X h_ σ Q (.bool (Cz t da)) { s with toks:=tk }:=λtk=>⟨.bl _,H,I.tok tk,rfl,q⟩
 cases da with
 |non=>cases rv;obtain rfl:u=.none:=ru;exact fF PySem.W.kitx_none I.Cu ju e (λz=>nomatch z) fin
 |bl y=>cases rv;obtain rfl:u=.bool y:=ru;exact fF PySem.W.kitx_bool I.Cu ju e (λz=>nomatch z) fin
 |int y=>cases rv;obtain⟨t1,rfl⟩:=ru;exact fF PySem.W.kitx_int I.Cu ju e (λz=>nomatch z) fin
 |str y=>cases rv;obtain⟨t1,rfl⟩:=ru;exact fF PySem.W.kitx_str I.Cu ju e (λz=>nomatch z) fin
 |tup ds=>
   obtain⟨p,vs,rfl,t1,_⟩:=rv;obtain rfl:u=.ref p:=ru;obtain⟨its,_,⟨o,h1,h2,_⟩,_⟩:=I.tupR g t1;exact fF PySem.W.kitx_tuple I.Cu ⟨o,h1,h2⟩ e (λz=>nomatch z) fin
 |lst ds=>
   obtain⟨p,vs,rfl,t1,_⟩:=rv;obtain rfl:u=.ref p:=ru;obtain⟨its,_,⟨o,n,h1,h2,_⟩,_⟩:=I.lstR g t1;exact fF PySem.W.kitx_list I.Cu ⟨o,h1,h2⟩ e (λz=>nomatch z) fin
 |dct ks ds=>
   obtain⟨p,k_,rfl,t1,_⟩:=rv;obtain rfl:u=.ref p:=ru;obtain⟨_,_,_,_,o,es,ep,h1,h2,_⟩:=I.hok p _ (g.sub _ _ t1);exact fF De I.Cu ⟨o,h1,h2.1⟩ e (λz=>nomatch z) fin
 |dcn ks=>
   obtain⟨p,xs,rfl,t1,_⟩:=rv;obtain rfl:u=.ref p:=ru;obtain⟨_,_,o,es,ep,h1,h2,_⟩:=I.hok p _ (g.sub _ _ t1);exact fF De I.Cu ⟨o,h1,h2.1⟩ e (λz=>nomatch z) fin
def QW{x:aV}{p p2:fu}(t:Ty)(hg:Gl X "isinstance")(hm:X.mg "isinstance"=b_)(hg2:Gl X x)(hm2:X.mg x=b_)(hv2:bootBuiltins x=a_ (.type (tyName t)))(ha:SE X C a xa)(hn:x≠"__name__":=by decide)(hdb:(x == ("__debug__":aV))=d_:=by decide)
  (he:aU [a,.Name x p2] X.env=(d_,eval a X.env)::aU [.Name x p2] X.env:=by rfl)(hpl:(backTo pos (aU [.Name x p2] X.env)).any (·.1)=d_:=by rfl) :
  SE X C (.Call (.Name "isinstance" p) [a,.Name x p2] [] pos) (.blt (.isi t) [xa]):=
 PE.imp (uy G8 hg hm (by decide +kernel:bootBuiltins "isinstance"=a_ (.builtin "isinstance")) (tH ha (tH (Nu hg2 hm2 hv2 (v:=.ty (tyName t)) rfl hn hdb) Cg) he) (by decide) (by decide) he hpl) λσ H Q z3=>by
  obtain⟨ρ,d,fr,h,F,g,R,k⟩:=z3;obtain⟨ds,h1,h2⟩:=cU h;obtain⟨⟨da,fa⟩,h3,h1⟩:=cU h1;cases h1;cases h2;exact⟨ρ,da,fa,h3,F,g,R,λv F1 H1 st r _=>⟨da,F1,v,rfl,st.good,r,k _ F1 H1 st rfl bp⟩⟩
def AZ{o o':Hf}:∀σ H Q,gE X.K C (.TR o o' xa xb xc) σ H Q->BP (gB X.K (mj o)) (gB X.K (mj o')) (gE X.K C xa) (gE X.K C xb) (gE X.K C xc) σ H Q:=λσ H Q z3=>by
 obtain⟨ρ,d,fr,h,F,g,R,k⟩:=z3;obtain⟨⟨da,fa⟩,h1,h⟩:=cU h;obtain⟨⟨db,fb⟩,h2,h⟩:=cU h;obtain⟨r,h3,h⟩:=cU h;refine⟨ρ,da,fa,h1,F,g,R,λv F1 H1 ee r1 _=>⟨ρ,db,fb,h2,F1,ee.good,R.mono ee.ff,λw F2 H2 iu r2 _=>?_⟩⟩;refine⟨da,db,.bl r,d_,by show(dF o da db).map _=_;rw[h3];rfl,F2,iu.good,r1.mono iu.ff,r2,λu F3 H3 oo r3 _=>⟨r,r3,?_⟩⟩
 cases r with
 |true=>
   refine Cw ?_;obtain⟨⟨dc,fc⟩,h4,h⟩:=cU h;refine⟨ρ,dc,fc,h4,F3,oo.good,R.mono ((ee.ff.trans iu.ff).trans oo.ff),λy F4 H4 st4 r4 _=>?_⟩;exact⟨db,dc,d,fr,h,F4,st4.good,r2.mono (oo.ff.trans st4.ff),r4,λu F5 H5 st5 r5 f5=>k u F5 H5 ((((ee.trans iu).trans oo).trans st4).trans st5) r5 λz=>(f5 z).back (F:=F) (((ee.hh.trans iu.hh).trans oo.hh).trans st4.hh)⟩
 |false=>
   refine Cy ?_;cases h;exact k _ F3 H3 ((ee.trans iu).trans oo) rfl bp
end
theorem wC:∀{us:List ab}{is:List Int},kU us is->cD (is.map V.int) us
 |_,_,.nil=>.nil
 |_,_,.cons n t h=>.cons ⟨t,rfl⟩ (wC h)
theorem vZ:∀{us:List ab}{is:List aV},lS us is->cD (is.map V.str) us
 |_,_,.nil=>.nil
 |_,_,.cons n t h=>.cons ⟨t,rfl⟩ (vZ h)
theorem XW{K:Fg}{F:Hp}:∀(is:List Int),cy K F (is.map Dat.int) (is.map V.int)
 |[]=>rfl
 |i::is=>⟨_,_,rfl,rfl,XW is⟩
theorem XU{K:Fg}{F:Hp}:∀(is:List aV),cy K F (is.map Dat.str) (is.map V.str)
 |[]=>rfl
 |i::is=>⟨_,_,rfl,rfl,XU is⟩
theorem Wh:∀(is:List Int),iX (is.map Dat.int)=c_
 |[]=>rfl
 |i::is=>by rw[ag];simp only[iX,im,jk];exact Wh is
theorem Wg:∀(is:List aV),iX (is.map Dat.str)=c_
 |[]=>rfl
 |i::is=>by rw[ag];simp only[iX,im,jk];exact Wg is
section
variable{prog:aP}{w:bo}{A:br}{E:ab->ae->Prop}{s:ae}
end
section
variable{X:Cx}{C:Fs}{a:aI}{xa:Ex}
end
section
variable{X:Cx}{C:Fs}{elt iter tg:aI}{it:Iw}{xe:Ex}{xs:List Ex}{ifs:List aI}{scope:fP}{pos:fu}{tn cn:List aV}{caps:List Nat}{g:TG}{one:Bool}
def MW(hcalm:X.calm=c_)(S:jq X scope tn cn caps)(hi:SI X C tg iter it)(touch:oZ tn.length g)(tgc:UA X.K tn.length one g)
  (hg:∀(cl:List (aV×ai))(s₂:ae)(H₂:Hp)(Ca:ai)(ex:List ai),PG (eO X scope cl (tn++cn) s₂ H₂ Ca ex) tg g)
  (ht:∀(cl:List (aV×ai))(s₂:ae)(H₂:Hp)(Ca:ai)(ex:List ai),LJ (eO X scope cl (tn++cn) s₂ H₂ Ca ex) ifs (UX X.K C xs))
  (he:∀(cl:List (aV×ai))(s₂:ae)(H₂:Hp)(Ca:ai)(ex:List ai),SE (eO X scope cl (tn++cn) s₂ H₂ Ca ex) C elt xe)
  (hs:∀x,foldedSetIterable iter X.env x=pure x:=by intro _;rfl):SE X C (.ListComp elt [⟨tg,iter,ifs,0⟩] scope pos) (.comp tn.length one caps it xs xe):=
 PE.imp (Nq hcalm S hi hg touch ht he hs) (wQ tgc λ_ _ _=>trivial)
def BS{i:Nat}{x:aV}{pos' spos:fu}(hN:X.N.Nodup)(hi':X.N[i]?=a_ x)(hx:Loc X.env.scope x)(hcalm:X.calm=c_)(S:jq X scope tn cn caps)(hi:SI X C tg iter it)(touch:oZ tn.length g)(tgc:UA X.K tn.length one g)
  (hg:∀(cl:List (aV×ai))(s₂:ae)(H₂:Hp)(Ca:ai)(ex:List ai),PG (eO X scope cl (tn++cn) s₂ H₂ Ca ex) tg g)
  (ht:∀(cl:List (aV×ai))(s₂:ae)(H₂:Hp)(Ca:ai)(ex:List ai),LJ (eO X scope cl (tn++cn) s₂ H₂ Ca ex) ifs (UX X.K C xs))
  (he:∀(cl:List (aV×ai))(s₂:ae)(H₂:Hp)(Ca:ai)(ex:List ai),SE (eO X scope cl (tn++cn) s₂ H₂ Ca ex) C elt xe)
  (hsw:swapsWith (.ListComp elt [⟨tg,iter,ifs,0⟩] scope pos) (a_ (.Name x pos')) spos.line X.env=pure c_:=by rfl)
  (hs:∀x,foldedSetIterable iter X.env x=pure x:=by intro _;rfl)(hf:X.fn x=c_\/X.env.scope.names.lookup x=a_ .local:=by first|exact .inl rfl|exact .inr rfl|assumption) :
  SS X C (.Assign [.Name x pos'] (.ListComp elt [⟨tg,iter,ifs,0⟩] scope pos) spos) (.set i (.comp tn.length one caps it xs xe)):=
 PS.imp (B9 hN hi' hx hcalm S hi hg touch ht he hsw hs hf) (zC (wQ tgc λ_ _ _=>trivial))
end
def Uy(K:Fg)(one:Bool)(ts:List Nat)(g:TG):Prop:=∀Fz H₀ F H σ ρ d x ρ1 Q,Rl K Fz H₀ F H σ ρ->Rep K F d x->dC one ts d ρ=a_ ρ1->(∀σ1,Rl K Fz H₀ F H σ1 ρ1->Q σ1 H)->g x σ H Q
def Mh{K:Fg}{i:Nat}:Uy K c_ [i] (km i):=λFz H₀ F H σ ρ d x ρ1 Q R r hb k=>by
 simp only[dC,je]at hb;subst hb;exact k _ (R.ue r)
noncomputable def Xn:List Nat->Hd
 |[]=>GQ
 |i::is=>wF (km i) (Xn is)
theorem Kx{K:Fg}{Fz H₀ F H:Hp}{Q:St->Hp->Prop}:∀(ts:List Nat){σ:St}{ρ:cF},Rl K Fz H₀ F H σ ρ->∀ds:List Dat,ds.length=ts.length->(∀σ1,Rl K Fz H₀ F H σ1 (ot ts ds ρ)->Q σ1 H)->∀vs,cy K F ds vs->Xn ts vs σ H Q
 |[],σ,ρ,R,ds,hz,k,vs,r=>by
   cases ds with
   |nil=>exact⟨r,k _ R⟩
   |cons _ _=>cases hz
 |i::is,σ,ρ,R,ds,hz,k,vs,r=>by
   cases ds with
   |nil=>cases hz
   |cons d ds=>
     obtain⟨v,w,e,r1,r2⟩:=r;subst e;exact⟨v,w,rfl,Kx is (R.ue r1) ds (by simpa using hz) k w r2⟩
set_option tactic.hygienic true in
def HY{K:Fg}{ts:List Nat}:Uy K d_ ts (Kw K ts.length (Xn ts)):=λFz H₀ F H σ ρ d x ρ1 Q R r hb k=>by
 simp only[dC]at hb
 cases d with
 |tup ds=>
   dsimp only at hb;split at hb
   ·rename_i hz;cases hb;obtain⟨a,vs,rfl,t,r⟩:=r;refine⟨a,vs,rfl,(t.mono R.step.good.sub).sq,by rw[r.length];exact hz,?_⟩;exact Kx ts R ds hz k vs r
   ·cases hb
 |_=>cases hb
section
variable{X:Cx}{C:Fs}{iter tg e:aI}{it:Iw}{xe:Ex}{body:List jw}{xs:List Sx}{pos:fu}{g:TG}{one:Bool}{ts:List Nat}
def KO{K:Fg}{Fz H₀ F H:Hp}{σ:St}{ρ ρ':cF}{items:List Dat}{es:List Ex}(R:Rl K Fz H₀ F H σ ρ)(h:Tr C (.rng es) ρ=a_ (items,ρ')){Q:It->Hp->Prop}
  (k:∀J F1 H1,bX F F1->Rl K Fz H₀ F1 H1 σ ρ'->kR K (uS (.rng es) F1) J items->Q J H1):gI K C (.rng es) σ H Q:=by
 simp only[Tr]at h;obtain⟨ds,h1,h⟩:=dX h;cases h;obtain⟨Fp,sp,Rp⟩:=R.jO;refine⟨_,_,Fp,h1,Rp.step.good,Rp.full,λJ F1 H1 st ok=>?_⟩;have stS:=Step.shrink R.step.good sp st;exact k J _ H1 stS.ff (R.moved stS) ok
def AM{K:Fg}{Fz H₀ F H:Hp}{σ:St}{ρ ρ':cF}{items:List Dat}{is:List Nat}(R:Rl K Fz H₀ F H σ ρ)(h:(tU C it (rZ (ka is ρ))).map (λds=>(ds,ka is ρ))=a_ (items,ρ')){Q:It->Hp->Prop}
  (k:∀J F1 H1,bX F F1->Rl K Fz H₀ F1 H1 σ ρ'->kR K (uS it F1) J items->Q J H1):gI K C it σ H Q:=by
 obtain⟨ds,h1,h⟩:=dX h;cases h;obtain⟨F2,s2,R2⟩:=R.freeze is;exact⟨_,_,F2,h1,R2.step.good,R2.rZ,λJ F1 H1 st ok=>k J F1 H1 (s2.trans st.ff) (R2.moved st) ok⟩
def qa{K:Fg}{Fz H₀ F F0 F1 H1:Hp}{σ:St}{ρ':cF}{items:List Dat}{out:Out}{D:Ends}{J:It}(tgs:Uy K one ts g)(s1:bX F F1)(R1:Rl K Fz H₀ F1 H1 σ ρ')(le:∀F2,bX F1 F2->bX F0 F2)(ok:kR K F0 J items)
  (h:dn (dC one ts) (bN C xs) items ρ'=a_ out)(k:uP K Fz H₀ F D out):∃W:Nat->Nat->St->Hp->Prop,(∃m,W 0 m σ H1)/\∀i m σ H,W i m σ H->
   (J.stop i H/\D.nx σ H)\/(J.go i H/\∃N:St->Hp->Prop,(∀σ' H',N σ' H'->∃m',m'<m/\W (i+1) m' σ' H')/\∀x H',J.yld i H x H'->g x σ H' λσ2 H2=>Zd K C xs { D with nx:=N,ct:=N,bk:=D.nx } σ2 H2):=by
 refine⟨λi m σ H=>∃F ρ,Rl K Fz H₀ F H σ ρ/\bX F1 F/\dn (dC one ts) (bN C xs) (items.drop i) ρ=a_ out/\m=items.length - i/\i<=items.length,⟨items.length,F1,ρ',R1,bX.refl _,h,rfl,bY _⟩,?_⟩;rintro i m σ2 H2 ⟨F2,ρ2,R2,s2,hl,rfl,hi'⟩;obtain⟨okg,VS⟩:=ok F2 H2 R2.step.good (le F2 s2);by_cases hlt:i<items.length
 ·obtain⟨go,yl⟩:=okg i items[i] (aj hlt);refine .inr ⟨go,λσ' H'=>∃m',m'<items.length - i/\∃F ρ,Rl K Fz H₀ F H' σ' ρ/\bX F1 F/\dn (dC one ts) (bN C xs) (items.drop (i+1)) ρ=a_ out/\m'=items.length - (i+1)/\i+1<=items.length,λσ' H' z=>z,λx H3 y3=>?_⟩;obtain⟨F3,oo,r3⟩:=yl x H3 y3;rw[i8 hlt]at hl;simp only[dn]at hl;obtain⟨ρ3,hb3,hl⟩:=cU hl;obtain⟨o,ho,hl⟩:=cU hl;refine tgs Fz H₀ F3 H3 σ2 ρ2 _ x ρ3 _ (R2.moved oo) r3 hb3 λσ4 R4=>?_;have sAll:bX F1 F3:=s2.trans oo.ff;refine⟨Fz,H₀,F3,ρ3,o,ho,R4,?_⟩
  cases o with
  |nx ρ5=>exact λF5 H5 σ5 s5 R5=>⟨items.length - (i+1),by omega,F5,ρ5,R5,sAll.trans s5,hl,rfl,hlt⟩
  |ct ρ5=>exact λF5 H5 σ5 s5 R5=>⟨items.length - (i+1),by omega,F5,ρ5,R5,sAll.trans s5,hl,rfl,hlt⟩
  |bk ρ5=>
    cases hl;exact λF5 H5 σ5 s5 R5=>k F5 H5 σ5 ((s1.trans sAll).trans s5) R5
  |rt d fr=>
    cases hl;exact k
 ·have e:i=items.length:=by omega
  subst e;rw[LG]at hl;simp only[dn]at hl;cases hl;exact .inl ⟨VS _ (aC _),k F2 H2 σ2 (s1.trans s2) R2⟩
def BU(hp:Hh (aB X.prog X.w) X.A X.env X.xe)(hc:X.calm=c_)(hi:SI X C tg iter it)(hni:∀a,it≠.itv a)(hg:PG X tg g)(tgs:Uy X.K one ts g)(hb:O2 X C body xs)
  (hs:∀x,foldedSetIterable iter X.env x=pure x:=by intro _;rfl):SS X C (.For tg iter body [] pos) (.loop one ts it xs):=
 PS.imp (Jc hp hc hi hg hb hs) λD σ H z3=>by
  obtain⟨Fz,H₀,F,ρ,out,h,R,k⟩:=z3;obtain⟨⟨items,ρ'⟩,h1,h⟩:=cU h;have fin:∀J F1 H1,bX F F1->Rl X.K Fz H₀ F1 H1 σ ρ'->kR X.K (uS it F1) J items->_:=λJ F1 H1 s1 R1 ok=>qa (D:=D) tgs s1 R1 (λF2 s=>AD s) ok h k
  cases it with
  |itv a=>exact absurd rfl (hni a)
  |rng es=>exact KO R h1 fin
  |zip es=>exact AM R h1 fin
  |enu a=>exact AM R h1 fin
def Mx{xe:Ex}(hp:Hh (aB X.prog X.w) X.A X.env X.xe)(hc:X.calm=c_)(he:SE X C iter xe)(hg:PG X tg g)(tgs:Uy X.K one ts g)(hb:O2 X C body xs)
  (hs:∀x,foldedSetIterable iter X.env x=pure x:=by intro _;rfl):SS X C (.For tg iter body [] pos) (.loop one ts (.itv xe) xs):=
 PS.imp (Jc hp hc (PI.or (PI.or (DX he) (Jg he)) (Jh he)) hg hb hs) λD σ H z3=>by
  obtain⟨Fz,H₀,F,ρ,out,h,R,k⟩:=z3;obtain⟨⟨items,ρ'⟩,h1,h⟩:=cU h;obtain⟨⟨d,fr,ρ1⟩,h2,h3⟩:=cU h1;obtain⟨ds,h4,h5⟩:=dX h3;cases h5
  cases d with
  |lst es=>
    cases h4;refine .inl (.inl (yo R h2 λv Fm F' H' sm Rm st r f=>?_));obtain⟨p,vs,rfl,t,rr⟩:=r;exact⟨p,rfl,⟨vs,st.good.sub.seq t⟩,qa (D:=D) tgs (sm.trans st.ff) (Rm.moved st) (λF2 s=>s) (wz t rr) h k⟩
  |tup es=>
    cases h4;refine .inl (.inr (yo R h2 λv Fm F' H' sm Rm st r f=>?_));obtain⟨p,vs,rfl,t,rr⟩:=r;exact⟨p,rfl,⟨vs,(t.mono st.good.sub).sq⟩,qa (D:=D) tgs (sm.trans st.ff) (Rm.moved st) (λF2 s=>s) (Ah t rr) h k⟩
  |str x=>
    cases h4;refine .inr (yo R h2 λv Fm F' H' sm Rm st r f=>?_);cases r;exact⟨x,rfl,qa (D:=D) tgs (sm.trans st.ff) (Rm.moved st) (λF2 s=>s) Ai h k⟩
  |_=>cases h4
set_option tactic.hygienic true in
def Qx{tgt:aI}{tg':TG}(he:SE X C e xe)(tgs:Uy X.K d_ ts tg')(hg:PG X tgt tg')
  (hs:swapsWithSole [tgt] e pos.line X.env=pure d_:=by rfl)(hw:swappedStores [tgt] e X.env=pure b_:=by rfl)(h1:(assignEach [tgt] X.env).map (·.2)=[assign tgt X.env]:=by rfl):SS X C (.Assign [tgt] e pos) (.Mg ts xe):=
 PS.imp (Cb he hg hs hw h1) λD σ H z3=>by
  obtain⟨Fz,H₀,F,ρ,out,h,R,k⟩:=z3;obtain⟨⟨d,fr,ρ'⟩,h1,h⟩:=cU h
  cases d with
  |tup ds=>
    have h:(if ds.length=ts.length then a_ (Out.nx (ot ts ds ρ'))else b_)=a_ out:=h;split at h
    ·rename_i hz;cases h;refine yo R h1 λv Fm F' H' sm Rm st r f=>?_;refine tgs Fz H₀ F' H' σ ρ' (.tup ds) v (ot ts ds ρ') _ (Rm.moved st) r ?_ λσ1 R1=>k F' H' σ1 (sm.trans st.ff) R1;simp only[dC];rw[if_pos hz]
    ·cases h
  |_=>cases h
end
section
variable{P:aP}{w:bo}{K:Fg}{mg:aV->Option ab}{base:bH}
set_option tactic.hygienic true in
def Tg{x qual:aV}{st:jw}{f:ai}{fd:en}{N ps:List aV}{k:Nat}{C:Fs}{body:List Sx}(F:Xv K x qual st f fd)(S:qA N ps (dI st))(hNp:ps.length<=N.length)
  (hbody:∀(cdv:ab)(A:br)(outer:List vq)(s:ae)(H:Hp)(E:XK),mr k (A.deeper (envOfC qual (dI st) s.heap.objs.size f cdv))->
   O2 (AV Fi P w K mg base N qual (dI st) f cdv A outer s H E).UO C (oD st) body):mR P w K mg base Fi (k+1) f fd ps (Pl K ps.length (Ov C ps.length N.length body)):=by
 refine F.ok S (λvs H Q E h=>h.1) λcdv A outer s H vs Q E hr h=>⟨_,hbody cdv A outer s H E hr,?_⟩
 obtain⟨hl,ds,d,fr,he,Fz,g,r,kq⟩:=h;unfold Ov at he;split at he
 ·rename_i hn;obtain⟨o,ho,he⟩:=cU he;refine⟨Fz,H,Fz,_,o,ho,⟨Step.refl g,?_,λi d' q=>?_,λ_=>[],λi d' q=>?_,λi j d1 d2 hij q1 q2=>?_⟩,?_⟩
  ·unfold L2.start;simp[hl,hn]
  ·have hi:i<ds.length:=by
    by_cases hi:i<ds.length
    ·exact hi
    ·rw[cP (by simpa using hi),dP]at q;split at q<;>cases q
   rw[cv (by simpa using hi),aW]at q;obtain⟨d2,e1,e2⟩:=dX q;cases e2;obtain⟨v,e3,e4⟩:=r.get e1;refine⟨v,?_,e4⟩;unfold L2.start;rw[cv (by simp;omega),aW,e3];rfl
  ·exfalso;by_cases hi:i<ds.length
   ·rw[cv (by simpa using hi),aW]at q;obtain⟨d2,e1,e2⟩:=dX q;cases e2
   ·rw[cP (by simpa using hi),dP]at q;split at q<;>cases q
  ·exfalso;by_cases hi:i<ds.length
   ·rw[cv (by simpa using hi),aW]at q1;obtain⟨d2,e1,e2⟩:=dX q1;cases e2
   ·rw[cP (by simpa using hi),dP]at q1;split at q1<;>cases q1
  ·cases o with
   |nx ρ'=>
     cases he;exact λF' H' σ' s' R=>kq _ F' H' R.step rfl bp
   |rt d' fr'=>
     cases he;exact kq
   |bk _=>cases he
   |ct _=>cases he
 ·cases he
end
theorem cY.take{K:Fg}{H:Hp}:∀(n:Nat){ds:List Dat}{vs:List V}{S:List ai},cY K H ds vs S->∃S1 S2,cY K H (ds.take n) (vs.take n) S1/\cY K H (ds.drop n) (vs.drop n) S2/\S=S1++S2
 |0,ds,vs,S,h=>⟨[],S,⟨rfl,rfl⟩,h,rfl⟩
 |n+1,[],vs,S,h=>by
   obtain⟨rfl,rfl⟩:=h;exact⟨[],[],⟨rfl,rfl⟩,⟨rfl,rfl⟩,rfl⟩
 |n+1,d::ds,vs,S,z4=>by
   obtain⟨v,r,S1,S2,e,h1,h2,q⟩:=z4;subst e q;obtain⟨T1,T2,g1,g2,g3⟩:=cY.take n h2;exact⟨S1++T1,T2,⟨v,r.take n,S1,T1,rfl,h1,g1,rfl⟩,g2,by rw[g3,cC]⟩
theorem cY.setAt{K:Fg}{H:Hp}{d':Dat}{v':V}{T:List ai}(h':mC K H d' v' T):∀(n:Nat){ds:List Dat}{vs:List V}{S:List ai},n<ds.length->cY K H ds vs S->∃S1 S2 S3,cY K H (ds.set n d') (vs.set n v') (S1++T++S3)/\S=S1++S2++S3
 |n,[],vs,S,hn,h=>absurd hn (by simp)
 |0,d::ds,vs,S,_,z5=>by
   obtain⟨v,r,S1,S2,e,h1,h2,q⟩:=z5;subst e q;exact⟨[],S1,S2,⟨v',r,T,S2,rfl,h',h2,by simp⟩,by simp⟩
 |n+1,d::ds,vs,S,hn,z5=>by
   obtain⟨v,r,S1,S2,e,h1,h2,q⟩:=z5;subst e q;obtain⟨T1,T2,T3,g1,g2⟩:=cY.setAt h' n (by simpa using hn) h2;refine⟨S1++T1,T2,T3,⟨v,r.set n v',S1,T1++T++T3,rfl,h1,g1,by simp⟩,by rw[g2];simp⟩
section
variable{K:Fg}{Fz H₀ F H F' H':Hp}{σ:St}{ρ:cF}
def Rl.mut{i:Nat}{d d':Dat}{v:V}{S':List ai}{l:ai}{o':HO}{Ss:Nat->List ai}(R:Rl K Fz H₀ F H σ ρ)(O:Ow K H₀ F H σ ρ Ss)(hi:ρ[i]?=a_ (a_ (d,c_)))(hσ:σ[i]?=a_ (a_ v))
  (hl:l∈Ss i)(mu:Lv o')(o:mC K (upd H l o') d' v S')(nd:S'.Nodup)(hS:∀a∈S',a∈Ss i\/(F a=b_/\H₀ a=b_/\∀(j:Nat)d2,ρ[j]?=a_ (a_ (d2,c_))->a∉Ss j)) :
  Rl K Fz H₀ F (upd H l o') σ (ρ.set i (a_ (d',c_))):=by
 obtain⟨w,e1,e2,e3,e4⟩:=O.own i d hi;have hF:F l=b_:=(e4 l hl).1;have h0:H₀ l=b_:=(e4 l hl).2;obtain⟨ol,hol,mul⟩:=e2.yX _ l hl;have nt:∀vs,H l≠a_ (.tup vs):=λvs z=>by rw[hol]at z;cases z;exact mul
 refine⟨⟨⟨λa u q=>?_,λa us q=>?_⟩,R.step.ff,λa u q=>?_,R.step.un⟩,by simpa using R.len,λj d2 q=>?_,λj=>if j=i then S' else Ss j,λj d2 q=>?_,λj k d1 d2 hjk q1 q2=>?_⟩
 ·rw[cH (dY q hF)];exact R.step.good.sub a u q
 ·by_cases ha:a=l
  ·subst ha;rw[cw]at q;cases q;exact mu.elim
  ·rw[cH ha]at q;exact R.step.good.tup a us q
 ·rw[cH (dY q h0)];exact R.step.hh a u q
 ·rcases ik q with⟨rfl,e⟩|⟨hne,q'⟩
  ·cases e
  ·exact R.val j d2 q'
 ·rcases ik q with⟨rfl,e⟩|⟨hne,q'⟩
  ·cases e;rw[if_pos rfl];refine⟨v,hσ,o,nd,λa m=>?_⟩
   rcases hS a m with m|m
   ·exact e4 a m
   ·exact⟨m.1,m.2.1⟩
  ·rw[if_neg (eZ hne)];obtain⟨w,g1,g2,g3,g4⟩:=O.own j d2 q';exact⟨w,g1,g2.upd nt d2 (O.sep i j d d2 hne hi q' l hl),g3,g4⟩
 ·intro a m
  rcases ik q1 with⟨rfl,e⟩|⟨h1,q1'⟩
  ·rw[if_pos rfl]at m
   rcases ik q2 with⟨e2,_⟩|⟨h2,q2'⟩
   ·exact absurd e2 hjk
   ·rw[if_neg (eZ h2)]
    rcases hS a m with m|m
    ·exact O.sep _ k d d2 h2 hi q2' a m
    ·exact m.2.2 k d2 q2'
  ·rw[if_neg (eZ h1)]at m
   rcases ik q2 with⟨rfl,e⟩|⟨h2,q2'⟩
   ·rw[if_pos rfl];intro m2
    rcases hS a m2 with m2|m2
    ·exact O.sep _ j d d1 h1 hi q1' a m2 m
    ·exact m2.2.2 j d1 q1' m
   ·rw[if_neg (eZ h2)];exact O.sep j k d1 d2 hjk q1' q2' a m
def Step.U8{S:List ai}{ds:List Dat}{vs:List V}(st:Step F H F' H')(g:Good F H)(hS:∀a∈S,H a=b_)(o:cY K H' ds vs S):Step F H (uz F' S) H':=by
 refine⟨⟨λa o' q=>?_,λa vs q=>?_⟩,λa o' q=>?_,st.hh,λa o' q n=>?_⟩
 ·by_cases m:a∈S
  ·rw[vX m]at q;cases q
  ·rw[nM m]at q;exact st.good.sub a o' q
 ·rw[nM λm=>?_]
  ·exact st.good.tup a vs q
  ·obtain⟨u,hu,mu⟩:=o.yX _ a m;rw[q]at hu;cases hu;exact mu
 ·rw[nM λm=>?_]
  ·exact st.ff a o' q
  ·rw[g.sub.free (hS a m)]at q;cases q
 ·by_cases m:a∈S
  ·exact vX m
  ·rw[nM m];exact st.un a o' q n
def yp{C:Fs}{es:List Ex}{ds:List Dat}(R:Rl K Fz H₀ F H σ ρ)(h:mf C es (M.full ρ)=a_ (ds,c_)){Q:List V->Hp->Prop}
  (k:∀vs F' H' S,Step F H F' H'->cY K H' ds vs S->S.Nodup->(∀a∈S,H a=b_/\F' a=b_)->Q vs H'):gF K C es σ H Q:=by
 obtain⟨Fp,sp,Rp⟩:=R.jO;refine⟨_,ds,c_,h,Fp,Rp.step.good,Rp.full,λvs F1 H1 st r f=>?_⟩;obtain⟨S,n,e1,o⟩:=f rfl;have stS:=Step.shrink R.step.good sp st;exact k vs _ H1 S (Step.U8 stS R.step.good e1 o) o n λa m=>⟨e1 a m,vX m⟩
end
noncomputable def SG:V->Option Key
 |.int i=>a_ (.inl i)
 |.str x=>a_ (.inr x)
 |_=>b_
def SD{v:V}{k:Key}(h:SG v=a_ k):v=kV k:=by
 cases v<;>first|(cases h;rfl)|cases h
def N5(k:Key):SG (kV k)=a_ k:=by cases k<;>rfl
noncomputable def qT(k:Key)(y:V):List (Key×V)->List (Key×V)
 |[]=>[(k,y)]
 |p::r=>if p.1=k then(p.1,y)::r else p::qT k y r
theorem DM{k:Key}{y:V}:∀(r:List (Key×V)),(r.any λkv=>decide (kv.1=k))=d_->r.map (λkv=>if kv.1=k then(kv.1,y)else kv)=r
 |[],_=>rfl
 |p::r,h=>by
   rw[fQ,Bool.or_eq_false_iff]at h;rw[ag,if_neg (of_decide_eq_false h.1),DM r h.2]
theorem DT{k:Key}{y:V}:∀(k_:List (Key×V)),Jx k (k_.map (·.1))=c_->putK k_ k y=qT k y k_
 |[],_=>rfl
 |p::r,h=>by
   simp only[ag,Jx]at h;by_cases e:p.1=k
   ·rw[if_pos e]at h
    have h2:(r.any λkv=>decide (kv.1=k))=d_:=by
     simp only[iE]at h;rw[List.any_map]at h;exact h
    unfold putK qT;rw[if_pos e,if_pos (by rw[fQ,decide_eq_true e];rfl),ag,if_pos e,DM r h2]
   ·rw[if_neg e]at h;have ih:=DT (y:=y) r h;unfold qT;rw[if_neg e,<-ih];unfold putK;rw[fQ,decide_eq_false e,yU];split
    ·rw[ag,if_neg e]
    ·rfl
theorem wg{k:Key}{y:V}{d:Dat}:∀(k_:List (Key×V))(ds:List Dat),ds.length=k_.length->(qT k y k_).map (·.1)=(putD k d (k_.map (·.1)) ds).1
 |[],ds,h=>by
   cases ds with
   |nil=>rfl
   |cons _ _=>cases h
 |p::r,[],h=>by cases h
 |p::r,e::ds,h=>by
   have ih:=wg (k:=k) (y:=y) (d:=d) r ds (by simpa using h);simp only[qT,ag,putD];by_cases q:p.1=k
   ·rw[if_pos q,if_pos q];rfl
   ·rw[if_neg q,if_neg q,ag,ih]
theorem cY.put{K:Fg}{H:Hp}{k:Key}{d:Dat}{y:V}{T:List ai}(o:mC K H d y T)(nT:T.Nodup):∀(k_:List (Key×V)) (ds:List Dat) (S:List ai),cY K H ds (k_.map (·.2)) S->S.Nodup->(∀a∈S,a∉T)->
  ∃S',cY K H (putD k d (k_.map (·.1)) ds).2 ((qT k y k_).map (·.2)) S'/\S'.Nodup/\∀a∈S',a∈S\/a∈T
 |[],[],S,os,nS,dj=>⟨T,.one o,nT,λa m=>.inr m⟩
 |[],e::ds,S,os,nS,dj=>by
   obtain⟨v,r,S1,S2,q,_⟩:=os;cases q
 |p::r,[],S,os,nS,dj=>by
   obtain⟨q,_⟩:=os;cases q
 |p::r,e::ds,S,os,nS,dj=>by
   obtain⟨v,r',S1,S2,q,o1,o2,rfl⟩:=os;cases q;have n1:=cR.mp nS;simp only[qT,ag,putD];by_cases q:p.1=k
   ·rw[if_pos q,if_pos q];refine⟨T++S2,⟨y,r.map (·.2),T,S2,rfl,o,o2,rfl⟩,cR.mpr ⟨nT,n1.2.1,λa m b m2 z=>dj b (ak _ m2) (z▸m)⟩,λa m=>?_⟩
    rcases az.mp m with m|m
    ·exact .inr m
    ·exact .inl (ak _ m)
   ·rw[if_neg q,if_neg q];obtain⟨S',g1,g2,g3⟩:=cY.put (k:=k) o nT r ds S2 o2 n1.2.1 λa m=>dj a (ak _ m);refine⟨S1++S',⟨p.2,(qT k y r).map (·.2),S1,S',rfl,o1,g1,rfl⟩,cR.mpr ⟨n1.1,g2,λa m b m2 z=>?_⟩,λa m=>?_⟩
    ·subst z
     rcases g3 a m2 with z|z
     ·exact n1.2.2 a m a z rfl
     ·exact dj a (aJ _ m) z
    ·rcases az.mp m with m|m
     ·exact .inl (aJ _ m)
     ·rcases g3 a m with z|z
      ·exact .inl (ak _ z)
      ·exact .inr z
noncomputable def xQ:HO->List V->Option HO
 |.lst xs,[y]=>if xs.length<aE then a_ (.lst (xs++[y]))else b_
 |_,_=>b_
noncomputable def xP:HO->List V->Option HO
 | .lst xs,l=>match l with
   |[.int i,y]=>if xs.length<aE/\-1000000<=i/\i<=1000000 then a_ (.lst (insI y i xs))else b_
   |_=>b_
 |_,_=>b_
noncomputable def xO:HO->List V->Option HO
 | .lst xs,l=>match l with
   |[y,.int i]=>if -1000000<=i/\i<=1000000 then(xG y i xs).map .lst else b_
   |_=>b_
 | .dK k_,l=>match l with
   |[y,v]=>(SG v).bind λk=>if k_.length<aE then a_ (.dK (putK k_ k y))else b_
   |_=>b_
 |_,_=>b_
noncomputable def Bt:xm->HO->List V->Option HO
 |.app,a,l=>xQ a l
 |.ins,a,l=>xP a l
 |.seti,a,l=>xO a l
 |_,_,_=>b_
def lY{S T:List ai}(nd:(S++T).Nodup):S.Nodup/\T.Nodup/\∀a∈S,a∉T:=by
 obtain⟨h1,h2,h3⟩:=cR.mp nd;exact⟨h1,h2,λa m n=>h3 a m a n rfl⟩
def kH{S T:List ai}(h1:S.Nodup)(h2:T.Nodup)(h3:∀a∈S,a∉T):(S++T).Nodup:=cR.mpr ⟨h1,h2,λa m b n z=>h3 a m (z▸n)⟩
def Bi(K:Fg)(H:Hp)(op:xm)(d':Dat)(v:V)(vs:List V)(S T:List ai):Prop:=
 ∃l ob ob' S',v=.ref l/\l∈S/\H l=a_ ob/\Bt op ob vs=a_ ob'/\Lv ob'/\mC K (upd H l ob') d' v S'/\S'.Nodup/\∀a∈S',a∈S\/a∈T
section
variable{K:Fg}{H:Hp}{es:List Dat}{l:ai}{xs:List V}{S' T:List ai}
def NP{d1:Dat}{y:V}(hl:H l=a_ (.lst xs))(os:cY K H es xs S')(nd:(l::S').Nodup)(a1:mC K H d1 y T)(nt:T.Nodup)(dj:∀a∈l::S',a∉T)(hz:es.length<aE):Bi K H .app (.lst (es++[d1])) (.ref l) [y] (l::S') T:=by
 have hn:=be.mp nd;have nt':∀vs,H l≠a_ (.tup vs):=λvs z=>by rw[hl]at z;cases z
 have hlT:l∉T:=dj l hJ;have elen:=os.length;refine⟨l,_,.lst (xs++[y]),l::(S'++T),rfl,hJ,hl,by simp only[Bt,xQ,xP,xO];rw[if_pos (by rw[elen];exact hz)],trivial,⟨l,xs++[y],S'++T,rfl,cw,(os.upd nt' _ hn.1).append (.one (a1.upd nt' _ hlT)),rfl⟩,?_,λb m=>?_⟩
 ·refine be.mpr ⟨λm=>?_,kH hn.2 nt λb m=>dj b (ib _ m)⟩
  rcases az.mp m with m|m
  ·exact hn.1 m
  ·exact hlT m
 ·rcases ao.mp m with rfl|m
  ·exact .inl hJ
  ·rcases az.mp m with m|m
   ·exact .inl (ib _ m)
   ·exact .inr m
def NO{d1:Dat}{y:V}{i:Int}(hl:H l=a_ (.lst xs))(os:cY K H es xs S')(nd:(l::S').Nodup)(a1:mC K H d1 y T)(nt:T.Nodup)(dj:∀a∈l::S',a∉T)(hz:es.length<aE/\-1000000<=i/\i<=1000000):Bi K H .ins (.lst (insI d1 i es)) (.ref l) [.int i,y] (l::S') T:=by
 have hn:=be.mp nd;have nt':∀vs,H l≠a_ (.tup vs):=λvs z=>by rw[hl]at z;cases z
 have hlT:l∉T:=dj l hJ;have elen:=os.length;obtain⟨S1,S2,g1,g2,g3⟩:=os.take (HT.iN es.length 0 (a_ i));subst g3;have eix:HT.iN xs.length 0 (a_ i)=HT.iN es.length 0 (a_ i):=by rw[elen]
 have nd2:=lY hn.2;refine⟨l,_,.lst (insI y i xs),l::(S1++(T++S2)),rfl,hJ,hl,by simp only[Bt,xQ,xP,xO];rw[if_pos (by rw[elen];exact hz)],trivial,⟨l,insI y i xs,S1++(T++S2),rfl,cw,?_,rfl⟩,?_,λb m=>?_⟩
 ·have p2:=g2.upd (o:=.lst (insI y i xs)) nt' _ (λm=>hn.1 (ak _ m));have pa:=(cY.one (a1.upd (o:=.lst (insI y i xs)) nt' _ hlT)).append p2;have p1:=(g1.upd (o:=.lst (insI y i xs)) nt' _ (λm=>hn.1 (aJ _ m))).append pa;have e1:insI d1 i es=es.take (HT.iN es.length 0 (a_ i))++([d1]++es.drop (HT.iN es.length 0 (a_ i))):=rfl;have e2:insI y i xs=xs.take (HT.iN es.length 0 (a_ i))++([y]++xs.drop (HT.iN es.length 0 (a_ i))):=by unfold insI;rw[eix];rfl
  rw[e1];generalize hH:L2.upd H l (.lst (insI y i xs))=H2 at p1 ⊢;rw[e2];exact p1
 ·refine be.mpr ⟨λm=>?_,kH nd2.1 (kH nt nd2.2.1 λb m m2=>dj b (ib _ (ak _ m2)) m) λb m m2=>?_⟩
  ·rcases az.mp m with m|m
   ·exact hn.1 (aJ _ m)
   ·rcases az.mp m with m|m
    ·exact hlT m
    ·exact hn.1 (ak _ m)
  ·rcases az.mp m2 with m2|m2
   ·exact dj b (ib _ (aJ _ m)) m2
   ·exact nd2.2.2 b m m2
 ·rcases ao.mp m with rfl|m
  ·exact .inl hJ
  ·rcases az.mp m with m|m
   ·exact .inl (ib _ (aJ _ m))
   ·rcases az.mp m with m|m
    ·exact .inr m
    ·exact .inl (ib _ (ak _ m))
def SQ{i:Int}{n k:Nat}(h:Em n i=a_ k):k<n:=(xZ h).2.1
def NN{d1:Dat}{y:V}{i:Int}{k:Nat}(hl:H l=a_ (.lst xs))(os:cY K H es xs S')(nd:(l::S').Nodup)(a1:mC K H d1 y T)(nt:T.Nodup)(dj:∀a∈l::S',a∉T)(hz:-1000000<=i/\i<=1000000)(h2:Em es.length i=a_ k):Bi K H .seti (.lst (es.set k d1)) (.ref l) [y,.int i] (l::S') T:=by
 have hn:=be.mp nd;have nt':∀vs,H l≠a_ (.tup vs):=λvs z=>by rw[hl]at z;cases z
 have hlT:l∉T:=dj l hJ;have elen:=os.length;obtain⟨S1,S2,S3,g1,g2⟩:=os.setAt a1 k (SQ h2);subst g2;have n1:=lY hn.2;have n2:=lY n1.1
 have hlN:l∉S1++T++S3:=λm=>by
  rcases az.mp m with m|m
  ·rcases az.mp m with m|m
   ·exact hn.1 (aJ _ (aJ _ m))
   ·exact hlT m
  ·exact hn.1 (ak _ m)
 refine⟨l,_,.lst (xs.set k y),l::(S1++T++S3),rfl,hJ,hl,?_,trivial,⟨l,xs.set k y,S1++T++S3,rfl,cw,g1.upd nt' _ hlN,rfl⟩,?_,λb m=>?_⟩
 ·simp only[Bt,xQ,xP,xO];rw[if_pos hz];unfold xG;rw[elen,h2];rfl
 ·refine be.mpr ⟨hlN,kH (kH n2.1 nt λb m=>dj b (ib _ (aJ _ (aJ _ m)))) n1.2.1 λb m m2=>?_⟩
  rcases az.mp m with m|m
  ·exact n1.2.2 b (aJ _ m) m2
  ·exact dj b (ib _ (ak _ m2)) m
 ·rcases ao.mp m with rfl|m
  ·exact .inl hJ
  ·rcases az.mp m with m|m
   ·rcases az.mp m with m|m
    ·exact .inl (ib _ (aJ _ (aJ _ m)))
    ·exact .inr m
   ·exact .inl (ib _ (ak _ m))
end
def JR{K:Fg}{H:Hp}{l:ai}{S' T:List ai}{ds:List Dat}{k_:List (Key×V)}{d1:Dat}{y:V}{k:Key}(hl:H l=a_ (.dK k_))(os:cY K H ds (k_.map (·.2)) S')(nd:(l::S').Nodup)(a1:mC K H d1 y T)(nt:T.Nodup)(dj:∀a∈l::S',a∉T)(hz:(k_.map (·.1)).length<aE/\Jx k (k_.map (·.1))=c_) :
  Bi K H .seti (.dct (putD k d1 (k_.map (·.1)) ds).1 (putD k d1 (k_.map (·.1)) ds).2) (.ref l) [y,kV k] (l::S') T:=by
 have hn:=be.mp nd;have nt':∀vs,H l≠a_ (.tup vs):=λvs z=>by rw[hl]at z;cases z
 have hlT:l∉T:=dj l hJ;have elen:ds.length=k_.length:=by have:=os.length;simpa using this.symm
 obtain⟨S2,g1,g2,g3⟩:=cY.put (k:=k) a1 nt k_ ds S' os hn.2 λa m=>dj a (ib _ m)
 have hlS:l∉S2:=λm=>by
  rcases g3 l m with z|z
  ·exact hn.1 z
  ·exact hlT z
 refine⟨l,_,.dK (qT k y k_),l::S2,rfl,hJ,hl,?_,trivial,⟨l,qT k y k_,S2,rfl,cw,wg k_ ds elen,g1.upd nt' _ hlS,rfl⟩,be.mpr ⟨hlS,g2⟩,λb m=>?_⟩
 ·simp only[Bt,xQ,xP,xO,N5,af];rw[if_pos (by simpa using hz.1),DT k_ hz.2]
 ·rcases ao.mp m with rfl|m
  ·exact .inl hJ
  ·rcases g3 b m with z|z
   ·exact .inl (ib _ z)
   ·exact .inr z
set_option tactic.hygienic true in
def Ee{K:Fg}{H:Hp}{op:xm}{d d':Dat}{ds:List Dat}{v:V}{vs:List V}{S T:List ai}(h1:op≠.ext)(h2:op≠.dput)(h:gX op d ds=a_ d')(o:mC K H d v S)(nd:S.Nodup)(a:cY K H ds vs T)(nt:T.Nodup)(dj:∀a∈S,a∉T):Bi K H op d' v vs S T:=by
 have hd:(∃es,d=.lst es)\/(op=.seti/\∃ks ws,d=.dct ks ws):=by
  cases d with
  |lst es=>exact .inl ⟨es,rfl⟩
  |dct ks ws=>cases op<;>first|exact absurd rfl h1|exact absurd rfl h2|exact .inr ⟨rfl,ks,ws,rfl⟩|cases h
  |dcn _=>cases op<;>first|exact absurd rfl h1|exact absurd rfl h2|cases h
  |_=>cases op<;>cases h
 rcases hd with hd|⟨rfl,ks,ws,rfl⟩
 rotate_left
 ·obtain⟨l,k_,S',rfl,hl,rfl,os,rfl⟩:=o
  cases ds with
  |nil=>cases h
  |cons d1 ds=>
    cases ds with
    |nil=>cases h
    |cons d0 ds=>
      cases ds with
      |cons _ _=>cases h
      |nil=>
        simp only[gX,zr,zq,zp,zm,zo]at h;obtain⟨k,hk,h⟩:=cU h;split at h
        ·rename_i hz;cases h;obtain⟨y,r,T1,T2,e,a1,a3,q⟩:=a;obtain⟨y0,r0,T0,T0',e0,a0,a2,q0⟩:=a3;obtain⟨rfl,rfl⟩:=a2
         have hy:y0=kV k/\T0=[]:=by
          cases d0 with
          |int i=>cases hk;exact a0
          |str x=>cases hk;exact a0
          |_=>cases hk
         obtain⟨rfl,rfl⟩:=hy;rw[aX]at q0;subst e e0 q0;rw[aX]at q;subst q;exact JR hl os nd a1 nt dj hz
        ·cases h
 obtain⟨es,rfl⟩:=hd;obtain⟨l,xs,S',rfl,hl,os,rfl⟩:=o
 cases op with
 |ext=>exact absurd rfl h1
 |dput=>exact absurd rfl h2
 |app=>
   cases ds with
   |nil=>cases h
   |cons d1 ds=>
     cases ds with
     |cons _ _=>cases h
     |nil=>
       obtain⟨y,r,T1,T2,e,a1,a2,q⟩:=a;obtain⟨rfl,rfl⟩:=a2;rw[aX]at q;subst e q;simp only[gX,zr,zq,zp,zm,zo]at h;split at h
       ·rename_i hz;cases h;exact NP hl os nd a1 nt dj hz
       ·cases h
 |ins=>
   cases ds with
   |nil=>cases h
   |cons d0 ds=>
     cases ds with
     |nil=>cases d0<;>cases h
     |cons d1 ds=>
       cases ds with
       |cons _ _=>cases d0<;>cases h
       |nil=>
         cases d0 with
         |int i=>
           obtain⟨y0,r0,T0,T0',e0,a0,a3,q0⟩:=a;obtain⟨y,r,T1,T2,e,a1,a2,q⟩:=a3;obtain⟨rfl,rfl⟩:=a2;obtain⟨rfl,rfl⟩:=a0;rw[aX]at q;subst e e0 q;rw[fL]at q0;subst q0;simp only[gX,zr,zq,zp,zm,zo]at h;split at h
           ·rename_i hz;cases h;exact NO hl os nd a1 nt dj hz
           ·cases h
         |_=>cases h
 |pop=>cases h
 |clr=>cases h
 |seti=>
   cases ds with
   |nil=>cases h
   |cons d1 ds=>
     cases ds with
     |nil=>cases h
     |cons d0 ds=>
       cases ds with
       |cons _ _=>cases d0<;>cases h
       |nil=>
         cases d0 with
         |int i=>
           obtain⟨y,r,T1,T2,e,a1,a3,q⟩:=a;obtain⟨y0,r0,T0,T0',e0,a0,a2,q0⟩:=a3;obtain⟨rfl,rfl⟩:=a2;obtain⟨rfl,rfl⟩:=a0;rw[aX]at q0;subst e e0 q0;rw[aX]at q;subst q;simp only[gX,zr,zq,zp,zm,zo]at h;split at h
           ·rename_i hz;obtain⟨es',g1,h⟩:=dX h;cases h;unfold xG at g1;obtain⟨k,g2,g1⟩:=dX g1;subst g1;exact NN hl os nd a1 nt dj hz g2
           ·cases h
         |_=>cases h
section
variable{X:Cx}{C:Fs}{K:Fg}
def KD{xa xb:Ex}{σ:St}{H:Hp}{Q:List V->Hp->Prop}(h:gF K C [xa,xb] σ H Q):gE K C xa σ H λx H1=>gE K C xb σ H1 λy H2=>Q [x,y] H2:=by
 obtain⟨ρ,ds,al,h,F,g,R,k⟩:=h;simp only[mf]at h;obtain⟨⟨d,fr⟩,h1,h⟩:=cU h;obtain⟨⟨r,ar⟩,h2,h⟩:=dX h;cases h;obtain⟨⟨d2,fr2⟩,h3,h4⟩:=cU h2;cases h4;refine⟨ρ,d,fr,h1,F,g,R,λv F1 H1 ee r1 f1=>⟨ρ,d2,fr2,h3,F1,ee.good,R.mono ee.ff,λw F2 H2 iu r2 f2=>k [v,w] F2 H2 (ee.trans iu) ⟨v,[w],rfl,r1.mono iu.ff,w,[],rfl,r2,rfl⟩ λz=>?_⟩⟩;simp only[fq,jt,aq]at z;refine e9.cons ee.hh iu.hh ?_ (e9.cons (H1:=H2) iu.hh (bX.refl _) ?_ .nil)
 ·rcases z.1 with z|z
  ·exact f1 z
  ·exact .j4 ee.good z r1
 ·rcases z.2 with z|z
  ·exact f2 z
  ·exact .j4 iu.good z r2
def qp{x:Ex}{σ:St}{H:Hp}{Q Q':VK}(h:gE K C x σ H Q)(f:∀v H1,bX H H1->Q v H1->Q' v H1):gE K C x σ H Q':=by
 obtain⟨ρ,d,fr,h,F,g,R,k⟩:=h;exact⟨ρ,d,fr,h,F,g,R,λv F' H' st r fr=>f v H' st.hh (k v F' H' st r fr)⟩
def zX{C:Fs}{op:xm}{i:Nat}{es:List Ex}{ρ:cF}{out:Out}(h:fE C (.mut op i es) ρ=a_ out) :
  ∃ds d d',mf C es (full ρ)=a_ (ds,c_)/\ρ[i]?=a_ (a_ (d,c_))/\gX op d ds=a_ d'/\out=.nx (ρ.set i (a_ (d',c_))):=by
 obtain⟨⟨ds,al⟩,h3,h⟩:=cU h;have h:(if al=c_ then Gw op i ρ ds (ρ[i]?).join else b_)=a_ out:=h;by_cases hal:al=c_
 ·rw[if_pos hal]at h;subst hal
  cases q:ρ[i]? with
  |none=>rw[q]at h;cases h
  |some z=>
    rw[q]at h
    match z,h with
    |some (d,c_),h=>
      obtain⟨d',h4,h5⟩:=dX h;exact⟨ds,d,d',h3,rfl,h4,h5.symm⟩
 ·rw[if_neg hal]at h;cases h
def zW{op:xm}{i:Nat}{es:List Ex}(h1:op≠.ext)(h2:op≠.dput){D:Ends}{σ:St}{H:Hp}(h:gS K C (.mut op i es) D σ H) :
  ∃l ob0,σ[i]?=a_ (a_ (.ref l))/\H l=a_ ob0/\(op≠.seti->∃xs,ob0=.lst xs)/\gF K C es σ H λvs H1=>∃ob ob',H1 l=a_ ob/\Bt op ob vs=a_ ob'/\D.nx σ (upd H1 l ob'):=by
 obtain⟨Fz,H₀,F,ρ,out,h,R,k⟩:=h;obtain⟨ds,d,d',h3,hi,h4,rfl⟩:=zX h;obtain⟨Ss,O⟩:=R.ow;obtain⟨v,e1,e2,e3,e4⟩:=O.own i d hi
 have hdl:∃l ob0,v=.ref l/\H l=a_ ob0/\(op≠.seti->∃xs,ob0=.lst xs):=by
  cases d with
  |lst es=>
    obtain⟨l,xs,S',rfl,hl,os,eS⟩:=id e2;exact⟨l,_,rfl,hl,λ_=>⟨xs,rfl⟩⟩
  |dct ks ws=>
    obtain⟨l,k_,S',rfl,hl,_⟩:=id e2;refine⟨l,_,rfl,hl,λhne=>?_⟩
    cases op<;>first|exact absurd rfl h1|exact absurd rfl h2|exact absurd rfl hne|cases h4
  |dcn _=>cases op<;>first|exact absurd rfl h1|exact absurd rfl h2|cases h4
  |_=>cases op<;>cases h4
 obtain⟨l,ob0,rfl,hl,hlo⟩:=hdl;refine⟨l,ob0,e1,hl,hlo,yp R h3 λvs F' H' T st ow nT hT=>?_⟩;have O':=O.moved st;have R':=R.moved st
 have dj:∀a∈Ss i,a∉T:=λa m m2=>by
  obtain⟨u,hu,_⟩:=e2.yX _ a m;rw[(hT a m2).1]at hu;cases hu
 obtain⟨l2,ob,ob',S2,ev,hl2,hob,hop,mu,o2,nd2,hS2⟩:=Ee h1 h2 h4 (e2.mono st.hh) e3 ow nT dj;cases ev;refine⟨ob,ob',hob,hop,k F' _ σ st.ff (R'.mut O' hi e1 hl2 mu o2 nd2 λa m=>?_)⟩
 rcases hS2 a m with m|m
 ·exact .inl m
 ·refine .inr ⟨(hT a m).2,R.step.hh.free (hT a m).1,λj d2 q m2=>?_⟩;obtain⟨w,_,g2,_⟩:=O.own j d2 q;obtain⟨u,hu,_⟩:=g2.yX _ a m2;rw[(hT a m).1]at hu;cases hu
def Dz{op:xm}{i:Nat}{es:List Ex}{st:jw}{r:V->List V->Hp->VK->Prop}(h1:op≠.ext)(h2:op≠.dput)(h3:op≠.seti)(hr:∀l ob ob' vs H Q,H l=a_ ob->Bt op ob vs=a_ ob'->(∀u,Q u (upd H l ob'))->r (.ref l) vs H Q)
  (hm:PS X st (Ie (Xg X.K "list" r (Ic i) (gF X.K C es)))):SS X C st (.mut op i es):=PS.imp hm λD σ H h=>by
 obtain⟨l,ob0,e1,hl,hlo,g⟩:=zW h1 h2 h;obtain⟨xs,rfl⟩:=hlo h3;refine⟨.ref l,e1,.inl ⟨rfl,xs,oG.of hl⟩,?_⟩;obtain⟨ρ,ds,al,h,F,gg,R,k⟩:=g;exact⟨ρ,ds,al,h,F,gg,R,λvs F' H' st r f=>let ⟨ob,ob',q1,q2,q3⟩:=k vs F' H' st r f;hr l ob ob' vs H' _ q1 q2 λ_=>q3⟩
def Pq:V->V->V->Hp->(Hp->Prop)->Prop:=λo i v H Q=>∃p k_ k,o=.ref p/\i=kV k/\H p=a_ (.dK k_)/\k_.length<aE/\Q (upd H p (.dK (putK k_ k v)))
def MM(hu:X.A.units+1<cg):O3 X (λo i v H Q=>IW o i v H Q\/Pq o i v H Q):=λh_ s σ H o i v ov iv u Q I ro ri rv h=>by
 rcases h with h|⟨p,k_,k,rfl,rfl,hp,hz,q⟩
 ·exact set_list h_ s σ H o i v ov iv u Q I ro ri rv h
 ·cases ro;exact GW hu I (O5.k hp hz) ri rv λs' I'=>⟨_,I',q⟩
set_option tactic.hygienic true in
def Mu{i:Nat}{xe xi:Ex}{st:jw}(hm:PS X st (FK (gE X.K C xe) (Td (Ic i) (gE X.K C xi) (λo i v H Q=>IW o i v H Q\/Pq o i v H Q)))):SS X C st (.mut .seti i [xe,xi]):=PS.imp hm λD σ H h=>by
 obtain⟨l,ob0,e1,hl,_,g⟩:=zW (op:=.seti) (by simp) (by simp) h;have g2:=KD g;refine qp g2 λx H1 s1 g3=>⟨.ref l,e1,qp g3 λy H2 s2 g4=>?_⟩
 obtain⟨ob,ob',q1,q2,q3⟩:=g4
 cases ob with
 |lst ys=>
   cases y with
   |int k=>
     simp only[Bt,xQ,xP,xO]at q2;split at q2
     ·obtain⟨zs,q4,q5⟩:=dX q2;cases q5;unfold xG at q4;obtain⟨j,q6,q7⟩:=dX q4;subst q7;exact .inl ⟨l,ys,k,j,rfl,rfl,q1,q6,q3⟩
     ·cases q2
   |_=>cases q2
 |dK k_=>
   simp only[Bt,xQ,xP,xO]at q2;obtain⟨k,hk,q2⟩:=cU q2;split at q2
   ·rename_i hz;cases q2;exact .inr ⟨l,k_,k,rfl,SD hk,q1,hz,q3⟩
   ·cases q2
 |_=>cases q2
end
section
variable{X:Cx}{C:Fs}
def DP:V->List V->Hp->VK->Prop:=λx vs H Q=>∃l xs i y,x=.ref l/\vs=[.int i,y]/\H l=a_ (.lst xs)/\xs.length<aE/\-1000000<=i/\i<=1000000/\Q .non (upd H l (.lst (insI y i xs)))
def Gx:Zw X "list.insert" DP:=by
 intro h_ s σ H x vs v us Q I rx rv h;obtain⟨l,xs,i,y,rfl,rfl,hH,hz,hi1,hi2,q⟩:=h;cases rx;obtain⟨ui,u,rfl,rui,ru⟩:=vals2 rv;obtain⟨ti,rfl⟩:=rui;obtain⟨z,its,n,r,hl,e⟩:=I.V3 hH
 have hfit:¬(!j8 i)=c_:=by
  have:j8 i=c_:=by
   unfold j8;simp;omega
  rw[this];simp
 have ek:(if i<0 then(i+((its.toArray.size:Nat):Int)).toNat else min i.toNat its.toArray.size)=HT.iN xs.length 0 (a_ i):=by
  rw[aA,<-hl];rfl
 refine call_meets vD ⟨_,e,rfl⟩ F.entry_list_insert (F.args_list_insert_3 _ _ _) (AutoListH.list_insert_list_int_val_1 l its.toArray n i ti u hfit (by rw[aA];omega)) ⟨e,?_⟩;refine⟨.non,_,I.V4 (its':=insI u i its) hH e ?_ ?_ ?_,rfl,q⟩
 ·dsimp only;rw[ek];unfold insI;rw[<-hl];simp;exact Bp (by simp)
 ·unfold insI;rw[<-hl];exact(r.take _).append (.cons ru (r.drop _))
 ·unfold insI;have:=HT.IE xs.length 0 (bY _) (a_ i);simp;omega
set_option tactic.hygienic true
def Kq:∀l ob ob' vs H(Q:VK),H l=a_ ob->Bt .app ob vs=a_ ob'->(∀u,Q u (upd H l ob'))->DQ (.ref l) vs H Q:=λl ob ob' vs H Q h1 h2 h3=>by
 cases ob with
 |lst xs=>
   cases vs with
   |nil=>cases h2
   |cons y vs=>
     cases vs with
     |cons _ _=>cases h2
     |nil=>
       simp only[Bt,xQ,xP,xO]at h2;split at h2
       ·rename_i hz;cases h2;exact⟨l,xs,y,rfl,rfl,h1,hz,h3 _⟩
       ·cases h2
 |_=>cases h2
def S8:∀l ob ob' vs H(Q:VK),H l=a_ ob->Bt .ins ob vs=a_ ob'->(∀u,Q u (upd H l ob'))->DP (.ref l) vs H Q:=λl ob ob' vs H Q h1 h2 h3=>by
 cases ob with
 |lst xs=>
   cases vs with
   |nil=>cases h2
   |cons y vs=>
     cases vs with
     |nil=>cases y<;>cases h2
     |cons z vs=>
       cases vs with
       |cons _ _=>cases y<;>cases h2
       |nil=>
         cases y with
         |int i=>
           simp only[Bt,xQ,xP,xO]at h2;split at h2
           ·rename_i hz;cases h2;exact⟨l,xs,i,z,rfl,rfl,h1,hz.1,hz.2.1,hz.2.2,h3 _⟩
           ·cases h2
         |_=>cases h2
 |_=>cases h2
set_option tactic.hygienic false
end
section
variable{X:Cx}{C:Fs}{K:Fg}{h_:List (ai×fe)}{σ:St}{F H:Hp}{s:ae}
def _root_.L2.Inv.noNT{a:ai}{xs:List (List NK×ai)}{ws:List V}(I:Inv X h_ σ H s)(g:Good F H)(h:F a=a_ (.dN xs))(h':Tq X.K F a ws):False:=by
 obtain⟨_,_,o,es,ep,h1,h2,_⟩:=I.hok a _ (g.sub _ _ h);obtain⟨its,_,⟨o',h3,h4,_⟩,_⟩:=I.tupR g h';rw[h1]at h3;cases h3;rw[h2.1]at h4;exact absurd (mS h4) (by decide)
def _root_.L2.Inv.noNL{a:ai}{xs:List (List NK×ai)}{ws:List V}(I:Inv X h_ σ H s)(g:Good F H)(h:F a=a_ (.dN xs))(h':oG X.K F a ws):False:=by
 obtain⟨_,_,o,es,ep,h1,h2,_⟩:=I.hok a _ (g.sub _ _ h);obtain⟨its,_,pl,_⟩:=I.lstR g h';obtain⟨o',h3,h4,_⟩:=pl.isList;rw[h1]at h3;cases h3;rw[h2.1]at h4;exact absurd (mS h4) (by decide)
theorem wx:∀{ds:List Dat}{q:List Key}{vs:List V},oT ds=a_ q->cy K F ds vs->vs=q.map kV
 |[],_,_,h,r=>by cases h;exact r
 |d::ds,_,_,h,z4=>by
   obtain⟨v,w,e,h1,h2⟩:=z4;simp only[oT]at h;obtain⟨k,hk,h⟩:=cU h;obtain⟨q,hq,h⟩:=dX h;cases h;subst e;rw[ag,<-wx hq h2]
   congr 1
   cases d with
   |int i=>cases hk;exact h1
   |str x=>cases hk;exact h1
   |_=>cases hk
theorem Ec:∀{ds:List Dat}{q:List N2}{vs:List V},Gv ds=a_ q->cy K F ds vs->LL K F q vs
 |[],_,_,h,r=>by cases h;exact r
 |d::ds,_,_,h,z4=>by
   obtain⟨v,w,e,h1,h2⟩:=z4;simp only[Gv]at h;obtain⟨k,hk,h⟩:=cU h;obtain⟨q,hq,h⟩:=dX h;cases h;subst e;have ih:=Ec hq h2
   cases d with
   |int i=>cases hk;cases h1;exact⟨w,rfl,ih⟩
   |str x=>cases hk;cases h1;exact⟨w,rfl,ih⟩
   |tup es=>
     simp only[PC]at hk;obtain⟨q2,hq2,hk⟩:=dX hk;cases hk;obtain⟨a,vs,rfl,t,r⟩:=h1;rw[wx hq2 r]at t;exact⟨a,w,rfl,t,ih⟩
   |_=>cases hk
theorem D8:∀{ds:List Dat}{q:List NK}{vs:List V},JM ds=a_ q->cy K F ds vs->LK K F q vs
 |[],_,_,h,r=>by cases h;exact r
 |d::ds,_,_,h,z4=>by
   obtain⟨v,w,e,h1,h2⟩:=z4;simp only[JM]at h;obtain⟨k,hk,h⟩:=cU h;obtain⟨q,hq,h⟩:=dX h;cases h;subst e;have ih:=D8 hq h2
   cases d with
   |int i=>cases hk;cases h1;exact⟨w,rfl,ih⟩
   |str x=>cases hk;cases h1;exact⟨w,rfl,ih⟩
   |tup es=>
     simp only[PB]at hk;obtain⟨q2,hq2,hk⟩:=dX hk;cases hk;obtain⟨a,vs,rfl,t,r⟩:=h1;exact⟨a,w,vs,rfl,t,Ec hq2 r,ih⟩
   |_=>cases hk
def tJ{da:Dat}{k:List NK}{v:V}(h:tK da=a_ k)(r:Rep K F da v):∃a,v=.ref a/\He K F k a:=by
 cases da with
 |tup ds=>
   obtain⟨a,vs,rfl,t,r⟩:=r;exact⟨a,rfl,vs,t,D8 h r⟩
 |_=>cases h
theorem Ep:∀{q:List Key}{us:List ab},cD (q.map kV) us->∀h:bH,qH (Ct X.prog X.w) h q us
 |[],_,w,_=>by cases w;exact .nil
 |k::q,_,w,h=>by
   cases w with
   |cons a b=>exact .cons (sv a) (Ep b h)
theorem qX(I:Inv X h_ σ H s)(g:Good F H):∀{k:List N2}{vs:List V}{us:List ab},LL X.K F k vs->cD vs us->qH (i2 X.prog X.w) s.heap k us
 |[],_,_,h,w=>by rw[show _=[]from h]at w;cases w;exact .nil
 |.inl k::ks,_,_,h,w=>by
   obtain⟨r,e,h⟩:=h;subst e
   cases w with
   |cons q w=>exact .cons (I:=i2 X.prog X.w) (k:=.inl k) (sv q) (qX I g h w)
 |.inr q::ks,_,_,h,w=>by
   obtain⟨b,r,e,t,h⟩:=h;subst e
   cases w with
   |cons q2 w=>
     refine .cons (I:=i2 X.prog X.w) (k:=.inr q) ?_ (qX I g h w);cases(show _=bE b from q2);obtain⟨its,w1,⟨o,h1,h2,n,h3⟩,_⟩:=I.tupR g t;exact⟨b,rfl,o,its.toArray,n,h1,h2,h3,by simpa using Ep (X:=X) w1 s.heap⟩
theorem qW(I:Inv X h_ σ H s)(g:Good F H):∀{k:List NK}{vs:List V}{us:List ab},LK X.K F k vs->cD vs us->UD X.prog X.w s.heap k us
 |[],_,_,h,w=>by rw[show _=[]from h]at w;cases w;exact .nil
 |.inl k::ks,_,_,h,w=>by
   obtain⟨r,e,h⟩:=h;subst e
   cases w with
   |cons q w=>exact .cons (I:=i3 X.prog X.w) (k:=.inl k) (sv q) (qW I g h w)
 |.inr q::ks,_,_,h,w=>by
   obtain⟨b,r,us,e,t,n2,h⟩:=h;subst e
   cases w with
   |cons q2 w=>
     refine .cons (I:=i3 X.prog X.w) (k:=.inr q) ?_ (qW I g h w);cases(show _=bE b from q2);obtain⟨its,w1,⟨o,h1,h2,n,h3⟩,_⟩:=I.tupR g t;exact⟨b,rfl,o,its.toArray,n,h1,h2,h3,by simpa using qX I g n2 w1⟩
def rg(I:Inv X h_ σ H s)(g:Good F H){k:List NK}{a:ai}(h:He X.K F k a):(so X.prog X.w).is s.heap k a:=by
 obtain⟨vs,t,r⟩:=h;obtain⟨its,w1,⟨o,h1,h2,n,h3⟩,_⟩:=I.tupR g t;exact⟨o,its.toArray,n,h1,h2,h3,by simpa using qW I g r w1⟩
def kn(xs:List (List NK×ai)):List (List NK×ai×ab):=xs.map λx=>(x.1,x.2,.bool c_)
def uR(xs:List (List NK×ai)):(kn xs).map (·.1)=xs.map (·.1):=by
 unfold kn;rw[bc];rfl
def KU(I:Inv X h_ σ H s)(g:Good F H){p:ai}{xs:List (List NK×ai)}{ks:List (List NK)}(hF:F p=a_ (.dN xs))(al:Dd X.K F ks xs) :
  xs.length<=aE/\(p == sysModules)=d_/\s.heap.DictOfH (so X.prog X.w) p (kn xs):=by
 obtain⟨z,y,o,es,ep,h1,h2,h3,h4,h5⟩:=I.hok p _ (g.sub _ _ hF);refine⟨z,y,o,es,ep,h1,h2,h3,by rw[h4];unfold kn;rw[bc];rfl,λx hx=>?_,by rw[uR];exact h5⟩;unfold kn at hx;obtain⟨q,hq,rfl⟩:=aQ.mp hx;exact rg I g (al.2 q hq)
theorem oh(k:List NK):∀xs:List (List NK×ai),(atKey (kn xs) k).isSome=decide (k∈xs.map (·.1))
 |[]=>rfl
 |x::xs=>by
   have ih:=oh k xs;unfold atKey kn at ih ⊢;rw[ag,ig];by_cases e:x.1=k
   ·simp[e]
   ·have e':¬k=x.1:=λz=>e z.symm;simp only[e,decide_false];rw[ih];simp[e']
def SY{da:Dat}{kk:List NK}{v:V}{u:ab}{p:ai}{xs:List (List NK×ai)}{ks:List (List NK)}{Q:VK}(hu:X.A.units+20<cg)(I:Inv X h_ σ H s)(g:Good F H)(hk:tK da=a_ kk)(ra:Rep X.K F da v)(rx:RelV v u)(hF:F p=a_ (.dN xs))(al:Dd X.K F ks xs)
  (q:Q (.bl (decide (kk∈ks))) H):au (aB X.prog X.w) X.A (compareOp .In u (.ref p)) (EP X h_ σ Q) X.xe s:=by
 obtain⟨a,rfl,ky⟩:=tJ hk ra;cases(show u=bE a from rx);obtain⟨z,y,dd⟩:=KU I g hF al;refine Fj (knd:=so X.prog X.w) ?_ (rg I g ky) y dd ?_
 ·show X.A.units+1+3<=cg;omega
 ·refine⟨.bl _,H,I.tok _,rfl,?_⟩;rw[oh,al.1];exact q
def none_of(I:Inv X h_ σ H s){p:ai}(hH:H p=a_ (.dK [])):(p == sysModules)=d_/\s.heap.DictOfH (so X.prog X.w) p []:=by
 obtain⟨z,y,vs,r,dd⟩:=P2 I.hok hH;cases r;obtain⟨o,es,ep,h1,h2,h3,_,h4,_⟩:=dd;refine⟨y,o,es,ep,h1,h2,h3,?_,λx hx=>(nomatch hx),by simp⟩;generalize es.toList=l at h4;cases h4;rfl
def Oc{da:Dat}{kk:List NK}{v:V}{u:ab}{p:ai}{Q:VK}(hu:X.A.units+20<cg)(I:Inv X h_ σ H s)(g:Good F H)(hk:tK da=a_ kk)(ra:Rep X.K F da v)(rx:RelV v u)(hF:F p=a_ (.dK []))
  (q:Q (.bl d_) H):au (aB X.prog X.w) X.A (compareOp .In u (.ref p)) (EP X h_ σ Q) X.xe s:=by
 obtain⟨a,rfl,ky⟩:=tJ hk ra;cases(show u=bE a from rx);obtain⟨y,dd⟩:=none_of I (g.sub _ _ hF);refine Fj (knd:=so X.prog X.w) ?_ (rg I g ky) y dd ?_
 ·show X.A.units+1+3<=cg;omega
 ·exact⟨.bl _,H,I.tok _,rfl,q⟩
def Oh(H:Hp)(T:List ai):fz H H T=H:=by
 funext a;unfold fz;split<;>rfl
def rC(H:Hp):Good H H:=⟨bX.refl _,λ_ _ e=>e⟩
def Nv{H:Hp}{d:Dat}{v:V}{S:List ai}(o:mC K H d v S):Rep K H d v:=by
 have:=mC.ka (rC H) d (T:=S) o λ_ m=>m;rw[Oh]at this;exact this
def Pp(K:Fg):V->V->V->Hp->(Hp->Prop)->Prop:=λo i v H Q=>∃p k a xs,o=.ref p/\i=.ref a/\v=.bl c_/\He K H k a/\((H p=a_ (.dK [])/\xs=[])\/(H p=a_ (.dN xs)/\∀x∈xs,He K H x.1 x.2))/\
 k∉xs.map (·.1)/\xs.length<aE/\Q (upd H p (.dN (xs++[(k,a)])))
def Vn(hu:X.A.units+20<cg):O3 X (Pp X.K):=λh_ s σ H o i v ov iv u Q I ro ri rv h=>by
 obtain⟨p,k,a,xs,rfl,rfl,rfl,ky,hp,hk,hz,q⟩:=h;cases ro;cases ri;obtain rfl:u=.bool c_:=rv
 have dd:(p == sysModules)=d_/\s.heap.DictOfH (so X.prog X.w) p (kn xs):=by
  rcases hp with⟨hp,rfl⟩|⟨hp,al⟩
  ·exact none_of I hp
  ·exact(KU I (rC H) hp ⟨rfl,al⟩).2
 have mu:U4 (H p):=by
  rcases hp with⟨hp,_⟩|⟨hp,_⟩<;>(rw[hp];exact ju)
 have hl:(kn xs).length<=aE:=by unfold kn;rw[ah];omega
 refine wpAny_setItem_heap (knd:=so X.prog X.w) (hsz:=hl) ?_ (rg I (rC H) ky) dd.2 λh' dd' hs=>?_
 ·show X.A.units+1+3<=cg;omega
 have hno:atKey (kn xs) k=b_:=by
  have:=oh k xs;rw[decide_eq_false hk]at this
  cases hq:atKey (kn xs) k with
  |none=>rfl
  |some z=>rw[hq]at this;cases this
 rw[storedH_new hno]at dd';obtain⟨o,es,ep,hq,h2,h3,h4,_,h5⟩:=dd';have e1:kn xs++[(k,a,pP c_)]=kn (xs++[(k,a)]):=by unfold kn;rw[cO];rfl
 rw[e1]at h4 h5;refine⟨_,yu (ob:=.dN (xs++[(k,a)])) I mu hs ⟨o,hq⟩ ⟨by rw[aw];simp;omega,dd.1,o,es,ep,hq,h2,h3,?_,?_⟩,q⟩
 ·rw[h4];unfold kn;rw[bc];rfl
 ·rw[uR]at h5;exact h5
set_option tactic.hygienic true in
def JC{H:Hp}{d d':Dat}{ds:List Dat}{v:V}{vs:List V}{S T:List ai}(h:gX .dput d ds=a_ d')(o:mC K H d v S)(a:cY K H ds vs T) :
  ∃l k b xs,v=.ref l/\S=[l]/\vs=[.bl c_,.ref b]/\He K H k b/\((H l=a_ (.dK [])/\xs=[])\/(H l=a_ (.dN xs)/\∀x∈xs,He K H x.1 x.2))/\k∉xs.map (·.1)/\xs.length<aE/\mC K (upd H l (.dN (xs++[(k,b)]))) d' v [l]:=by
 have keyed:∀{d0 d1:Dat}{kk:List NK},ds=[.bl c_,d1]->tK d1=a_ kk->∃b,vs=[.bl c_,.ref b]/\He K H kk b:=λ{d0 d1 kk}e hk=>by
  subst e;obtain⟨y,r,T1,T2,e,a1,a3,_⟩:=a;obtain⟨y0,r0,T0,T0',e0,a0,a2,_⟩:=a3;obtain⟨rfl,rfl⟩:=a2;obtain⟨b,rfl,ky⟩:=tJ hk (Nv a0);obtain⟨rfl,_⟩:=a1;subst e e0;exact⟨b,rfl,ky⟩
 have up:∀{l:ai}{ob:HO},(∀ws,H l≠a_ (.tup ws))->∀b vs,Tq K H b vs->Tq K (upd H l ob) b vs:=λ{l ob}nt b vs t=>by
  rcases t with t|t
  ·refine .inl ?_;rw[cH (λz=>nt vs (by rw[<-z];exact t))];exact t
  ·exact .inr t
 have kup:∀{l:ai}{ob:HO}{k:List NK}{b:ai},(∀ws,H l≠a_ (.tup ws))->He K H k b->He K (upd H l ob) k b:=λnt ⟨ws,t,r⟩=>⟨ws,up nt _ _ t,r.imp (up nt)⟩
 cases d with
 |dct ks ws=>
   obtain⟨l,k_,S',rfl,hl,rfl,os,rfl⟩:=o;have nt:∀us,H l≠a_ (.tup us):=λus z=>by rw[hl]at z;cases z
   have hds:∃d1,ds=[.bl c_,d1]:=by
    match ds,h with
    |[.bl c_,d1],_=>exact⟨d1,rfl⟩
   obtain⟨d1,rfl⟩:=hds;simp only[gX,zr,zq,zp,zm,zo]at h;split at h
   ·rename_i he;obtain⟨kk,hk,h⟩:=dX h;subst h;have e0:k_=[]:=by simpa using he
    subst e0;obtain⟨b,hvs,ky⟩:=keyed (d0:=.non) rfl hk
    have e1:S'=[]:=by
     cases ws with
     |nil=>exact os.2
     |cons _ _=>obtain⟨_,_,_,_,z,_⟩:=os;cases z
    subst e1;refine⟨l,kk,b,[],rfl,rfl,hvs,ky,.inl ⟨hl,rfl⟩,by simp,by rw[bB];simp,l,[(kk,b)],rfl,cw,⟨rfl,λx hx=>?_⟩,rfl⟩;rw[aF.mp hx];exact kup nt ky
   ·cases h
 |dcn ks=>
   obtain⟨l,xs,rfl,hl,al,rfl⟩:=o;have nt:∀us,H l≠a_ (.tup us):=λus z=>by rw[hl]at z;cases z
   have hds:∃d1,ds=[.bl c_,d1]:=by
    match ds,h with
    |[.bl c_,d1],_=>exact⟨d1,rfl⟩
   obtain⟨d1,rfl⟩:=hds;simp only[gX,zr,zq,zp,zm,zo]at h;obtain⟨kk,hk,h⟩:=cU h;split at h
   ·rename_i hz;cases h;obtain⟨b,hvs,ky⟩:=keyed (d0:=.non) rfl hk;obtain⟨e1,al2⟩:=al;subst e1;refine⟨l,kk,b,xs,rfl,rfl,hvs,ky,.inr ⟨hl,al2⟩,hz.2,by simpa using hz.1,l,xs++[(kk,b)],rfl,cw,⟨by rw[cO];rfl,λx hx=>?_⟩,rfl⟩
    rcases az.mp hx with hx|hx
    ·exact kup nt (al2 x hx)
    ·rw[aF.mp hx];exact kup nt ky
   ·cases h
 |_=>cases h
def Gu{i:Nat}{es:List Ex}{D:Ends}{σ:St}{H:Hp}(h:gS K C (.mut .dput i es) D σ H) :
  ∃l,σ[i]?=a_ (a_ (.ref l))/\gF K C es σ H λvs H1=>∃k b xs,vs=[.bl c_,.ref b]/\He K H1 k b/\((H1 l=a_ (.dK [])/\xs=[])\/(H1 l=a_ (.dN xs)/\∀x∈xs,He K H1 x.1 x.2))/\k∉xs.map (·.1)/\xs.length<aE/\D.nx σ (upd H1 l (.dN (xs++[(k,b)]))):=by
 obtain⟨Fz,H₀,F,ρ,out,h,R,k⟩:=h;obtain⟨ds,d,d',h3,hi,h4,rfl⟩:=zX h;obtain⟨Ss,O⟩:=R.ow;obtain⟨v,e1,e2,e3,e4⟩:=O.own i d hi
 have hdl:∃l,v=.ref l:=by
  cases d with
  |dct ks ws=>obtain⟨l,_,_,rfl,_⟩:=id e2;exact⟨l,rfl⟩
  |dcn ks=>obtain⟨l,_,rfl,_⟩:=id e2;exact⟨l,rfl⟩
  |_=>cases h4
 obtain⟨l,rfl⟩:=hdl;refine⟨l,e1,yp R h3 λvs F' H' T st ow nT hT=>?_⟩;have O':=O.moved st;have R':=R.moved st;obtain⟨l2,kk,b,xs,ev,eS,hvs,ky,hq,hno,hz,o2⟩:=JC h4 (e2.mono st.hh) ow;cases ev;refine⟨kk,b,xs,hvs,ky,hq,hno,hz,k F' _ σ st.ff (R'.mut O' hi e1 (by rw[eS];exact hJ) trivial o2 (by simp) λa m=>?_)⟩;exact .inl (by rw[eS];exact m)
def Mw{i:Nat}{xe xi:Ex}{st:jw}(hm:PS X st (FK (gE X.K C xe) (Td (Ic i) (gE X.K C xi) (Pp X.K)))):SS X C st (.mut .dput i [xe,xi]):=PS.imp hm λD σ H h=>by
 obtain⟨l,e1,g⟩:=Gu h;have g2:=KD g;refine qp g2 λx H1 s1 g3=>⟨.ref l,e1,qp g3 λy H2 s2 g4=>?_⟩
 obtain⟨k,b,xs,q1,q2,q3,q4,q5,q6⟩:=g4;cases q1;exact⟨l,k,b,xs,rfl,rfl,rfl,q2,q3,q4,q5,q6⟩
end
section
variable{X:Cx}{C:Fs}{h_:List (ai×fe)}{σ:St}{F H:Hp}{s:ae}
def _root_.L2.Inv.noDT{a:ai}{k_:List (Key×V)}{ws:List V}(I:Inv X h_ σ H s)(g:Good F H)(h:F a=a_ (.dK k_))(h':Tq X.K F a ws):False:=by
 obtain⟨_,_,_,_,o,es,ep,h1,h2,_⟩:=I.hok a _ (g.sub _ _ h);obtain⟨its,_,⟨o',h3,h4,_⟩,_⟩:=I.tupR g h';rw[h1]at h3;cases h3;rw[h2.1]at h4;exact absurd (mS h4) (by decide)
def _root_.L2.Inv.noDL{a:ai}{k_:List (Key×V)}{ws:List V}(I:Inv X h_ σ H s)(g:Good F H)(h:F a=a_ (.dK k_))(h':oG X.K F a ws):False:=by
 obtain⟨_,_,_,_,o,es,ep,h1,h2,_⟩:=I.hok a _ (g.sub _ _ h);obtain⟨its,_,pl,_⟩:=I.lstR g h';obtain⟨o',h3,h4,_⟩:=pl.isList;rw[h1]at h3;cases h3;rw[h2.1]at h4;exact absurd (mS h4) (by decide)
mutual
theorem DN(I:Inv X h_ σ H s)(g:Good F H):∀(da db:Dat){x:V},Rep X.K F da x->Rep X.K F db x->da=db
 |.non,db,x,ra,rb=>by
   rw[show x=.non from ra]at rb
   cases db with
   |non=>rfl
   |tup _=>obtain⟨_,_,z,_⟩:=rb;cases z
   |lst _=>obtain⟨_,_,z,_⟩:=rb;cases z
   |dct _ _=>obtain⟨_,_,z,_⟩:=rb;cases z
   |dcn _=>obtain⟨_,_,z,_⟩:=rb;cases z
   |_=>cases rb
 |.bl b,db,x,ra,rb=>by
   rw[show x=.bl b from ra]at rb
   cases db with
   |bl c=>cases rb;rfl
   |tup _=>obtain⟨_,_,z,_⟩:=rb;cases z
   |lst _=>obtain⟨_,_,z,_⟩:=rb;cases z
   |dct _ _=>obtain⟨_,_,z,_⟩:=rb;cases z
   |dcn _=>obtain⟨_,_,z,_⟩:=rb;cases z
   |_=>cases rb
 |.int i,db,x,ra,rb=>by
   rw[show x=.int i from ra]at rb
   cases db with
   |int c=>cases rb;rfl
   |tup _=>obtain⟨_,_,z,_⟩:=rb;cases z
   |lst _=>obtain⟨_,_,z,_⟩:=rb;cases z
   |dct _ _=>obtain⟨_,_,z,_⟩:=rb;cases z
   |dcn _=>obtain⟨_,_,z,_⟩:=rb;cases z
   |_=>cases rb
 |.str i,db,x,ra,rb=>by
   rw[show x=.str i from ra]at rb
   cases db with
   |str c=>cases rb;rfl
   |tup _=>obtain⟨_,_,z,_⟩:=rb;cases z
   |lst _=>obtain⟨_,_,z,_⟩:=rb;cases z
   |dct _ _=>obtain⟨_,_,z,_⟩:=rb;cases z
   |dcn _=>obtain⟨_,_,z,_⟩:=rb;cases z
   |_=>cases rb
 |.tup ds,db,x,z3,rb=>by
   obtain⟨p,vs,e,t,r⟩:=z3;subst e
   cases db with
   |tup es=>
     obtain⟨q,us,e',t',r'⟩:=rb;cases e';have ev:vs=us:=I.oj (t.mono g.sub).sq (t'.mono g.sub).sq;subst ev;rw[p4 I g ds es r r']
   |lst es=>
     obtain⟨q,us,e',t',r'⟩:=rb;cases e';exact(I.noLT g t' t).elim
   |dct ks es=>
     obtain⟨q,us,e',t',r'⟩:=rb;cases e';exact(I.noDT g t' t).elim
   |dcn ks=>
     obtain⟨q,us,e',t',r'⟩:=rb;cases e';exact(I.noNT g t' t).elim
   |_=>cases rb
 |.lst ds,db,x,z3,rb=>by
   obtain⟨p,vs,e,t,r⟩:=z3;subst e
   cases db with
   |lst es=>
     obtain⟨q,us,e',t',r'⟩:=rb;cases e';have ev:vs=us:=I.qc (g.sub.seq t) (g.sub.seq t');subst ev;rw[p4 I g ds es r r']
   |tup es=>
     obtain⟨q,us,e',t',r'⟩:=rb;cases e';exact(I.noLT g t t').elim
   |dct ks es=>
     obtain⟨q,us,e',t',r'⟩:=rb;cases e';exact(I.noDL g t' t).elim
   |dcn ks=>
     obtain⟨q,us,e',t',r'⟩:=rb;cases e';exact(I.noNL g t' t).elim
   |_=>cases rb
 |.dct ks ds,db,x,z3,rb=>by
   obtain⟨p,k_,e,t,kk,r⟩:=z3;subst e
   cases db with
   |dct ks' es=>
     obtain⟨q,us,e',t',k',r'⟩:=rb;cases e';rw[t]at t';cases t';rw[<-kk,<-k',p4 I g ds es r r']
   |lst es=>
     obtain⟨q,us,e',t',r'⟩:=rb;cases e';exact(I.noDL g t t').elim
   |tup es=>
     obtain⟨q,us,e',t',r'⟩:=rb;cases e';exact(I.noDT g t t').elim
   |dcn _=>
     obtain⟨q,us,e',t',r'⟩:=rb;cases e';rw[t]at t';cases t'
   |_=>cases rb
 |.dcn ks,db,x,z3,rb=>by
   obtain⟨p,xs,e,t,r⟩:=z3;subst e
   cases db with
   |dcn ks'=>
     obtain⟨q,us,e',t',r'⟩:=rb;cases e';rw[t]at t';cases t';rw[<-r.1,<-r'.1]
   |dct _ _=>
     obtain⟨q,us,e',t',r'⟩:=rb;cases e';rw[t]at t';cases t'
   |lst es=>
     obtain⟨q,us,e',t',r'⟩:=rb;cases e';exact(I.noNL g t t').elim
   |tup es=>
     obtain⟨q,us,e',t',r'⟩:=rb;cases e';exact(I.noNT g t t').elim
   |_=>cases rb
theorem p4(I:Inv X h_ σ H s)(g:Good F H):∀(ds es:List Dat){vs:List V},cy X.K F ds vs->cy X.K F es vs->ds=es
 |[],es,vs,h,h'=>by
   rw[show vs=[]from h]at h'
   cases es with
   |nil=>rfl
   |cons _ _=>obtain⟨_,_,z,_⟩:=h';cases z
 |d::ds,es,vs,z3,h'=>by
   obtain⟨v,r,e,h1,h2⟩:=z3;subst e
   cases es with
   |nil=>exact nomatch (show v::r=[]from h')
   |cons f fs=>
     obtain⟨v',r',e',h1',h2'⟩:=h';cases e';rw[DN I g d f h1 h1',p4 I g ds fs h2 h2']
end
def Bw(da:Dat)(ds:List Dat)(its:List ab)(w:ab):Bool:=@decide (∃(i:Nat) (d:Dat),its[i]?=a_ w/\ds[i]?=a_ d/\jT d da=c_) (lI _)
def CK(I:Inv X h_ σ H s)(g:Good F H){da:Dat}{ds:List Dat}{vs:List V}{its:List ab}(r:cy X.K F ds vs)(w:cD vs its){i:Nat}{d:Dat}{u:ab}(h1:its[i]?=a_ u)(h2:ds[i]?=a_ d):Bw da ds its u=jT d da:=by
 have one:∀(j:Nat)d',its[j]?=a_ u->ds[j]?=a_ d'->d'=d:=λj d' q1 q2=>by
  obtain⟨v,e1,e2⟩:=r.get h2;obtain⟨v',e1',e2'⟩:=r.get q2;obtain⟨u1,f1,f2⟩:=w.get e1;obtain⟨u2,f1',f2'⟩:=w.get e1';rw[h1]at f1;cases f1;rw[q1]at f1';cases f1';have:=f2.inj f2';subst this;exact(DN I g d d' e2 e2').symm
 unfold Bw;by_cases hd:jT d da=c_
 ·rw[hd];exact@decide_eq_true _ (lI _) ⟨i,d,h1,h2,hd⟩
 ·have:jT d da=d_:=by simpa using hd
  rw[this];refine@decide_eq_false _ (lI _) λ⟨j,d',q1,q2,q3⟩=>?_;rw[one j d' q1 q2]at q3;exact hd q3
def tV(I:Inv X h_ σ H s)(g:Good F H){da:Dat}{ds:List Dat}{vs:List V}{its:List ab}(r:cy X.K F ds vs)(w:cD vs its):its.any (Bw da ds its)=ds.any λy=>jT y da:=by
 have hl:its.length=ds.length:=by rw[<-w.length,r.length]
 rw[L8,tz,tz];constructor
 ·rintro⟨u,hu,h⟩;obtain⟨i,hi,e⟩:=kE hu;have hi2:i<ds.length:=by omega
  refine⟨ds[i],bI hi2,?_⟩;rw[<-CK I g r w (by rw[aj hi,e]) (aj hi2)];exact h
 ·rintro⟨d,hd,h⟩;obtain⟨i,hi,e⟩:=kE hd;have hi2:i<its.length:=by omega
  refine⟨its[i],bI hi2,?_⟩;rw[CK I g r w (aj hi2) (by rw[aj hi,e])];exact h
def yq(I:Inv X h_ σ H s)(g:Good F H)(A:br){da:Dat}{ds:List Dat}{vs:List V}{its:List ab}{x:V}{u:ab}(hu:A.units+20<cg)(sa:fx 20 da=c_)(ss:dm 20 ds=c_)(ra:Rep X.K F da x)(rx:RelV x u)(r:cy X.K F ds vs)(w:cD vs its) :
  ∀y∈its,mX A s y u (Bw da ds its y):=λy hy=>by
 obtain⟨i,hi,e⟩:=kE hy;have hl:its.length=ds.length:=by rw[<-w.length,r.length]
 have hi2:i<ds.length:=by omega
 have h1:its[i]?=a_ y:=by rw[aj hi,e]
 have h2:=aj hi2;rw[CK I g r w h1 h2];obtain⟨v,e1,e2⟩:=r.get h2;obtain⟨u1,f1,f2⟩:=w.get e1;rw[h1]at f1;cases f1;exact(uW I g 20 A ds[i] da hu (kA ss h2) sa e2 ra f2 rx).1
set_option tactic.hygienic true
def RO(hu:X.A.units+21<cg):jd X (compareOp .In) (gB X.K (mj .isin)):=λh_ s σ H x y v u Q I rx ry z12=>by
 obtain⟨da,db,d,fr,h,F,g,ra,rb,k⟩:=z12;obtain⟨b,hd,rfl,rfl⟩:=jP h;have hu1:X.A.in1.units+20<cg:=by show X.A.units+1+20<cg;omega
 cases db with
 |str z=>
   cases da with
   |str z'=>
     simp only[dF,yY,CW,pB,Bx]at hd;cases hd;exact Gs h_ s σ H x y v u Q I rx ry ⟨_,_,ra,rb,k _ F H (Step.refl g) rfl bp⟩
   |_=>cases hd
 |lst ds=>
   have hd':(if fx 20 da && dm 20 ds then a_ (ds.any λy=>jT y da)else b_)=a_ b:=by cases da<;>exact hd
   split at hd'
   ·rename_i hs;rw[aq]at hs;cases hd';obtain⟨p,vs,rfl,t,r⟩:=rb;obtain rfl:u=.ref p:=ry;obtain⟨its,w,pl,_⟩:=I.lstR g t;refine SeqAt.in_listAt (Bw da ds its) pl.isList (λy hy=>yq I g _ hu1 hs.1 hs.2 ra rx r w y (by simpa using hy)) ⟨.bl _,H,I,rfl,?_⟩;rw[show its.toArray.any (Bw da ds its)=its.any (Bw da ds its) by simp,tV I g r w];exact k _ F H (Step.refl g) rfl bp
   ·cases hd'
 |tup ds=>
   have hd':(if fx 20 da && dm 20 ds then a_ (ds.any λy=>jT y da)else b_)=a_ b:=by cases da<;>exact hd
   split at hd'
   ·rename_i hs;rw[aq]at hs;cases hd';obtain⟨p,vs,rfl,t,r⟩:=rb;obtain rfl:u=.ref p:=ry;obtain⟨its,w,pl,_⟩:=I.tupR g t;refine SeqAt.in_tupleAt (Bw da ds its) pl (λy hy=>yq I g _ hu1 hs.1 hs.2 ra rx r w y (by simpa using hy)) ⟨.bl _,H,I,rfl,?_⟩;rw[show its.toArray.any (Bw da ds its)=its.any (Bw da ds its) by simp,tV I g r w];exact k _ F H (Step.refl g) rfl bp
   ·cases hd'
 |dcn ks=>
   have hd':(tK da).map (λk=>decide (k∈ks))=a_ b:=by cases da<;>exact hd
   obtain⟨kk,hk,hd'⟩:=dX hd';subst hd';obtain⟨p,xs,rfl,hF,al⟩:=rb;obtain rfl:u=.ref p:=ry;exact SY (by omega) I g hk ra rx hF al (k _ F H (Step.refl g) rfl bp)
 |dct ks ds=>
   have hd2:(match qg da with|some k=>a_ (jm k ks ds).isSome|none=>if ks.isEmpty=c_ then(tK da).map λ_=>d_ else b_)=a_ b:=by cases da<;>exact hd
   cases hkd:qg da with
   |none=>
     rw[hkd]at hd2;dsimp only at hd2;split at hd2
     ·rename_i he;obtain⟨kk,hk,hd2⟩:=dX hd2;subst hd2;obtain⟨p,k_,rfl,hF,rfl,rr⟩:=rb;obtain rfl:u=.ref p:=ry;have e0:k_=[]:=by simpa using he
      subst e0;exact Oc (by omega) I g hk ra rx hF (k _ F H (Step.refl g) rfl bp)
     ·cases hd2
   |some kk0=>
   rw[hkd]at hd2;have hd':(qg da).map (λk=>(jm k ks ds).isSome)=a_ b:=by rw[hkd];exact hd2
   obtain⟨kk,hk,hd'⟩:=dX hd';subst hd';obtain⟨p,k_,rfl,hF,rfl,rr⟩:=rb;obtain rfl:=qf hk ra;obtain rfl:u=.ref p:=ry
   have e1:(jm kk (k_.map (·.1)) ds).isSome=(k8 k_ kk).isSome:=by
    cases q:jm kk (k_.map (·.1)) ds with
    |none=>rw[rl q rr];rfl
    |some d=>obtain⟨w,e2,_⟩:=oz q rr;rw[e2];rfl
   refine Yy (o:=k8 k_ kk) (by omega) I (sS.k (g.sub _ _ hF)) rx λs' I'=>⟨.bl _,H,I',rfl,?_⟩
   rw[<-e1];exact k _ F H (Step.refl g) rfl bp
 |_=>cases da<;>cases hd
def Nz(hu:X.A.units+21<cg):jd X (compareOp .NotIn) (gB X.K (mj .nin)):=λh_ s σ H x y v u Q I rx ry z12=>by
 obtain⟨da,db,d,fr,h,F,g,ra,rb,k⟩:=z12;obtain⟨b,hd,rfl,rfl⟩:=jP h;have hu1:X.A.in1.units+20<cg:=by show X.A.units+1+20<cg;omega
 cases db with
 |str z=>
   cases da with
   |str z'=>
     simp only[dF,yY,CW,pB,Bx]at hd;cases hd;exact xN h_ s σ H x y v u Q I rx ry ⟨_,_,ra,rb,k _ F H (Step.refl g) rfl bp⟩
   |_=>cases hd
 |lst ds=>
   have hd':(if fx 20 da && dm 20 ds then a_ (!(ds.any λy=>jT y da))else b_)=a_ b:=by cases da<;>exact hd
   split at hd'
   ·rename_i hs;rw[aq]at hs;cases hd';obtain⟨p,vs,rfl,t,r⟩:=rb;obtain rfl:u=.ref p:=ry;obtain⟨its,w,pl,_⟩:=I.lstR g t;refine SeqAt.notIn_listAt (Bw da ds its) pl.isList (λy hy=>yq I g _ hu1 hs.1 hs.2 ra rx r w y (by simpa using hy)) ⟨.bl _,H,I,rfl,?_⟩;rw[show its.toArray.any (Bw da ds its)=its.any (Bw da ds its) by simp,tV I g r w];exact k _ F H (Step.refl g) rfl bp
   ·cases hd'
 |tup ds=>
   have hd':(if fx 20 da && dm 20 ds then a_ (!(ds.any λy=>jT y da))else b_)=a_ b:=by cases da<;>exact hd
   split at hd'
   ·rename_i hs;rw[aq]at hs;cases hd';obtain⟨p,vs,rfl,t,r⟩:=rb;obtain rfl:u=.ref p:=ry;obtain⟨its,w,pl,_⟩:=I.tupR g t;refine SeqAt.notIn_tupleAt (Bw da ds its) pl (λy hy=>yq I g _ hu1 hs.1 hs.2 ra rx r w y (by simpa using hy)) ⟨.bl _,H,I,rfl,?_⟩;rw[show its.toArray.any (Bw da ds its)=its.any (Bw da ds its) by simp,tV I g r w];exact k _ F H (Step.refl g) rfl bp
   ·cases hd'
 |dct ks ds=>
   have hd':(qg da).map (λk=>!(jm k ks ds).isSome)=a_ b:=by cases da<;>exact hd
   obtain⟨kk,hk,hd'⟩:=dX hd';subst hd';obtain⟨p,k_,rfl,hF,rfl,rr⟩:=rb;obtain rfl:=qf hk ra;obtain rfl:u=.ref p:=ry
   have e1:(jm kk (k_.map (·.1)) ds).isSome=(k8 k_ kk).isSome:=by
    cases q:jm kk (k_.map (·.1)) ds with
    |none=>rw[rl q rr];rfl
    |some d=>obtain⟨w,e2,_⟩:=oz q rr;rw[e2];rfl
   refine OC (o:=k8 k_ kk) (by omega) I (sS.k (g.sub _ _ hF)) rx λs' I'=>⟨.bl _,H,I',rfl,?_⟩
   rw[<-e1];exact k _ F H (Step.refl g) rfl bp
 |_=>cases da<;>cases hd
set_option tactic.hygienic false
end
def gM(K:Fg)(f:Dat->List Dat->g_):V->List V->Hp->VK->Prop:=λx xs H Q=>∃da ds d fr F,f da ds=a_ (d,fr)/\Good F H/\Rep K F da x/\cy K F ds xs/\∀v F' H',Step F H F' H'->Rep K F' d v->(fr=c_->fi K H H' d v)->Q v H'
section
variable{X:Cx}{C:Fs}{o e:aI}{es:List aI}{xo:Ex}{xs:List Ex}
def Gy{m:O4}(hs:∀da ds r,j5 m da ds=a_ r->∃z,da=.str z):∀σ H Q,gE X.K C (.l5 m xo xs) σ H Q->Xg X.K "str" (gM X.K (j5 m)) (gE X.K C xo) (gA X.K C xs) σ H Q:=λσ H Q z3=>by
 obtain⟨ρ,d,fr,h,F,g,R,k⟩:=z3;obtain⟨⟨da,fa⟩,h1,h⟩:=cU h;obtain⟨ds,h2,h3⟩:=cU h;obtain⟨z,hz⟩:=hs da ds _ h3;refine⟨ρ,da,fa,h1,F,g,R,λv F1 H1 ee r1 _=>⟨?_,ρ,ds,h2,F1,ee.good,R.mono ee.ff,λvs F2 H2 iu r2=>⟨da,ds,d,fr,F2,h3,iu.good,r1.mono iu.ff,r2,λw F3 H3 oo r3 f3=>k w F3 H3 ((ee.trans iu).trans oo) r3 λq=>(f3 q).back (F:=F) (ee.hh.trans iu.hh)⟩⟩⟩;rw[hz]at r1;rw[show v=.str z from r1];exact rfl
def Cp{m:O4}(hs:∀da ds r,j5 m da ds=a_ r->∃z,da=.str z):∀σ H Q,gE X.K C (.l5 m xo []) σ H Q->Vf X.K "str" (gM X.K (j5 m)) (gE X.K C xo) σ H Q:=λσ H Q z3=>by
 obtain⟨ρ,d,fr,h,F,g,R,k⟩:=z3;obtain⟨⟨da,fa⟩,h1,h⟩:=cU h;obtain⟨ds,h2,h3⟩:=cU h;cases h2;obtain⟨z,hz⟩:=hs da [] _ h3;refine⟨ρ,da,fa,h1,F,g,R,λv F1 H1 ee r1 _=>⟨?_,da,[],d,fr,F1,h3,ee.good,r1,rfl,λw F3 H3 oo r3 f3=>k w F3 H3 (ee.trans oo) r3 λq=>(f3 q).back (F:=F) ee.hh⟩⟩;rw[hz]at r1;rw[show v=.str z from r1];exact rfl
def HN{vs:List V}{us:List ab}{F:Hp}(r:cy X.K F [] vs)(w:cD vs us):us=[]:=by
 rw[show vs=[]from r]at w;cases w;rfl
section
variable{h_:List (ai×fe)}{s:ae}{σ:St}{H:Hp}
set_option tactic.hygienic true
def wB{da:Dat}{ds:List Dat}{r:Dat×Bool}(h:j5 .upper da ds=a_ r):∃x,da=.str x/\ds=[]/\j5 .upper (.str x) []=a_ r:=by
 cases da with
 |str x=>
   cases ds with
   |nil=>exact⟨x,rfl,rfl,h⟩
   |cons d1 ds=>cases ds<;>cases d1<;>cases h
 |_=>cases ds<;>first|cases h|(rename_i d1 ds;cases ds<;>cases d1<;>cases h)
def Am{da:Dat}{ds:List Dat}{r:Dat×Bool}(h:j5 .join da ds=a_ r):∃x es,da=.str x/\ds=[.lst es]/\j5 .join (.str x) [.lst es]=a_ r:=by
 cases da with
 |str x=>
   cases ds with
   |nil=>cases h
   |cons d1 ds=>
     cases ds with
     |nil=>
       cases d1 with
       |lst y=>exact⟨x,y,rfl,rfl,h⟩
       |_=>cases h
     |cons _ _=>cases d1<;>cases h
 |_=>cases ds<;>first|cases h|(rename_i d1 ds;cases ds<;>cases d1<;>cases h)
def JU:U5 X "str.upper" (gM X.K (j5 .upper)):=λh_ s σ H x xs v us Q I rx rv z12=>by
 obtain⟨da,ds,d,fr,F,h,g,ra,rs,k⟩:=z12;obtain⟨x',rfl,rfl,h⟩:=wB h;simp only[j5,UP,PD,Xj,NU,NV]at h;split at h
 ·rename_i hz;cases h;rw[show x=.str x' from ra]at rx;obtain⟨t,rfl⟩:=rx;obtain rfl:=HN rs rv;exact SCL.upper (by omega) λ_=>⟨.str _,H,I.tok _,⟨_,rfl⟩,k _ F H (Step.refl g) rfl bp⟩
 ·cases h
theorem zu{F:Hp}:∀{es:List Dat}{ys:List aV}{vs:List V}{us:List ab},jX es=a_ ys->cy X.K F es vs->cD vs us->lS us ys
 |[],ys,vs,us,h,r,w=>by
   cases h;rw[show vs=[]from r]at w;cases w;exact .nil
 |d::es,ys,vs,us,h,r,w=>by
   cases d with
   |str x=>
     simp only[jX]at h;obtain⟨zs,h1,h⟩:=dX h;cases h;obtain⟨v,q,e,r1,r2⟩:=r;subst e;rw[show v=.str x from r1]at w
     cases w with
     |cons w1 w2=>
       obtain⟨t,rfl⟩:=w1;exact .cons x t (zu h1 r2 w2)
   |_=>cases h
def NR:U5 X "str.join" (gM X.K (j5 .join)):=λh_ s σ H x xs v us Q I rx rv z12=>by
 obtain⟨da,ds,d,fr,F,h,g,ra,rs,k⟩:=z12;obtain⟨x',es,rfl,rfl,h⟩:=Am h;simp only[j5,UP,PD,Xj,NU,NV]at h;obtain⟨ys,h1,h⟩:=cU h;split at h
 ·rename_i hz;cases h;rw[show x=.str x' from ra]at rx;obtain⟨t,rfl⟩:=rx;obtain⟨v1,q,e,⟨p,vs,e1,tq,r1⟩,r2⟩:=rs;rw[show q=[]from r2]at e;subst e e1;obtain⟨u,rfl,ru⟩:=vals1 rv;obtain rfl:u=.ref p:=ru;obtain⟨its,w1,pl,_⟩:=I.lstR g tq;exact join_list pl.isList (by simpa using zu h1 r1 w1) (by omega) λt' k'=>⟨.str _,H,I.tok _,⟨_,rfl⟩,k _ F H (Step.refl g) rfl bp⟩
 ·cases h
set_option tactic.hygienic false
end
end
section
variable{X:Cx}{C:Fs}{o e:aI}{es:List aI}{xo xa:Ex}{xs:List Ex}{pos:fu}
def fi.vL{K:Fg}{H:Hp}{p:ai}(hp:H p=b_):fi K H (L2.upd H p (.dK [])) (.dct [] []) (.ref p):=
 ⟨[p],by simp,λa m=>by rw[aF.mp m];exact hp,p,[],[],rfl,cw,rfl,⟨rfl,rfl⟩,rfl⟩
def MV:SE X C (.Dict [] [] pos) .vL:=PE.imp Jp λσ H Q z3 p hp=>by
 obtain⟨ρ,d,fr,h,F,g,R,k⟩:=z3;cases h;exact k _ _ _ (Step.alloc g hp) ⟨p,[],rfl,cw,rfl,rfl⟩ λ_=>.vL hp
noncomputable def baseOk:aI->Bool
 |.Call (.Name _ _) [] [] _=>d_
 |_=>c_
def xj{m:aV}{env:vq}{w:Sem ab}(h:baseOk o=c_):attributeBase o m env w=w:=by
 cases o with
 |Call f a k p=>
   cases f with
   |Name x q=>
     cases a with
     |nil=>
       cases k with
       |nil=>cases h
       |cons _ _=>rfl
     |cons _ _=>rfl
   |_=>rfl
 |_=>rfl
def Vr{m:O4}{name:aV}{id:String}{ap cp:fu}(slot:Slot "str" name id)(ty:typeOf (.builtin id)=pure (.type "method_descriptor"))(hm:U5 X id (gM X.K (j5 m)))(hs:∀da ds r,j5 m da ds=a_ r->∃z,da=.str z)
  (ho:SE X C o xo)(ha:SA X C [e] [xa])(hb:baseOk o=c_)(hl:(ap.endLine == cp.line)=c_)(h1:aU [e] X.env=(d_,eval e X.env)::aU [] X.env):SE X C (.Call (.Attribute o name ap) [e] [] cp) (.l5 m xo [xa]):=
 PE.imp (D0 xv slot ty hm ho ha (xj hb) (by rw[h1];rfl) hl h1 rfl) (Gy hs)
def Vs{m:O4}{name:aV}{id:String}{ap cp:fu}(slot:Slot "str" name id)(ty:typeOf (.builtin id)=pure (.type "method_descriptor"))(hm:U5 X id (gM X.K (j5 m)))(hs:∀da ds r,j5 m da ds=a_ r->∃z,da=.str z)
  (ho:SE X C o xo)(hb:baseOk o=c_)(hl:(ap.endLine == cp.line)=c_):SE X C (.Call (.Attribute o name ap) [] [] cp) (.l5 m xo []):=
 PE.imp (RB xv slot ty hm ho (xj hb) hl) (Cp hs)
def TZ(m:aV)(k:Nat):Option O4:=
 if m="join"/\k=1 then a_ .join else if m="upper"/\k=0 then a_ .upper else b_
set_option tactic.hygienic true in
def OO{m:aV}{mt:O4}{ap cp:fu}(hu:X.A.units+1<cg)(h:TZ m es.length=a_ mt)(ho:SE X C o xo)(ha:SA X C es xs)(hlen:xs.length=es.length)(hst:∀e,es=[e]->aU [e] X.env=(d_,eval e X.env)::aU [] X.env)(hb:baseOk o=c_)(hl:(ap.endLine == cp.line)=c_) :
  SE X C (.Call (.Attribute o m ap) es [] cp) (.l5 mt xo xs):=by
 have one:es.length=1->∃e xa,es=[e]/\xs=[xa]:=λq=>by
  match es,xs,hlen,q with
  |[e],[xa],_,_=>exact⟨e,xa,rfl,rfl⟩
 have nil:es.length=0->es=[]/\xs=[]:=λq=>by
  match es,xs,hlen,q with
  |[],[],_,_=>exact⟨rfl,rfl⟩
 unfold TZ at h;split at h
 ·rename_i q;cases h;obtain⟨rfl,q⟩:=q;obtain⟨e,xa,rfl,rfl⟩:=one q;exact Vr PySem.F.slot_str_join PySem.F.type_str_join NR (λ_ _ _ h=>let ⟨x,_,q,_⟩:=Am h;⟨x,q⟩) ho ha hb hl (hst e rfl)
 split at h
 ·rename_i q;cases h;obtain⟨rfl,q⟩:=q;obtain⟨rfl,rfl⟩:=nil q;exact Vs PySem.F.slot_str_upper PySem.F.type_str_upper JU (λ_ _ _ h=>let ⟨x,q,_⟩:=wB h;⟨x,q⟩) ho hb hl
 ·cases h
end
structure LO{α:Type}(lt:α->α->Bool):Prop where
 irr:∀x,lt x x=d_
 tr:∀x y z,lt x y=c_->lt y z=c_->lt x z=c_
 tot:∀x y,lt x y=d_->lt y x=d_->x=y
def LO.Lm{α:Type}{lt:α->α->Bool}(o:LO lt){x y:α}(h:lt x y=c_):lt y x=d_:=by
 cases q:lt y x with
 |false=>rfl
 |true=>have:=o.tr _ _ _ h q;rw[o.irr]at this;cases this
def LO.V6{α:Type}{lt:α->α->Bool}(o:LO lt){x y z:α}(h:lt y x=d_)(h':lt z y=d_):lt z x=d_:=by
 cases q:lt z x with
 |false=>rfl
 |true=>
   cases r:lt y z with
   |true=>have:=o.tr _ _ _ r q;rw[h]at this;cases this
   |false=>have:=o.tot _ _ r h';subst this;rw[h]at q;cases q
def Sm:LO ltI:=⟨λx=>by simp[ltI],λx y z h h'=>by simp[ltI]at *;omega,λx y h h'=>by simp[ltI]at *;omega⟩
def NZ:LO p9:=⟨λx=>by simp[p9],λx y z h h'=>by
  simp only[p9,decide_eq_true_eq]at *
  exact List.lt_trans h h',λx y h h'=>by
  simp only[p9,decide_eq_false_iff_not]at *;have:x.cps.toList=y.cps.toList:=List.le_antisymm (List.not_lt.mp h') (List.not_lt.mp h);obtain⟨a⟩:=x;obtain⟨b⟩:=y;obtain⟨a⟩:=a;obtain⟨b⟩:=b;simp at this
  rw[this]⟩
section
variable{α:Type}{lt:α->α->Bool}
set_option tactic.hygienic true
theorem uF(o:LO lt){x z:α}:∀{l:List α},z∈uN lt x l↔z=x\/z∈l
 |[]=>by simp[uN]
 |y::ys=>by
   unfold uN;split
   ·rw[ao]
   ·rename_i h1;split
    ·rw[ao,uF o,ao];constructor
     ·rintro(h|h|h)
      ·exact .inr (.inl h)
      ·exact .inl h
      ·exact .inr (.inr h)
     ·rintro(h|h|h)
      ·exact .inr (.inl h)
      ·exact .inl h
      ·exact .inr (.inr h)
    ·rename_i h2;have:=o.tot x y (by simpa using h1) (by simpa using h2);subst this;rw[ao];exact⟨λh=>.inr h,λh=>h.elim .inl id⟩
theorem fm(o:LO lt){z:α}:∀{l:List α},z∈dQ lt l↔z∈l
 |[]=>Iff.rfl
 |x::l=>by rw[dQ,uF o,fm o,ao]
theorem DS(o:LO lt){x:α}:∀{l:List α},l.Pairwise (λa b=>lt a b=c_)->(uN lt x l).Pairwise (λa b=>lt a b=c_)
 |[],_=>by simp[uN]
 |y::ys,h=>by
   obtain⟨h1,h2⟩:=dM.mp h;unfold uN;split
   ·rename_i q;refine dM.mpr ⟨λz hz=>?_,h⟩
    rcases ao.mp hz with rfl|hz
    ·exact q
    ·exact o.tr _ _ _ q (h1 z hz)
   ·split
    ·rename_i q;refine dM.mpr ⟨λz hz=>?_,DS o h2⟩
     rcases(uF o).mp hz with rfl|hz
     ·exact q
     ·exact h1 z hz
    ·exact h
theorem fU(o:LO lt):∀(l:List α),(dQ lt l).Pairwise (λa b=>lt a b=c_)
 |[]=>.nil
 |x::l=>DS o (fU o l)
def jy(o:LO lt){l:List α}(h:l.Pairwise (λa b=>lt a b=c_)):l.Nodup:=h.imp λq e=>by subst e;rw[o.irr]at q;cases q
theorem qV{x:α}:∀{l:List α},(CB lt x l).Perm (x::l)
 |[]=>.refl _
 |y::ys=>by
   unfold CB;split
   ·exact(qV.cons y).trans (.swap _ _ _)
   ·exact .refl _
theorem kG:∀(l:List α),(mW lt l).Perm l
 |[]=>.refl _
 |x::l=>qV.trans ((kG l).cons x)
theorem DR(o:LO lt){x:α}:∀{l:List α},l.Pairwise (λa b=>lt b a=d_)->(CB lt x l).Pairwise (λa b=>lt b a=d_)
 |[],_=>by simp[CB]
 |y::ys,h=>by
   obtain⟨h1,h2⟩:=dM.mp h;unfold CB;split
   ·rename_i q;refine dM.mpr ⟨λz hz=>?_,DR o h2⟩
    rcases ao.mp (qV.mem_iff.mp hz)with rfl|hz
    ·exact o.Lm q
    ·exact h1 z hz
   ·rename_i q;have q':lt y x=d_:=by simpa using q
    refine dM.mpr ⟨λz hz=>?_,h⟩
    rcases ao.mp hz with rfl|hz
    ·exact q'
    ·exact o.V6 q' (h1 z hz)
set_option tactic.hygienic false
theorem zO(o:LO lt):∀(l:List α),(mW lt l).Pairwise (λa b=>lt b a=d_)
 |[]=>.nil
 |x::l=>DR o (zO o l)
def t6(o:LO lt){l r:List α}(hp:r.Perm l)(hs:r.Pairwise (λa b=>lt b a=d_)):r=mW lt l:=
 iV (le:=λa b=>lt b a=d_) (λa b _ _ h h'=>o.tot _ _ h' h) hs (zO o l) (hp.trans (kG l).symm)
end
theorem IQ:∀{l:List aV}{p:aV},risingS p l=c_->(p::l).Pairwise (λa b=>p9 b a=d_)
 |[],p,_=>by simp
 |x::r,p,h=>by
   simp only[risingS,aq,iE]at h;obtain⟨h1,h2⟩:=h;rw[ltCps_eq]at h1;have h1':p9 x p=d_:=h1;have ih:=IQ h2;refine dM.mpr ⟨λz hz=>?_,ih⟩
   rcases ao.mp hz with rfl|hz
   ·exact h1'
   ·exact NZ.V6 h1' ((dM.mp ih).1 z hz)
def QD{l:List aV}(h:sortedS l=c_):l.Pairwise (λa b=>p9 b a=d_):=by
 cases l with
 |nil=>exact .nil
 |cons x r=>exact IQ h
def SX{l:List Int}(h:l.Pairwise (·<=·)):l.Pairwise (λa b=>ltI b a=d_):=h.imp λq=>by simp[ltI];omega
theorem Rc{K:Fg}{F:Hp}:∀{ds:List Dat}{is:List Int}{vs:List V}{us:List ab},lz ds=a_ is->cy K F ds vs->cD vs us->kU us is
 |[],is,vs,us,h,r,w=>by
   cases h;rw[show vs=[]from r]at w;cases w;exact .nil
 |d::ds,is,vs,us,h,z5,w=>by
   obtain⟨v,r,e,h1,h2⟩:=z5;subst e
   cases d with
   |int i=>
     simp only[lz]at h;obtain⟨js,h3,h4⟩:=dX h;subst h4
     cases w with
     |cons a b=>
       cases h1;obtain⟨t,rfl⟩:=a;exact .cons _ _ (Rc h3 h2 b)
   |_=>cases h
theorem Rb{K:Fg}{F:Hp}:∀{ds:List Dat}{is:List aV}{vs:List V}{us:List ab},jX ds=a_ is->cy K F ds vs->cD vs us->lS us is
 |[],is,vs,us,h,r,w=>by
   cases h;rw[show vs=[]from r]at w;cases w;exact .nil
 |d::ds,is,vs,us,h,z5,w=>by
   obtain⟨v,r,e,h1,h2⟩:=z5;subst e
   cases d with
   |str i=>
     simp only[jX]at h;obtain⟨js,h3,h4⟩:=dX h;subst h4
     cases w with
     |cons a b=>
       cases h1;obtain⟨t,rfl⟩:=a;exact .cons _ _ (Rb h3 h2 b)
   |_=>cases h
section
variable{X:Cx}{C:Fs}{a:aI}{xa:Ex}{h_:List (ai×fe)}{σ:St}{F H:Hp}{s:ae}
def xD{h':bH}{l:ai}{out:List ab}{e tk:Nat}{d:Drawn}{vs:List V}(I:Inv X h_ σ H s)(ex:∀b o,s.heap.get? b=a_ o->h'.get? b=a_ o)(hl:s.heap.objs.size<=l)(g:h'.get? l=a_ (seqObj "list" out.toArray e))(w:cD vs out)(hz:vs.length<=aE) :
  Inv X h_ σ (upd H l (.lst vs)) { s with heap:=h',drawn:=d,toks:=tk }:=by
 have I2:Inv X h_ σ (upd H l (.lst vs)) { s with heap:=h',toks:=tk }:=I.laid ex hl ⟨hz,out,e,w,g⟩;exact⟨I2.ok,I2.os,I2.bare,I2.base,I2.loc,I2.cell,I2.free,I2.freeC,I2.pin,I2.hok,I2.len⟩
def rN{prog:aP}{w:bo}{A:br}{l:ai}{its:List ab}{Gd:List ab->Prop}(hl:s.heap.IsList l its.toArray)(hz:its.length<=aE)(hg:Gd its):vn prog w A s (.ref l) Gd:=by
 intro A' E' Q' _ k;refine collect_list hl ?_ hz;have:=k its ((s.heap.push (seqObj "list" #[] 0)).update s.heap.objs.size (eM (·++its.toArray))) s.drawn s.toks (λb o q=>?_) ?_ hg
 ·exact this
 ·rw[Fq _ _ _ _ (bu (hl9 q))];exact hp9 _ q
 ·rw[Heap.size_update,BC];exact mB _
def FQ{x:aV}{acc:Array ab}(h:ItemsOf (SignAt x) acc x.cps.size):lS acc.toList (dW x):=by
 obtain⟨h1,h2⟩:=h
 have e:acc.toList.map strOf=dW x:=by
  apply gh
  ·simp[dW,h1]
  ·intro n a b;have ha:n<acc.size:=by simpa using a
   obtain⟨c,u,q1,q2⟩:=h2 n acc[n] (aH ha);simp only[tj,oK,dW];rw[q2];have hb:n<x.cps.size:=by rw[<-h1];exact ha
   rw[aH hb]at q1;cases q1;rfl
 rw[<-e];refine strsAre_map _ λv hv=>?_;obtain⟨n,hn,rfl⟩:=bR.mp hv;have ha:n<acc.size:=by simpa using hn
 obtain⟨c,u,q1,q2⟩:=h2 n acc[n] (aH ha);exact⟨_,u,by simpa using q2⟩
def K4{prog:aP}{w:bo}{A:br}{x:aV}{tx:vQ}(hh:A.handled=b_)(hz:x.cps.size<=aE):vn prog w A s (.str x tx) (λvs=>∃ss',lS vs ss'/\ss'.Perm (dW x)):=by
 intro A' E' Q' e k;exact AX (e.trans hh) hz λh1 tk acc ex sz it=>k acc.toList h1 s.drawn tk ex sz ⟨_,FQ it,.refl _⟩
def AJ{Q:VK}{F:Hp}{d:Dat}{fr:Bool}{l:ai}{is:List Int}(g:Good F H)(hfr:H l=b_)(k:∀w F' H',Step F H F' H'->Rep X.K F' (.lst (is.map .int)) w->(c_=c_->fi X.K H H' (.lst (is.map .int)) w)->Q w H'):Q (.ref l) (upd H l (.lst (is.map V.int))):=
 k _ _ _ (Step.alloc g hfr) ⟨l,_,rfl,.inl (.inl cw),XW is⟩ λ_=>.lst (bX.refl _) hfr (.j4 g (Wh is) (XW is))
def uU{Q:VK}{F:Hp}{d:Dat}{fr:Bool}{l:ai}{is:List aV}(g:Good F H)(hfr:H l=b_)(k:∀w F' H',Step F H F' H'->Rep X.K F' (.lst (is.map .str)) w->(c_=c_->fi X.K H H' (.lst (is.map .str)) w)->Q w H'):Q (.ref l) (upd H l (.lst (is.map V.str))):=
 k _ _ _ (Step.alloc g hfr) ⟨l,_,rfl,.inl (.inl cw),XU is⟩ λ_=>.lst (bX.refl _) hfr (.j4 g (Wg is) (XU is))
def ua{n:Nat}(h:n<64):n<=aE:=by rw[bB];omega
def Vl{E:ab->ae->Prop}{v:ab}{is js:List Int}{Q:VK}(I:Inv X h_ σ H s)(h64:js.length<64)(hc:vn X.prog X.w X.A s v (λvs=>∃is',kU vs is'/\is'.Perm is))(he:∀r:List Int,r.Perm is->r.Pairwise (λa b=>ltI b a=d_)->r=js)(hi:is.length=js.length)
  (k:∀l,H l=b_->Q (.ref l) (upd H l (.lst (js.map V.int)))):au (aB X.prog X.w) X.A (call (.builtin "sorted") [v]) (EP X h_ σ Q) E s:=by
 refine Iu (is:=is) (by omega) hc λh' d tk l out is' e ex hl g i1 i2 i3=>?_;obtain rfl:=he is' i2 (SX i3);exact⟨.ref l,_,xD I ex hl g (wC i1) (by rw[ah];exact ua h64),rfl,k l (I.hok.fresh hl)⟩
def QF{E:ab->ae->Prop}{v:ab}{is js:List aV}{Q:VK}(I:Inv X h_ σ H s)(h64:js.length<64)(hc:vn X.prog X.w X.A s v (λvs=>∃is',lS vs is'/\is'.Perm is))(he:∀r:List aV,r.Perm is->r.Pairwise (λa b=>p9 b a=d_)->r=js)(hi:is.length=js.length)
  (k:∀l,H l=b_->Q (.ref l) (upd H l (.lst (js.map V.str)))):au (aB X.prog X.w) X.A (call (.builtin "sorted") [v]) (EP X h_ σ Q) E s:=by
 refine Ir (ss:=is) (by omega) hc λh' d tk l out is' e ex hl g i1 i2 i3=>?_;obtain rfl:=he is' i2 (QD i3);exact⟨.ref l,_,xD I ex hl g (vZ i1) (by rw[ah];exact ua h64),rfl,k l (I.hok.fresh hl)⟩
end
def tO:LO sr:=⟨mO.ir,mO.tr,λx y h h'=>by
 by_cases e:x=y
 ·exact e
 ·have:=mO.co _ _ e h;rw[h']at this;cases this⟩
theorem Ag:∀{ds:List Dat}{q:List Key},oT ds=a_ q->q.all sK=c_->(q.map iK).map Dat.int=ds
 |[],_,h,_=>by cases h;rfl
 |d::ds,_,h,a=>by
   simp only[oT]at h;obtain⟨k,hk,h⟩:=cU h;obtain⟨q,hq,h⟩:=dX h;cases h;simp only[cu,aq]at a;rw[ag,ag,Ag hq a.2]
   cases d with
   |int i=>cases hk;rfl
   |str x=>cases hk;cases a.1
   |_=>cases hk
def OB{d:Dat}{x:N2}(h:PC d=a_ x)(h3:s2 x<3):OA (s2 x) (c2 x)=d:=by
 cases d with
 |int i=>cases h;rfl
 |str y=>
   cases h;show Dat.str ⟨((y.cps.toList.map eN).map t4).toArray⟩=_;rw[bc,show(t4 ∘ eN)=id from rfl,List.map_id]
 |tup es=>
   simp only[PC]at h;obtain⟨q,hq,h⟩:=dX h;cases h;simp only[s2]at h3 ⊢;by_cases c:q.all sK=c_
   ·rw[if_pos c];show Dat.tup ((q.map iK).map .int)=_;rw[Ag hq c]
   ·rw[if_neg c]at h3;omega
 |_=>cases h
theorem AU:∀{ds:List Dat}{k:List N2},Gv ds=a_ k->(∀n∈k.map s2,n<3)->rV OA (k.map s2) (k.map c2)=ds
 |[],_,h,_=>by cases h;rfl
 |d::ds,_,h,h3=>by
   simp only[Gv]at h;obtain⟨x,hx,h⟩:=cU h;obtain⟨q,hq,h⟩:=dX h;cases h;rw[ag]at h3;rw[ag,ag,Bo,OB hx (h3 _ hJ),AU hq λy hy=>h3 y (ib _ hy)]
theorem Eb:∀{ds:List Dat}{q:List N2},Gv ds=a_ q->q.all sI=c_->(q.map S7).map Dat.int=ds
 |[],_,h,_=>by cases h;rfl
 |d::ds,_,h,a=>by
   simp only[Gv]at h;obtain⟨k,hk,h⟩:=cU h;obtain⟨q,hq,h⟩:=dX h;cases h;simp only[cu,aq]at a;rw[ag,ag,Eb hq a.2]
   cases d with
   |int i=>cases hk;rfl
   |str x=>cases hk;cases a.1
   |tup es=>
     simp only[PC]at hk;obtain⟨q2,hq2,hk⟩:=dX hk;cases hk;cases a.1
   |_=>cases hk
def Oz{d:Dat}{x:NK}(h:PB d=a_ x)(h3:vI (sN x)=c_):TC (sN x) (cN x)=d:=by
 cases d with
 |int i=>cases h;rfl
 |str y=>
   cases h;show Dat.str ⟨((y.cps.toList.map eN).map t4).toArray⟩=_;rw[bc,show(t4 ∘ eN)=id from rfl,List.map_id]
 |tup es=>
   simp only[PB]at h;obtain⟨q,hq,h⟩:=dX h;cases h;simp only[sN,cN]at h3 ⊢;by_cases c:q.all sI=c_
   ·rw[if_pos c,if_pos c];show Dat.tup ((q.map S7).map .int)=_;rw[Eb hq c]
   ·rw[if_neg c]at h3;rw[if_neg c,if_neg c];show Dat.tup _=_;rw[AU hq (Jz h3)]
 |_=>cases h
theorem ET:∀{ds:List Dat}{k:List NK},JM ds=a_ k->(∀x∈k,vI (sN x)=c_)->rV TC (k.map sN) (k.map cN)=ds
 |[],_,h,_=>by cases h;rfl
 |d::ds,_,h,h3=>by
   simp only[JM]at h;obtain⟨x,hx,h⟩:=cU h;obtain⟨q,hq,h⟩:=dX h;cases h;rw[ag,ag,Bo,Oz hx (h3 x hJ),ET hq λy hy=>h3 y (ib _ hy)]
def yt{d:Dat}{k:List NK}(h:tK d=a_ k)(h3:∀x∈k,vI (sN x)=c_):uY (k.map sN) (codeN k)=d:=by
 cases d with
 |tup ds=>show Dat.tup _=_;rw[ET h h3]
 |_=>cases h
theorem rh:∀{ds:List Dat}{kk:List (List NK)},lZ ds=a_ kk->kk.length=ds.length/\∀i,i<ds.length->tK (ds.getD i .non)=a_ (kk.getD i [])
 |[],_,h=>by cases h;exact⟨rfl,λi hi=>by cases hi⟩
 |d::ds,_,h=>by
   simp only[lZ]at h;obtain⟨x,hx,h⟩:=cU h;obtain⟨q,hq,h⟩:=dX h;cases h;obtain⟨l,a⟩:=rh hq;refine⟨by simp[l],λi hi=>?_⟩
   cases i with
   |zero=>exact hx
   |succ i=>simpa using a i (by simpa using hi)
theorem El:∀{ds:List Dat}{q:List Key},oT ds=a_ q->iX ds=c_
 |[],_,_=>rfl
 |d::ds,_,h=>by
   simp only[oT]at h;obtain⟨k,hk,h⟩:=cU h;obtain⟨q,hq,_⟩:=dX h;have:=El hq
   cases d<;>first|(cases hk;done)|simp[iX,im,this]
theorem JQ:∀{ds:List Dat}{q:List N2},Gv ds=a_ q->iX ds=c_
 |[],_,_=>rfl
 |d::ds,_,h=>by
   simp only[Gv]at h;obtain⟨k,hk,h⟩:=cU h;obtain⟨q,hq,_⟩:=dX h;have:=JQ hq
   cases d with
   |tup es=>
     simp only[PC]at hk;obtain⟨q2,hq2,_⟩:=dX hk;simp[iX,im,this,El hq2]
   |int _=>simp[iX,im,this]
   |str _=>simp[iX,im,this]
   |_=>cases hk
theorem JL:∀{ds:List Dat}{q:List NK},JM ds=a_ q->iX ds=c_
 |[],_,_=>rfl
 |d::ds,_,h=>by
   simp only[JM]at h;obtain⟨k,hk,h⟩:=cU h;obtain⟨q,hq,_⟩:=dX h;have:=JL hq
   cases d with
   |tup es=>
     simp only[PB]at hk;obtain⟨q2,hq2,_⟩:=dX hk;simp[iX,im,this,JQ hq2]
   |int _=>simp[iX,im,this]
   |str _=>simp[iX,im,this]
   |_=>cases hk
def RZ{d:Dat}{q:List NK}(h:tK d=a_ q):im d=c_:=by
 cases d with
 |tup es=>simp[im,JL h]
 |_=>cases h
theorem zJ{K:Fg}{F:Hp}{ds:List Dat}{vs:List V}(r:cy K F ds vs):∀{js:List Nat},(∀j∈js,j<ds.length)->cy K F (js.map λj=>ds.getD j .non) (js.map λj=>vs.getD j .non)
 |[],_=>rfl
 |j::js,h=>by
   have hj:=h j hJ;obtain⟨v,e,q⟩:=r.get (aj hj);refine⟨vs.getD j .non,_,rfl,?_,zJ r λi hi=>h i (ib _ hi)⟩;show Rep K F (ds.getD j Dat.non) (vs.getD j V.non);rw[show vs.getD j V.non=v by simp[e],show ds.getD j Dat.non=ds[j] by simp[hj]];exact q
def zD{kk:List (List NK)}{js:List Nat}(hsh:∀j,j<kk.length->(kk.getD j []).map sN=xF kk)(h3:∀x∈xF kk,vI x=c_)(sl:Sel (λi=>kk.getD i []) kk.length js) :
  (js.map λj=>codeN (kk.getD j [])).Perm (dQ sr (kk.map codeN)):=by
 have h3':∀j,j<kk.length->∀k∈kk.getD j [],vI (sN k)=c_:=λj hj k hk=>h3 _ (by rw[<-hsh j hj];exact cL hk)
 have n1:(js.map λj=>codeN (kk.getD j [])).Nodup:=by
  have:=eo.mp sl.nd;refine eo.mpr (fw (λ{a b}ma mb h e=>h ?_) this);exact code_inj ((hsh _ (sl.lt a ma)).trans (hsh _ (sl.lt b mb)).symm) (h3' _ (sl.lt a ma)) e
 rw[de n1 (jy tO (fU tO _))];intro z;rw[fm tO,aQ,aQ];constructor
 ·rintro⟨j,hj,rfl⟩;have:=sl.lt j hj;exact⟨kk.getD j [],by rw[show kk.getD j []=kk[j] by simp[this]];exact bI this,rfl⟩
 ·rintro⟨k,hk,rfl⟩;obtain⟨i,hi,rfl⟩:=bR.mp hk;have:=sl.all i hi;obtain⟨j,hj,e⟩:=aQ.mp this;refine⟨j,hj,?_⟩;show codeN (kk.getD j [])=_;rw[show kk.getD j []=kk.getD i []from e,show kk.getD i []=kk[i] by simp[hi]]
noncomputable def adr:V->ai
 |.ref a=>a
 |_=>0
theorem zk{av:Nat->ai}:∀(js:List Nat),cD (js.map λj=>V.ref (av j)) (js.map λj=>bE (av j))
 |[]=>.nil
 |j::js=>.cons rfl (zk js)
section
variable{prog:aP}{w:bo}
def SR{h:bH}{l:ai}{items:Array ab}(hl:h.IsList l items):Ff prog w h (.ref l) items.size (λi v=>items[i]?=a_ v):=by
 intro A1 E1 s1 Q1 sz ex k;have hl1:s1.heap.IsList l items:=hl.at λo e=>ex l o e;have lt:l<h.objs.size:=by obtain⟨o,e,_⟩:=hl;exact hl9 e
 have ne:l≠s1.heap.objs.size:=bu (jK lt sz);refine ng hl1 (k _ [s1.heap.objs.size,l] _ (λA' hA=>Walks.list hA _ l ne items) (λb hb=>?_) ⟨⟨_,aL _ rfl,rfl,rfl⟩,hl1.push _⟩)
 rcases ao.mp hb with z|z
 ·exact .inl z
 ·exact .inr (by rw[aF.mp z];exact lt)
end
section
variable{X:Cx}{h_:List (ai×fe)}{σ:St}{F H:Hp}{s:ae}{E:ab->ae->Prop}{ds:List Dat}{vs:List V}{kk:List (List NK)}
abbrev OX(vs:List V)(j:Nat):ai:=adr (vs.getD j .non)
abbrev Kc(kk:List (List NK))(j:Nat):List NK:=kk.getD j []
def uB(r:cy X.K F ds vs)(hk:lZ ds=a_ kk){j:Nat}(hj:j<kk.length):vs.getD j .non=.ref (OX vs j)/\He X.K F (Kc kk j) (OX vs j):=by
 obtain⟨kl,kat⟩:=rh hk;have hj':j<ds.length:=by omega
 obtain⟨v,e,q⟩:=r.get (aj hj');have ek:=kat j hj';rw[show ds.getD j Dat.non=ds[j] by simp[hj']]at ek;obtain⟨a,rfl,ky⟩:=tJ ek q;unfold OX;rw[show vs.getD j V.non=.ref a by simp[e]];exact⟨rfl,ky⟩
theorem Ey(hk:lZ ds=a_ kk):∀js:List Nat,(∀j∈js,j<kk.length)->iX (js.map λj=>ds.getD j Dat.non)=c_
 |[],_=>rfl
 |j::js,h=>by
   obtain⟨kl,kat⟩:=rh hk;simp only[ag,iX,aq];exact⟨RZ (kat j (by have:=h j hJ;omega)),Ey hk js λi hi=>h i (ib _ hi)⟩
def zA(o:Cj kk){j:Nat}(hj:j<kk.length):(Kc kk j).map sN=xF kk:=by
 have:=aY.mp o.2.2.1 (kk.getD j []) (by rw[show kk.getD j []=kk[j] by simp[hj]];exact bI hj);simpa using this
def DA{Q:VK}{v:ab}(room:X.A.units+8<cg)(I:Inv X h_ σ H s)(g:Good F H)(r:cy X.K F ds vs)(hk:lZ ds=a_ kk)(o:Cj kk)(hl:kk.length<=300)
  (hc:vn X.prog X.w X.A s v (λus=>∃js,us=js.map (λj=>bE (OX vs j))/\Sel (Kc kk) kk.length js))
  (k:∀w F' H',Step F H F' H'->Rep X.K F' (.lst ((dQ sr (kk.map codeN)).map (uY (xF kk)))) w->(c_=c_->fi X.K H H' (.lst ((dQ sr (kk.map codeN)).map (uY (xF kk)))) w)->Q w H') :
  au (aB X.prog X.w) X.A (call (.builtin "sorted") [v]) (EP X h_ σ Q) X.xe s:=by
 obtain⟨kl,kat⟩:=rh hk;obtain⟨b,hb⟩:=lO.mp o.1;have h3:∀x∈xF kk,vI x=c_:=λx hx=>aY.mp o.2.1 x hx;have h3':∀j,j<kk.length->∀k∈Kc kk j,vI (sN k)=c_:=λj hj k hk=>h3 _ (by rw[<-zA o hj];exact cL hk)
 have n2:∀js,Sel (Kc kk) kk.length js->js.length=(dQ sr (kk.map codeN)).length:=λjs sl=>by
  have:=(zD (λj hj=>zA o hj) h3 sl).length_eq
  rwa [ah]at this
 refine sorted_N (kf:=Kc kk) (av:=OX vs) (n:=kk.length) (sh:=xF kk) (b:=b) (by show X.A.units+1+1+2<=cg;omega) (λj hj=>rg I g (uB r hk hj).2) (λj hj=>zA o hj) h3 hb
  (λA' E' Q' e k'=>hc A' E' Q' e λvs' h1 d1 tk1 x1 x2 z=>k' vs' h1 d1 tk1 x1 x2 (by obtain⟨js,z1,z2⟩:=z;exact⟨js,z1,z2,by rw[n2 js z2];exact o.2.2.2⟩)) λhp3 d3 tk3 l3 js e3 ex3 hl3 g3 sl pw=>?_
 have hfr:H l3=b_:=I.hok.fresh hl3;refine⟨.ref l3,_,xD I ex3 hl3 g3 (zk (av:=OX vs) js) (by rw[ah];have:=sl.len;rw[bB];omega),rfl,?_⟩
 have eu:dQ sr (kk.map codeN)=js.map λj=>codeN (Kc kk j):=
  (iV (le:=λa b=>sr b a=d_) (λa b _ _ h h'=>tO.tot _ _ h' h) (pw.imp λq=>tO.Lm q) ((fU tO _).imp λq=>tO.Lm q) (zD (λj hj=>zA o hj) h3 sl)).symm
 have ed:(dQ sr (kk.map codeN)).map (uY (xF kk))=js.map λj=>ds.getD j .non:=by
  rw[eu,bc];refine dv λj hj=>?_;have hj':=sl.lt j hj;show uY (xF kk) (codeN (Kc kk j))=_;rw[<-zA o hj'];exact yt (kat j (by omega)) (h3' j hj')
 have er:(js.map λj=>V.ref (OX vs j))=js.map λj=>vs.getD j .non:=dv λj hj=>(uB r hk (sl.lt j hj)).1.symm;have rs:=zJ r λj hj=>(show j<ds.length by have:=sl.lt j hj;omega)
 rw[er];rw[ed]at k;exact k (.ref l3) _ _ (Step.alloc g hfr) ⟨l3,_,rfl,.inl (.inl cw),rs.mono (bX.upd (g.sub.free hfr))⟩ λ_=>.lst (bX.refl _) hfr (.j4 g (Ey hk js sl.lt) rs)
set_option tactic.hygienic true
def Io{Q:VK}{Q1:ab->ae->Prop}{l:ai}{d:Dat}{fr:Bool}(hh:X.A.handled=b_)(room:X.A.units+8<cg)(I:Inv X h_ σ H s)(g:Good F H)(t:oG X.K F l vs)(r:cy X.K F ds vs)
  (hk:lZ ds=a_ kk)(h2:nQ kk=a_ (d,fr))(k:∀w F' H',Step F H F' H'->Rep X.K F' d w->(fr=c_->fi X.K H H' d w)->Q w H')
  (fin:∀S s2,au (aB X.prog X.w) X.A (call (.builtin "sorted") [.ref S]) (EP X h_ σ Q) X.xe s2->Q1 (.ref S) s2):au (aB X.prog X.w) X.A (call (.type "set") [.ref l]) Q1 E s:=by
 unfold nQ at h2;split at h2
 ·rename_i hb;cases h2;obtain⟨its,w1,pl,hz⟩:=I.lstR g t;obtain⟨kl,kat⟩:=rh hk;have vl:=r.length;have il:its.length=kk.length:=by have:=w1.length;omega
  have hty:∀s2:ae,(∀b o,s.heap.get? b=a_ o->s2.heap.get? b=a_ o)->s2.TypeIs (.ref l) "list":=λs2 ex=>by
   obtain⟨o,e1,e2,_⟩:=pl.isList;exact⟨o,ex _ _ e1,e2⟩
  have hsz:its.toArray.size=kk.length:=by rw[aA,il]
  have itr:=SR (prog:=X.prog) (w:=X.w) pl.isList;rw[hsz]at itr;refine FT (kf:=Kc kk) (av:=OX vs) (n:=kk.length) hh hty nB kC (by decide) itr (λi v hv=>?_) (λj hj=>rg I g (uB r hk hj).2) hb.1 (by show X.A.units+1+1+1+3<=cg;omega) λh' tk y ex=>fin _ _ ?_
  ·have hi:i<kk.length:=by
    have:i<its.toArray.size:=by rcases cj.mp hv with⟨q,_⟩;exact q
    omega
   obtain⟨u,hu,ru⟩:=w1.get (aj (show i<vs.length by omega));have e1:its[i]?=a_ v:=by simpa using hv
   rw[hu]at e1;cases e1;have:=(uB r hk hi).1;rw[show vs.getD i V.non=vs[i]'(by omega) by simp[show i<vs.length by omega]]at this;rw[this]at ru;exact ru
  ·exact DA room (I.kept ex) g r hk hb.2 hb.1 (λA' E' Q' e k'=>G1 hh y hb.1 A' E' Q' e λvs' h1 d1 tk1 x1 x2 z=>k' vs' h1 d1 tk1 x1 x2 z) k
 ·cases h2
def BZ{Q:VK}{l:ai}{d:Dat}{fr:Bool}(room:X.A.units+8<cg)(I:Inv X h_ σ H s)(g:Good F H)(t:oG X.K F l vs)(r:cy X.K F ds vs)
  (hk:lZ ds=a_ kk)(h2:t9 kk=a_ (d,fr))(k:∀w F' H',Step F H F' H'->Rep X.K F' d w->(fr=c_->fi X.K H H' d w)->Q w H'):au (aB X.prog X.w) X.A (call (.builtin "sorted") [.ref l]) (EP X h_ σ Q) X.xe s:=by
 unfold t9 at h2;split at h2
 ·rename_i hb;obtain⟨b1,o,b3⟩:=hb;cases h2;obtain⟨its,w1,pl,hz⟩:=I.lstR g t;obtain⟨kl,kat⟩:=rh hk;have vl:=r.length;have il:its.length=kk.length:=by have:=w1.length;omega
  have em:(ax kk.length).map (Kc kk)=kk:=by
   apply gh
   ·simp
   ·intro i h1 h2;simp[Kc,h2]
  refine DA room I g r hk o (by omega) (rN pl.isList (by rw[bB];omega) ⟨ax kk.length,?_,by rw[em];exact b3,λj hj=>aZ.mp hj,λj hj=>cL (aZ.mpr hj)⟩) k;apply gh
  ·simp[il]
  ·intro i h1 h2;have hi:i<kk.length:=by omega
   obtain⟨u,hu,ru⟩:=w1.get (aj (show i<vs.length by omega));have e1:its[i]?=a_ its[i]:=aj h1;rw[hu]at e1;cases e1;have:=(uB r hk hi).1;rw[show vs.getD i V.non=vs[i]'(by omega) by simp[show i<vs.length by omega]]at this;rw[this]at ru;rw[show its[i]=bE (OX vs i)from ru];simp
 ·cases h2
set_option tactic.hygienic false
end
section
variable{X:Cx}{h_:List (ai×fe)}{σ:St}{H:Hp}{s:ae}
set_option tactic.hygienic true in
def yz(hu:X.A.units+21<cg)(hcalm:X.calm=c_):jB X (.builtin "sorted") (gL X.K (eD .sorted)):=λh_ s σ H xs us Q I r h=>by
 obtain⟨da,d,fr,F,v,h1,rfl,g,rv,k⟩:=rE ml h;obtain⟨u,rfl,ru⟩:=vals1 r
 cases da with
 |lst ds=>
   obtain⟨p,vs,rfl,t,r'⟩:=rv;cases ru;obtain⟨its,w1,pl,hz⟩:=I.lstR g t;have hl:=w1.length;simp only[eD,b1,vf,og,ve,vc,bL,Hs,vg,vd]at h1
   cases qi:lz ds with
   |some is=>
     rw[qi]at h1;simp only[sortI]at h1;split at h1
     ·rename_i h64;cases h1;have hw:(mW ltI is).length=is.length:=(kG is).length_eq;refine Vl (is:=is) (js:=mW ltI is) I (by omega) (rN pl.isList (by omega) ⟨is,Rc qi r' w1,.refl _⟩) (λr hp hs=>t6 Sm hp hs) hw.symm λl hfr=>AJ (fr:=c_) (d:=.non) g hfr k
     ·cases h1
   |none=>
     rw[qi]at h1
     cases qs:jX ds with
     |none=>
       rw[qs]at h1;obtain⟨kk,hk,h1⟩:=cU h1;exact BZ (by omega) I g t r' hk h1 k
     |some ss=>
       rw[qs]at h1;simp only[zv]at h1;split at h1
       ·rename_i h64;cases h1;have hw:(mW p9 ss).length=ss.length:=(kG ss).length_eq;refine QF (is:=ss) (js:=mW p9 ss) I (by omega) (rN pl.isList (by omega) ⟨ss,Rb qs r' w1,.refl _⟩) (λr hp hs=>t6 NZ hp hs) hw.symm λl hfr=>uU (fr:=c_) (d:=.non) g hfr k
       ·cases h1
 |str x=>
   cases rv;obtain⟨tx,rfl⟩:=ru;simp only[eD,b1,vf,og,ve,vc,bL,Hs,vg,vd,zv]at h1;split at h1
   ·rename_i h64;cases h1;have hw:(mW p9 (dW x)).length=(dW x).length:=(kG _).length_eq;have hsz:(dW x).length=x.cps.size:=by simp[dW]
    refine QF (is:=dW x) (js:=mW p9 (dW x)) I (by omega) (K4 (I.ok.hd hcalm) (by rw[bB];omega)) (λr hp hs=>t6 NZ hp hs) hw.symm λl hfr=>uU (fr:=c_) (d:=.non) g hfr k
   ·cases h1
 |_=>simp only[eD,b1,vf,og,ve,vc,bL,Hs,vg,vd]at h1;cases h1
end
noncomputable def kI:Key->Int
 |.inl i=>i
 |.inr _=>0
noncomputable def kS:Key->aV
 |.inl _=>""
 |.inr x=>x
theorem Et:∀{vs:List ab}{ks:List Key},gp (λv k=>oU k v=c_) vs ks->(∀k∈ks,∃i,k=jv i)->kU vs (ks.map kI)
 |_,_,.nil,_=>.nil
 |_,_,.cons (a:=v) (b:=k) p q,h=>by
   obtain⟨i,rfl⟩:=h _ (.head _)
   rcases cx p with⟨j,t,e,rfl⟩|⟨x,t,e,_⟩
   ·cases e;exact .cons _ _ (Et q λk hk=>h k (.tail _ hk))
   ·cases e
theorem Dr:∀{vs:List ab}{ks:List Key},gp (λv k=>oU k v=c_) vs ks->(∀k∈ks,∃i,k=eC i)->lS vs (ks.map kS)
 |_,_,.nil,_=>.nil
 |_,_,.cons (a:=v) (b:=k) p q,h=>by
   obtain⟨i,rfl⟩:=h _ (.head _)
   rcases cx p with⟨j,t,e,_⟩|⟨x,t,e,rfl⟩
   ·cases e
   ·cases e;exact .cons _ _ (Dr q λk hk=>h k (.tail _ hk))
theorem ph{α β γ:Type}{R:β->γ->Prop}{f:α->β}:∀{l:List α}{ks:List γ},gp (λa c=>R (f a) c) l ks->gp R (l.map f) ks
 |_,_,.nil=>.nil
 |_,_,.cons p q=>.cons p (ph q)
def JF{ks:List Key}(h:ks.Nodup)(ha:∀k∈ks,∃i,k=jv i):(ks.map kI).Nodup:=by
 unfold List.Nodup at *;rw[eo];refine fw ?_ h;intro a b ma mb hab e;obtain⟨i,rfl⟩:=ha a ma;obtain⟨j,rfl⟩:=ha b mb;exact hab (by simp only[kI]at e;rw[e])
def JE{ks:List Key}(h:ks.Nodup)(ha:∀k∈ks,∃i,k=eC i):(ks.map kS).Nodup:=by
 unfold List.Nodup at *;rw[eo];refine fw ?_ h;intro a b ma mb hab e;obtain⟨i,rfl⟩:=ha a ma;obtain⟨j,rfl⟩:=ha b mb;exact hab (by simp only[kS]at e;rw[e])
section
variable{prog:aP}{w:bo}{A:br}{s:ae}{S:ai}{n:Nat}
def G3{is:List Int}(hh:A.handled=b_)(y:kQ (bT prog w) (l8 w) s.heap S n (λq=>∃j,j<is.length/\jv (is.getD j 0)=q))(hn:n<=4000) :
  vn prog w A s (.ref S) (λvs=>∃is',kU vs is'/\is'.Perm (dQ ltI is)):=by
 obtain⟨es,ep,t,ks,ya,yb,yc,yd,ye,yf⟩:=y;have len:=jM yc;rw[aR]at len;intro A' E' Q' e k;refine n8 (e.trans hh) ya (by rw[bB];omega) λh1 d tk vs ex sz pm=>k vs h1 d tk ex sz ?_;obtain⟨ks',p1,p2⟩:=jY pm (ph (R:=λv k=>oU k v=c_) (f:=λe:Int×ab=>e.2) yc)
 have ha:∀k∈ks,∃i,k=jv i:=λk hk=>by
  obtain⟨j,_,e⟩:=(yf k).mp hk;exact⟨_,e.symm⟩
 refine⟨_,Et p1 λk hk=>ha k (p2.mem_iff.mp hk),(p2.map kI).trans ?_⟩;rw[de (JF yd ha) (jy Sm (fU Sm is))];intro z;rw[fm Sm,aQ];constructor
 ·rintro⟨q,hq,rfl⟩;obtain⟨j,hj,e⟩:=(yf q).mp hq;subst e;simp only[kI,eA,aj hj,fW];exact bI hj
 ·intro hz;obtain⟨j,hj,rfl⟩:=bR.mp hz;refine⟨jv is[j],(yf _).mpr ⟨j,hj,?_⟩,rfl⟩;simp only[eA,aj hj,fW]
def G0{is:List aV}(hh:A.handled=b_)(y:kQ (bT prog w) (l8 w) s.heap S n (λq=>∃j,j<is.length/\eC (is.getD j "")=q))(hn:n<=4000) :
  vn prog w A s (.ref S) (λvs=>∃is',lS vs is'/\is'.Perm (dQ p9 is)):=by
 obtain⟨es,ep,t,ks,ya,yb,yc,yd,ye,yf⟩:=y;have len:=jM yc;rw[aR]at len;intro A' E' Q' e k;refine n8 (e.trans hh) ya (by rw[bB];omega) λh1 d tk vs ex sz pm=>k vs h1 d tk ex sz ?_;obtain⟨ks',p1,p2⟩:=jY pm (ph (R:=λv k=>oU k v=c_) (f:=λe:Int×ab=>e.2) yc)
 have ha:∀k∈ks,∃i,k=eC i:=λk hk=>by
  obtain⟨j,_,e⟩:=(yf k).mp hk;exact⟨_,e.symm⟩
 refine⟨_,Dr p1 λk hk=>ha k (p2.mem_iff.mp hk),(p2.map kS).trans ?_⟩;rw[de (JE yd ha) (jy NZ (fU NZ is))];intro z;rw[fm NZ,aQ];constructor
 ·rintro⟨q,hq,rfl⟩;obtain⟨j,hj,e⟩:=(yf q).mp hq;subst e;simp only[kS,eA,aj hj,fW];exact bI hj
 ·intro hz;obtain⟨j,hj,rfl⟩:=bR.mp hz;refine⟨eC is[j],(yf _).mpr ⟨j,hj,?_⟩,rfl⟩;simp only[eA,aj hj,fW]
def Yk{h:bH}{x:aV}{tx:vQ}:Ff prog w h (.str x tx) x.cps.size (SignAt x):=by
 intro A1 E1 s1 Q1 sz ex k;refine wpAny_pyIter_str λo St W st=>k o [s1.heap.objs.size] St W (λb hb=>.inl (aF.mp hb)) st
def BQ:isSubtype (.type "str") (.type "set")=pure d_:=by rw[mF];kernel_rfl
def BR:isSubtype (.type "str") (.type "frozenset")=pure d_:=by rw[mF];kernel_rfl
theorem Ds:∀{vs:List ab}{ss:List aV},lS vs ss->∀(i:Nat)(v:ab),vs[i]?=a_ v->∃t,v=.str (ss.getD i "") t
 |_,_,.nil,i,v,h=>by simp at h
 |_,_,.cons y t r,0,v,h=>by simp at h;exact⟨t,by rw[<-h];rfl⟩
 |_,_,.cons y t r,i+1,v,h=>by
   simp only[bf]at h;obtain⟨t',e⟩:=Ds r i v h;exact⟨t',by rw[e];rfl⟩
end
section
variable{X:Cx}{C:Fs}{a:aI}{xa:Ex}
set_option tactic.hygienic true in
def MR{p p2 pos pos2:fu}(hu:X.A.units+21<cg)(hcalm:X.calm=c_)(hg:Gl X "sorted")(hm:X.mg "sorted"=b_)(hg2:Gl X "set")(hm2:X.mg "set"=b_)(ha:SE X C a xa)
  (hs:aU [a] X.env=[(d_,eval a X.env)]) :
  SE X C (.Call (.Name "sorted" p) [.Call (.Name "set" p2) [a] [] pos2] [] pos) (.blt .sset [xa]):=by
 intro h_ s σ H Q I h;obtain⟨ρ,d,fr,h,F,g,R,k⟩:=h;obtain⟨ds,h1,h2⟩:=cU h;obtain⟨⟨da,fa⟩,h3,h1⟩:=cU h1;cases h1;refine iC (nX I hg hm (by decide +kernel:bootBuiltins "sorted"=a_ (.builtin "sorted")) (oO ?_ rfl rfl));show au _ _ (spliced ((d_,eval (.Call (.Name "set" p2) [a] [] pos2) X.env)::backTo pos [])) _ _ s;refine Ft ?_;refine iC (nX I hg2 hm2 (by decide +kernel:bootBuiltins "set"=a_ (.type "set")) (eQ ?_ (by rw[hs];rfl) rfl));have hpa:PA X [a] (gA X.K C [xa]):=lx ha qQ (by rw[hs];rfl);have hev:j6 C [xa] ρ=a_ [da]:=by simp only[j6,h3,af,aK]
 refine gW (hpa pos2 h_ s σ H (λvs H1=>∃F1,Step F H F1 H1/\cy X.K F1 [da] vs) I ⟨ρ,[da],hev,F,g,R,λvs F1 H1 ee r1=>⟨F1,ee,r1⟩⟩) λus s1 ⟨vs,H1,I1,rv,F1,ee,r1⟩=>?_;have hh:=I.ok.hd hcalm;obtain⟨v,w,rfl,rda,e⟩:=r1;cases e;obtain⟨u,rfl,ru⟩:=vals1 rv
 have endI:∀{is:List Int} {n:Nat} {h':bH} {tk:Nat} {S:ai},(d,fr)=(Dat.lst ((dQ ltI is).map .int),c_)->(dQ ltI is).length<64->(∀b o,s1.heap.get? b=a_ o->h'.get? b=a_ o)->n<=4000->
   kQ (bT X.prog X.w) (l8 X.w) h' S n (λq=>∃j,j<is.length/\jv (is.getD j 0)=q)->
   au (aB X.prog X.w) X.A (call (.builtin "sorted") [.ref S]) (EP X h_ σ Q) X.xe { s1 with heap:=h',toks:=tk }:=by
  intro is n h' tk S e h64 ex hn y;cases e;have I2:Inv X h_ σ H1 { s1 with heap:=h',toks:=tk }:=I1.kept ex
  exact Vl (is:=dQ ltI is) (js:=dQ ltI is) I2 h64 (G3 hh y hn) (λr hp hs=>iV (le:=λa b=>ltI b a=d_) (λa b _ _ h h'=>Sm.tot _ _ h' h) hs ((fU Sm is).imp λq=>Sm.Lm q) hp) rfl
   λl hfr=>AJ (fr:=c_) (d:=.non) ee.good hfr λw F' H' st r f=>k w F' H' (ee.trans st) r λz=>fi.back (F:=F1) ee.hh (f z)
 have endS:∀{is:List aV} {n:Nat} {h':bH} {tk:Nat} {S:ai},(d,fr)=(Dat.lst ((dQ p9 is).map .str),c_)->(dQ p9 is).length<64->(∀b o,s1.heap.get? b=a_ o->h'.get? b=a_ o)->n<=4000->
   kQ (bT X.prog X.w) (l8 X.w) h' S n (λq=>∃j,j<is.length/\eC (is.getD j "")=q)->
   au (aB X.prog X.w) X.A (call (.builtin "sorted") [.ref S]) (EP X h_ σ Q) X.xe { s1 with heap:=h',toks:=tk }:=by
  intro is n h' tk S e h64 ex hn y;cases e;have I2:Inv X h_ σ H1 { s1 with heap:=h',toks:=tk }:=I1.kept ex
  exact QF (is:=dQ p9 is) (js:=dQ p9 is) I2 h64 (G0 hh y hn) (λr hp hs=>iV (le:=λa b=>p9 b a=d_) (λa b _ _ h h'=>NZ.tot _ _ h' h) hs ((fU NZ is).imp λq=>NZ.Lm q) hp) rfl
   λl hfr=>uU (fr:=c_) (d:=.non) ee.good hfr λw F' H' st r f=>k w F' H' (ee.trans st) r λz=>fi.back (F:=F1) ee.hh (f z)
 cases da with
 |lst ds=>
   obtain⟨l,vs,rfl,t,r'⟩:=rda;cases ru;obtain⟨its,w1,pl,hz⟩:=I1.lstR ee.good t
   have hty:∀s2:ae,(∀b o,s1.heap.get? b=a_ o->s2.heap.get? b=a_ o)->s2.TypeIs (.ref l) "list":=λs2 ex=>by
    obtain⟨o,e1,e2,_⟩:=pl.isList;exact⟨o,ex _ _ e1,e2⟩
   simp only[eD,b1,vf,og,ve,vc,bL,Hs,vg,vd]at h2
   cases qi:lz ds with
   |some is=>
     rw[qi]at h2;simp only[Dy]at h2;split at h2
     ·rename_i hb;have ia:=Rc qi r' w1;have il:=HF ia;refine ud (knd:=bT X.prog X.w) hh hty nB kC (by decide) (SR pl.isList) (λi=>jv (is.getD i 0)) (λi v hv=>?_) (by rw[aA];unfold oH;omega) λh' tk y ex=>?_
      ·obtain⟨t',rfl⟩:=Hi ia i v (by simpa using hv);exact⟨wy _ t',rfl⟩
      ·refine jD ?_;rw[show its.toArray.size=is.length by rw[aA,il]]at y;exact endI (aS h2).symm hb.2 ex (by omega) y
     ·cases h2
   |none=>
     rw[qi]at h2
     cases qs:jX ds with
     |none=>
       rw[qs]at h2;obtain⟨kk,q1,q2⟩:=cU h2;exact Io hh (by omega) I1 ee.good t r' q1 q2 (λw F' H' st r f=>k w F' H' (ee.trans st) r λz=>fi.back (F:=F1) ee.hh (f z)) λS s2 q=>jD q
     |some ss=>
       rw[qs]at h2;simp only[sd]at h2;split at h2
       ·rename_i hb;have ia:=Rb qs r' w1;have il:its.length=ss.length:=by rw[<-ia.strs,ah]
        refine ud (knd:=bT X.prog X.w) hh hty nB kC (by decide) (SR pl.isList) (λi=>eC (ss.getD i "")) (λi v hv=>?_) (by rw[aA];unfold oH;omega) λh' tk y ex=>?_
        ·obtain⟨t',rfl⟩:=Ds ia i v (by simpa using hv);exact⟨rn _ t',rfl⟩
        ·refine jD ?_;rw[show its.toArray.size=ss.length by rw[aA,il]]at y;exact endS (aS h2).symm hb.2 ex (by omega) y
       ·cases h2
 |str x=>
   cases rda;obtain⟨tx,rfl⟩:=ru;simp only[eD,b1,vf,og,ve,vc,bL,Hs,vg,vd,sd]at h2;have hl:(dW x).length=x.cps.size:=by simp[dW]
   split at h2
   ·rename_i hb;refine ud (knd:=bT X.prog X.w) hh (λs2 _=>rfl) BQ BR (by decide) Yk (λi=>eC ((dW x).getD i "")) (λi v hv=>?_) (by unfold oH;omega) λh' tk y ex=>?_
    ·obtain⟨c,u,q1,rfl⟩:=hv
     have e:(dW x).getD i ""=⟨#[c]⟩:=by
      have hi:i<x.cps.size:=by rcases cj.mp q1 with⟨q,_⟩;exact q
      rw[aH hi]at q1;cases q1;simp[dW,hi]
     rw[e];exact⟨rn _ u,rfl⟩
    ·refine jD ?_;rw[<-hl]at y;exact endS (aS h2).symm hb.2 ex (by omega) y
   ·cases h2
 |_=>simp only[eD,b1,vf,og,ve,vc,bL,Hs,vg,vd]at h2;cases h2
end
section
variable{X:Cx}{C:Fs}{pos:fu}
def IC{k:Nat}{f:ai}{fd:en}{ps:List aV}{x:aV}{p:fu}(j n:Nat)(G:mR X.prog X.w X.K X.mg X.base Fi k f fd ps (Pl X.K n (C j)))(hr:mr k X.A)(hg:Gl X x)(hm:X.mg x=a_ (.ref f))(hk:fS X.K (.ref f)=c_)(hb:Binds X.K fd ps [])
  (hn:n=0)(hdb:(x == ("__debug__":aV))=d_:=by decide):SE X C (.Call (.Name x p) [] [] pos) (.call j []):=
 PE.imp (Jr G hr hg hm hk hb .nil Pt hdb) λσ H Q h=>by
  have h':=qx (X:=X) (xs:=[]) (f:=C j) (x:=.call j []) (λρ d fr h=>by
   exact cU h) σ H Q h
  obtain⟨ρ,ds,h1,F,g,R,k⟩:=h';simp only[j6]at h1;cases h1;show Pl X.K n (C j) ([]++[]) H Q E0;exact⟨by rw[hn];rfl,k [] F H (Step.refl g) rfl⟩
end
structure Sg where
 fns:List (aV×Nat)
 con:List (aV×Dat)
structure Sc where
 N:List aV
 nm:List (aV×jC)
 top:Bool
noncomputable def kN:List aV:=["len","range","zip","all","any","isinstance","list","tuple","reversed","int","bool","str","sorted","set","min","max","enumerate","sum","dict","abs"]
noncomputable def rp(x:aV):List aV->Option Nat
 |[]=>b_
 |y::r=>if y=x then a_ 0 else(rp x r).map (·+ 1)
set_option tactic.hygienic true
theorem gY{x:aV}:∀{N:List aV}{i:Nat},rp x N=a_ i->N[i]?=a_ x
 |[],_,h=>by cases h
 |y::r,i,h=>by
   have h:(if y=x then a_ 0 else(rp x r).map (·+ 1))=a_ i:=h;split at h
   ·cases h;rename_i e;subst e;rfl
   ·obtain⟨j,h1,rfl⟩:=dX h;exact(bf ..).trans (gY h1)
noncomputable def KH(x:aV):Nat->List (aV×Nat)->Option (Nat×Nat)
 |_,[]=>b_
 |k,y::r=>if y.1=x then a_ (k,y.2)else KH x (k+1) r
theorem AI{x:aV}:∀{L:List (aV×Nat)}{k j n:Nat},KH x k L=a_ (j,n)->∃i,j=k+i/\L[i]?=a_ (x,n)
 |[],_,_,_,h=>by cases h
 |y::r,k,j,n,h=>by
   have h:(if y.1=x then a_ (k,y.2)else KH x (k+1) r)=a_ (j,n):=h;split at h
   ·cases h;rename_i e;subst e;exact⟨0,rfl,rfl⟩
   ·obtain⟨i,e1,e2⟩:=AI h;exact⟨i+1,by omega,(bf ..).trans e2⟩
set_option tactic.hygienic false
def mK(x:aV):Bool:=!(x == ("__debug__":aV)) && !(x == ("__classdict__":aV)) && !(x == ("__name__":aV))
noncomputable def Xz:Option jC->Bool
 |some .local=>c_
 |some .cell=>c_
 |some .free=>c_
 |_=>d_
noncomputable def Yg:Option jC->Bool
 |some .local=>c_
 |some .cell=>c_
 |_=>d_
def BK(S:Sc)(x:aV):Bool:=Xz (S.nm.lookup x)
def xX(S:Sc)(x:aV):Bool:=Yg (S.nm.lookup x)
def Og(S:Sc)(x:aV):Bool:=S.nm.lookup x == a_ .globalImplicit
noncomputable def dk:aI->Bool
 |.Starred _ _=>d_
 |_=>c_
noncomputable def nW:aI->Bool
 |.Set _ _ _=>d_
 |_=>c_
noncomputable def sk:aI->Bool
 |.IfExp _ _ _ _=>d_
 |_=>c_
noncomputable def WR:vA->Option Lw
 |.Add=>a_ .add
 |.Sub=>a_ .sub
 |.Mult=>a_ .mul
 |.Mod=>a_ .mod
 |.RShift=>a_ .shr
 |.BitAnd=>a_ .band
 |_=>b_
noncomputable def OR:pJ->Hf
 |.Eq=>.eq
 |.NotEq=>.ne
 |.Lt=>.lt
 |.LtE=>.le
 |.Gt=>.gt
 |.GtE=>.ge
 |.Is=>.isn
 |.IsNot=>.nisn
 |.In=>.isin
 |.NotIn=>.nin
noncomputable def YA(x:aV):Option Ty:=
 if x="int" then a_ .int else if x="bool" then a_ .bool else if x="str" then a_ .str else if x="tuple" then a_ .tuple else if x="list" then a_ .list else b_
noncomputable def T6(x:aV):Option LP:=
 if x="len" then a_ .len else if x="list" then a_ .list else if x="tuple" then a_ .tuple else if x="all" then a_ .all else if x="int" then a_ .int else if x="sorted" then a_ .sorted else b_
def zM(S:Sc)(sc:fP):List (aV×jC):=sc.names.map λp=>if(p.2 == dR && S.nm.lookup p.1 == a_ .cell)then(p.1,lr)else p
noncomputable def kJ:aI->Option aV
 |.Name x _=>a_ x
 |_=>b_
def hG{e:aI}{x:aV}(h:kJ e=a_ x):∃p,e=.Name x p:=by
 cases e with
 |Name y p=>cases h;exact⟨p,rfl⟩
 |_=>cases h
noncomputable def namesOf:List aI->Option (List aV)
 |[]=>a_ []
 |e::r=>(kJ e).bind λt=>(namesOf r).map λts=>t::ts
noncomputable def om:aI->Option (Bool×List aV)
 |.Name t _=>a_ (c_,[t])
 |.Tuple es _ _=>(namesOf es).map λts=>(d_,ts)
 |_=>b_
def freeOf(sc:fP):List aV:=sc.names.filterMap λp=>if p.2=.free then a_ p.1 else b_
noncomputable def sG(N:List aV):List aV->Option (List Nat)
 |[]=>a_ []
 |x::r=>(rp x N).bind λi=>(sG N r).map λis=>i::is
noncomputable def K3(S:Sc)(sc:fP)(tn cn:List aV):Bool:=
 decide (sc.kind=.function) && sc.names.all (λy=>!decide (y.2=.cell)) && sc.names.all (λy=>!decide (y.2=.local) || decide (sc.names.lookup y.1=a_ .local))
  && sc.names.all (λy=>!decide (y.2=.free) || decide (S.nm.lookup y.1=a_ .cell) || decide (S.nm.lookup y.1=a_ .free))
  && cn.all (λx=>(decide (S.nm.lookup x=a_ .cell) || decide (S.nm.lookup x=a_ .free)) && decide (sc.names.lookup x=a_ .free))
  && decide (tn++cn).Nodup && tn.all λx=>decide (sc.names.lookup x=a_ .local)
def inner(S:Sc)(sc:fP)(tn cn:List aV):Sc:=⟨tn++cn,zM S sc,d_⟩
noncomputable def AH(f:Ex->Ex->Ex):List Ex->Option Ex
 |[]=>b_
 | x::r=>match r with
   |[]=>a_ x
   |_::_=>(AH f r).map (f x)
noncomputable def uG(f:aI->Option Ex):List aI->Option (List Ex)
 |[]=>a_ []
 |e::r=>if dk e=c_ then(f e).bind λx=>(uG f r).map λxs=>x::xs else b_
noncomputable def lX{α:Type}:List α->Option α
 |[]=>b_
 |a::r=>if r.isEmpty=c_ then a_ a else b_
def i9{α:Type}{l:List α}{a:α}(h:lX l=a_ a):l=[a]:=by
 match l,h with
 |[b],h=>cases h;rfl
noncomputable def wm{α:Type}:List α->Option (α×α)
 |[]=>b_
 |a::r=>(lX r).map λb=>(a,b)
def nV{α:Type}{l:List α}{p:α×α}(h:wm l=a_ p):l=[p.1,p.2]:=by
 cases l with
 |nil=>cases h
 |cons a r=>
   obtain⟨b,h1,rfl⟩:=dX h;rw[i9 h1]
structure Ca where
 fn:aI
 args:List aI
 kws:List rT
 pos:fu
noncomputable def OJ:aI->Option Ca
 |.Call fn args kws p=>a_ ⟨fn,args,kws,p⟩
 |_=>b_
def yB{e:aI}{c:Ca}(h:OJ e=a_ c):e=.Call c.fn c.args c.kws c.pos:=by
 cases e with
 |Call fn args kws p=>cases h;rfl
 |_=>cases h
def CU(e:aI):Option (aV×List aI):=(OJ e).bind λc=>if c.kws.isEmpty=c_ then(kJ c.fn).map λx=>(x,c.args)else b_
set_option tactic.hygienic true in
def wU{e:aI}{x:aV}{args:List aI}(h:CU e=a_ (x,args)):∃p q,e=.Call (.Name x p) args [] q:=by
 obtain⟨⟨fn,as,kws,q⟩,h0,h1⟩:=cU h;obtain rfl:=yB h0;split at h1
 ·rename_i hk;obtain⟨y,h2,h3⟩:=dX h1;cases h3;obtain⟨p,h4⟩:=hG h2;obtain rfl:fn=.Name x p:=h4;exact⟨p,q,congrArg (λk=>Expr.Call _ _ k _) (i5.mp hk)⟩
 ·cases h1
noncomputable def isTup:aI->Bool
 |.Tuple _ _ _=>c_
 |_=>d_
def Al{e:aI}(h:isTup e=c_):∃es k p,e=.Tuple es k p:=by
 cases e with
 |Tuple es k p=>exact⟨es,k,p,rfl⟩
 |_=>cases h
noncomputable def P7(S:Sc)(f:aI->Option Ex)(tg:aI)(x:aV)(args:List aI):Option Iw:=
 if Og S x=c_ then(uG f args).bind λxs=>
  if x="range" then(lX xs).map λa=>.rng [a]
  else if(decide (x="zip") && isTup tg)=c_ then(wm xs).map λp=>.zip [p.1,p.2]
  else if(decide (x="enumerate") && isTup tg)=c_ then(lX xs).map .enu else b_
 else b_
def SV(x:aV):Bool:=decide (x="range") || decide (x="zip") || decide (x="enumerate")
def Kf(e:aI):Option (aV×List aI):=(CU e).bind λc=>if SV c.1=c_ then a_ c else b_
noncomputable def cI(S:Sc)(f:aI->Option Ex)(tg iter:aI):Option Iw:=match Kf iter with
 |some c=>P7 S f tg c.1 c.2
 |none=>(f iter).map .itv
noncomputable def YC(f:aI->Option Ex):List aI->Option (List Ex)
 |[]=>a_ []
 |c::r=>if(r.isEmpty && sk c)=c_ then(f c).map λx=>[x]else b_
noncomputable def K8(f:aI->Option Ex):Option aI->Option (Option Ex)
 |none=>a_ b_
 |some e=>(f e).map a_
noncomputable def T4:Const->Option Dat
 |.int i=>a_ (.int i)
 |.bool b=>a_ (.bl b)
 |.none=>a_ .non
 |.str x=>a_ (.str x)
 |_=>b_
def P5(G:Sg)(S:Sc)(x:aV):Option Ex:=if mK x=c_ then(if BK S x=c_ then(rp x S.N).map .v else if Og S x=c_ then(G.con.lookup x).map .con else b_)else b_
noncomputable def cUn(f:aI->Option Ex)(a:aI):UnaryOp->Option Ex
 |.USub=>(f a).map .neg
 |.Not=>if sk a=c_ then(f a).map .not else b_
 |_=>b_
noncomputable def T5(f:aI->Option Ex)(es:List aI):BoolOp->Option Ex
 |.And=>(uG f es).bind (AH .and)
 |.Or=>(uG f es).bind (AH .or)
noncomputable def Qa(f:aI->Option Ex)(a:aI)(ops:List pJ)(bs:List aI):Option Ex:=(f a).bind λxa=>match lX ops with
 |some op=>(lX bs).bind λb=>if nW b=c_ then(f b).map λxb=>.cmp (OR op) xa xb else b_
 |none=>(wm ops).bind λo=>(wm bs).bind λb=>if nW b.2=c_ then(f b.1).bind λxb=>(f b.2).map λxc=>.TR (OR o.1) (OR o.2) xa xb xc else b_
noncomputable def Lc(f:aI->Option Ex)(ks:List (Option aI))(vs:List aI):Option Ex:=
 if(ks.isEmpty && vs.isEmpty)=c_ then a_ .vL
 else b_
noncomputable def mJ:aI->Option (Option aI×Option aI×Option aI)
 |.Slice lo hi st _=>a_ (lo,hi,st)
 |_=>b_
noncomputable def WL(f:aI->Option Ex)(a b:aI):Option Ex:=(f a).bind λxa=>match mJ b with
 |some t=>if t.2.2.isNone=c_ then(K8 f t.1).bind λxl=>(K8 f t.2.1).map λxh=>.sl xa xl xh else b_
 |none=>(f b).map λxb=>.ix xa xb
def P6(G:Sg)(S:Sc)(f:aI->Option Ex)(o:aI)(m:aV)(ap:fu)(args:List aI)(cp:fu):Option Ex:=
 if(ap.endLine == cp.line)=c_ then(uG f args).bind λxs=>if baseOk o=c_ then(f o).bind λxo=>(TZ m args.length).map λmt=>.l5 mt xo xs else b_
 else b_
def YB(S:Sc)(f:aI->Option Ex)(args:List aI):Option Ex:=(wm args).bind λp=>(kJ p.2).bind λt=>
 if(Og S "isinstance" && Og S t && dk p.1)=c_ then(YA t).bind λty=>(f p.1).map λxa=>.blt (.isi ty) [xa]else b_
def TY(S:Sc)(f:aI->Option Ex)(x y:aV)(b:LP)(args:List aI):Option Ex:=(lX args).bind λe=>(CU e).bind λc=>if c.1=y then(lX c.2).bind λa=>
 if(Og S x && Og S y && dk a)=c_ then(f a).map λxa=>.blt b [xa]else b_ else b_
noncomputable def WQ(G:Sg)(S:Sc)(x:aV)(xs:List Ex):Option Ex:=
 if(mK x && Og S x)=c_ then match KH x 0 G.fns with
  |some jn=>if xs.length=jn.2 then a_ (.call jn.1 xs)else b_
  | none=>match lX xs with
    |some xa=>(T6 x).map λb=>.blt b [xa]
    |none=>(wm xs).bind λp=>if x="max" then a_ (.bin .mx p.1 p.2)else if x="min" then a_ (.bin .mn p.1 p.2)else b_
 else b_
noncomputable def CY(G:Sg)(S:Sc)(f:aI->Option Ex)(x:aV)(args:List aI):Option Ex:=
 if x="isinstance" then YB S f args else match(if x="sorted" then TY S f "sorted" "set" .sset args else b_)with
  |some z=>a_ z
  |none=>(uG f args).bind (WQ G S x)
noncomputable def vh:aI->Option (aI×aV×fu)
 |.Attribute o m ap=>a_ (o,m,ap)
 |_=>b_
def rP{e:aI}{t:aI×aV×fu}(h:vh e=a_ t):e=.Attribute t.1 t.2.1 t.2.2:=by
 cases e with
 |Attribute o m ap=>cases h;rfl
 |_=>cases h
noncomputable def Le(G:Sg)(S:Sc)(f:aI->Option Ex)(fn:aI)(args:List aI)(cp:fu):Option Ex:=match vh fn with
 |some t=>P6 G S f t.1 t.2.1 t.2.2 args cp
 |none=>(kJ fn).bind λx=>CY G S f x args
structure Gn where
 tg:aI
 it:aI
 ifs:List aI
def PU(gs:List Comprehension):Option Gn:=(lX gs).bind λg=>if g.is_async=0 then a_ ⟨g.target,g.iter,g.ifs⟩else b_
noncomputable def P9(S:Sc)(f:Sc->aI->Option Ex)(elt:aI)(g:Gn)(sc:fP):Option Ex:=(om g.tg).bind λt=>(sG S.N (freeOf sc)).bind λcaps=>
 if(K3 S sc t.2 (freeOf sc) && nW g.it)=c_ then
  (cI S (f S) g.tg g.it).bind λit=>(YC (f (inner S sc t.2 (freeOf sc))) g.ifs).bind λxs=>(f (inner S sc t.2 (freeOf sc)) elt).map λxe=>.comp t.2.length t.1 caps it xs xe
 else b_
noncomputable def cE(G:Sg):Nat->Sc->aI->Option Ex
 |0,_,_=>b_
 | n+1,S,e=>match e with
   |.Constant c _ _=>(T4 c).map .con
   |.Name x _=>P5 G S x
   |.BinOp a op b _=>(WR op).bind λo=>(cE G n S a).bind λxa=>(cE G n S b).map λxb=>.bin o xa xb
   |.UnaryOp op a _=>cUn (cE G n S) a op
   |.BoolOp op es _=>if es.all sk=c_ then T5 (cE G n S) es op else b_
   |.Compare a ops bs _=>Qa (cE G n S) a ops bs
   |.IfExp c a b _=>if sk c=c_ then(cE G n S c).bind λxc=>(cE G n S a).bind λxa=>(cE G n S b).map λxb=>.ite xc xa xb else b_
   |.Tuple es _ _=>(uG (cE G n S) es).map .tup
   |.List es _=>(uG (cE G n S) es).map .lst
   |.Dict ks vs _=>Lc (cE G n S) ks vs
   |.Subscript a b _=>WL (cE G n S) a b
   |.Call fn args kws cp=>if kws.isEmpty=c_ then Le G S (cE G n S) fn args cp else b_
   |.ListComp elt gs sc _=>(PU gs).bind λg=>P9 S (cE G n) elt g sc
   |_=>b_
def CV(K:Fg)(d:Dat)(v:V):Prop:=(∀F,Rep K F d v)/\∀a,v=.ref a->∃o,K.lookup a=a_ o/\o.cls=.type "tuple"/\o.dict=b_
structure pD(G:Sg)(C:Fs)(S:Sc)(X:Cx):Prop where
 N:X.N=S.N
 nm:X.env.scope.names=S.nm
 kind:X.env.scope.kind=.function
 calm:X.calm=c_
 un:X.A.units+21<cg
 xe:X.xe=λ_ _=>False
 fn:S.top=c_->∀x,X.fn x=c_
 fns:∀(j:Nat)x n,G.fns[j]?=a_ (x,n)->∃k f fd ps,mR X.prog X.w X.K X.mg X.base Fi k f fd ps (Pl X.K n (C j))/\mr k X.A/\X.mg x=a_ (.ref f)/\fS X.K (.ref f)=c_/\Binds X.K fd ps []
 blt:∀x∈kN,X.mg x=b_
 con:∀x d,G.con.lookup x=a_ d->∃v u,X.mg x=a_ u/\RelV v u/\CV X.K d v
inductive Args (P:aI->Ex->Prop):List aI->List Ex->Prop
 |nil:Args P [] []
 |cons {e:aI} {es:List aI} {x:Ex} {xs:List Ex}:dk e=c_->P e x->Args P es xs->Args P (e::es) (x::xs)
def bV{α:Type}{b:Bool}{x:Option α}{y:α}(h:(if b=c_ then x else b_)=a_ y):b=c_/\x=a_ y:=by
 split at h
 ·exact⟨by assumption,h⟩
 ·cases h
section
variable{G:Sg}{C:Fs}{S:Sc}{X:Cx}{a b c e:aI}{xa xb xc:Ex}{pos:fu}{es:List aI}{xs:List Ex}{x:aV}{f:aI->Option Ex}
def pT(T:pD G C S X)(h:BK S x=c_):Qe X.env.scope x:=by
 unfold BK at h;unfold Qe;rw[T.nm]
 cases q:S.nm.lookup x with
 |none=>rw[q]at h;cases h
 |some k=>rw[q]at h;cases k<;>first|(simp;done)|cases h
def tN(T:pD G C S X)(h:xX S x=c_):L2.Loc X.env.scope x:=by
 unfold xX at h;unfold L2.Loc;rw[T.nm]
 cases q:S.nm.lookup x with
 |none=>rw[q]at h;cases h
 |some k=>rw[q]at h;cases k<;>first|(simp;done)|cases h
def kL(T:pD G C S X)(h:Og S x=c_):Gl X x:=by
 unfold Gl nC;rw[T.nm];exact beq_iff_eq.mp h
def jL(h:mK x=c_):(x == ("__debug__":aV))=d_/\(x == ("__classdict__":aV))=d_/\x≠"__name__":=by
 unfold mK at h;simp only[aq,iE]at h;exact⟨h.1.1,h.1.2,λz=>by have:=h.2;rw[z]at this;revert this;decide⟩
def c6{env:vq}(h:dk e=c_):aU (e::es) env=(d_,eval e env)::aU es env:=by
 cases e<;>first|rfl|cases h
theorem pV{env:vq}{pos:fu}:∀{es:List aI},es.all dk=c_->(backTo pos (aU es env)).any (·.1)=d_
 |[],_=>rfl
 |e::es,h=>by
   rw[cu,aq]at h;rw[c6 h.1];have q:=pV (pos:=pos) (env:=env) h.2;unfold backTo at q ⊢;rw[ag,fQ,q];rfl
theorem jS{P:aI->Ex->Prop}(hf:∀e x,f e=a_ x->P e x):∀{es:List aI}{xs:List Ex},uG f es=a_ xs->Args P es xs
 |[],_,h=>by cases h;exact .nil
 |e::r,_,h=>by
   obtain⟨hs,h⟩:=bV h;obtain⟨x,h1,h⟩:=cU h;obtain⟨xs,h2,rfl⟩:=dX h;exact .cons hs (hf _ _ h1) (jS hf h2)
theorem Args.sa:∀{es:List aI}{xs:List Ex},Args (SE X C) es xs->SA X C es xs
 |_,_,.nil=>qQ
 |_,_,.cons hs h r=>lx h r.sa (c6 hs)
theorem Args.sf:∀{es:List aI}{xs:List Ex},Args (SE X C) es xs->SF X C es xs
 |_,_,.nil=>Iz
 |_,_,.cons hs h r=>DG h r.sf (c6 hs)
theorem Args.star{P:aI->Ex->Prop}:∀{es:List aI}{xs:List Ex},Args P es xs->es.all dk=c_
 |_,_,.nil=>rfl
 |_,_,.cons hs _ r=>by rw[cu,hs,r.star];rfl
theorem Args.len{P:aI->Ex->Prop}:∀{es:List aI}{xs:List Ex},Args P es xs->xs.length=es.length
 |_,_,.nil=>rfl
 |_,_,.cons _ _ r=>congrArg (·+ 1) r.len
def Args.one{P:aI->Ex->Prop}{z:Ex}(h:Args P es [z]):∃a,es=[a]/\dk a=c_/\P a z:=by
 cases h with
 |cons s p r=>cases r;exact⟨_,rfl,s,p⟩
def Args.two{P:aI->Ex->Prop}{z w:Ex}(h:Args P es [z,w]):∃a b,es=[a,b]/\dk a=c_/\dk b=c_/\P a z/\P b w:=by
 cases h with
 |cons s p r=>
   obtain⟨b,rfl,s',p'⟩:=r.one;exact⟨_,b,rfl,s,s',p,p'⟩
def ID{z w:Ex}(s:dk a=c_)(s':dk b=c_)(ha:SE X C a z)(hb:SE X C b w):SA X C [a,b] [z,w]:=lx ha (lx hb qQ (c6 s')) (c6 s)
def Il{env:vq}(s:dk a=c_)(s':dk b=c_):aU [a,b] env=[(d_,eval a env),(d_,eval b env)]:=(c6 s).trans (congrArg _ (c6 s'))
def OS{op:vA}{o:Lw}(h:WR op=a_ o):jd X (binaryOp op) (gB X.K (e8 o)):=by
 cases op<;>first|(cases h;first|exact NG|exact Nw|exact NA|exact NB|exact Nx|exact NF)|cases h
def oE{op:pJ}(hu:X.A.units+21<cg):jd X (compareOp op) (gB X.K (mj (OR op))):=by
 cases op<;>first|exact RR (by omega)|exact RI (by omega)|exact RO hu|exact Nz hu|exact RL|exact RM|exact RP|exact RQ|exact NC|exact Jt
def JH{op:pJ}(h:nW b=c_):behindInMarks op b=d_:=by
 cases b<;>first|rfl|cases h
def D6{op op':pJ}(h:nW c=c_):lastMarks [op,op'] [b,c]=d_:=by
 cases c<;>first|rfl|cases h
def MT(ha:SE X C a xa):SE X C (.UnaryOp .Not a pos) (.not xa):=by
 intro h_ s σ H Q I ⟨ρ,d,fr,h,F,g,R,k⟩;obtain⟨⟨da,fa⟩,h1,h⟩:=cU h;obtain⟨b,hb,h⟩:=dX h;cases h;refine UnaryOp_ (gW (ha h_ s σ H (λv H1=>∃F1,Step F H F1 H1/\Rep X.K F1 da v) I ⟨ρ,da,fa,h1,F,g,R,λv F1 H1 st r _=>⟨F1,st,r⟩⟩) λv s1 ⟨x,H1,I1,r1,F1,st,r⟩=>?_);refine not_of (gW (HW h_ s1 σ H1 x v (λc H2=>c=b/\H2=H1) I1 r1 ⟨b,Dm st.good r hb,rfl,rfl⟩) ?_);rintro c s2 ⟨H2,I2,rfl,rfl⟩;exact⟨.bl (!c),H2,I2,rfl,k _ F1 H2 st rfl bp⟩
def Qu{op op':pJ}{o o':Hf}(ho:jd X (compareOp op) (gB X.K (mj o)))(ho':jd X (compareOp op') (gB X.K (mj o')))(ha:SE X C a xa)(hb:SE X C b xb)(hc:SE X C c xc)(hm:lastMarks [op,op'] [b,c]=d_) :
  ST X C (.Compare a [op,op'] [b,c] pos) (.TR o o' xa xb xc):=
 PT.imp (I0 ho ho' ha hb hc hm) λσ H Q z3=>by
  obtain⟨ρ,d,fr,b,h,hb,F,g,R,k⟩:=z3;refine AZ (X:=X) σ H _ ⟨ρ,d,fr,h,F,g,R,λv F1 H1 st r _=>?_⟩
  have hd:∃z,d=.bl z:=by
   obtain⟨⟨da,fa⟩,h1,h⟩:=cU h;obtain⟨⟨db,fb⟩,h2,h⟩:=cU h;obtain⟨r,h3,h⟩:=cU h;split at h
   ·obtain⟨⟨dc,fc⟩,h4,h⟩:=cU h;obtain⟨z,_,h⟩:=dX h;cases h;exact⟨z,rfl⟩
   ·cases h;exact⟨d_,rfl⟩
  obtain⟨z,rfl⟩:=hd;cases hb;exact⟨_,r,k F1 H1 st⟩
def UJ(X:Cx)(C:Fs)(e:aI)(x:Ex):Prop:=SE X C e x/\(sk e=c_->ST X C e x)
theorem wJ:∀{es:List aI}{xs:List Ex}{x:Ex},Args (UJ X C) es xs->es.all sk=c_->AH .and xs=a_ x->SE X C (.BoolOp .And es pos) x/\SW X C (.BoolOp .And es pos) x
 |_,_,_,.nil,_,h=>by cases h
 |_,_,_,.cons _ p .nil,n,h=>by
   rw[cu,aq]at n;cases h;exact⟨DJ p.1,Mm (p.2 n.1)⟩
 |_,_,_,.cons _ p (.cons s q r),n,h=>by
   rw[cu,aq]at n;obtain⟨z,h1,rfl⟩:=dX h;obtain⟨i1,i2⟩:=wJ (.cons s q r) n.2 h1;exact⟨Q0 p.1 i1,Qq (p.2 n.1) i2⟩
theorem AG:∀{es:List aI}{xs:List Ex}{x:Ex},Args (UJ X C) es xs->es.all sk=c_->AH .or xs=a_ x->SE X C (.BoolOp .Or es pos) x/\SW X C (.BoolOp .Or es pos) x
 |_,_,_,.nil,_,h=>by cases h
 |_,_,_,.cons _ p .nil,n,h=>by
   rw[cu,aq]at n;cases h;exact⟨DJ p.1,Qp (p.2 n.1)⟩
 |_,_,_,.cons _ p (.cons s q r),n,h=>by
   rw[cu,aq]at n;obtain⟨z,h1,rfl⟩:=dX h;obtain⟨i1,i2⟩:=AG (.cons s q r) n.2 h1;exact⟨Vq p.1 i1,Vh (p.2 n.1) i2⟩
set_option tactic.hygienic true
def MY{bt:LP}{p:fu}(T:pD G C S X)(hb:T6 x=a_ bt)(hp:mK x=c_)(hg:Og S x=c_)(hs:dk e=c_)(he:SE X C e xa):SE X C (.Call (.Name x p) [e] [] pos) (.blt bt [xa]):=by
 have h1:aU [e] X.env=(d_,eval e X.env)::aU [] X.env:=c6 hs;have ha:SA X C [e] [xa]:=lx he qQ h1;obtain⟨d1,d2,d3⟩:=jL hp;have gl:=kL T hg;unfold T6 at hb;split at hb
 ·rename_i q;subst q;cases hb;exact xJ G7 gl (T.blt _ (by decide +kernel)) PySem.boot_len ha d3 d1 h1 rfl
 split at hb
 ·rename_i q;subst q;cases hb;exact xI CT gl (T.blt _ (by decide +kernel)) (by decide +kernel) ha d3 d1 h1 rfl
 split at hb
 ·rename_i q;subst q;cases hb;exact xI A3 gl (T.blt _ (by decide +kernel)) (by decide +kernel) ha d3 d1 h1 rfl
 split at hb
 ·rename_i q;subst q;cases hb;exact xJ (Hb T.calm) gl (T.blt _ (by decide +kernel)) (by decide +kernel) ha d3 d1 h1 rfl
 split at hb
 ·rename_i q;subst q;cases hb;exact xI G9 gl (T.blt _ (by decide +kernel)) (by decide +kernel) ha d3 d1 h1 rfl
 split at hb
 ·rename_i q;subst q;cases hb;exact xJ (yz T.un T.calm) gl (T.blt _ (by decide +kernel)) (by decide +kernel) ha d3 d1 h1 rfl
 ·cases hb
def OP{p:fu}{z:Ex}(T:pD G C S X)(ha:Args (SE X C) es xs)(h:WQ G S x xs=a_ z):SE X C (.Call (.Name x p) es [] pos) z:=by
 obtain⟨hp,h⟩:=bV h;rw[aq]at hp;obtain⟨d1,d2,d3⟩:=jL hp.1
 cases hj:KH x 0 G.fns with
 |some jn=>
   obtain⟨j,n⟩:=jn;rw[hj]at h;have h:(if xs.length=n then a_ (Ex.call j xs)else b_)=a_ z:=h;split at h
   ·rename_i hn;cases h;obtain⟨i,e1,e2⟩:=AI hj;obtain⟨k,f,fd,ps,F,hr,hm,hk,hb⟩:=T.fns i x n e2;rw[nD]at e1;subst e1
    cases ha with
    |nil=>exact IC j n F hr (kL T hp.2) hm hk hb hn.symm d1
    |cons hs he r=>exact MX j n F hr (kL T hp.2) hm hk hb (lx he r.sa (c6 hs)) hn d1 (c6 hs) (pV r.star)
   ·cases h
 |none=>
   rw[hj]at h
   cases ho:lX xs with
   |some xa=>
     obtain rfl:=i9 ho;obtain⟨b,h1,rfl⟩:=dX h;obtain⟨e,rfl,hs,he⟩:=ha.one;exact MY T h1 hp.1 hp.2 hs he
   |none=>
     rw[ho]at h;obtain⟨⟨xa,xb⟩,h1,hq⟩:=cU h;clear h;obtain rfl:xs=[xa,xb]:=nV h1;clear h1 ho;obtain⟨a,b,rfl,hs,hs',he,hb⟩:=ha.two
     ·have hA:=ID hs hs' he hb;have h2:(backTo pos (aU [b] X.env)).any (·.1)=d_:=pV (by simp[hs']);split at hq
      ·rename_i q;subst q;cases hq;exact IB (CQ T.calm) (kL T hp.2) (T.blt _ (by decide +kernel)) (by decide +kernel) hA d3 d1 (c6 hs) h2
      split at hq
      ·rename_i q;subst q;cases hq;exact IB (CP T.calm) (kL T hp.2) (T.blt _ (by decide +kernel)) (by decide +kernel) hA d3 d1 (c6 hs) h2
      ·cases hq
def TX{t:aV}{ty:Ty}(h:YA t=a_ ty):bootBuiltins t=a_ (.type (tyName ty))/\t∈kN/\(t == ("__debug__":aV))=d_/\t≠"__name__":=by
 unfold YA at h
 repeat' (split at h;(rename_i q;subst q;cases h;exact⟨by decide +kernel,by decide +kernel,by decide +kernel,by decide +kernel⟩))
 cases h
def P8{tg iter:aI}{it:Iw}(T:pD G C S X)(hf:∀e x,f e=a_ x->SE X C e x)(h:cI S f tg iter=a_ it):SI X C tg iter it/\∀a,it=.itv a->SE X C iter a:=by
 unfold cI at h
 cases hi:Kf iter with
 |none=>
   rw[hi]at h;obtain⟨x,h1,rfl⟩:=dX h;exact⟨QL (hf _ _ h1),λa z=>by cases z;exact hf _ _ h1⟩
 |some c=>
   rw[hi]at h;obtain⟨x,args⟩:=c;have h:P7 S f tg x args=a_ it:=h;obtain⟨c',h1,h2⟩:=cU hi;obtain⟨_,h2⟩:=bV h2;obtain rfl:c'=(x,args):=aS h2;obtain⟨p,q,rfl⟩:=wU h1;obtain⟨hg,h3⟩:=bV h;clear h h1 h2 hi;obtain⟨xs,h4,hq⟩:=cU h3;have ha:=jS hf h4;clear h3 h4;have gl:=kL T hg;split at hq
   ·rename_i e;subst e;obtain⟨xa,h6,rfl⟩:=dX hq;obtain rfl:=i9 h6;obtain⟨a,rfl,hs,he⟩:=ha.one;exact⟨MI gl (T.blt _ (by decide +kernel)) (lx he qQ (c6 hs)) (c6 hs),λa z=>nomatch z⟩
   split at hq
   ·rename_i e;simp only[aq,decide_eq_true_eq]at e;obtain⟨rfl,ht⟩:=e;obtain⟨p,h6,rfl⟩:=dX hq;obtain rfl:=nV h6;obtain⟨ts,k,tp,rfl⟩:=Al ht;obtain⟨a,b,rfl,hs,hs',he,hb⟩:=ha.two;exact⟨QK gl (T.blt _ (by decide +kernel)) (ID hs hs' he hb) (Il hs hs') (c6 hs'),λa z=>nomatch z⟩
   ·obtain⟨e,h5⟩:=bV hq;simp only[aq,decide_eq_true_eq]at e;obtain⟨rfl,ht⟩:=e;obtain⟨ts,k,tp,rfl⟩:=Al ht;obtain⟨xa,h6,rfl⟩:=dX h5;obtain rfl:=i9 h6;obtain⟨a,rfl,hs,he⟩:=ha.one;exact⟨QM gl (T.blt _ (by decide +kernel)) (lx he qQ (c6 hs)) (c6 hs),λa z=>nomatch z⟩
def kB(h:nW e=c_):∀v,foldedSetIterable e X.env v=pure v:=λv=>by
 cases e<;>first|rfl|cases h
theorem A2{N:List aV}:∀{cn:List aV}{is:List Nat},sG N cn=a_ is->is.map (λj=>N[j]?)=cn.map a_
 |[],_,h=>by cases h;rfl
 |x::r,_,h=>by
   obtain⟨i,h1,h⟩:=cU h;obtain⟨is,h2,rfl⟩:=dX h;rw[ag,ag,gY h1,A2 h2]
theorem lookup_mem{x:aV}{k:jC}:∀{L:List (aV×jC)},L.lookup x=a_ k->(x,k)∈L
 |[],h=>by cases h
 |(y,j)::r,h=>by
   rw[eL]at h;split at h
   ·rename_i q;cases h;rw[eq_of_beq q];exact hJ
   ·exact ib _ (lookup_mem h)
set_option tactic.hygienic false
structure Fh(S:Sc)(sc:fP)(tn cn:List aV):Prop where
 kind:sc.kind=.function
 nocell:∀y∈sc.names,y.2≠.cell
 locs:∀y∈sc.names,y.2=.local->sc.names.lookup y.1=a_ .local
 frees:∀y∈sc.names,y.2=.free->S.nm.lookup y.1=a_ .cell\/S.nm.lookup y.1=a_ .free
 capk:∀x∈cn,(S.nm.lookup x=a_ .cell\/S.nm.lookup x=a_ .free)/\sc.names.lookup x=a_ .free
 nd:(tn++cn).Nodup
 tl:∀x∈tn,sc.names.lookup x=a_ .local
def K2{sc:fP}{tn cn:List aV}(h:K3 S sc tn cn=c_):Fh S sc tn cn:=by
 unfold K3 at h;simp only[aq,aY,decide_eq_true_eq,jt,iE,decide_eq_false_iff_not]at h;obtain⟨⟨⟨⟨⟨⟨h1,h2⟩,h3⟩,h4⟩,h5⟩,h6⟩,h7⟩:=h;refine⟨h1,h2,λy hy e=>?_,λy hy e=>?_,h5,h6,h7⟩
 ·rcases h3 y hy with z|z
  ·exact absurd e z
  ·exact z
 ·rcases h4 y hy with(z|z)|z
  ·exact absurd e z
  ·exact .inl z
  ·exact .inr z
def yv{sc:fP}{tn cn:List aV}{caps:List Nat}(T:pD G C S X)(h:Fh S sc tn cn)(hc:sG S.N cn=a_ caps):jq X sc tn cn caps where
 kind:=h.kind
 nocell:=h.nocell
 locs:=h.locs
 frees:=λy hy e=>by unfold nC;rw[T.nm];exact h.frees y hy e
 nofree:=λx e=>lookup_mem e
 caps:=by rw[T.N];exact A2 hc
 capk:=λx hx=>by unfold nC;rw[T.nm];exact(h.capk x hx).1
 capn:=λx hx=>(h.capk x hx).2
def qP{sc:fP}{tn cn:List aV}(T:pD G C S X)(h:Fh S sc tn cn)(cl:List (aV×ai))(s₂:ae)(H₂:Hp)(Ca:ai)(ex:List ai):pD G C (inner S sc tn cn) (eO X sc cl (tn++cn) s₂ H₂ Ca ex) where
 N:=rfl
 nm:=by
  show(relabel sc X.env).names=zM S sc;unfold relabel zM nC;rw[T.nm,T.kind];refine dv λp _=>?_;obtain⟨n,k⟩:=p;dsimp only;rw[show(zc == zc)=c_ from rfl,fq]
 kind:=h.kind
 calm:=T.calm
 un:=T.un
 xe:=rfl
 fn:=λz=>nomatch z
 fns:=T.fns
 blt:=T.blt
 con:=T.con
end
section
variable{G:Sg}{C:Fs}{S:Sc}{X:Cx}{a b c e:aI}{xa xb xc:Ex}{pos:fu}{es:List aI}{xs:List Ex}{x:aV}{f:aI->Option Ex}
def Jl{Y:Cx}{i:Nat}{t:aV}{p:fu}(T:pD G C S Y)(hN:S.N.Nodup)(hi:S.N[i]?=a_ t)(hl:S.nm.lookup t=a_ .local):PG Y (.Name t p) (km i):=by
 refine DZ (by rw[T.N];exact hN) (by rw[T.N];exact hi) ?_ (.inr (by rw[T.nm];exact hl));unfold L2.Loc;rw[T.nm];exact .inl hl
def qb{sc:fP}{x:aV}(h:sc.names.lookup x=a_ .local):(zM S sc).lookup x=a_ .local:=by
 unfold zM;generalize sc.names=L at h
 induction L with
 |nil=>cases h
 |cons p r ih=>
   obtain⟨y,k⟩:=p;rw[eL]at h;rw[ag];by_cases hc:(k == dR && S.nm.lookup y == a_ .cell)=c_
   ·dsimp only;rw[if_pos hc,eL];split at h
    ·cases h;simp at hc
    ·exact ih h
   ·dsimp only;rw[if_neg hc,eL];split at h
    ·exact h
    ·exact ih h
theorem mM{env:vq}:∀{es:List aI}{tn:List aV},namesOf es=a_ tn->(assignEach es env).length=es.length/\(assignEach es env).findIdx? (·.1)=b_/\tn.length=es.length
 |[],tn,h=>by cases h;exact⟨rfl,rfl,rfl⟩
 |e::es,tn,h=>by
   obtain⟨t,h0,h⟩:=cU h;obtain⟨tn',h1,rfl⟩:=dX h;obtain⟨p,rfl⟩:=hG h0;obtain⟨q1,q2,q3⟩:=mM (env:=env) h1;have e1:assignEach (.Name t p::es) env=(d_,assign (.Name t p) env)::assignEach es env:=rfl;rw[e1];refine⟨by simp[q1],?_,by simp[q3]⟩;rw[List.findIdx?_cons];simp[q2]
noncomputable def gK:Nat->Nat->Hd
 |_,0=>GQ
 |k,n+1=>wF (km k) (gK (k+1) n)
theorem EE:∀n k x σ H Q Q',(∀σ2 H2,Q σ2 H2->Q' σ2 H2)->gK k n x σ H Q->gK k n x σ H Q'
 |0,_=>GP
 |n+1,k=>CD uO (EE n (k+1))
theorem Ax{nt:Nat}:∀n k,k+n<=nt->vi nt (gK k n)
 |0,_,_=>FJ
 |n+1,k,h=>BO uO (EE n (k+1)) (t7 (by omega)) (Ax n (k+1) (by omega))
theorem KA{K:Fg}{F H:Hp}:∀(ds:List Dat)(vs:List V)(k:Nat)(σ:St)(ρ:eW)(Q:St->Hp->Prop),cy K F ds vs->mw K F σ ρ->σ.length=ρ.length->(∀σ1,mw K F σ1 (xH k ds ρ)->Q σ1 H)->gK k ds.length vs σ H Q
 |[],vs,k,σ,ρ,Q,r,R,hl,q=>⟨r,q σ R⟩
 |d::ds,vs,k,σ,ρ,Q,r,R,hl,q=>by
   obtain⟨v,w,rfl,r1,r2⟩:=r;exact⟨v,w,rfl,KA ds w (k+1) _ _ Q r2 (zN hl R r1) (by simpa using hl) q⟩
set_option tactic.hygienic true
def HZ{K:Fg}{n:Nat}:UA K n d_ (Kw K n (gK 0 n)):=λF H σ ρ d x ρ1 Q g R hn hl r hb k=>by
 cases d with
 |tup ds=>
   have hb:(if ds.length=n then a_ (xH 0 ds ρ)else b_)=a_ ρ1:=hb;split at hb
   ·rename_i hz;cases hb;obtain⟨a,vs,rfl,t,r⟩:=r;subst hz;exact⟨a,vs,rfl,(t.mono g.sub).sq,r.length,KA ds vs 0 σ ρ Q r R hl k⟩
   ·cases hb
 |_=>cases hb
theorem zP{Y:Cx}(T:pD G C S Y)(nd:S.N.Nodup):∀{es:List aI}{tn:List aV}(k:Nat),namesOf es=a_ tn->(∀i t,tn[i]?=a_ t->S.N[k+i]?=a_ t)->(∀t∈tn,S.nm.lookup t=a_ .local)->U3 Y es (gK k es.length)
 |[],_,_,_,_,_=>DY
 |e::es,tn,k,h,hi,hl=>by
   obtain⟨t,h0,h⟩:=cU h;obtain⟨tn',h1,rfl⟩:=dX h;obtain⟨p,rfl⟩:=hG h0;refine zQ (Jl T nd (hi 0 t rfl) (hl t hJ)) (zP T nd (k+1) h1 (λi t' e=>?_) λt' m=>hl t' (ib _ m));rw[show k+1+i=k+(i+1) by omega];exact hi (i+1) t' ((bf ..).trans e)
def U9{sc:fP}{tg:aI}{one:Bool}{tn:List aV}(T:pD G C S X)(ht:om tg=a_ (one,tn))(h:Fh S sc tn (freeOf sc)) :
  ∃g,oZ tn.length g/\UA X.K tn.length one g/\∀(cl:List (aV×ai))(s₂:ae)(H₂:Hp)(Ca:ai)(ex:List ai),PG (eO X sc cl (tn++freeOf sc) s₂ H₂ Ca ex) tg g:=by
 cases tg with
 |Name t p=>
   cases ht;refine⟨km 0,t7 (by simp),Mi,λcl s₂ H₂ Ca ex=>?_⟩;exact Jl (qP T h cl s₂ H₂ Ca ex) h.nd rfl (qb (h.tl t (by simp)))
 |Tuple es k pos=>
   obtain⟨ts,h1,h2⟩:=dX ht;cases h2;refine⟨Kw X.K tn.length (gK 0 tn.length),FI (Ax _ 0 (by omega)),HZ,λcl s₂ H₂ Ca ex=>?_⟩;have T':=qP T h cl s₂ H₂ Ca ex;have n:=mM (env:=(eO X sc cl (tn++freeOf sc) s₂ H₂ Ca ex).env) h1;have q:=zP T' h.nd 0 h1 (λi t e=>by rw[nD];exact(cv (bC.mp e).1).trans e) λt m=>qb (h.tl t m);rw[<-n.2.2]at q;exact Ji T'.calm q (n.1.trans n.2.2.symm) n.2.1
 |_=>cases ht
def Ih(G:Sg)(C:Fs)(f:Sc->aI->Option Ex):Prop:=∀S e x,f S e=a_ x->∀X,pD G C S X->UJ X C e x
def A8{z:Ex}{p:fu}(T:pD G C S X)(h:P5 G S x=a_ z):SE X C (.Name x p) z:=by
 obtain⟨hp,h⟩:=bV h;obtain⟨d1,d2,d3⟩:=jL hp;split at h
 ·rename_i hv;obtain⟨i,h1,rfl⟩:=dX h;exact QP i (by rw[T.N];exact gY h1) (pT T hv) d1 d2
 ·obtain⟨hg,h⟩:=bV h;obtain⟨d,h1,rfl⟩:=dX h;obtain⟨v,u,hm,r,hd⟩:=T.con x d h1;exact MU (kL T hg) hm r hd.1 d1
def Ld{z:Ex}{ops:List pJ}{bs:List aI}(T:pD G C S X)(hf:∀e x,f e=a_ x->SE X C e x)(h:Qa f a ops bs=a_ z):SE X C (.Compare a ops bs pos) z/\ST X C (.Compare a ops bs pos) z:=by
 obtain⟨xa,h1,h⟩:=cU h
 cases ho:lX ops with
 |some op=>
   rw[ho]at h;obtain rfl:=i9 ho;obtain⟨b,h2,h⟩:=cU h;obtain rfl:=i9 h2;obtain⟨hs,h⟩:=bV h;obtain⟨xb,h3,rfl⟩:=dX h;exact⟨QY (oE T.un) (hf _ _ h1) (hf _ _ h3) (JH hs),Qt (oE T.un) (hf _ _ h1) (hf _ _ h3) (JH hs)⟩
 |none=>
   rw[ho]at h;obtain⟨⟨o,o'⟩,h2,g1⟩:=cU h;obtain⟨⟨b,c⟩,h3,g2⟩:=cU g1;obtain rfl:ops=[o,o']:=nV h2;obtain rfl:bs=[b,c]:=nV h3;obtain⟨hs,g3⟩:=bV g2;obtain⟨xb,h4,g4⟩:=cU g3;obtain⟨xc,h5,rfl⟩:=dX g4;exact⟨PE.imp (Jq (oE T.un) (oE T.un) (hf _ _ h1) (hf _ _ h4) (hf _ _ h5) (D6 hs)) AZ,Qu (oE T.un) (oE T.un) (hf _ _ h1) (hf _ _ h4) (hf _ _ h5) (D6 hs)⟩
def A9{z:Ex}{ks:List (Option aI)}{vs:List aI}(hf:∀e x,f e=a_ x->SE X C e x)(h:Lc f ks vs=a_ z):SE X C (.Dict ks vs pos) z:=by
 unfold Lc at h;split at h
 ·rename_i q;simp only[aq,i5]at q;obtain⟨rfl,rfl⟩:=q;cases h;exact MV
 ·cases h
def A5{o:Option aI}{z:Option Ex}(hf:∀e x,f e=a_ x->SE X C e x)(h:K8 f o=a_ z):SO X C o z:=by
 cases o with
 |none=>cases h;exact MD
 |some e=>
   obtain⟨y,h1,rfl⟩:=dX h;exact MC (hf _ _ h1)
def B0{lo hi st:Option aI}(h:mJ b=a_ (lo,hi,st)):∃p,b=.Slice lo hi st p:=by
 cases b with
 |Slice lo' hi' st' p=>cases h;exact⟨p,rfl⟩
 |_=>cases h
def uv(h:mJ b=b_):yJ b:=by
 cases b<;>first|(intro o i;rfl)|cases h
def EZ{z:Ex}(T:pD G C S X)(hf:∀e x,f e=a_ x->SE X C e x)(h:WL f a b=a_ z):SE X C (.Subscript a b pos) z:=by
 obtain⟨xa,h1,h⟩:=cU h
 cases hs:mJ b with
 |some t=>
   rw[hs]at h;obtain⟨lo,hi,st⟩:=t;obtain⟨hn,g1⟩:=bV h;obtain⟨xl,h2,g2⟩:=cU g1;obtain⟨xh,h3,rfl⟩:=dX g2;obtain⟨p,rfl⟩:=B0 hs
   cases st with
   |none=>exact Vp (hf _ _ h1) (A5 hf h2) (A5 hf h3)
   |some _=>cases hn
 |none=>
   rw[hs]at h;obtain⟨xb,h2,rfl⟩:=dX h;exact Vt (Yj (by have:=T.un;omega)) (hf _ _ h1) (hf _ _ h2) (uv hs)
def La{z:Ex}{o:aI}{m:aV}{ap cp:fu}(T:pD G C S X)(hf:∀e x,f e=a_ x->SE X C e x)(h:P6 G S f o m ap es cp=a_ z):SE X C (.Call (.Attribute o m ap) es [] cp) z:=by
 obtain⟨hln,h⟩:=bV h;obtain⟨xs,h1,h⟩:=cU h;have ha:=jS hf h1;obtain⟨hb,h⟩:=bV h;obtain⟨xo,h0,h⟩:=cU h;obtain⟨mt,h2,rfl⟩:=dX h;have hs:=ha.star;exact OO (by have:=T.un;omega) h2 (hf _ _ h0) ha.sa ha.len (λe z=>by subst z;exact c6 (by simpa using hs)) hb hln
def OK{z:Ex}{x y:aV}{bt:LP}(T:pD G C S X)(hf:∀e x,f e=a_ x->SE X C e x)(h:TY S f x y bt es=a_ z)
  (hl:∀a xa(p q q1 pos:fu),dk a=c_->Gl X x->Gl X y->SE X C a xa->SE X C (.Call (.Name x p) [.Call (.Name y q) [a] [] q1] [] pos) (.blt bt [xa])){p:fu}:SE X C (.Call (.Name x p) es [] pos) z:=by
 obtain⟨e,h1,g1⟩:=cU h;obtain⟨⟨y',as⟩,h2,g2⟩:=cU g1;obtain⟨q,q1,rfl⟩:=wU h2;obtain rfl:=i9 h1;split at g2
 ·rename_i hy;obtain rfl:y'=y:=hy;obtain⟨a,h3,g3⟩:=cU g2;obtain rfl:as=[a]:=i9 h3;obtain⟨hc,g4⟩:=bV g3;simp only[aq]at hc;obtain⟨xa,h4,rfl⟩:=dX g4;exact hl a xa _ _ _ _ hc.2 (kL T hc.1.1) (kL T hc.1.2) (hf _ _ h4)
 ·cases g2
def Hc{z:Ex}{p:fu}(T:pD G C S X)(hf:∀e x,f e=a_ x->SE X C e x)(h:CY G S f x es=a_ z):SE X C (.Call (.Name x p) es [] pos) z:=by
 unfold CY at h;split at h
 ·rename_i hx;subst hx;obtain⟨⟨a,t'⟩,h1,g1⟩:=cU h;obtain rfl:es=[a,t']:=nV h1;obtain⟨t,h2,g2⟩:=cU g1;obtain⟨p2,h5⟩:=hG h2;obtain rfl:t'=.Name t p2:=h5;obtain⟨hc,g3⟩:=bV g2;simp only[aq]at hc;obtain⟨ty,h3,g4⟩:=cU g3;obtain⟨xa,h4,rfl⟩:=dX g4;obtain⟨b1,b2,b3,b4⟩:=TX h3;exact QW ty (kL T hc.1.1) (T.blt _ (by decide +kernel)) (kL T hc.1.2) (T.blt _ b2) b1 (hf _ _ h4) b4 b3 (c6 hc.2) (pV (by rfl))
 ·generalize hw:(if x="sorted" then TY S f "sorted" "set" .sset es else b_)=w at h
  cases w with
  |some w=>
    cases h;split at hw
    ·rename_i hx;subst hx;exact OK T hf hw λa xa _ _ _ _ hs g1 g2 ha=>MR T.un T.calm g1 (T.blt _ (by decide +kernel)) g2 (T.blt _ (by decide +kernel)) ha (by rw[c6 hs];rfl)
    ·cases hw
  |none=>
    obtain⟨xs,h1,h⟩:=cU h;exact OP T (jS hf h1) h
def Bb{z:Ex}{fn:aI}(T:pD G C S X)(hf:∀e x,f e=a_ x->SE X C e x)(h:Le G S f fn es pos=a_ z):SE X C (.Call fn es [] pos) z:=by
 unfold Le at h
 cases hq:vh fn with
 |some t=>
   rw[hq]at h;obtain rfl:=rP hq;exact La T hf h
 |none=>
   rw[hq]at h;obtain⟨x,h1,h⟩:=cU h;obtain⟨p,rfl⟩:=hG h1;exact Hc T hf h
def Aw{gs:List Comprehension}{g:Gn}(h:PU gs=a_ g):gs=[⟨g.tg,g.it,g.ifs,0⟩]:=by
 obtain⟨c,h1,g1⟩:=cU h;obtain rfl:=i9 h1;split at g1
 ·rename_i hz;cases g1;cases c;cases hz;rfl
 ·cases g1
set_option tactic.hygienic false
def Ba{F:Sc->aI->Option Ex}{elt:aI}{g:Gn}{sc:fP}{z:Ex}(ih:Ih G C F)(T:pD G C S X)(h:P9 S F elt g sc=a_ z) :
  ∃tn caps one it xs xe gg,z=.comp tn caps one it xs xe/\∃tl:List aV,tl.length=tn/\jq X sc tl (freeOf sc) one/\SI X C g.tg g.it it/\oZ tl.length gg/\UA X.K tl.length caps gg/\
   (∀(cl:List (aV×ai))(s₂:ae)(H₂:Hp)(Ca:ai)(ex:List ai),PG (eO X sc cl (tl++freeOf sc) s₂ H₂ Ca ex) g.tg gg/\LJ (eO X sc cl (tl++freeOf sc) s₂ H₂ Ca ex) g.ifs (UX X.K C xs)/\SE (eO X sc cl (tl++freeOf sc) s₂ H₂ Ca ex) C elt xe)/\nW g.it=c_:=by
 obtain⟨⟨one,tn⟩,h0,h⟩:=cU h;obtain⟨caps,h1,h⟩:=cU h;obtain⟨hc,h⟩:=bV h;simp only[aq]at hc;obtain⟨it,h2,h⟩:=cU h;obtain⟨xs,h3,h⟩:=cU h;obtain⟨xe,h4,rfl⟩:=dX h;have cb:=K2 hc.1;obtain⟨gg,touch,tgc,hg⟩:=U9 T h0 cb;refine⟨_,_,_,it,xs,xe,gg,rfl,tn,rfl,yv T cb h1,(P8 T (λe x q=>(ih _ _ _ q X T).1) h2).1,touch,tgc,λcl s₂ H₂ Ca ex=>?_,hc.2⟩;have T':=qP T cb cl s₂ H₂ Ca ex;refine⟨hg cl s₂ H₂ Ca ex,?_,(ih _ _ _ h4 _ T').1⟩;generalize g.ifs=ifs at h3
 cases ifs with
 |nil=>cases h3;exact Mo
 |cons c r=>
   obtain⟨hn,h5⟩:=bV h3;simp only[aq,i5]at hn;obtain⟨rfl,hn⟩:=hn;obtain⟨y,g1,rfl⟩:=dX h5;exact Mn ((ih _ _ _ g1 _ T').2 hn)
theorem wV:∀n,Ih G C (cE G n)
 |0=>λ_ _ _ h=>by cases h
 |n+1=>λS e z h X T=>by
   have ih:=λe x h=>wV n S e x h X T;have hf:=λe x h=>(ih e x h).1
   cases e with
   |Constant c k p=>
     obtain⟨d,h1,rfl⟩:=dX h
     have q:SE X C (.Constant c k p) (.con d):=by
      cases c<;>first|(cases h1;first|exact QX|exact Vu|exact QS|exact QR)|cases h1
     exact⟨q,λ_=>lJ q⟩
   |Name x p=>exact⟨A8 T h,λ_=>lJ (A8 T h)⟩
   |BinOp a op b p=>
     obtain⟨o,h0,h⟩:=cU h;obtain⟨xa,h1,h⟩:=cU h;obtain⟨xb,h2,rfl⟩:=dX h;have q:=QZ (pos:=p) (OS (X:=X) h0) (hf _ _ h1) (hf _ _ h2);exact⟨q,λ_=>lJ q⟩
   |UnaryOp op a p=>
     cases op with
     |USub=>
       obtain⟨xa,h1,rfl⟩:=dX h;have q:=QT (pos:=p) (hf _ _ h1);exact⟨q,λ_=>lJ q⟩
     |Not=>
       obtain⟨hn,h⟩:=bV h;obtain⟨xa,h1,rfl⟩:=dX h;exact⟨MT (hf _ _ h1),λ_=>Qs ((ih _ _ h1).2 hn)⟩
     |_=>cases h
   |BoolOp op es p=>
     obtain⟨hn,h⟩:=bV h
     cases op with
     |And=>
       obtain⟨xs,h1,h⟩:=cU h;have q:=wJ (pos:=p) (jS ih h1) hn h;exact⟨q.1,λ_=>q.2.pt⟩
     |Or=>
       obtain⟨xs,h1,h⟩:=cU h;have q:=AG (pos:=p) (jS ih h1) hn h;exact⟨q.1,λ_=>q.2.pt⟩
   |Compare a ops bs p=>
     have q:=Ld (pos:=p) T hf h;exact⟨q.1,λ_=>q.2⟩
   |IfExp c a b p=>
     obtain⟨hn,h⟩:=bV h;obtain⟨xc,h1,h⟩:=cU h;obtain⟨xa,h2,h⟩:=cU h;obtain⟨xb,h3,rfl⟩:=dX h;exact⟨QV ((ih _ _ h1).2 hn) (hf _ _ h2) (hf _ _ h3),λz=>by cases z⟩
   |Tuple es k p=>
     obtain⟨xs,h1,rfl⟩:=dX h;have q:=QQ (x1:=k) (pos:=p) (jS hf h1).sf;exact⟨q,λ_=>lJ q⟩
   |List es p=>
     obtain⟨xs,h1,rfl⟩:=dX h;have q:=QU (pos:=p) (jS hf h1).sf;exact⟨q,λ_=>lJ q⟩
   |Dict ks vs p=>exact⟨A9 hf h,λ_=>lJ (A9 hf h)⟩
   |Subscript a b p=>exact⟨EZ T hf h,λ_=>lJ (EZ T hf h)⟩
   |Call fn args kws cp=>
     obtain⟨hk,h⟩:=bV h
     cases kws with
     |nil=>exact⟨Bb T hf h,λ_=>lJ (Bb T hf h)⟩
     |cons _ _=>cases hk
   |ListComp elt gs sc p=>
     obtain⟨g,h1,h⟩:=cU h;obtain rfl:=Aw h1;obtain⟨_,_,_,it,xs,xe,gg,rfl,tl,rfl,k1,k2,k3,k4,k5,k6⟩:=Ba (wV n) T h;have q:=MW (pos:=p) T.calm k1 k2 k3 k4 (λcl s₂ H₂ Ca ex=>(k5 cl s₂ H₂ Ca ex).1) (λcl s₂ H₂ Ca ex=>(k5 cl s₂ H₂ Ca ex).2.1) (λcl s₂ H₂ Ca ex=>(k5 cl s₂ H₂ Ca ex).2.2) (kB k6);exact⟨q,λ_=>lJ q⟩
   |_=>cases h
end
noncomputable def posK(k:Key):List Key->Option Nat
 |[]=>b_
 |j::ks=>if j=k then a_ 0 else(posK k ks).map (·+ 1)
noncomputable def R9(op:xm)(kd:Dat)(ds:List Dat):Dat->Option Dat
 |.dct ks ws=>(qg kd).bind λk=>(posK k ks).bind λj=>(ws[j]?).bind λe=>(gX op e ds).map λe'=>.dct ks (ws.set j e')
 |_=>b_
noncomputable def Sa(op:xm)(i:Nat)(ρ:cF)(kd:Dat)(ds:List Dat):g_->Option Out
 |some (d,c_)=>(R9 op kd ds d).map λd'=>.nx (ρ.set i (a_ (d',c_)))
 |_=>b_
def Sx.VZ(op:xm)(i:Nat)(ke:Ex)(es:List Ex):Sx:={ ex:=λC ρ=>(bF C ke (full ρ)).bind λy=>(mf C es (full ρ)).bind λx=>if x.2=c_ then Sa op i ρ y.1 x.1 (ρ[i]?).join else b_ }
theorem DU{k:Key}:∀{k_:List (Key×V)}{j:Nat}{v:V},posK k (k_.map (·.1))=a_ j->(k_.map (·.2))[j]?=a_ v->k8 k_ k=a_ v
 |[],_,_,h,_=>by cases h
 |p::r,j,v,h,e=>by
   simp only[ag,posK]at h;by_cases q:p.1=k
   ·rw[if_pos q]at h;cases h;simp only[ag,aT]at e;cases e;simp[k8,q]
   ·rw[if_neg q]at h;obtain⟨j',h1,rfl⟩:=dX h;simp only[ag,bf]at e;have:=DU h1 e;unfold k8 at this ⊢;rw[List.find?_cons_of_neg (by simpa using q)];exact this
section
variable{X:Cx}{C:Fs}{K:Fg}
def Vz:R2:=λx y H Q=>∃a k_ k w,x=.ref a/\y=kV k/\H a=a_ (.dK k_)/\k8 k_ k=a_ w/\Q w H
def SN(hu:X.A.units+1<cg):UE X Vz:=by
 intro value slice h_ s σ H x y v u Q I rx ry h hs;obtain⟨a,k_,k,w,rfl,rfl,hH,hv,q⟩:=h;cases rx;have dg:sS H a (kV k) (a_ w):=by rw[<-hv];exact sS.k hH
 exact LZ (sE I dg) vo.lookup (wO hu I dg ry λu' s' I' r'=>⟨w,H,I',r',q⟩) hs
def cY.at{H:Hp}{ds:List Dat}{vs:List V}{S:List ai}{k:Nat}{e:Dat}(o:cY K H ds vs S)(hk:ds[k]?=a_ e) :
  ∃v S1 S2 S3,vs[k]?=a_ v/\mC K H e v S2/\S=S1++(S2++S3)/\cY K H (ds.take k) (vs.take k) S1/\cY K H (ds.drop (k+1)) (vs.drop (k+1)) S3/\vs=vs.take k++v::vs.drop (k+1):=by
 obtain⟨S1,Sb,o1,o2,rfl⟩:=o.take k;have hlt:k<ds.length:=(bC.mp hk).1
 have hd:ds.drop k=e::ds.drop (k+1):=by
  rw[i8 hlt]
  congr 1
  exact(bC.mp hk).2
 rw[hd]at o2;obtain⟨v,r,S2,S3,e1,o3,o4,rfl⟩:=o2;have hlv:k<vs.length:=by rw[o.length];exact hlt
 have hv:vs.drop k=vs[k]::vs.drop (k+1):=i8 hlv;rw[hv]at e1;obtain⟨rfl,rfl⟩:=fI e1;exact⟨_,S1,S2,S3,aj hlv,o3,rfl,o1,o4,by rw[<-hv,eG]⟩
structure Chg(K:Fg)(H:Hp)(op:xm)(p l:ai)(d':Dat)(ws:List V)(S T:List ai)(ob':HO)(S':List ai):Prop where
 own:mC K (upd H l ob') d' (.ref p) S'
 nd:S'.Nodup
 sub:∀a∈S',a∈S\/a∈T
def NQ{H H':Hp}{op:xm}{ks:List Key}{ws:List Dat}{j:Nat}{e e':Dat}{v:V}{S T:List ai}{ds:List Dat}{us:List V}(h1:op≠.ext)(h2:op≠.dput)(h0:op≠.seti)(sm:bX H H')(hj:ws[j]?=a_ e)(hm:gX op e ds=a_ e')(o:mC K H (.dct ks ws) v S)(nd:S.Nodup)
  (a:cY K H' ds us T)(nt:T.Nodup)(dj:∀a∈S,a∉T):∃p k_ l xs ob ob' S',v=.ref p/\H p=a_ (.dK k_)/\k_.map (·.1)=ks/\(k_.map (·.2))[j]?=a_ (.ref l)/\H l=a_ (.lst xs)/\l∈S/\H' l=a_ ob/\Bt op ob us=a_ ob'/\Lv ob'/\Chg K H' op p l (.dct ks (ws.set j e')) us S T ob' S':=by
 obtain⟨p,k_,S0,rfl,hp,rfl,os,rfl⟩:=o;obtain⟨vk,S1,S2,S3,f1,f2,f3,f4,f5,f6⟩:=os.at hj;subst f3
 have hdl:∃l xs,vk=.ref l/\H l=a_ (.lst xs):=by
  cases e with
  |lst ls=>obtain⟨l,xs,S',rfl,hl,_⟩:=id f2;exact⟨l,xs,rfl,hl⟩
  |dct ks ws=>cases op<;>first|exact absurd rfl h1|exact absurd rfl h2|exact absurd rfl h0|cases hm
  |dcn _=>cases op<;>first|exact absurd rfl h1|exact absurd rfl h2|cases hm
  |_=>cases op<;>cases hm
 obtain⟨l,xs,rfl,hl⟩:=hdl;have n0:=be.mp nd;have n1:=lY n0.2;have n2:=lY n1.2.1
 have inS:∀a,a∈S1\/a∈S2\/a∈S3->a∈p::(S1++(S2++S3)):=λa m=>ib _ (by
  rcases m with m|m|m
  ·exact aJ _ m
  ·exact ak _ (aJ _ m)
  ·exact ak _ (ak _ m))
 obtain⟨l2,ob,ob',S',ev,hl2,hob,hop,mu,o2,nd2,hS2⟩:=Ee h1 h2 hm (f2.mono sm) n2.1 a nt λa m=>dj a (inS a (.inr (.inl m)));cases ev
 have nt':∀us,H' l≠a_ (.tup us):=λus z=>by rw[hob]at z;cases z;cases op<;>first|exact absurd rfl h1|exact absurd rfl h2|cases hop
 have hl1:l∉S1:=λm=>n1.2.2 l m (aJ _ hl2);have hl3:l∉S3:=λm=>n2.2.2 l hl2 m;have hpl:p≠l:=λz=>n0.1 (z▸ak _ (aJ _ hl2));refine⟨p,k_,l,xs,ob,ob',p::(S1++(S'++S3)),rfl,hp,rfl,f1,hl,inS l (.inr (.inl hl2)),hob,hop,mu,⟨p,k_,S1++(S'++S3),rfl,(cH hpl).trans (sm _ _ hp),rfl,?_,rfl⟩,?_,λa m=>?_⟩
 ·have q:=((f4.mono sm).upd (o:=ob') nt' _ hl1).append ((cY.one o2).append ((f5.mono sm).upd (o:=ob') nt' _ hl3))
  have ed:ws.set j e'=ws.take j++([e']++ws.drop (j+1)):=by
   rw[List.set_eq_take_append_cons_drop,if_pos (bC.mp hj).1];rfl
  rw[ed];exact f6.symm▸q
 ·refine be.mpr ⟨λm=>?_,kH n1.1 (kH nd2 n2.2.1 λa m m3=>?_) λa m m2=>?_⟩
  ·rcases az.mp m with m|m
   ·exact n0.1 (aJ _ m)
   ·rcases az.mp m with m|m
    ·rcases hS2 p m with z|z
     ·exact n0.1 (ak _ (aJ _ z))
     ·exact dj p hJ z
    ·exact n0.1 (ak _ (ak _ m))
  ·rcases hS2 a m with z|z
   ·exact n2.2.2 a z m3
   ·exact dj a (inS a (.inr (.inr m3))) z
  ·rcases az.mp m2 with m2|m2
   ·rcases hS2 a m2 with z|z
    ·exact n1.2.2 a m (aJ _ z)
    ·exact dj a (inS a (.inl m)) z
   ·exact n1.2.2 a m (ak _ m2)
 ·rcases ao.mp m with rfl|m
  ·exact .inl hJ
  ·rcases az.mp m with m|m
   ·exact .inl (inS a (.inl m))
   ·rcases az.mp m with m|m
    ·rcases hS2 a m with z|z
     ·exact .inl (inS a (.inr (.inl z)))
     ·exact .inr z
    ·exact .inl (inS a (.inr (.inr m)))
def JT{op:xm}{i:Nat}{ke:Ex}{es:List Ex}{ρ:cF}{out:Out}(h:fE C (.VZ op i ke es) ρ=a_ out) :
  ∃kd fk k ds ks ws j e e',bF C ke (full ρ)=a_ (kd,fk)/\qg kd=a_ k/\mf C es (full ρ)=a_ (ds,c_)/\ρ[i]?=a_ (a_ (.dct ks ws,c_))/\posK k ks=a_ j/\ws[j]?=a_ e/\gX op e ds=a_ e'/\out=.nx (ρ.set i (a_ (.dct ks (ws.set j e'),c_))):=by
 obtain⟨⟨kd,fk⟩,hk,h⟩:=cU h;obtain⟨⟨ds,al⟩,h3,h⟩:=cU h;have h:(if al=c_ then Sa op i ρ kd ds (ρ[i]?).join else b_)=a_ out:=h;by_cases hal:al=c_
 ·rw[if_pos hal]at h;subst hal
  cases q:ρ[i]? with
  |none=>rw[q]at h;cases h
  |some z=>
    rw[q]at h
    match z,h with
    |some (d,c_),h=>
      obtain⟨d',h4,h5⟩:=dX h
      cases d with
      |dct ks ws=>
        obtain⟨k,g1,h4⟩:=cU h4;obtain⟨j,g2,h4⟩:=cU h4;obtain⟨e,g3,h4⟩:=cU h4;obtain⟨e',g4,rfl⟩:=dX h4;exact⟨kd,fk,k,ds,ks,ws,j,e,e',hk,g1,h3,rfl,g2,g3,g4,h5.symm⟩
      |_=>cases h4
 ·rw[if_neg hal]at h;cases h
def JS{op:xm}{i:Nat}{ke:Ex}{es:List Ex}(h1:op≠.ext)(h2:op≠.dput)(h0:op≠.seti){D:Ends}{σ:St}{H:Hp}(h:gS K C (.VZ op i ke es) D σ H) :
  ∃p,σ[i]?=a_ (a_ (.ref p))/\gE K C ke σ H λkv H1=>∃k_ k l xs,kv=kV k/\H1 p=a_ (.dK k_)/\k8 k_ k=a_ (.ref l)/\H1 l=a_ (.lst xs)/\gF K C es σ H1 λws H2=>∃ob ob',H2 l=a_ ob/\Bt op ob ws=a_ ob'/\D.nx σ (upd H2 l ob'):=by
 obtain⟨Fz,H₀,F,ρ,out,h,R,kq⟩:=h;obtain⟨kd,fk,k,ds,ks,ws,j,e,e',g1,g2,g3,hi,g4,g5,g6,rfl⟩:=JT h;obtain⟨Ss,O⟩:=R.ow;obtain⟨v,e1,e2,e3,e4⟩:=O.own i _ hi;obtain⟨p,k_,S0,rfl,hp,hks,os,eS⟩:=id e2;obtain⟨Fp,sp,Rp⟩:=R.jO;refine⟨p,e1,_,kd,fk,g1,Fp,Rp.step.good,Rp.full,λkv F1 H1 ee r1 _=>?_⟩;obtain rfl:=qf g2 r1;have stS:=Step.shrink R.step.good sp ee;have R1:=R.moved stS;have O1:=O.moved stS;obtain⟨vk,S1,S2,S3,f1,f2,f3,f4,f5,f6⟩:=os.at g5
 have hdl:∃l xs,vk=.ref l/\H l=a_ (.lst xs):=by
  cases e with
  |lst ls=>obtain⟨l,xs,S',rfl,hl,_⟩:=id f2;exact⟨l,xs,rfl,hl⟩
  |dct ks ws=>cases op<;>first|exact absurd rfl h1|exact absurd rfl h2|exact absurd rfl h0|cases g6
  |dcn _=>cases op<;>first|exact absurd rfl h1|exact absurd rfl h2|cases g6
  |_=>cases op<;>cases g6
 obtain⟨l,xs,rfl,hl⟩:=hdl;refine⟨k_,k,l,xs,rfl,stS.hh _ _ hp,DU (by rw[hks];exact g4) f1,stS.hh _ _ hl,yp R1 g3 λus F' H' T st ow nT hT=>?_⟩;have O':=O1.moved st;have R':=R1.moved st
 have dj:∀a∈Ss i,a∉T:=λa m m2=>by
  obtain⟨u,hu,_⟩:=e2.yX _ a m;have:=stS.hh _ _ hu;rw[(hT a m2).1]at this;cases this
 obtain⟨p',kvs',l',xs',ob,ob',S',q1,q2,q3,q4,q5,q6,q7,q8,q9,ch⟩:=NQ (H:=H) (H':=H') h1 h2 h0 (stS.hh.trans st.hh) g5 g6 e2 e3 ow nT dj;cases q1;rw[hp]at q2;cases q2;rw[f1]at q4;cases q4;refine⟨ob,ob',q7,q8,kq F' _ σ (stS.ff.trans st.ff) (R'.mut O' hi e1 q6 q9 ch.own ch.nd λa m=>?_)⟩
 rcases ch.sub a m with m|m
 ·exact .inl m
 ·refine .inr ⟨(hT a m).2,?_,λj d2 q m2=>?_⟩
  ·exact R1.step.hh.free (hT a m).1
  ·obtain⟨w,_,g2,_⟩:=O1.own j d2 q;obtain⟨u,hu,_⟩:=g2.yX _ a m2;rw[(hT a m).1]at hu;cases hu
def QB{op:xm}{i:Nat}{ke:Ex}{es:List Ex}{st:jw}{r:V->List V->Hp->VK->Prop}(h1:op≠.ext)(h2:op≠.dput)(h3:op≠.seti)(hr:∀l ob ob' vs H Q,H l=a_ ob->Bt op ob vs=a_ ob'->(∀u,Q u (upd H l ob'))->r (.ref l) vs H Q)
  (hm:PS X st (Ie (Xg X.K "list" r (UL Vz (Ic i) (gE X.K C ke)) (gF X.K C es)))):SS X C st (.VZ op i ke es):=PS.imp hm λD σ H h=>by
 obtain⟨p,e1,g⟩:=JS h1 h2 h3 h;refine⟨.ref p,e1,qp g λkv H1 s1 g2=>?_⟩;obtain⟨k_,k,l,xs,rfl,q1,q2,q3,g3⟩:=g2;refine⟨p,k_,k,.ref l,rfl,rfl,q1,q2,.inl ⟨rfl,xs,oG.of q3⟩,?_⟩;obtain⟨ρ,ds,al,h,F,gg,R,k⟩:=g3;exact⟨ρ,ds,al,h,F,gg,R,λvs F' H' st r f=>let ⟨ob,ob',q1,q2,q3⟩:=k vs F' H' st r f;hr l ob ob' vs H' _ q1 q2 λ_=>q3⟩
end
noncomputable def X4(i j:Nat)(ρ:cF):List Dat->Option Out
 |[a,b]=>a_ (.nx ((ρ.set i (a_ (a,d_))).set j (a_ (b,d_))))
 |_=>b_
def Sx.par(i j:Nat)(xs:List Ex):Sx:={ ex:=λC ρ=>(j6 C xs (rZ (ka (KE xs) ρ))).bind (X4 i j (ka (KE xs) ρ)) }
section
variable{X:Cx}{C:Fs}
def QA{i j:Nat}{x y:aV}{a b:aI}{xs:List Ex}{px py pt pos:fu}{kt k2 pt2}(hc:X.calm=c_)(hN:X.N.Nodup)(hi:X.N[i]?=a_ x)(hj:X.N[j]?=a_ y)(hij:i≠j)
  (hx:X.env.scope.names.lookup x=a_ .local)(hy:X.env.scope.names.lookup y=a_ .local)(ha:SA X C [a,b] xs)
  (hw:swappedStores [.Tuple [.Name x px,.Name y py] kt pt] (.Tuple [a,b] k2 pt2) X.env=pure (a_ [x,y])) :
  SS X C (.Assign [.Tuple [.Name x px,.Name y py] kt pt] (.Tuple [a,b] k2 pt2) pos) (.par i j xs):=
 PS.imp (Rq hc hN hi hj hij hx hy ha hw) λD σ H h=>by
  obtain⟨Fz,H₀,F,ρ,out,h,R,k⟩:=h;obtain⟨ds,h1,h2⟩:=cU h
  match ds,h1,h2 with
  |[d1,d2],h1,h2=>
    cases h2;obtain⟨F2,s2,R2⟩:=R.freeze (KE xs);refine⟨_,[d1,d2],h1,F2,R2.step.good,R2.rZ,λvs F1 H1 st r=>?_⟩;obtain⟨v,r1,rfl,q1,w,r2,rfl,q2,e⟩:=r;cases e;exact⟨v,w,rfl,k F1 H1 _ (s2.trans st.ff) (((R2.moved st).ue q1).ue q2)⟩
end
noncomputable def ox:aI->Bool
 |.ListComp _ _ _ _=>d_
 |.SetComp _ _ _ _=>d_
 |.DictComp _ _ _ _ _=>d_
 |_=>c_
noncomputable def Ii(S:Sc)(sc:fP)(cp:fu)(t:aV)(p:fu):Bool:=S.nm.lookup t == a_ .local && p.line == cp.line && !(sc.names.any λ(n,k)=>n == t && (k == .local || k == .cell))
noncomputable def WO(m:aV)(k:Nat):Option xm:=
 if m="append"/\k=1 then a_ .app else if m="insert"/\k=2 then a_ .ins else b_
def EL(e:aI):Bool:=kJ e == a_ "entry"
def IS(S:Sc)(e:aI):Option Nat:=(kJ e).bind λx=>if(mK x && BK S x)=c_ then rp x S.N else b_
noncomputable def WM(G:Sg)(S:Sc)(f:aI->Option Ex):Option aI->Option Sx
 |none=>b_
 | some e=>match IS S e with
   |some i=>a_ (.pe i)
   |none=>(f e).map .ret
noncomputable def Dq:aI->Option (aV×aI)
 |.Subscript a ix _=>(kJ a).map λx=>(x,ix)
 |_=>b_
noncomputable def tw2:aI->Option (aI×aI)
 | .Tuple es _ _=>match es with
   |[a,b]=>a_ (a,b)
   |_=>b_
 |_=>b_
noncomputable def X8:aI->Option (aV×fu)
 |.Name x p=>a_ (x,p)
 |_=>b_
def Y3(S:Sc)(x y:aV×fu)(a b:aI):Bool:=S.nm.lookup x.1 == a_ .local && S.nm.lookup y.1 == a_ .local && x.1 != y.1 && y.2.line == x.2.line && dk a && dk b && !(foldedForSure 8 a && foldedForSure 8 b) && !(constantsAlone 8 a && constantsAlone 8 b)
def WN(S:Sc)(f:aI->Option Ex)(t e:aI):Option Sx:=(tw2 t).bind λt2=>(X8 t2.1).bind λx=>(X8 t2.2).bind λy=>(tw2 e).bind λe2=>
 if Y3 S x y e2.1 e2.2=c_ then(rp x.1 S.N).bind λi=>(rp y.1 S.N).bind λj=>(uG f [e2.1,e2.2]).map λxs=>.par i j xs else b_
noncomputable def T7(S:Sc)(f:aI->Option Ex)(t e:aI):Option Sx:=match kJ t with
 |some x=>if xX S x=c_ then(rp x S.N).bind λi=>(f e).map λxe=>.set i xe else b_
 | none=>match Dq t with
   |some (x,ix)=>if(BK S x && mK x && (mJ ix).isNone && ox e)=c_ then(rp x S.N).bind λi=>(f e).bind λxe=>(f ix).map λxi=>.mut (if EL ix=c_ then .dput else .seti) i [xe,xi]else b_
   |none=>if isTup e=c_ then WN S f t e else(om t).bind λtn=>if(tn.2.all (xX S) && !isTup e && !tn.1)=c_ then(sG S.N tn.2).bind λts=>(f e).map λxe=>.Mg ts xe else b_
structure Mc where
 x:aV
 m:aV
 ap:fu
 args:List aI
 cp:fu
def Se(e:aI):Option Mc:=(OJ e).bind λc=>(vh c.fn).bind λt=>(kJ t.1).bind λx=>if c.kws.isEmpty=c_ then a_ ⟨x,t.2.1,t.2.2,c.args,c.pos⟩else b_
noncomputable def VR:List aI->Option aI
 |[a]=>a_ a
 |_=>b_
structure Mk where
 x:aV
 ix:aI
 ap:fu
 a:aI
 cp:fu
def Sd(e:aI):Option Mk:=(OJ e).bind λc=>(vh c.fn).bind λt=>(Dq t.1).bind λz=>(VR c.args).bind λa=>if(c.kws.isEmpty && t.2.1 == "append")=c_ then a_ ⟨z.1,z.2,t.2.2,a,c.pos⟩else b_
noncomputable def cExp(S:Sc)(f:aI->Option Ex)(e:aI):Option Sx:=match Se e with
 |some c=>if(BK S c.x && mK c.x && (c.ap.endLine == c.cp.line))=c_ then(rp c.x S.N).bind λi=>(uG f c.args).bind λxs=>(WO c.m xs.length).map λop=>.mut op i xs else b_
 | none=>match Sd e with
   |some c=>if(BK S c.x && mK c.x && (mJ c.ix).isNone && (c.ap.endLine == c.cp.line) && dk c.a)=c_ then(rp c.x S.N).bind λi=>(f c.ix).bind λxi=>(f c.a).map λxa=>.VZ .app i xi [xa]else b_
   |none=>if ox e=c_ then(f e).map .exp else b_
def wk(f:jw->Option Sx)(ss:List jw):List Sx:=ss.map λs=>(f s).getD .xC
noncomputable def cS(G:Sg)(S:Sc):Nat->jw->Option Sx
 |0,_=>b_
 | n+1,st=>match st with
   |.Return v _=>WM G S (cE G n S) v
   |.Assign ts e _=>(lX ts).bind λt=>T7 S (cE G n S) t e
   |.Expr e _=>cExp S (cE G n S) e
   |.If c a b _=>if sk c=c_ then(cE G n S c).map λxc=>.ifs xc (wk (cS G S n) a) (wk (cS G S n) b)else b_
   |.For tg iter body els _=>if els.isEmpty=c_ then(om tg).bind λt=>if(t.2.all (xX S) && nW iter)=c_ then(sG S.N t.2).bind λts=>(cI S (cE G n S) tg iter).map λit=>.loop t.1 ts it (wk (cS G S n) body)else b_ else b_
   |_=>b_
section
variable{G:Sg}{C:Fs}{S:Sc}{X:Cx}{e:aI}{pos:fu}{f:aI->Option Ex}
theorem jZ{f:jw->Option Sx}(hf:∀s y,f s=a_ y->SS X C s y):∀(ss:List jw),O2 X C ss (wk f ss)
 |[]=>Mr
 | s::r=>Im (by
    show SS X C s ((f s).getD .xC)
    cases q:f s with
    |none=>exact Qy
    |some y=>exact hf _ _ q) (jZ hf r)
def uC{t:Option aI}{line:Nat}(h:ox e=c_):swapsWith e t line X.env=pure d_:=by
 cases e<;>first|rfl|cases h
def Jj{i:Nat}{t:aV}{p:fu}(T:pD G C S X)(ht:S.top=c_)(hN:S.N.Nodup)(hi:S.N[i]?=a_ t)(hl:xX S t=c_):PG X (.Name t p) (km i):=
 DZ (by rw[T.N];exact hN) (by rw[T.N];exact hi) (tN T hl) (.inl (T.fn ht t))
theorem zV(T:pD G C S X)(htop:S.top=c_)(hN:S.N.Nodup):∀{es:List aI}{tn:List aV}{ts:List Nat},namesOf es=a_ tn->tn.all (xX S)=c_->sG S.N tn=a_ ts->U3 X es (Xn ts)/\ts.length=es.length
 |[],tn,ts,h,_,hc=>by
   cases h;cases hc;exact⟨DY,rfl⟩
 |e::es,tn,ts,h,hl,hc=>by
   obtain⟨t,h0,h⟩:=cU h;obtain⟨tn',h1,rfl⟩:=dX h;obtain⟨p,rfl⟩:=hG h0;obtain⟨i,h2,hc⟩:=cU hc;obtain⟨is,h3,rfl⟩:=dX hc;rw[cu,aq]at hl;obtain⟨q1,q2⟩:=zV T htop hN h1 hl.2 h3;exact⟨zQ (Jj T htop hN (gY h2) hl.1) q1,congrArg (·+ 1) q2⟩
def Ia{tg:aI}{one:Bool}{tn:List aV}{ts:List Nat}(T:pD G C S X)(htop:S.top=c_)(hN:S.N.Nodup)(ht:om tg=a_ (one,tn))(hl:tn.all (xX S)=c_)(hc:sG S.N tn=a_ ts) :
  ∃g,Uy X.K one ts g/\PG X tg g:=by
 cases tg with
 |Name t p=>
   cases ht;obtain⟨i,h1,hc⟩:=cU hc;cases hc;exact⟨km i,Mh,Jj T htop hN (gY h1) (by simpa using hl)⟩
 |Tuple es k p=>
   obtain⟨tn',h1,h⟩:=dX ht;cases h;obtain⟨q1,q2⟩:=zV T htop hN h1 hl hc;exact⟨_,HY,Ji T.calm q1 ((mM h1).1.trans q2.symm) (mM h1).2.1⟩
 |_=>cases ht
def OM{v:Option aI}{y:Sx}(T:pD G C S X)(hf:∀e x,f e=a_ x->SE X C e x)(h:WM G S f v=a_ y):SS X C (.Return v pos) y:=by
 cases v with
 |none=>cases h
 |some e=>
   have h:(match IS S e with|some i=>a_ (Sx.pe i)|none=>(f e).map .ret)=a_ y:=h
   cases hw:IS S e with
   |some i=>
     rw[hw]at h;cases h;obtain⟨x,h1,h2⟩:=cU hw;obtain⟨p,rfl⟩:=hG h1;obtain⟨hc,h2⟩:=bV h2;rw[aq]at hc;obtain⟨d1,d2,d3⟩:=jL hc.1;exact Mv (by rw[T.N];exact gY h2) (pT T hc.2) d1 d2
   |none=>
     rw[hw]at h;obtain⟨xe,h1,rfl⟩:=dX h;exact Qz (hf _ _ h1)
def FL{e:aI}{line:Nat}{env:vq}{a ix:aI}{sp:fu}(h:ox e=c_):swapsWithSole [.Subscript a ix sp] e line env=pure d_/\swappedStores [.Subscript a ix sp] e env=pure b_:=by
 cases e<;>first|exact⟨rfl,rfl⟩|cases h
def FH{e:aI}{line:Nat}{env:vq}{es:List aI}{k:Nat}{tp:fu}(h:isTup e=d_):swapsWithSole [.Tuple es k tp] e line env=pure d_/\swappedStores [.Tuple es k tp] e env=pure b_:=by
 cases e<;>first|exact⟨rfl,rfl⟩|cases h
def zt{t ix:aI}{x:aV}(h:Dq t=a_ (x,ix)):∃p sp,t=.Subscript (.Name x p) ix sp:=by
 cases t with
 |Subscript a ix' sp=>
   obtain⟨x',h1,h2⟩:=dX h;cases h2;obtain⟨p,rfl⟩:=hG h1;exact⟨p,sp,rfl⟩
 |_=>cases h
def Va{t:aI}{tn:List aV}(h:om t=a_ (d_,tn)):∃es k tp,t=.Tuple es k tp:=by
 cases t with
 |Tuple es k tp=>exact⟨es,k,tp,rfl⟩
 |_=>cases h
def Wd{o ix:aI}{p:fu}{env:vq}(h:mJ ix=b_):∀v,assign (.Subscript o ix p) env v=(do
   let ov <-holding [v] (eval o env);let iv <-holding [v,ov] (eval ix env)
   standAt p
   holding [v,ov,iv] (setItem ov iv v)
   release [v,ov,iv] []):=λv=>by
 cases ix<;>first|rfl|cases h
def TL{n:Nat}{z:Ex}(hc:¬ox e=c_)(h:cE G n S e=a_ z):∃elt gs sc cp,e=.ListComp elt gs sc cp:=by
 cases n with
 |zero=>cases h
 |succ n=>
   cases e with
   |ListComp elt gs sc cp=>exact⟨_,_,_,_,rfl⟩
   |SetComp _ _ _ _=>cases h
   |DictComp _ _ _ _ _=>cases h
   |_=>exact absurd rfl hc
def OL{n i:Nat}{x:aV}{p:fu}{xe:Ex}(T:pD G C S X)(top:S.top=c_)(nd:S.N.Nodup)(hl:xX S x=c_)(h1:rp x S.N=a_ i)(h2:cE G n S e=a_ xe):SS X C (.Assign [.Name x p] e pos) (.set i xe):=by
 have hN:X.N.Nodup:=by rw[T.N];exact nd
 have hi:X.N[i]?=a_ x:=by rw[T.N];exact gY h1
 have q:=(wV n S e xe h2 X T).1;by_cases hc:ox e=c_
 ·exact Ip hN hi (tN T hl) q (uC hc) (.inl (T.fn top x))
 ·obtain⟨elt,gs,sc,cp,rfl⟩:=TL hc h2
  have hsw:swapsWith (.ListComp elt gs sc cp) (a_ (.Name x p)) pos.line X.env=pure (Ii S sc cp x p):=by
   unfold swapsWith Ii;have hb:X.env.blockKind=.function:=by unfold Env.blockKind;rw[T.kind];rfl
   simp only[pure_bind,hb,nC,T.nm];rfl
  cases hb:Ii S sc cp x p with
  |false=>
    rw[hb]at hsw;exact Ip hN hi (tN T hl) q hsw (.inl (T.fn top x))
  |true=>
    rw[hb]at hsw
    cases n with
    |zero=>cases h2
    |succ n=>
      obtain⟨g,h3,h4⟩:=cU h2;obtain rfl:=Aw h3;obtain⟨_,_,_,it,xs,xe,gg,rfl,tl,rfl,k1,k2,k3,k4,k5,k6⟩:=Ba (wV n) T h4;exact BS hN hi (tN T hl) T.calm k1 k2 k3 k4 (λcl s₂ H₂ Ca ex=>(k5 cl s₂ H₂ Ca ex).1) (λcl s₂ H₂ Ca ex=>(k5 cl s₂ H₂ Ca ex).2.1) (λcl s₂ H₂ Ca ex=>(k5 cl s₂ H₂ Ca ex).2.2) hsw (kB k6) (.inl (T.fn top x))
def RD{env:vq}{x y:aV}{a b:aI}{px py pt pt2:fu}{kt k2:Nat}(hb:env.blockKind=.function)(hx:env.scope.names.lookup x=a_ .local)(hy:env.scope.names.lookup y=a_ .local)(hne:x≠y)(hl:(py.line == px.line)=c_)(sa:dk a=c_)(sb:dk b=c_)
  (hf:(foldedForSure 8 a && foldedForSure 8 b)=d_)(hc:(constantsAlone 8 a && constantsAlone 8 b)=d_):swappedStores [.Tuple [.Name x px,.Name y py] kt pt] (.Tuple [a,b] k2 pt2) env=pure (a_ [x,y]):=by
 have s1:∀e∈[a,b],dk e=c_:=λe he=>by
  rcases ao.mp he with rfl|he
  ·exact sa
  ·rw[aF.mp he];exact sb
 unfold swappedStores;simp only[hb,nC,hx,hy]
 rw[if_neg (by simp),if_neg (by
  rw[Bool.not_eq_true,List.any_eq_false];intro e he h;have:=s1 e he
  cases e<;>first|(cases this;done)|cases h)]
 have hl':py.line=px.line:=beq_iff_eq.mp hl;have hf':([a,b].all (foldedForSure 8))=d_:=by simpa [cu]using hf
 have hc':([a,b].all (constantsAlone 8))=d_:=by simpa [cu]using hc
 rw[hf',hc'];have hp:(Expr.Name x px).pos.line=px.line:=rfl;simp[jb,hx,hy,hl',hp,List.eraseDups_cons,hne.symm,hne]
def tw2_ok{t:aI}{z:aI×aI}(h:tw2 t=a_ z):∃k p,t=.Tuple [z.1,z.2] k p:=by
 cases t with
 |Tuple es k p=>
   match es,h with
   |[a,b],h=>cases h;exact⟨k,p,rfl⟩
 |_=>cases h
def JI{t:aI}{z:aV×fu}(h:X8 t=a_ z):t=.Name z.1 z.2:=by
 cases t with
 |Name x p=>cases h;rfl
 |_=>cases h
def ON{t:aI}{y:Sx}(T:pD G C S X)(nd:S.N.Nodup)(hf:∀e x,f e=a_ x->SE X C e x)(h:WN S f t e=a_ y):SS X C (.Assign [t] e pos) y:=by
 obtain⟨⟨t1,t2⟩,g1,h⟩:=cU h;obtain⟨⟨x,px⟩,g2,h⟩:=cU h;obtain⟨⟨y',py⟩,g3,h⟩:=cU h;obtain⟨⟨a,b⟩,g4,h⟩:=cU h;obtain⟨hb,h⟩:=bV h;obtain⟨i,g5,h⟩:=cU h;obtain⟨j,g6,h⟩:=cU h;obtain⟨xs,g7,rfl⟩:=dX h;obtain⟨k,p,rfl⟩:=tw2_ok g1;obtain⟨k2,p2,rfl⟩:=tw2_ok g4;obtain rfl:=JI g2;obtain rfl:=JI g3;simp only[Y3,aq,beq_iff_eq,bne_iff_ne,iE]at hb;obtain⟨⟨⟨⟨⟨⟨⟨b1,b2⟩,b3⟩,b4⟩,b5⟩,b6⟩,b7⟩,b8⟩:=hb;have hi:X.N[i]?=a_ x:=by rw[T.N];exact gY g5
 have hj:X.N[j]?=a_ y':=by rw[T.N];exact gY g6
 have l1:X.env.scope.names.lookup x=a_ .local:=by rw[T.nm];exact b1
 have l2:X.env.scope.names.lookup y'=a_ .local:=by rw[T.nm];exact b2
 have hij:i≠j:=λz=>b3 (by rw[z,hj]at hi;exact(aS hi).symm);have bk:X.env.blockKind=.function:=by unfold Env.blockKind;rw[T.kind];rfl
 exact QA T.calm (by rw[T.N];exact nd) hi hj hij l1 l2 (jS hf g7).sa (RD bk l1 l2 b3 (beq_iff_eq.mpr b4) b5 b6 b7 b8)
def OT{n:Nat}{t:aI}{y:Sx}(T:pD G C S X)(top:S.top=c_)(nd:S.N.Nodup)(h:T7 S (cE G n S) t e=a_ y):SS X C (.Assign [t] e pos) y:=by
 have hf:=λe x(h:cE G n S e=a_ x)=>(wV n S e x h X T).1;unfold T7 at h
 cases ht:kJ t with
 |some x=>
   rw[ht]at h;obtain⟨p,rfl⟩:=hG ht;obtain⟨hl,g1⟩:=bV h;obtain⟨i,h1,g2⟩:=cU g1;obtain⟨xe,h2,rfl⟩:=dX g2;exact OL T top nd hl h1 h2
 |none=>
   rw[ht]at h
   cases hs:Dq t with
   |some z=>
     obtain⟨x,ix⟩:=z;rw[hs]at h;obtain⟨p,sp,rfl⟩:=zt hs;obtain⟨hc,g1⟩:=bV h;simp only[aq,fG]at hc;obtain⟨⟨⟨hv,hp⟩,hsl⟩,hnc⟩:=hc;obtain⟨i,h1,g2⟩:=cU g1;obtain⟨xe,h2,g3⟩:=cU g2;obtain⟨xi,h3,rfl⟩:=dX g3;obtain⟨d1,d2,d3⟩:=jL hp;have hi:X.N[i]?=a_ x:=by rw[T.N];exact gY h1
     have sw:=FL (line:=pos.line) (env:=X.env) (a:=.Name x p) (ix:=ix) (sp:=sp) hnc;have hvar:=ux (pos:=p) hi (pT T hv) d1 d2;by_cases hq:EL ix=c_
     ·rw[if_pos hq];exact Mw (Cb (hf _ _ h2) (Jk hvar (hf _ _ h3) (Vn (by have:=T.un;omega)) (Wd hsl)) sw.1 sw.2 rfl)
     ·rw[if_neg hq];exact Mu (Cb (hf _ _ h2) (Jk hvar (hf _ _ h3) (MM (by have:=T.un;omega)) (Wd hsl)) sw.1 sw.2 rfl)
   |none=>
     rw[hs]at h;by_cases hq:isTup e=c_
     ·rw[if_pos hq]at h;exact ON T nd hf h
     rw[if_neg hq]at h;obtain⟨⟨one,tn⟩,h0,g1⟩:=cU h;obtain⟨hl,g2⟩:=bV g1;simp only[aq,iE]at hl;obtain⟨ts,h1,g3⟩:=cU g2;obtain⟨xe,h3,rfl⟩:=dX g3;obtain⟨g,t1,t2⟩:=Ia T top nd h0 hl.1.1 h1;obtain rfl:one=d_:=hl.2;obtain⟨es,k,tp,rfl⟩:=Va h0;have sw:=FH (line:=pos.line) (env:=X.env) (es:=es) (k:=k) (tp:=tp) hl.1.2;exact Qx (hf _ _ h3) t1 t2 sw.1 sw.2 rfl
def NT{c:Mc}(h:Se e=a_ c):∃p,e=.Call (.Attribute (.Name c.x p) c.m c.ap) c.args [] c.cp:=by
 obtain⟨⟨fn,as,kws,cp⟩,h0,g0⟩:=cU h;obtain⟨⟨o,m,ap⟩,h1,g1⟩:=cU g0;obtain⟨x,h2,g2⟩:=cU g1;obtain⟨hk,g3⟩:=bV g2;cases g3;obtain⟨p,h4⟩:=hG h2;obtain rfl:o=.Name x p:=h4;obtain rfl:kws=[]:=i5.mp hk;obtain rfl:fn=.Attribute (.Name x p) m ap:=rP h1;exact⟨p,yB h0⟩
def NS{c:Mk}(h:Sd e=a_ c):∃p sp,e=.Call (.Attribute (.Subscript (.Name c.x p) c.ix sp) "append" c.ap) [c.a] [] c.cp:=by
 obtain⟨⟨fn,args,kws,cp⟩,h0,g⟩:=cU h;obtain⟨⟨o,m,ap⟩,h1,g⟩:=cU g;obtain⟨⟨x,ix⟩,h2,g⟩:=cU g;obtain⟨a,h3,g⟩:=cU g;obtain⟨hk,g⟩:=bV g;cases g;simp only[aq,beq_iff_eq]at hk;obtain⟨hk,hm⟩:=hk;obtain⟨p,sp,h4⟩:=zt h2;obtain rfl:o=.Subscript (.Name x p) ix sp:=h4;obtain rfl:kws=[]:=i5.mp hk;obtain rfl:m="append":=hm;obtain rfl:fn=.Attribute (.Subscript (.Name x p) ix sp) "append" ap:=rP h1;have h3:VR args=a_ a:=h3
 match args,h3 with
 |[a'],h3=>cases h3;exact⟨p,sp,yB h0⟩
set_option tactic.hygienic true in
def OQ{y:Sx}(T:pD G C S X)(hf:∀e x,f e=a_ x->SE X C e x)(h:cExp S f e=a_ y):SS X C (.Expr e pos) y:=by
 unfold cExp at h
 cases hm:Se e with
 |none=>
   rw[hm]at h
   cases hk:Sd e with
   |none=>
     rw[hk]at h;obtain⟨hn,g1⟩:=bV h;obtain⟨xe,h1,rfl⟩:=dX g1;exact QC (hf _ _ h1) (uC hn)
   |some c=>
     rw[hk]at h;obtain⟨p,sp,rfl⟩:=NS hk;obtain⟨x,ix,ap,a,cp⟩:=c;obtain⟨hc,g1⟩:=bV h;simp only[aq,fG]at hc;obtain⟨⟨⟨⟨hv,hp⟩,hsl⟩,hln⟩,hst⟩:=hc;obtain⟨i,h1,g2⟩:=cU g1;obtain⟨xi,h2,g3⟩:=cU g2;obtain⟨xa,h3,rfl⟩:=dX g3;obtain⟨d1,d2,d3⟩:=jL hp;have hvar:=ux (pos:=p) (by rw[T.N];exact gY h1) (pT T hv) d1 d2;have h1':aU [a] X.env=(d_,eval a X.env)::aU [] X.env:=c6 hst;exact QB (by simp) (by simp) (by simp) Kq (tG (D0 lQ lD vC wq (Pr (SN (by have:=T.un;omega)) hvar (hf _ _ h2) (uv hsl)) (DG (hf _ _ h3) Iz h1') rfl (by rw[h1'];rfl) hln h1' rfl) rfl)
 |some c=>
   rw[hm]at h;obtain⟨p,rfl⟩:=NT hm;obtain⟨x,m,ap,args,cp⟩:=c;obtain⟨hc,g1⟩:=bV h;simp only[aq]at hc;obtain⟨⟨hv,hp⟩,hln⟩:=hc;obtain⟨i,h1,g2⟩:=cU g1;obtain⟨xs,h2,g3⟩:=cU g2;obtain⟨op,h3,rfl⟩:=dX g3;obtain⟨d1,d2,d3⟩:=jL hp;have ha:=jS hf h2;have hvar:=ux (pos:=p) (by rw[T.N];exact gY h1) (pT T hv) d1 d2;clear h g1 g2 g3 hm h2;unfold WO at h3;split at h3
   ·rename_i hm;obtain⟨rfl,hk⟩:=hm;cases h3;obtain⟨xa,rfl⟩:=List.length_eq_one_iff.mp hk;obtain⟨e,rfl,hs,he⟩:=ha.one;have h1':aU [e] X.env=(d_,eval e X.env)::aU [] X.env:=c6 hs;exact Dz (by simp) (by simp) (by simp) Kq (tG (D0 lQ lD vC wq hvar ha.sf rfl (by rw[h1'];rfl) hln h1' rfl) rfl)
   split at h3
   ·rename_i hm;obtain⟨rfl,hk⟩:=hm;cases h3
    match xs,hk,ha with
    |[xa,xb],_,ha=>
      obtain⟨a,b,rfl,hs,hs',_,_⟩:=ha.two;have h1':aU [a,b] X.env=(d_,eval a X.env)::aU [b] X.env:=c6 hs;have h2':aU [b] X.env=(d_,eval b X.env)::aU [] X.env:=c6 hs';exact Dz (by simp) (by simp) (by simp) S8 (tG (D0 lQ vD PySem.F.type_list_insert Gx hvar ha.sf rfl (by rw[h1',h2'];rfl) hln h1' (by rw[h2'];rfl)) rfl)
   ·cases h3
theorem P4(T:pD G C S X)(top:S.top=c_)(nd:S.N.Nodup):∀(n:Nat)(st:jw)(y:Sx),cS G S n st=a_ y->SS X C st y
 |0,_,_,h=>by cases h
 |n+1,st,y,h=>by
   have ih:=λe x(h:cE G n S e=a_ x)=>wV n S e x h X T;have hf:=λe x h=>(ih e x h).1;have hs:=P4 T top nd n
   cases st with
   |Return v p=>exact OM T hf h
   |Assign ts e p=>
     obtain⟨t,h1,g1⟩:=cU h;obtain rfl:=i9 h1;exact OT T top nd g1
   |Expr e p=>exact OQ T hf h
   |If c a b p=>
     obtain⟨hn,g1⟩:=bV h;obtain⟨xc,h1,rfl⟩:=dX g1;exact Vk ((ih _ _ h1).2 hn) (jZ hs _) (jZ hs _)
   |For tg iter body els p=>
     obtain⟨he,g1⟩:=bV h;obtain rfl:=i5.mp he;obtain⟨⟨one,tn⟩,h0,g2⟩:=cU g1;obtain⟨hc,g3⟩:=bV g2;rw[aq]at hc;obtain⟨ts,h1,g4⟩:=cU g3;obtain⟨it,h2,rfl⟩:=dX g4;obtain⟨g,tgs,hg⟩:=Ia T top nd h0 hc.1 h1;obtain⟨k1,k2⟩:=P8 T hf h2;have hp:Hh (aB X.prog X.w) X.A X.env X.xe:=by rw[T.xe];exact PassesOwn.never
     cases it with
     |itv a=>exact Mx hp T.calm (k2 a rfl) hg tgs (jZ hs _) (kB hc.2)
     |rng es=>exact BU hp T.calm k1 (λa z=>nomatch z) hg tgs (jZ hs _) (kB hc.2)
     |zip es=>exact BU hp T.calm k1 (λa z=>nomatch z) hg tgs (jZ hs _) (kB hc.2)
     |enu a=>exact BU hp T.calm k1 (λa z=>nomatch z) hg tgs (jZ hs _) (kB hc.2)
   |_=>cases h
end
structure Df where
 st:jw
 p:Nat
 n:Nat
 body:List Sx
noncomputable def Df.name(d:Df):aV:=match d.st with
 |.FunctionDef x _ _ _ _ _ _ _ _ _=>x
 |_=>""
def Df.ps(d:Df):List aV:=(yr d.st).args.map λa=>a.arg
def Df.N(d:Df):List aV:=d.ps++((dI d.st).names.filterMap λp=>if(p.2 == .local || p.2 == .cell) && !(d.ps.contains p.1)then a_ p.1 else b_)
noncomputable def Cn(D:List Df):Nat->Fs
 |0=>λ_ _=>b_
 | n+1=>λj ds=>match D[j]? with
   |some d=>Ov (Cn D n) d.p d.n d.body ds
   |none=>b_
def ML(D:List Df)(con:List (aV×Dat)):Sg:=⟨D.map λd=>(d.name,d.p),con⟩
structure UH(G:Sg)(d:Df):Prop where
 sc:qA d.N d.ps (dI d.st)
 pn:d.ps.length=d.p
 nn:d.N.length=d.n
 cmp:wk (cS G ⟨d.N,(dI d.st).names,c_⟩ 40) (oD d.st)=d.body
section
variable{P:aP}{w:bo}{K:Fg}{mg:aV->Option ab}{base:bH}
structure At(K:Fg)(mg:aV->Option ab)(d:Df)(f:ai)(fd:en):Prop where
 fn:Xv K d.name d.name d.st f fd
 mgf:mg d.name=a_ (.ref f)
 bd:∀us:List ab,us.length=d.ps.length->bindArgs fd ⟨us,[]⟩=pure (d.ps.zip us)
noncomputable def Vy(K:Fg)(d:Df):Option (ai×ab×Option ai×en×Array (Option ab)):=match mG K mainGlobals d.name with
 | some (a_ (.ref f))=>match K.lookup f with
   |some ⟨oc,od,.func fd,l⟩=>a_ (f,oc,od,fd,l)
   |_=>b_
 |_=>b_
def Zf(d:Df)(kV doc pm:ab)(an:Option ai)(cdv ct:ab):en:=pO d.name d.name (yr d.st) (oD d.st) (dI d.st) .none kV doc pm an cdv ct
noncomputable def Y6(K:Fg)(d:Df):Bool:=match Vy K d with
 |some x=>tW K x.2.2.2.1.code d.name && fS K (.ref x.1)
 |none=>d_
def Y5(K:Fg)(d:Df):Option en:=(Vy K d).map λx=>x.2.2.2.1
def Y4(K:Fg)(d:Df):Option en:=(Vy K d).map λx=>Zf d x.2.2.2.1.kwdefaults x.2.2.2.1.doc x.2.2.2.1.pyModule x.2.2.2.1.annotations x.2.2.2.1.code x.2.2.2.1.closureTuple
set_option tactic.hygienic true in
def Us{h:bH}{D:List Df}(X:K.In h)(G:h.Ns mainGlobals mg)(h1:D.map (Y5 K)=D.map (Y4 K))(h2:D.all (Y6 K)=c_)(h3:∀(kV doc pm:ab) (an:Option ai) (cdv ct:ab) (u:Nat->ab),D.map (λd=>bindArgs (Zf d kV doc pm an cdv ct) ⟨(ax d.ps.length).map u,[]⟩)=D.map λd=>pure (d.ps.zip ((ax d.ps.length).map u))) :
  ∀d∈D,∃f fd,At K mg d f fd:=λd hd=>by
 have e1:=rW.mp h1 d hd;have e2:=aY.mp h2 d hd;unfold Y6 at e2;unfold Y5 Y4 at e1
 cases e:Vy K d with
 |none=>rw[e]at e2;cases e2
 |some x=>
   obtain⟨f,oc,od,fd,l⟩:=x;rw[e]at e1 e2;have e1:fd=_:=aS e1;obtain⟨c,k⟩:=iS.mp e2;unfold Vy at e;split at e
   ·rename_i f' a;split at e
    ·rename_i lk;cases e;refine⟨f,fd,⟨⟨_,_,_,_,_,_,_,_,_,e1,lk,c⟩,k⟩,Ly X G a,λus hu=>?_⟩;have:=rW.mp (h3 fd.kwdefaults fd.doc fd.pyModule fd.annotations fd.code fd.closureTuple λi=>us.getD i .none) d hd
     have q:(ax d.ps.length).map (λi=>us.getD i .none)=us:=by
      refine gh (by rw[ah,bQ,hu]) λi h1 h2=>?_;rw[tj,Hk,eA,aj h2];rfl
     rw[q]at this;exact(congrArg (λz=>bindArgs z ⟨us,[]⟩) e1).trans this
    ·cases e
   ·cases e
structure Here(K:Fg)(mg:aV->Option ab)(D:List Df)(con:List (aV×Dat)):Prop where
 ok:∀d∈D,UH (ML D con) d
 fn:∀d∈D,∃f fd,At K mg d f fd
 blt:∀x∈kN,mg x=b_
 con:∀x d,con.lookup x=a_ d->∃v u,mg x=a_ u/\RelV v u/\CV K d v
theorem Lo{D:List Df}{con:List (aV×Dat)}(T:Here K mg D con):∀(n j:Nat)(d:Df)(f:ai)(fd:en),D[j]?=a_ d->At K mg d f fd->mR P w K mg base Fi n f fd d.ps (Pl K d.ps.length (Cn D n j))
 |0,j,d,f,fd,hj,_=>by
   have no:∀vs H Q E,¬Pl K d.ps.length (Cn D 0 j) vs H Q E:=λvs H Q E h=>by
    obtain⟨_,ds,z,fr,h,_⟩:=h;cases h
   exact⟨λvs H Q E h=>absurd h (no vs H Q E),λA outer s H args us vs Q E _ _ _ _ h=>absurd h (no vs H Q E)⟩
 |n+1,j,d,f,fd,hj,at_=>by
   have ok:=T.ok d (dO hj)
   have e:Cn D (n+1) j=Ov (Cn D n) d.ps.length d.N.length d.body:=by
    funext ds;simp only[Cn,hj,ok.pn,ok.nn]
   rw[e];have hpl:d.ps.length<=d.N.length:=by have:=congrArg lT ok.sc.pre;rw[fZ]at this;omega
   refine Tg at_.fn ok.sc hpl λcdv A outer s H E hr=>?_
   have S:pD (ML D con) (Cn D n) ⟨d.N,(dI d.st).names,c_⟩ (AV Fi P w K mg base d.N d.name (dI d.st) f cdv A outer s H E).UO:=by
    refine⟨rfl,rfl,ok.sc.kind,rfl,?_,rfl,λ_ _=>rfl,λi x m hi=>?_,T.blt,T.con⟩
    ·have:=hr.units;show(A.deeper _).units+21<cg;omega
    ·have hi':∃d',D[i]?=a_ d'/\x=d'.name/\m=d'.ps.length:=by
      unfold ML at hi;rw[aW]at hi;obtain⟨d',e1,e2⟩:=dX hi;cases e2;exact⟨d',e1,rfl,(T.ok d' (dO e1)).pn.symm⟩
     obtain⟨d',e1,rfl,rfl⟩:=hi';obtain⟨f',fd',at'⟩:=T.fn d' (dO e1);exact⟨n,f',fd',d'.ps,Lo T n i d' f' fd' e1 at',hr,at'.mgf,at'.fn.kp,.all at'.bd⟩
   exact ok.cmp▸jZ (P4 S rfl ok.sc.nd 40) _
def DB(K:Fg):Sp:=λvs H Q _=>∃(a:ai) (ns:List Int),vs=[.ref a]/\oG K H a (ns.map V.int)/\ns.length<=63/\∀H',Q (.bl c_) H'
def Gi(ns:List Int){F:Hp}:cy K F (ns.map Dat.int) (ns.map V.int):=by
 induction ns with
 |nil=>exact rfl
 |cons n r ih=>exact⟨_,_,rfl,rfl,ih⟩
def Sq{D:List Df}{con:List (aV×Dat)}(T:Here K mg D con){j n:Nat}{d:Df}{f:ai}{fd:en}(hj:D[j]?=a_ d)(at_:At K mg d f fd)(hp:d.ps.length=1)
  (hm:∀ns:List Int,ns.length<=63->∃fr,Cn D n j [.lst (ns.map Dat.int)]=a_ (.bl c_,fr)):mR P w K mg base Fi n f fd d.ps (DB K):=
 mR.imp (Lo T n j d f fd hj at_) λvs H Q E ⟨a,ns,e,hS,hl,q⟩=>by
  subst e;obtain⟨fr,h⟩:=hm ns hl;refine⟨by rw[hp];rfl,_,_,fr,h,H,⟨bX.refl _,λ_ _ z=>z⟩,⟨_,_,rfl,⟨a,_,rfl,hS,Gi ns⟩,rfl⟩,λv F' H' _ r _=>?_⟩;rw[show v=.bl c_ from r];exact q H'
def So{D:List Df}{con:List (aV×Dat)}{l:ja}{fa:ai}{x:aV}(T:Here K mg D con){j n:Nat}{d:Df}(hj:D[j]?=a_ d)(hps:d.ps=[x])(hfa:mg d.name=a_ (.ref fa))
  (hm:∀ns:List Int,ns.length<=63->∃fr,Cn D n j [.lst (ns.map Dat.int)]=a_ (.bl c_,fr)) :
  ∃fd:en,(∀(s:ae)(u:ab),Bm s fd ⟨[u],[]⟩ [(x,u)])/\∀base:bH,K.In base->base.Ns mainGlobals mg->mR l.prog w K mg base Fi n fa fd [x] (DB K):=by
 obtain⟨f,fd,at_⟩:=T.fn d (dO hj);have e:=hfa.symm.trans at_.mgf
 cases e;refine⟨fd,λs u=>?_,λbase _ _=>?_⟩
 ·have:=at_.bd [u] (by rw[hps];rfl)
  rw[hps]at this;exact .of_eq this
 ·have:=Sq (P:=l.prog) (w:=w) (base:=base) T hj at_ (by rw[hps];rfl) hm
  rw[hps]at this;exact this
def walk{l:ja}{n:Nat}{x:aV}{q:aP}{loose:List aV}{XP:(aV->Option ab)->bH->Prop}{YP:bo->bH->Prop}{d:DefRec}{K:Params->Fg}(hn:l.most=a_ 63)(hk:mr n callerA)(hdf:d.params.defaults=[])
  (hY:∀(w:bo)(h:bH),YP w h->(K w.params).In h)
  (F:∀(w:bo)(mg:aV->Option ab)(fa:ai)(h:bH),(K w.params).In h->h.Ns mainGlobals mg->mg d.name=a_ (.ref fa)->
   ∃fd:en,(∀(s:ae)(u:ab),Bm s fd ⟨[u],[]⟩ [(x,u)])/\∀base:bH,(K w.params).In base->base.Ns mainGlobals mg->mR l.prog w (K w.params) mg base Fi n fa fd [x] (DB (K w.params))) :
  vy q loose XP YP l.row.toRowW d [] (λf vs=>Fn f vs):=
 L2.Me (n:=63) (k:=n) (x:=x) (CX:=λ_=>Fi) (sp:=λw=>DB (K w.params)) hn (by decide) hdf hk hY F (λ_ _ a ns hl _ hS=>⟨a,ns,rfl,hS,hl,λ_=>rfl⟩) λ_ _ _ _ _ z=>z
end
def OU{K:Fg}{h:bH}{mg:aV->Option ab}(X:K.In h)(G:h.Ns mainGlobals mg)(z:kN.map (λx=>mG K mainGlobals x)=iP 20 (a_ b_)):∀x∈kN,mg x=b_:=λx hx=>by
 have q:mG K mainGlobals x∈kN.map (λx=>mG K mainGlobals x):=aQ.mpr ⟨x,hx,rfl⟩;rw[z]at q;exact PySem.W.mg_none_of X G (List.eq_of_mem_replicate q)
noncomputable def Zh(G:Sg)(d:Df):ScopeKind×Bool×Bool×Bool×Nat×Nat×List Sx:=((dI d.st).kind,(dI d.st).isCoroutine,(dI d.st).isGenerator,decide (d.N.Nodup/\(∀x∈d.ps,(dI d.st).names.lookup x=a_ .local\/(dI d.st).names.lookup x=a_ .cell)/\∀y∈(dI d.st).names,y.2≠.free),d.ps.length,d.N.length,wk (cS G ⟨d.N,(dI d.st).names,c_⟩ 40) (oD d.st))
def RX{G:Sg}{D:List Df}(h:D.map (Zh G)=D.map λd=>(.function,d_,d_,c_,d.p,d.n,d.body)):∀d∈D,UH G d:=λd hd=>by
 have e:=rW.mp h d hd;unfold Zh at e;simp only[lH]at e;obtain⟨e1,e2,e3,e4,e5,e6,e7⟩:=e;obtain⟨a,b,c⟩:=of_decide_eq_true e4;exact⟨⟨e1,e2,e3,a,List.take_left' rfl,b,c⟩,e5,e6,e7⟩
end M
namespace K60
open PySem L2 M
def top(i:Nat):jw:=PySem.Challenge.pw_dots_k60_steps.main.body.getD i (.Pass ⟨0,0,0,0⟩)
abbrev rG:Ex:=.ix (.v 3) (.e_ 2)
def Sk:List Sx:=[.ifs (.not (.call 4 [.v 2])) [.xC] []]
def Sj:List Sx:=[.ifs (.cmp .nin (.v 2) (.v 1)) [.xC] []]
def GF:List Sx:=[.VZ .app 1 (.ix (.v 3) (.e_ 0)) [.v 3]]
abbrev Vv:Sx:=.ifs (.v 2) [.Mg [10,11] (.call 27 [.v 0,.v 1])] []
abbrev M4:Sx:=.par 10 11 [.lst [.tup [],.tup [],.tup [],.tup []],.tup []]
abbrev Xs:Ex:=.comp 1 c_ [] (.itv (.v 5)) [.not (.call 32 [.v 0])] (.v 0)
def Cr:List Sx:=[.ifs (.not (.call 1 [.v 3,.e_ 0,.e_ 2])) [.xC] []]
abbrev YV:Ex:=.comp 1 c_ [] (.itv (.v 6)) [] (.sl (.v 0) b_ (a_ (.e_ 2)))
def UQ:List Sx:=[.ifs (.not (.call 33 [.v 1,.v 2,.v 5,.v 8])) [.ret (.con (.bl d_))] []]
abbrev Yt:Ex:=.ix (.v 4) (.call 24 [.v 0,.bin .add (.e_ 400) (.v 5),.blt .len [.v 4]])
abbrev EX:Ex:=.ix (.v 2) (.call 24 [.v 0,.bin .add (.e_ 580) (.v 4),.blt .len [.v 2]])
def UT:List Sx:=[.ifs (.cmp .isin (.v 5) (.v 4)) [.mut .app 1 [.tup [.v 6,.v 2,.v 3,.v 7]]] []]
abbrev R6:Ex:=.bin .add (.e_ 1) (.call 24 [.v 0,.bin .add (.e_ 420) (.v 5),.e_ 5])
def GA:List Sx:=[.ifs (.cmp .ne (.cmp .eq (.ix (.v 0) (.v 2)) (.tup [])) (.cmp .eq (.v 1) (.tup []))) [.xC] []]
abbrev YW:Ex:=.comp 1 c_ [] (.itv (.v 1)) [.cmp .gt (.blt .len [.ix (.v 0) (.e_ 2)]) (.e_ 1)] (.v 0)
def sA:Sx:=.ifs (.cmp .eq (.call 24 [.v 0,.e_ 90,.e_ 2]) (.e_ 0)) [.mut .seti 2 [.tup [],.e_ 1]] []
abbrev CS:Ex:=.comp 1 c_ [1] (.itv (.v 0)) [.cmp .eq (.ix (.ix (.v 0) (.e_ 2)) (.e_ 0)) (.v 1)] (.call 21 [.v 0])
abbrev RT:Ex:=.tup [.ix (.ix (.v 2) (.call 24 [.v 0,.bin .add (.e_ 540) (.v 5),.e_ 6])) (.e_ 0),.v 7,.v 9]
abbrev DL:Sx:=.ifs (.and (.not (.v 2)) (.cmp .eq (.call 24 [.v 0,.e_ 4,.e_ 12]) (.e_ 0))) [.set 3 (.e_ 6)] []
def sC:Sx:=.ifs (.cmp .eq (.blt .len [.v 3]) (.e_ 0)) [.mut .seti 2 [.tup [],.e_ 2],.mut .seti 2 [.tup [],.e_ 3]] []
abbrev CN:Ex:=.and (.cmp .isin (.v 6) (.v 5)) (.or (.cmp .ne (.v 6) (.f_ "w")) (.cmp .gt (.blt .len [.v 3]) (.e_ 1)))
abbrev Y0:Iw:=.rng [.call 24 [.v 0,.e_ 6,.ix (.lst [.e_ 5,.e_ 2]) (.blt .int [.or (.v 2) (.cmp .eq (.v 3) (.e_ 6))])]]
abbrev GX:Ex:=.tup [.v 0,.bin .add (.l5 .upper (.ix (.v 1) (.e_ 0)) []) (.sl (.v 1) (a_ (.e_ 1)) b_),.bin .add (.v 4) (.v 2),.v 3]
abbrev KC:Ex:=.bin .add (.e_ 1) (.call 24 [.v 0,.bin .add (.e_ 410) (.v 5),.bin .sub (.blt .len [rG]) (.e_ 1)])
def PF:List Sx:=[.set 4 (.tup [.ix (.v 3) (.e_ 0),.ix (.v 3) (.e_ 1)]),.ifs (.cmp .isin (.v 4) (.v 1)) [.xC] [],.mut .dput 1 [.con (.bl c_),.v 4]]
def S6:Sx:=.ifs (.and (.cmp .ne (.v 4) (.tup [])) (.cmp .eq (.ix (.v 4) (.e_ 0)) (.v 2))) [.mut .app 6 [.call 29 [.v 3,.sl (.v 4) (a_ (.e_ 1)) b_,.v 5]]] []
def N1:List Sx:=[.ifs (.and (.cmp .eq (.v 7) (.v 3)) (.cmp .eq (.ix (.v 9) (.e_ 0)) (.v 2))) [.mut .app 6 [.call 29 [.v 10,.sl (.v 9) (a_ (.e_ 1)) b_,.v 8]]] []]
abbrev R7:Ex:=.comp 1 c_ [5,0] (.rng [.v 6]) [] (.bin .add (.e_ 1) (.call 24 [.v 2,.bin .add (.bin .add (.e_ 430) (.bin .mul (.e_ 8) (.v 1))) (.v 0),.e_ 63]))
def sD:Sx:=.ifs (.and (.cmp .gt (.blt .len [.v 3]) (.e_ 0)) (.cmp .eq (.call 24 [.v 0,.e_ 94,.e_ 2]) (.e_ 0))) [.mut .seti 2 [.tup [],.e_ 0],.mut .seti 2 [.tup [],.e_ 1]] []
def Ka:List Sx:=[.mut .seti 2 [.call 25 [.v 0,.bin .add (.e_ 82) (.bin .mul (.e_ 2) (.v 5)),.v 1,.bin .add (.e_ 20) (.v 5),.bin .add (.e_ 1) (.blt .int [.cmp .eq (.v 4) (.v 5)])],.v 5]]
abbrev CL:Ex:=.bin .add (.lst [.e_ 0,.call 24 [.v 0,.bin .add (.e_ 550) (.v 4),.e_ 64],.ix (.ix (.v 7) (.e_ 2)) (.e_ 0)]) (.blt .list [.sl (.ix (.v 5) (.e_ 1)) b_ (a_ (.e_ 1))])
def Wb:Sx:=.ifs (.cmp .eq (.v 4) (.tup [])) [.loop d_ [7,8,9,10] (.itv (.v 0)) N1] []
noncomputable def Zx:Ex:=.comp 1 c_ [0] (.rng [.bin .add (.e_ 1) (.call 24 [.v 0,.e_ 93,.e_ 2])]) [] (.bin .add (.e_ 1) (.bin .mod (.bin .add (.call 24 [.v 1,.e_ 92,.e_ 63]) (.bin .mul (.e_ 11) (.v 0))) (.e_ 63)))
noncomputable def CX:Ex:=.comp 1 c_ [1,5,0,2] (.rng [.v 4]) [] (.bin .add (.e_ 1) (.bin .mod (.bin .add (.v 2) (.bin .mul (.e_ 11) (.call 24 [.v 3,.bin .add (.v 1) (.v 0),.ix (.lst [.e_ 3,.e_ 12,.e_ 63]) (.v 4)]))) (.e_ 63)))
abbrev Ze:Ex:=.tup [.ix (.v 3) (.e_ 3),.sl rG (a_ KC) b_,.ix (.v 3) (.e_ 1)]
abbrev R8:Ex:=.comp 1 c_ [5,0] (.rng [.call 24 [.v 0,.bin .add (.e_ 530) (.v 5),.e_ 5]]) [] (.ix (.f_ "abz AZ09") (.call 24 [.v 2,.bin .add (.bin .add (.e_ 480) (.bin .mul (.e_ 8) (.v 1))) (.v 0),.e_ 8]))
abbrev Xx:Ex:=.or (.not (.blt (.isi .bool) [.v 6])) (.cmp .ne (.v 6) (.and (.cmp .eq (.ix (.v 5) (.e_ 1)) (.tup [])) (.cmp .isin (.ix (.v 5) (.e_ 0)) (.tup [.f_ "out",.f_ "done",.f_ "num"]))))
abbrev FX:Ex:=.or (.cmp .ne (.con (.tup [.str (aa "out"),.tup [],.str (aa "")])) (.tup [.f_ "out",.tup [],.f_ ""])) (.not (.blt (.isi .tuple) [.con (.tup [.str (aa "out"),.tup [],.str (aa "")])]))
def Xy:Sx:=.set 2 (.comp 1 c_ [] (.itv (.lst [.f_ "out",.f_ "in",.f_ "done",.f_ "num",.f_ "let",.f_ "all"])) [] (.tup [.v 0,.tup [],.f_ ""]))
def sB:Sx:=.ifs (.cmp .eq (.call 24 [.v 0,.e_ 91,.e_ 2]) (.e_ 0)) [.set 3 (.blt .tuple [Zx])] []
def GD:List Sx:=[.set 3 Yt,.mut .app 2 [Ze]]
noncomputable def Sn:List Sx:=[.set 7 (.bin .add (.e_ 1) (.blt .int [.and (.not (.v 2)) (.cmp .eq (.call 24 [.v 0,.bin .add (.e_ 10) (.v 4),.e_ 6]) (.e_ 0))])),.set 8 (.tup [.ix (.v 5) (.v 4),.call 25 [.v 0,.bin .add (.e_ 20) (.bin .mul (.e_ 4) (.v 4)),.v 1,.v 4,.v 7],.f_ "wbme"]),.mut .ins 6 [.call 24 [.v 0,.bin .add (.e_ 45) (.v 4),.bin .add (.blt .len [.v 6]) (.e_ 1)],.v 8]]
def GC:List Sx:=[.set 6 R6,.set 7 (.blt .tuple [R7]),.set 8 R8,.set 9 (.l5 .join (.f_ "") [.v 8]),.mut .app 2 [RT]]
def GB:List Sx:=[.set 5 (.ix (.v 3) (.v 4)),.set 6 (.call 19 [.v 5]),.ifs Xx [.ret (.con (.bl d_))] [],.set 7 EX,.loop c_ [8] (.itv CL) UQ]
def b0:List Sx:=[.ret (.and (.blt (.isi .int) [.v 0]) (.and (.not (.blt (.isi .bool) [.v 0])) (.TR .le .le (.e_ 1) (.v 0) (.e_ 63))))]
def b1:List Sx:=[.ret (.and (.TR .le .le (.v 1) (.blt .len [.v 0]) (.v 2)) (.blt .all [.comp 1 c_ [] (.itv (.v 0)) [] (.call 0 [.v 0])]))]
def b2:List Sx:=[.ret (.and (.TR .le .le (.e_ 1) (.blt .len [.v 0]) (.e_ 6)) (.blt .all [.comp 1 c_ [] (.itv (.v 0)) [] (.cmp .isin (.v 0) (.f_ "abcdefghijklmnopqrstuvwxyz"))]))]
def b3:List Sx:=[.ret (.and (.cmp .ne (.v 0) (.f_ "")) (.cmp .eq (.v 0) (.l5 .join (.f_ "") [.comp 1 c_ [0] (.itv (.f_ "wbme")) [.cmp .isin (.v 0) (.v 1)] (.v 0)])))]
def b4:List Sx:=[.ret (.and (.call 2 [.ix (.v 0) (.e_ 0)]) (.and (.call 1 [.ix (.v 0) (.e_ 1),.e_ 1,.e_ 4]) (.call 3 [.ix (.v 0) (.e_ 2)])))]
def b5:List Sx:=[.ret (.l5 .join (.f_ "") [.blt .sset [.l5 .join (.f_ "") [.comp 1 c_ [] (.itv (.v 0)) [] (.ix (.v 0) (.e_ 0))]]])]
def b6:List Sx:=[.ifs (.cmp .eq (.blt .len [.v 0]) (.e_ 0)) [.xC] [],.ifs (.cmp .gt (.blt .len [.v 0]) (.e_ 24)) [.xC] [],.loop d_ [1,2] (.enu (.v 0)) Sk]
def b7:List Sx:=[.set 1 .vL,.loop d_ [2,3] (.enu (.v 0)) PF]
noncomputable def b8:List Sx:=[.loop d_ [2,3] (.enu (.v 0)) Cr,.ifs (.not (.call 1 [.v 1,.e_ 0,.blt .len [.f_ "0123456789"]])) [.xC] [],.ifs (.and (.cmp .ne (.ix (.v 0) (.e_ 1)) (.tup [])) (.cmp .eq (.ix (.v 0) (.e_ 0)) (.tup []))) [.xC] [],.loop c_ [2] (.itv (.tup [.e_ 2,.e_ 3])) GA]
def b9:List Sx:=[.set 1 (.comp 1 c_ [] (.itv (.v 0)) [.cmp .eq (.ix (.v 0) (.e_ 2)) (.f_ "wbme")] (.ix (.v 0) (.e_ 0))),.loop c_ [2] (.itv (.call 5 [.v 0])) Sj]
noncomputable def Xr:List Sx:=[.set 3 (.tup [.blt .tuple [.v 0],.blt .tuple [.comp 1 c_ [] (.itv (.v 1)) [] (.blt .tuple [.v 0])],.blt .tuple [.v 2]]),.exp (.call 6 [.ix (.v 3) (.e_ 0)]),.exp (.call 7 [.ix (.v 3) (.e_ 0)]),.exp (.call 8 [.ix (.v 3) (.e_ 1),rG]),.exp (.call 9 [.ix (.v 3) (.e_ 0)]),.pe 3]
def Zt:List Sx:=[.ret (.cmp .isin (.v 0) (.con (.tup [.str (aa "out"),.str (aa "done"),.str (aa "num")])))]
def b12:List Sx:=[.ret (.comp 1 c_ [] (.itv (.tup [.f_ "out",.f_ "done",.f_ "num"])) [] (.tup [.v 0,.f_ " ",.tup [.e_ 0],.f_ "out"]))]
noncomputable def YM:List Sx:=[.ifs (.cmp .eq (.v 1) (.tup [])) [.ret (.lst [])] [],.set 2 (.lst [.tup [.f_ "num",.f_ "",.ix (.v 0) (.e_ 3),.f_ "let"]]),.loop d_ [3,4] (.zip [.f_ "0123456789",.v 1]) [.mut .app 2 [.tup [.f_ "out",.v 3,.bin .add (.ix (.v 0) (.e_ 2)) (.tup [.v 4]),.f_ "num"]],.mut .app 2 [.tup [.f_ "done",.v 3,.bin .add (.ix (.v 0) (.e_ 2)) (.tup [.v 4]),.f_ "num"]],.mut .app 2 [.tup [.f_ "num",.v 3,.tup [.v 4],.f_ "num"]]],.pe 2]
noncomputable def YL:List Sx:=[.set 1 (.lst []),.loop d_ [2,3,4] (.itv (.v 0)) [.loop d_ [5,6,7] (.itv (.con (.tup [.tup [.str (aa "w"),.str (aa "out"),.str (aa "done")],.tup [.str (aa "w"),.str (aa "let"),.str (aa "done")],.tup [.str (aa "b"),.str (aa "out"),.str (aa "in")],.tup [.str (aa "b"),.str (aa "let"),.str (aa "in")],.tup [.str (aa "m"),.str (aa "in"),.str (aa "in")],.tup [.str (aa "e"),.str (aa "in"),.str (aa "done")]]))) UT],.pe 1]
def Zs:List Sx:=[.ret (.comp 4 d_ [1] (.itv (.v 0)) [] GX)]
noncomputable def YK:List Sx:=[.set 2 (.lst []),.loop d_ [3,4,5] (.itv (.v 0)) [.loop d_ [6,7,8] (.itv (.con (.tup [.tup [.str (aa "w"),.str (aa "out"),.str (aa "done")],.tup [.str (aa "w"),.str (aa "let"),.str (aa "done")],.tup [.str (aa "b"),.str (aa "out"),.str (aa "all")],.tup [.str (aa "b"),.str (aa "let"),.str (aa "all")],.tup [.str (aa "m"),.str (aa "all"),.str (aa "all")],.tup [.str (aa "e"),.str (aa "all"),.str (aa "done")]]))) [.ifs CN [.set 9 (.ite (.cmp .eq (.v 7) (.f_ "all")) (.tup []) (.v 1)),.mut .app 2 [.tup [.v 7,.l5 .upper (.v 3) [],.bin .add (.v 9) (.v 4),.v 8]]] []]],.pe 2]
noncomputable def Zr:List Sx:=[.set 1 (.ix (.v 0) (.e_ 0)),.set 2 (.ix (.v 0) (.e_ 1)),.set 3 (.call 14 [.v 1]),.ifs (.cmp .ne (.ix (.v 2) (.e_ 0)) (.tup [])) [.set 3 (.bin .add (.v 3) (.call 15 [.v 3,.ix (.v 2) (.e_ 0)]))] [],.ifs (.cmp .ne (.ix (.v 2) (.e_ 1)) (.tup [])) [.set 3 (.bin .add (.v 3) (.call 16 [.v 1,.ix (.v 2) (.e_ 1)]))] [],.ifs (.cmp .eq (.ix (.v 0) (.e_ 2)) (.tup [])) [.set 3 (.comp 1 c_ [] (.itv (.v 3)) [.cmp .ne (.ix (.v 0) (.e_ 0)) (.f_ "let")] (.v 0))] [],.ret (.blt .sset [.bin .add (.bin .add (.v 3) (.call 12 [])) (.call 13 [.v 2,.ix (.v 0) (.e_ 2)])])]
def Zq:List Sx:=[.set 1 .vL,.loop c_ [2] (.itv (.con (.tup [.str (aa "out"),.str (aa "in"),.str (aa "done"),.str (aa "num"),.str (aa "let"),.str (aa "all")]))) [.mut .seti 1 [.lst [],.v 2]],.loop c_ [3] (.itv (.call 17 [.v 0])) GF,.pe 1]
def Zp:List Sx:=[.ret (.and (.cmp .eq (.ix (.v 0) (.e_ 1)) (.tup [])) (.call 11 [.ix (.v 0) (.e_ 0)]))]
noncomputable def U1:List Sx:=[.ifs (.cmp .eq (.ix (.v 1) (.e_ 1)) (.tup [])) [.ret (.ix (.v 0) (.ix (.v 1) (.e_ 0)))] [],.ret (.lst [.tup [.ix (.v 1) (.e_ 0),.ix (.v 1) (.e_ 2),.ix (.v 1) (.e_ 1),.ix (.v 1) (.e_ 0)]])]
noncomputable def Zo:List Sx:=[.set 1 (.sl (.ix (.v 0) (.e_ 2)) (a_ (.e_ 1)) b_),.ifs (.cmp .eq (.v 1) (.tup [])) [.ret (.tup [.tup [.ix (.v 0) (.e_ 3),.tup [],.f_ ""],.ix (.v 0) (.e_ 1)])] [],.ret (.tup [.tup [.ix (.v 0) (.e_ 3),.v 1,.ix (.v 0) (.e_ 1)],.f_ ""])]
def Zn:List Sx:=[.ret (.blt .sorted [CS])]
def Zm:List Sx:=[.ret (.call 22 [.call 20 [.call 18 [.v 0],.v 1],.v 2])]
noncomputable def YJ:List Sx:=[.set 3 (.e_ 0),.ifs (.cmp .gt (.blt .len [.v 0]) (.e_ 0)) [.set 3 (.bin .mod (.ix (.v 0) (.bin .mod (.v 1) (.blt .len [.v 0]))) (.e_ 2147483629))] [],.ret (.bin .mod (.bin .mod (.bin .mul (.bin .mod (.bin .mul (.bin .add (.v 3) (.e_ 1)) (.bin .add (.bin .mul (.bin .mul (.e_ 31) (.v 1)) (.v 1)) (.e_ 7919))) (.e_ 2147483647)) (.e_ 48271)) (.e_ 2147483629)) (.v 2))]
noncomputable def W2:List Sx:=[.set 5 (.call 24 [.v 0,.e_ 1,.e_ 63]),.set 6 CX,.ifs (.cmp .eq (.v 2) (.e_ 2)) [.mut .seti 6 [.bin .add (.e_ 1) (.bin .mod (.bin .add (.v 5) (.bin .mul (.e_ 11) (.v 3))) (.e_ 63)),.e_ 0]] [],.ret (.blt .tuple [.v 6])]
noncomputable def YI:List Sx:=[.set 6 (.l5 .join (.f_ "") [.comp 1 c_ [1,4,0] (.rng [.bin .add (.e_ 1) (.call 24 [.v 0,.bin .add (.v 1) (.e_ 3),.e_ 3])]) [] (.ix (.v 2) (.call 24 [.v 3,.bin .add (.v 1) (.v 0),.blt .len [.v 2]]))]),.set 7 (.bin .add (.e_ 1) (.call 24 [.v 0,.bin .add (.v 1) (.e_ 4),.e_ 15])),.set 8 (.bin .add (.e_ 1) (.call 24 [.v 0,.bin .add (.v 1) (.e_ 5),.v 5])),.set 9 (.l5 .join (.f_ "") [.comp 1 c_ [7] (.rng [.e_ 4]) [.cmp .eq (.bin .band (.bin .shr (.v 1) (.v 0)) (.e_ 1)) (.e_ 1)] (.ix (.f_ "wbme") (.v 0))]),.ret (.tup [.v 6,.call 25 [.v 0,.bin .add (.v 1) (.e_ 6),.v 2,.v 3,.v 8],.v 9])]
def YH:List Sx:=[.set 2 (.lst [.tup [],.tup [],.tup [],.tup []]),.set 3 (.tup []),.set 4 (.call 24 [.v 0,.e_ 80,.e_ 24]),.loop c_ [5] (.rng [.e_ 4]) Ka,sA,sB,sC,sD,.ret (.tup [.v 2,.v 3])]
noncomputable def YG:List Sx:=[.set 2 (.cmp .eq (.call 24 [.v 0,.e_ 2,.e_ 3]) (.e_ 0)),.set 3 (.bin .add (.e_ 1) (.call 24 [.v 0,.e_ 3,.bin .sub (.e_ 3) (.blt .int [.v 2])])),DL,.set 5 (.comp 1 c_ [0] (.rng [.v 3]) [] (.ix (.f_ "abcdefghijklmnopqrstuvwxyz") (.bin .mod (.bin .add (.call 24 [.v 1,.e_ 5,.e_ 26]) (.bin .mul (.e_ 7) (.v 0))) (.e_ 26)))),.set 6 (.lst []),.loop c_ [4] (.rng [.v 3]) Sn,.loop c_ [4] Y0 [.set 9 (.bin .add (.e_ 2) (.bin .mul (.e_ 2) (.blt .int [.and (.cmp .eq (.v 4) (.e_ 0)) (.and (.not (.v 2)) (.cmp .eq (.call 24 [.v 0,.e_ 7,.e_ 4]) (.e_ 0)))]))),.set 8 (.call 26 [.v 0,.bin .add (.e_ 300) (.bin .mul (.e_ 12) (.v 4)),.v 1,.bin .add (.e_ 10) (.v 4),.v 5,.v 9]),.ifs (.cmp .nin (.sl (.v 8) b_ (a_ (.e_ 2))) YV) [.mut .ins 6 [.call 24 [.v 0,.bin .add (.e_ 52) (.v 4),.bin .add (.blt .len [.v 6]) (.e_ 1)],.v 8]] []],M4,Vv,.ret (.call 10 [.v 6,.v 10,.v 11])]
def Xq:List Sx:=[.ifs (.cmp .eq (.v 1) (.tup [])) [.ret (.tup [.tup [.v 0,.tup [],.f_ ""],.v 2])] [],.ret (.tup [.tup [.v 0,.v 1,.v 2],.f_ ""])]
def Zl:List Sx:=[.Mg [3,4,5] (.v 1),.set 6 (.lst []),S6,Wb,.ret (.blt .sset [.v 6])]
def YF:List Sx:=[Xy,.set 4 YW,.loop c_ [5] (.rng [.bin .mn (.e_ 8) (.blt .len [.v 4])]) GD,.loop c_ [5] (.rng [.e_ 6]) GC,.pe 2]
noncomputable def Zk:List Sx:=[.ifs (.or (.not (.blt (.isi .tuple) [.v 0])) (.or (.cmp .ne (.blt .len [.v 0]) (.e_ 2)) (.or (.not (.blt (.isi .str) [.ix (.v 0) (.e_ 1)])) (.not (.blt (.isi .tuple) [.ix (.v 0) (.e_ 0)]))))) [.ret (.con (.bl d_))] [],.ret (.and (.cmp .eq (.blt .len [.ix (.v 0) (.e_ 0)]) (.e_ 3)) (.and (.blt (.isi .tuple) [.ix (.ix (.v 0) (.e_ 0)) (.e_ 1)]) (.blt (.isi .str) [.ix (.ix (.v 0) (.e_ 0)) (.e_ 2)])))]
noncomputable def YE:List Sx:=[.set 4 (.call 30 [.v 1,.v 2,.v 3]),.set 5 (.call 23 [.v 0,.v 2,.v 3]),.ifs (.or (.not (.blt (.isi .list) [.v 5])) (.or (.cmp .ne (.v 5) (.v 4)) (.cmp .ne Xs (.lst [])))) [.ret (.con (.bl d_))] [],.mut .app 5 [.tup [.tup [.f_ "",.tup [],.f_ ""],.f_ ""]],.ret (.cmp .eq (.call 23 [.v 0,.v 2,.v 3]) (.v 4))]
noncomputable def YD:List Sx:=[.set 1 (.call 28 [.v 0,.call 24 [.v 0,.e_ 0,.e_ 3]]),.set 2 (.call 17 [.v 1]),.ifs FX [.ret (.con (.bl d_))] [],.set 3 (.call 31 [.v 0,.v 2]),.loop c_ [4] (.rng [.blt .len [.v 3]]) GB,.ret (.con (.bl c_))]
def d0:Df:=⟨top 1,1,1,b0⟩
def d1:Df:=⟨top 15,3,3,b1⟩
def d2:Df:=⟨top 16,1,1,b2⟩
def d3:Df:=⟨top 17,1,1,b3⟩
def d4:Df:=⟨top 18,1,1,b4⟩
def d5:Df:=⟨top 19,1,1,b5⟩
def d6:Df:=⟨top 20,1,3,b6⟩
def d7:Df:=⟨top 21,1,5,b7⟩
def d8:Df:=⟨top 22,2,4,b8⟩
def d9:Df:=⟨top 23,1,3,b9⟩
def d10:Df:=⟨top 24,3,4,Xr⟩
def d11:Df:=⟨top 30,1,1,Zt⟩
def d12:Df:=⟨top 31,0,0,b12⟩
def d13:Df:=⟨top 32,2,5,YM⟩
def d14:Df:=⟨top 33,1,8,YL⟩
def d15:Df:=⟨top 34,2,2,Zs⟩
def Z9:Df:=⟨top 35,2,10,YK⟩
def Z8:Df:=⟨top 36,1,4,Zr⟩
def Z7:Df:=⟨top 37,1,4,Zq⟩
def Z6:Df:=⟨top 40,1,1,Zp⟩
def Z5:Df:=⟨top 41,2,2,U1⟩
def Z4:Df:=⟨top 42,1,2,Zo⟩
def Z3:Df:=⟨top 43,2,2,Zn⟩
def Z2:Df:=⟨top 44,3,3,Zm⟩
def Z1:Df:=⟨top 46,3,4,YJ⟩
def Z0:Df:=⟨top 47,5,7,W2⟩
def ZY:Df:=⟨top 48,6,10,YI⟩
def ZX:Df:=⟨top 49,2,6,YH⟩
def ZW:Df:=⟨top 50,2,12,YG⟩
def ZV:Df:=⟨top 51,3,3,Xq⟩
def ZU:Df:=⟨top 52,3,11,Zl⟩
def ZT:Df:=⟨top 53,2,10,YF⟩
def ZS:Df:=⟨top 54,1,1,Zk⟩
def ZR:Df:=⟨top 55,4,6,YE⟩
def ZQ:Df:=⟨top 56,1,9,YD⟩
def D:List Df:=[d0,d1,d2,d3,d4,d5,d6,d7,d8,d9,d10,d11,d12,d13,d14,d15,Z9,Z8,Z7,Z6,Z5,Z4,Z3,Z2,Z1,Z0,ZY,ZX,ZW,ZV,ZU,ZT,ZS,ZR,ZQ]
noncomputable def con:List (aV×Dat):=[(aa "SMALL_LETTERS",(.str (aa "abcdefghijklmnopqrstuvwxyz"))),(aa "FIGURES",(.str (aa "0123456789"))),(aa "ALL_PLACES",(.str (aa "wbme"))),(aa "MOST_FORMS",(.int (24))),(aa "MOST_MARK_CELLS",(.int (2))),(aa "NUMBER_OF_FIGURES",(.int (4))),(aa "STATES",(.tup [(.str (aa "out")),(.str (aa "in")),(.str (aa "done")),(.str (aa "num")),(.str (aa "let")),(.str (aa "all"))])),(aa "END_STATES",(.tup [(.str (aa "out")),(.str (aa "done")),(.str (aa "num"))])),(aa "WAYS",(.tup [(.tup [(.str (aa "w")),(.str (aa "out")),(.str (aa "done"))]),(.tup [(.str (aa "w")),(.str (aa "let")),(.str (aa "done"))]),(.tup [(.str (aa "b")),(.str (aa "out")),(.str (aa "in"))]),(.tup [(.str (aa "b")),(.str (aa "let")),(.str (aa "in"))]),(.tup [(.str (aa "m")),(.str (aa "in")),(.str (aa "in"))]),(.tup [(.str (aa "e")),(.str (aa "in")),(.str (aa "done"))])])),(aa "ALL_GREAT_WAYS",(.tup [(.tup [(.str (aa "w")),(.str (aa "out")),(.str (aa "done"))]),(.tup [(.str (aa "w")),(.str (aa "let")),(.str (aa "done"))]),(.tup [(.str (aa "b")),(.str (aa "out")),(.str (aa "all"))]),(.tup [(.str (aa "b")),(.str (aa "let")),(.str (aa "all"))]),(.tup [(.str (aa "m")),(.str (aa "all")),(.str (aa "all"))]),(.tup [(.str (aa "e")),(.str (aa "all")),(.str (aa "done"))])])),(aa "FIRST",(.tup [(.str (aa "out")),(.tup []),(.str (aa ""))]))]
def G:Sg:=ML D con
def VS:∀d∈D,UH G d:=RX (by kernel_rfl)
end K60
namespace M
open PySem L2
@[simp] def AB:full []=[]:=rfl
@[simp] def wG{d:Dat}{b:Bool}{ρ:cF}:full (a_ (d,b)::ρ)=a_ d::full ρ:=rfl
@[simp] def wH{ρ:cF}:full (b_::ρ)=b_::full ρ:=rfl
section
variable{C:Fs}{ρ:eW}{a b c:Ex}{i j:Int}
@[simp] def jh:e8 .add (.int i) (.int j)=a_ (.int (i+j),d_):=rfl
@[simp] def CZ:e8 .sub (.int i) (.int j)=a_ (.int (i - j),d_):=rfl
def kP(h:0<j):e8 .mod (.int i) (.int j)=a_ (.int (i % j),d_):=if_pos h
@[simp] def Qd:e8 .band (.int i) (.int j)=a_ (.int (tX i j),d_):=rfl
@[simp] def Ug:e8 .bor (.int i) (.int j)=a_ (.int (LA i j),d_):=rfl
@[simp] def Xo:dF .lt (.int i) (.int j)=a_ (decide (i<j)):=rfl
@[simp] def OG:dF .le (.int i) (.int j)=a_ (decide (i<=j)):=rfl
@[simp] def OH:dF .gt (.int i) (.int j)=a_ (decide (j<i)):=rfl
@[simp] def Xp:dF .ge (.int i) (.int j)=a_ (decide (j<=i)):=rfl
@[simp] def rO:dF .eq (.int i) (.int j)=a_ (i == j):=rfl
@[simp] def UY:dF .ne (.int i) (.int j)=a_ (!(i == j)):=rfl
@[simp] def UZ{x y:Bool}:dF .eq (.bl x) (.bl y)=a_ (x == y):=rfl
@[simp] def G4{x y:Bool}:dF .ne (.bl x) (.bl y)=a_ (!(x == y)):=rfl
@[simp] def HV{x:Bool}:iW (.bl x)=a_ x:=rfl
@[simp] def iH{xs:List Dat}:eD .len [.lst xs]=a_ (.int xs.length,d_):=rfl
@[simp] def kO{xs:List Dat}:eD .len [.tup xs]=a_ (.int xs.length,d_):=rfl
@[simp] def Qc{xs:List Dat}:eD .list [.lst xs]=a_ (.lst xs,iX xs):=rfl
@[simp] def Qb{xs:List Dat}:eD .list [.tup xs]=a_ (.lst xs,iX xs):=rfl
@[simp] def yD{xs:List Dat}:eD .tuple [.lst xs]=a_ (.tup xs,d_):=rfl
@[simp] def OV{xs:List Dat}:eD .tuple [.tup xs]=a_ (.tup xs,d_):=rfl
@[simp] def W1{xs:List Dat}:eD .listrev [.lst xs]=a_ (.lst xs.reverse,iX xs.reverse):=rfl
@[simp] def Lg{t:Ty}{d:Dat}:eD (.isi t) [d]=a_ (.bl (Cz t d),d_):=rfl
@[simp] def Eo{xs:List Dat}:qh (.lst xs) (.int i)=lN xs i:=rfl
@[simp] def En{xs:List Dat}:qh (.tup xs) (.int i)=lN xs i:=rfl
@[simp] def Km:im (.int i)=c_:=rfl
@[simp] def Wk{x:Bool}:im (.bl x)=c_:=rfl
@[simp] def Kl{x:aV}:im (.str x)=c_:=rfl
@[simp] def Ym:im .non=c_:=rfl
@[simp] def S4{xs:List Dat}:im (.lst xs)=d_:=rfl
@[simp] def cT(ns:List Int):iX (ns.map Dat.int)=c_:=by
 induction ns with
 |nil=>rfl
 |cons n r ih=>show(c_ && iX (r.map Dat.int))=c_;rw[ih];rfl
@[simp] def Wu{ρ:cF}{i:Nat}{d:Dat}{b:Bool}:full (ρ.set i (a_ (d,b)))=(full ρ).set i (a_ d):=by
 unfold full;rw[List.map_set];rfl
end
section
variable{C:Fs}{e:Ex}{s:Sx}{ss:List Sx}{ρ ρ1:cF}{d:Dat}{fr:Bool}{i:Nat}
def dE{np nl:Nat}{body:List Sx}{ds:List Dat}(h:ds.length=np)(hx:bN C body (ds.map (λd=>a_ (d,d_))++iP (nl - np) b_)=a_ (.rt d fr)):Ov C np nl body ds=a_ (d,fr):=by
 unfold Ov;rw[if_pos h,hx];rfl
def bP(h:fE C s ρ=a_ (.nx ρ1)):bN C (s::ss) ρ=bN C ss ρ1:=by show(fE C s ρ).bind _=_;rw[h];rfl
def iM(h:fE C s ρ=a_ (.rt d fr)):bN C (s::ss) ρ=a_ (.rt d fr):=by show(fE C s ρ).bind _=_;rw[h];rfl
def lM(h:fE C s ρ=a_ (.nx ρ1)):bN C [s] ρ=a_ (.nx ρ1):=by show(fE C s ρ).bind _=_;rw[h];rfl
def lK(h:bF C e (full ρ)=a_ (d,fr)):fE C (.ret e) ρ=a_ (.rt d fr):=by show(bF C e (full ρ)).map _=_;rw[h];rfl
def Ar{a b:List Sx}(h:bF C e (full ρ)=a_ (d,fr))(ht:iW d=a_ c_):fE C (.ifs e a b) ρ=bN C a ρ:=by show(bF C e (full ρ)).bind _=_;rw[h];show(iW d).bind _=_;rw[ht];rfl
def oV{a b:List Sx}(h:bF C e (full ρ)=a_ (d,fr))(ht:iW d=a_ d_):fE C (.ifs e a b) ρ=bN C b ρ:=by show(bF C e (full ρ)).bind _=_;rw[h];show(iW d).bind _=_;rw[ht];rfl
end
section
variable{i j:Int}
def fN(h1:-18446744073709551616<i)(h2:i<18446744073709551616):e8 .mul (.int i) (.int j)=a_ (.int (i * j),d_):=if_pos (.inl ⟨h1,h2⟩)
def C0(h1:-18446744073709551616<j)(h2:j<18446744073709551616):e8 .mul (.int i) (.int j)=a_ (.int (i * j),d_):=if_pos (.inr ⟨h1,h2⟩)
def WC{p:Prop}[Decidable p](h:p):decide p=c_:=decide_eq_true h
def WD{p:Prop}[Decidable p](h:¬p):decide p=d_:=decide_eq_false h
def Tp{C:Fs}{e:Ex}{ρ:cF}{d:Dat}{f:Bool}(h:bF C e (full ρ)=a_ (d,f))(hi:(im d || f)=c_):EK C e ρ=a_ (d,f,ρ):=by
 unfold EK;rw[h];exact if_pos hi
def kr{C:Fs}{i:Nat}{e:Ex}{ρ:cF}:fE C (.set i e) ρ=(bF C e (full ρ)).bind λx=>if(im x.1 || x.2)=c_ then a_ (.nx (ρ.set i (a_ (x.1,x.2 && !im x.1))))else(bF C e (rZ (ka e.fv ρ))).map λy=>.nx ((ka e.fv ρ).set i (a_ (y.1,y.2 && !im y.1))):=by
 show(EK C e ρ).map _=_;unfold EK
 cases bF C e (full ρ)with
 |none=>rfl
 |some x=>
   show kW _ (if(im x.1 || x.2)=c_ then _ else _)=if(im x.1 || x.2)=c_ then _ else _
   cases im x.1 || x.2 with
   |true=>rfl
   |false=>exact Option.map_map ..
def Ot{C:Fs}{e:Ex}{ρ:cF}:fE C (.ret e) ρ=(bF C e (full ρ)).map λx=>.rt x.1 x.2:=rfl
def Ou{C:Fs}{e:Ex}{ρ:cF}:fE C (.exp e) ρ=(bF C e (full ρ)).map λ_=>.nx ρ:=rfl
def qq{C:Fs}{i:Nat}{ρ:cF}:fE C (.pe i) ρ=((ρ[i]?).join).map λx=>.rt x.1 x.2:=rfl
def tS{C:Fs}{e:Ex}{a b:List Sx}{ρ:cF}:fE C (.ifs e a b) ρ=(bF C e (full ρ)).bind λx=>(iW x.1).bind λz=>if z=c_ then bN C a ρ else bN C b ρ:=rfl
def fM{C:Fs}{s:Sx}{ss:List Sx}{ρ:cF}:bN C (s::ss) ρ=(fE C s ρ).bind (MO (bN C ss)):=rfl
def Th{C:Fs}{ρ:cF}:bN C [] ρ=a_ (.nx ρ):=rfl
section
variable{k:cF->Option Out}{ρ:cF}
def ip:MO k (.nx ρ)=k ρ:=rfl
def MN{d:Dat}{fr:Bool}:MO k (.rt d fr)=a_ (.rt d fr):=rfl
end
def R3{op:xm}{i:Nat}{ρ:cF}{ds:List Dat}{d:Dat}:Gw op i ρ ds (a_ (d,c_))=(gX op d ds).map λd'=>.nx (ρ.set i (a_ (d',c_))):=rfl
def tR{C:Fs}{op:xm}{i:Nat}{es:List Ex}{ρ:cF}:fE C (.mut op i es) ρ=(mf C es (full ρ)).bind λx=>if x.2=c_ then Gw op i ρ x.1 ((ρ[i]?).join)else b_:=rfl
def jN{ds:List Dat}{d:Dat}(h:ds.length<1000000):gX .app (.lst ds) [d]=a_ (.lst (ds++[d])):=if_pos (by rw[bB];omega)
def me{C:Fs}{one:Bool}{ts:List Nat}{es:List Ex}{body:List Sx}{ρ:cF}:fE C (.loop one ts (.rng es) body) ρ=(tU C (.rng es) (full ρ)).bind λds=>dn (dC one ts) (bN C body) ds ρ:=by
 show((tU C (.rng es) (full ρ)).map _).bind _=_;cases tU C (.rng es) (full ρ)<;>rfl
def iO{C:Fs}{one:Bool}{ts:List Nat}{e:Ex}{body:List Sx}{ρ:cF}:fE C (.loop one ts (.itv e) body) ρ=(bF C e (full ρ)).bind λx=>if(im x.1 || x.2)=c_ then(gJ x.1).bind λds=>dn (dC one ts) (bN C body) ds ρ
  else(bF C e (rZ (ka e.fv ρ))).bind λy=>(gJ y.1).bind λds=>dn (dC one ts) (bN C body) ds (ka e.fv ρ):=by
 show((EK C e ρ).bind λx=>(gJ x.1).map λds=>(ds,x.2.2)).bind _=_;unfold EK
 cases bF C e (full ρ)with
 |none=>rfl
 |some x=>
   show eP (eP (if(im x.1 || x.2)=c_ then _ else _) _) _=if(im x.1 || x.2)=c_ then _ else _
   cases im x.1 || x.2 with
   |true=>show((gJ x.1).map _).bind _=(gJ x.1).bind _;cases gJ x.1<;>rfl
   |false=>
     show eP (eP (kW _ (bF C e (rZ (ka e.fv ρ)))) _) _=eP (bF C e (rZ (ka e.fv ρ))) _
     cases bF C e (rZ (ka e.fv ρ))with
     |none=>rfl
     |some y=>show((gJ y.1).map _).bind _=(gJ y.1).bind _;cases gJ y.1<;>rfl
section
variable{t:Ty}{i:Int}{b:Bool}{x:aV}{ds:List Dat}
def N8:Cz .int (.int i)=c_:=rfl
def N9:Cz .bool (.int i)=d_:=rfl
def Wx{ys:List Dat}(h1:dm 19 ds=c_)(h2:dm 19 ys=c_):dF .eq (.tup ds) (.tup ys)=a_ (kM ds ys):=by simp only[dF,yY,CW,pB,Bx,fx,h1,h2,iq,if_true,jT]
def Yu{ys:List Dat}(h1:dm 19 ds=c_)(h2:dm 19 ys=c_):dF .eq (.lst ds) (.lst ys)=a_ (kM ds ys):=by simp only[dF,yY,CW,pB,Bx,fx,h1,h2,iq,if_true,jT]
def VX{ys:List Dat}(h1:dm 19 ds=c_)(h2:dm 19 ys=c_):dF .ne (.tup ds) (.tup ys)=a_ (!kM ds ys):=by simp only[dF,yY,CW,pB,Bx,fx,h1,h2,iq,if_true,jT]
def Yb{ys:List Dat}(h1:dm 19 ds=c_)(h2:dm 19 ys=c_):dF .ne (.lst ds) (.lst ys)=a_ (!kM ds ys):=by simp only[dF,yY,CW,pB,Bx,fx,h1,h2,iq,if_true,jT]
end
mutual
theorem KQ:∀d:Dat,oS d=c_->jT d d=c_
 |.non,_=>rfl
 |.bl _,_=>by simp[jT]
 |.int _,_=>by simp[jT]
 |.str _,_=>by simp[jT]
 |.tup ds,h=>by simp only[jT];exact oB ds h
 |.lst ds,h=>by simp only[jT];exact oB ds h
 |.dct _ _,h=>nomatch h
theorem oB:∀ds:List Dat,gD ds=c_->kM ds ds=c_
 |[],_=>rfl
 |d::ds,h=>by
   have h':oS d=c_/\gD ds=c_:=by simpa [gD]using h
   simp only[kM,KQ d h'.1,oB ds h'.2,iq]
end
def qt{C:Fs}{a b:Ex}{ρ:eW}{x:Bool}{f:Bool}(h:bF C a ρ=a_ (.bl x,f)):bF C (.and a b) ρ=if x=c_ then bF C b ρ else a_ (.bl d_,d_):=by
 show(bF C a ρ).bind _=_;rw[h];rfl
def CJ{C:Fs}{a b:Ex}{ρ:eW}{x:Bool}{f:Bool}(h:bF C a ρ=a_ (.bl x,f)):bF C (.or a b) ρ=if x=c_ then a_ (.bl c_,d_)else bF C b ρ:=by
 show(bF C a ρ).bind _=_;rw[h];rfl
end
section
variable{C:Fs}{ρ:eW}{a b c:Ex}{es:List Ex}
def bM{d:Dat}:bF C (.con d) ρ=a_ (d,d_):=rfl
def eV{i:Nat}:bF C (.v i) ρ=((ρ[i]?).join).map λd=>(d,d_):=rfl
def ki{o:Lw}:bF C (.bin o a b) ρ=(bF C a ρ).bind λx=>(bF C b ρ).bind λy=>e8 o x.1 y.1:=rfl
def iY{o:Hf}:bF C (.cmp o a b) ρ=(bF C a ρ).bind λx=>(bF C b ρ).bind λy=>(dF o x.1 y.1).map λr=>(.bl r,d_):=rfl
def To{o o':Hf}:bF C (.TR o o' a b c) ρ=(bF C a ρ).bind λx=>(bF C b ρ).bind λy=>(dF o x.1 y.1).bind λr=>if r=c_ then(bF C c ρ).bind λz=>(dF o' y.1 z.1).map λr=>(.bl r,d_)else a_ (.bl d_,d_):=rfl
def Uu{k:g_}{x:Bool}:Uv k (.bl x)=if x=c_ then k else a_ (.bl d_,d_):=rfl
def KN:bF C (.and a b) ρ=(bF C a ρ).bind λx=>Uv (bF C b ρ) x.1:=rfl
def VL{k:g_}{x:Bool}:X5 k (.bl x)=if x=c_ then a_ (.bl c_,d_)else k:=rfl
def P1:bF C (.or a b) ρ=(bF C a ρ).bind λx=>X5 (bF C b ρ) x.1:=rfl
def rL:bF C (.not a) ρ=(bF C a ρ).bind λx=>(iW x.1).map λb=>(.bl (!b),d_):=rfl
def Tn:bF C (.ite c a b) ρ=(bF C c ρ).bind λx=>(iW x.1).bind λz=>if z=c_ then bF C a ρ else bF C b ρ:=rfl
def CI:bF C (.tup es) ρ=(mf C es ρ).bind λx=>if x.1.length<=1000000 then a_ (.tup x.1,x.2)else b_:=rfl
def yn:bF C (.lst es) ρ=(mf C es ρ).bind λx=>if x.1.length<=1000000 then a_ (.lst x.1,x.2)else b_:=rfl
def nZ:bF C (.ix a b) ρ=(bF C a ρ).bind λx=>(bF C b ρ).bind λy=>(qh x.1 y.1).map λd=>(d,d_):=rfl
def E8:Uh C ρ b_=a_ b_:=rfl
def vb:Uh C ρ (a_ a)=Js (bF C a ρ):=rfl
def D1{i:Int}{f:Bool}:Js (a_ (.int i,f))=a_ (a_ i):=rfl
def AL{b c:Option Ex}:bF C (.sl a b c) ρ=(bF C a ρ).bind λx=>(Uh C ρ b).bind λl=>(Uh C ρ c).bind λh=>Iy x.1 l h:=rfl
def gP{f:Nat}:bF C (.call f es) ρ=(j6 C es ρ).bind λds=>C f ds:=rfl
def jf{f:LP}:bF C (.blt f es) ρ=(j6 C es ρ).bind λds=>eD f ds:=rfl
def fR:j6 C [] ρ=a_ []:=rfl
def bO{e:Ex}:j6 C (e::es) ρ=(bF C e ρ).bind λx=>(j6 C es ρ).map λr=>x.1::r:=rfl
def ku:mf C [] ρ=a_ ([],c_):=rfl
def iF{e:Ex}:mf C (e::es) ρ=(bF C e ρ).bind λx=>(mf C es ρ).map λr=>(x.1::r.1,(x.2 || im x.1) && r.2):=rfl
def EI{m:O4}{o:Ex}:bF C (.l5 m o es) ρ=(bF C o ρ).bind λx=>(j6 C es ρ).bind λds=>j5 m x.1 ds:=rfl
def Ox:bF C .vL ρ=a_ (.dct [] [],c_):=rfl
def EH:tU C (.itv a) ρ=(bF C a ρ).bind λx=>gJ x.1:=rfl
def qr:tU C (.rng es) ρ=(j6 C es ρ).bind Gg:=rfl
def Ak{xs:List Dat}:gJ (.lst xs)=a_ xs:=rfl
def Aj{xs:List Dat}:gJ (.tup xs)=a_ xs:=rfl
def jc{nt:Nat}{one:Bool}{caps:List Nat}{it:Iw}{elt:Ex}{ifs:List Ex}{items ys:List Dat}{fr:Bool}(hi:tU C it ρ=a_ items)(hl:items.length<=1000000)(hm:k9 (iG C nt one (fJ nt caps ρ) ifs elt) items=a_ (ys,fr)) :
  bF C (.comp nt one caps it ifs elt) ρ=a_ (.lst ys,fr):=by
 show(tU C it ρ).bind _=_;rw[hi];show(if items.length<=1000000 then _ else b_)=_;rw[if_pos hl];exact congrArg (kW λys:List Dat×Bool=>(Dat.lst ys.1,ys.2)) hm
def mi{ρ0:eW}{elt:Ex}{d:Dat}:iG C 1 c_ ρ0 [] elt d=(bF C elt (ρ0.set 0 (a_ d))).map a_:=rfl
def n6{ρ0:eW}{elt i:Ex}{d x:Dat}{f t:Bool}(h:bF C i (ρ0.set 0 (a_ d))=a_ (x,f))(ht:iW x=a_ t):iG C 1 c_ ρ0 [i] elt d=if t=c_ then(bF C elt (ρ0.set 0 (a_ d))).map a_ else a_ b_:=by
 unfold iG;simp only[E7,af,wK,h,ht];cases t<;>rfl
def oy{f:Dat->Option g_}{g:Dat->Dat}{ds:List Dat}(h:∀d∈ds,∃b,f d=a_ (a_ (g d,b)))(hi:∀d∈ds,im (g d)=c_):k9 f ds=a_ (ds.map g,c_):=by
 induction ds with
 |nil=>rfl
 |cons d ds ih=>
   obtain⟨b,hb⟩:=h d hJ;simp only[k9,hb,af,ih (λe he=>h e (ib _ he)) λe he=>hi e (ib _ he),aK,ag,hi d hJ,Bs,fq]
def Ab{f:Dat->Option g_}{g:Dat->Dat}{p:Dat->Bool}{ds:List Dat}(h:∀d∈ds,∃b,f d=a_ (if p d=c_ then a_ (g d,b)else b_))(hi:∀d∈ds,p d=c_->im (g d)=c_):k9 f ds=a_ ((ds.filter p).map g,c_):=by
 induction ds with
 |nil=>rfl
 |cons d ds ih=>
   obtain⟨b,hb⟩:=h d hJ;simp only[k9,hb,af,ih (λe he=>h e (ib _ he)) λe he=>hi e (ib _ he),aK,List.filter_cons]
   cases hp:p d with
   |false=>rfl
   |true=>simp[hi d hJ hp]
theorem u9{α:Type}{g:α->Bool}:∀xs:List α,pC (xs.map λx=>Dat.bl (g x))=a_ (xs.map g)
 |[]=>rfl
 |x::xs=>by simp only[ag,pC,u9 xs,aK]
end
mutual
noncomputable def same:Dat->Dat->Bool
 | .non,y9=>match y9 with
   |.non=>c_
   |_=>d_
 | .bl a,y9=>match y9 with
   |.bl b=>a == b
   |_=>d_
 | .int i,y9=>match y9 with
   |.int j=>i == j
   |_=>d_
 | .str x,y9=>match y9 with
   |.str y=>x == y
   |_=>d_
 | .tup xs,y9=>match y9 with
   |.tup ys=>uh xs ys
   |_=>d_
 | .lst xs,y9=>match y9 with
   |.lst ys=>uh xs ys
   |_=>d_
 |_,_=>d_
noncomputable def uh:List Dat->List Dat->Bool
 |[],[]=>c_
 |x::xs,y::ys=>same x y && uh xs ys
 |_,_=>d_
end
mutual
theorem DK:∀(x y:Dat),same x y=c_->x=y
 |.non,y,h=>by cases y<;>first|rfl|(simp[same]at h)
 |.bl a,y,h=>by cases y<;>first|(simp[same]at h;rw[h])|(simp[same]at h)
 |.int a,y,h=>by cases y<;>first|(simp[same]at h;rw[h])|(simp[same]at h)
 |.str a,y,h=>by cases y<;>first|(simp[same]at h;rw[h])|(simp[same]at h)
 |.tup a,y,h=>by cases y<;>first|(simp[same]at h;rw[ug _ _ h])|(simp[same]at h)
 |.lst a,y,h=>by cases y<;>first|(simp[same]at h;rw[ug _ _ h])|(simp[same]at h)
theorem ug:∀(x y:List Dat),uh x y=c_->x=y
 |[],y,h=>by cases y<;>first|rfl|(simp[uh]at h)
 |x::xs,y,h=>by
   cases y with
   |nil=>simp[uh]at h
   |cons y ys=>
     simp[uh]at h;rw[DK _ _ h.1,ug _ _ h.2]
end
noncomputable def um:g_->g_->Bool
 |some (d,b),a_ (e,c)=>same d e && b == c
 |none,b_=>c_
 |_,_=>d_
def uk{x y:g_}(h:um x y=c_):x=y:=by
 cases x with
 |none=>cases y<;>first|rfl|(simp[um]at h)
 |some x=>
   cases y with
   |none=>simp[um]at h
   |some y=>
     obtain⟨d,b⟩:=x;obtain⟨e,c⟩:=y;simp[um]at h;rw[DK _ _ h.1,h.2]
def Ll{ns:List Int}{k:Int}(h:0<ns.length):lN (ns.map Dat.int) (k % ns.length)=a_ (.int (ns.getD (k % ns.length).toNat 0)):=by
 have h1:0<=k % (ns.length:Int):=vF _ (by omega);have h2:k % (ns.length:Int)<ns.length:=qO _ (by omega);generalize k % (ns.length:Int)=j at h1 h2 ⊢;obtain⟨n,rfl⟩:=m6 h1;have h3:n<ns.length:=by omega
 refine jA ?_;rw[aW,aj h3];simp[h3]
def zF{n dflt:Nat}{i:Int}(h0:0<=i)(h1:i<=n):HT.iN n dflt (a_ i)=i.toNat:=by
 obtain⟨k,rfl⟩:=m6 h0;rw[HT.M5];show min k n=k;omega
def EU{α:Type}{xs:List α}{i:Int}(h0:0<=i)(h1:i<=xs.length):cutD xs (a_ i) b_=xs.drop i.toNat:=by
 unfold cutD;rw[zF h0 h1,HT.zG];rw[Bp (by simp)]
def OE{α:Type}{xs:List α}{i:Int}(h0:0<=i)(h1:i<=xs.length):cutD xs b_ (a_ i)=xs.take i.toNat:=by
 unfold cutD;rw[zF h0 h1,HT.zG,Pe];rfl
def wR(ns:List Int)(k:Int):Int:=if 0<ns.length then(ns.getD (k % ns.length).toNat 0) % 2147483629 else 0
noncomputable def LI(ns:List Int)(k m:Int):Int:=(wR ns k+1) * (31 * k * k+7919) % 2147483647 * 48271 % 2147483629 % m
def K6(ns:List Int)(k:Int):0<=wR ns k/\wR ns k<2147483629:=by
 unfold wR;split
 ·exact⟨vF _ (by omega),qO _ (by omega)⟩
 ·omega
def Tu(ns:List Int)(k m:Int)(hm:0<m):0<=LI ns k m/\LI ns k m<m:=⟨vF _ (by omega),qO _ hm⟩
abbrev T(l:List Nat):aV:=⟨l.toArray⟩
def W9(x:aV):T x.cps.toList=x:=rfl
def Qf(a b:List Nat):T a++T b=T (a++b):=by
 show Str.mk _=_;simp[T]
def Be{a b:List Nat}(h:T a=T b):a=b:=by
 have:=congrArg (λx:aV=>x.cps.toList) h;simpa using this
def Lr(a b:List Nat):(T a == T b)=decide (a=b):=by
 by_cases h:a=b
 ·subst h;simp
 ·rw[decide_eq_false h];exact beq_false_of_ne λe=>h (Be e)
def qy(a:List Nat):(T a).length=a.length:=by show(a.toArray).size=_;simp
def SU{c:Nat}{l:List Nat}:dF .isin (.str (T [c])) (.str (T l))=a_ (decide (c∈l)):=by
 show a_ _=_;rw[show(!(eJ (T l) (T [c]) 0 (T l).length 1).isEmpty)=_ from StrLaws.found_one (T l) c]
def Er{l:List Nat}:gJ (.str (T l))=a_ (l.map λc=>Dat.str (T [c])):=by
 show a_ _=_;simp[T]
def DE{l:List Nat}:dW (T l)=l.map λc=>T [c]:=by
 unfold dW;simp[T]
def len_T{l:List Nat}(h:l.length<=1000000):eD .len [.str (T l)]=a_ (.int l.length,d_):=by
 show(if(T l).length<=aE then a_ (Dat.int (T l).length,d_)else b_)=_;rw[qy,if_pos (by rw[bB];omega)]
def Wc{l:List Nat}{i:Nat}(hl:l.length<=1000000)(h:i<l.length):qh (.str (T l)) (.int (i:Nat))=a_ (.str (T [l[i]])):=by
 show(if(T l).length<=aE then(lN (T l).cps.toList (i:Int)).map λc=>Dat.str ⟨#[c]⟩else b_)=_;rw[qy,if_pos (by rw[bB];omega)];rw[show lN (T l).cps.toList (i:Int)=a_ l[i]from jA (by simp[h])];rfl
theorem Dt:∀ws:List (List Nat),jX (ws.map λl=>Dat.str (T l))=a_ (ws.map T)
 |[]=>rfl
 |x::r=>by simp only[ag,jX,Dt r,aK]
def SJ:∀ws:List (List Nat),sL (T []) (ws.map T)=T ws.flatten:=by
 intro ws;rw[show sL (T []) (ws.map T)=Str.join (T []) (ws.map T)from StrLaws.glued_eq_join _ _]
 induction ws with
 |nil=>rfl
 |cons x r ih=>
   cases r with
   |nil=>show T x=_;simp
   |cons y r=>
     show(T x++T []++Str.join (T []) ((y::r).map T))=_;rw[ih,Qf,Qf];simp
def xT{ws:List (List Nat)}(h:(ws.map (·.length)).sum<=1000000):j5 .join (.str (T [])) [.lst (ws.map λl=>Dat.str (T l))]=a_ (.str (T ws.flatten),d_):=by
 simp only[j5,UP,PD,Xj,NU,NV,Dt,af];rw[if_pos,SJ];rw[qy,bc];have e:(List.map ((λx:aV=>x.length) ∘ T) ws)=ws.map (·.length):=dv λl _=>qy l;rw[e];simpa using h
def Yv(a b:List Nat):dF .eq (.str (T a)) (.str (T b))=a_ (decide (a=b)):=by
 show a_ (T a == T b)=_;rw[Lr]
theorem wL:∀(a b:List Int),kM (a.map Dat.int) (b.map Dat.int)=decide (a=b)
 |[],[]=>rfl
 |[],b::bs=>by simp[kM]
 |a::as,[]=>by simp[kM]
 |a::as,b::bs=>by
   simp only[ag,kM,jT,wL as bs];by_cases h:a=b
   ·subst h;by_cases h2:as=bs<;>simp[h2]
   ·simp[h]
theorem pd(k:Nat):∀a:List Int,dm k (a.map Dat.int)=c_
 |[]=>by simp[dm]
 |a::as=>by simp[dm,fx,pd k as]
def pv{z:g_}{ρ:cF}:full (z::ρ)=z.map (·.1)::full ρ:=rfl
def xg{i j:Int}:e8 .mn (.int i) (.int j)=a_ (.int (min i j),d_):=by
 show a_ (Dat.int (if j<i then j else i),d_)=_;by_cases h:j<i
 ·rw[if_pos h,show min i j=j by omega]
 ·rw[if_neg h,show min i j=i by omega]
def C4{xs ys:List Dat}(h:xs.length+ys.length<=1000000):e8 .add (.tup xs) (.tup ys)=a_ (.tup (xs++ys),d_):=if_pos (tP h)
def va{b:Bool}:eD .int [.bl b]=a_ (.int (if b then 1 else 0),d_):=rfl
end M
local macro_rules | `(tactic| walk_at "py") => do let xs ← ("M.fM M.Th M.ip M.MN M.kr M.Ot M.qq M.tS M.Ou M.tR M.R3 M.jN M.ku M.iF M.EI M.Ox M.bM M.eV M.ki M.iY M.To M.KN M.P1 M.Uu M.VL M.rL M.Tn M.CI M.yn M.nZ M.AL M.E8 M.vb M.D1 M.gP M.jf M.fR M.bO M.EH M.qr M.Ak M.Aj List.length_cons List.length_nil Nat.reduceAdd Nat.reduceLeDiff M.pv Option.map_none M.wG M.wH M.AB List.getElem?_cons_succ List.getElem?_cons_zero List.set_cons_succ List.set_cons_zero Option.join_some Option.map_some Option.bind_some M.jh M.CZ M.fN M.C0 M.kP M.OG M.OH M.rO M.G4 M.HV M.iH M.yD M.Lg M.Eo M.En M.Km M.Wk M.Kl M.S4 Bool.true_or Bool.false_or Bool.or_true Bool.or_false Bool.true_and Bool.and_true Bool.and_false Bool.not_true Bool.not_false if_true if_false Bool.false_eq_true M.WC M.WD List.length_map List.map_cons List.map_nil List.cons_append List.nil_append List.replicate_succ List.replicate_zero Nat.reduceSub reduceIte reduceCtorEq beq_self_eq_true Option.some.injEq M.Out.nx.injEq M.Out.rt.injEq exists_eq_left' M.N8 M.N9 M.va".splitOn " ").toArray.mapM (fun n => `(Lean.Parser.Tactic.simpLemma| $(Lean.mkIdent n.toName):term)); `(tactic| simp (disch := omega) only [$xs,*, *])
namespace M
open PySem L2
noncomputable def jE:List Nat:=[97,98,99,100,101,102,103,104,105,106,107,108,109,110,111,112,113,114,115,116,117,118,119,120,121,122]
def Zv:aa "abcdefghijklmnopqrstuvwxyz"=T jE:=by decide +kernel
def vm:List Nat:=[119,98,109,101]
def Zu:aa "wbme"=T vm:=by decide +kernel
def Y2:aa ""=T []:=by decide +kernel
abbrev Fm:=List Nat×List Int×List Nat
abbrev dS(t:Fm):Dat:=.tup [.str (T t.1),.tup (t.2.1.map Dat.int),.str (T t.2.2)]
def Tv{ns:List Int}{k m:Int}(hm:0<m):∃d:Nat,LI ns k m=d/\(d:Int)<m:=by
 obtain⟨h1,h2⟩:=Tu ns k m hm;obtain⟨d,e⟩:=m6 h1;exact⟨d,e,by omega⟩
def p3{m:Nat}(h:m<=1000000):Gg [.int (m:Nat)]=a_ ((ax m).map λk:Nat=>Dat.int k):=by
 show(if _ then _ else b_)=_;rw[if_pos (by omega)];simp
def PY(xs:List Nat):(xs.map λc=>[c]).flatten=xs:=by
 induction xs with
 |nil=>rfl
 |cons a r ih=>rw[ag,HJ,ih];rfl
def Vi(xs:List Nat):((xs.map λc=>[c]).map (·.length)).sum=xs.length:=by
 induction xs with
 |nil=>rfl
 |cons a r ih=>rw[ag,ag,yR,ih];simp;omega
def Lp{α:Type}(g:α->Bool)(xs:List α):eD .all [.lst (xs.map λx=>Dat.bl (g x))]=a_ (.bl (xs.all g),d_):=by
 simp only[eD,b1,vf,og,ve,vc,bL,Hs,vg,vd,u9,aK];rw[List.all_map];rfl
def UG(C:Fs)(i:Nat)(ns:List Int):Prop:=∀k m:Int,-(2 ^ 60)<k/\k<2 ^ 60->0<m->C i [.lst (ns.map Dat.int),.int k,.int m]=a_ (.int (LI ns k m),d_)
def Gp(k:Nat):List Nat:=(ax 4).filterMap λi=>if k / 2 ^ i % 2=1 then vm[i]? else b_
abbrev ent(f:Fm):List Nat×List Int:=(f.1,f.2.1)
def Kn(f:Fm):im (dS f)=c_:=by
 show(c_ && (iX (f.2.1.map Dat.int) && (c_ && c_)))=c_;rw[cT];rfl
theorem rq:∀fs:List Fm,iX (fs.map dS)=c_
 |[]=>rfl
 |f::fs=>by rw[ag];show(im (dS f) && iX (fs.map dS))=c_;rw[Kn,rq fs];rfl
def Aq{α β:Type}(g:α->β)(x:α)(i:Int)(xs:List α):insI (g x) i (xs.map g)=(insI x i xs).map g:=by
 unfold insI;rw[ah,cO,ag,List.map_take,List.map_drop]
def p8{α:Type}{x y:α}{i:Int}{xs:List α}(h:y∈insI x i xs):y=x\/y∈xs:=by
 unfold insI at h
 rcases az.mp h with h|h
 ·exact .inr (oP h)
 ·rcases ao.mp h with h|h
  ·exact .inl h
  ·exact .inr (oQ h)
def Ae{α:Type}{x:α}{i:Int}{xs:List α}:(insI x i xs).length=xs.length+1:=by
 unfold insI;rw[aw,aM,fZ,j9];omega
def Ap{α:Type}{x y:α}{i:Int}{xs:List α}(h:y∈xs):y∈insI x i xs:=by
 unfold insI;rw[<-eG (HT.iN xs.length 0 (a_ i)) xs]at h
 rcases az.mp h with h|h
 ·exact aJ _ h
 ·exact ak _ (ib _ h)
def uD{α:Type}{x:α}{i:Int}{xs:List α}(h:x∉xs)(nd:xs.Nodup):(insI x i xs).Nodup:=by
 unfold insI;have e:=eG (HT.iN xs.length 0 (a_ i)) xs;have nd':(xs.take (HT.iN xs.length 0 (a_ i))++xs.drop (HT.iN xs.length 0 (a_ i))).Nodup:=by rw[e];exact nd
 obtain⟨n1,n2,n3⟩:=cR.mp nd';refine cR.mpr ⟨n1,be.mpr ⟨λm=>h (oQ m),n2⟩,λa ha b hb z=>?_⟩;subst z
 rcases ao.mp hb with rfl|hb
 ·exact h (oP ha)
 ·exact n3 a ha a hb rfl
def MG(a b c:Dat):Iy (.tup [a,b,c]) b_ (a_ 2)=a_ (.tup [a,b],d_):=rfl
def zz(f:Fm):fx 20 (.tup [.str (T f.1),.tup (f.2.1.map Dat.int)])=c_:=by
 show(c_ && (dm 18 (f.2.1.map Dat.int) && c_))=c_;rw[pd];rfl
abbrev tI(l:List Int):Dat:=.tup (l.map Dat.int)
def X2(a b c d x:Dat):gX .seti (.lst [a,b,c,d]) [x,.int 0]=a_ (.lst [x,b,c,d]):=rfl
def VD(a b c d x:Dat):gX .seti (.lst [a,b,c,d]) [x,.int 1]=a_ (.lst [a,x,c,d]):=rfl
def put2(a b c d x:Dat):gX .seti (.lst [a,b,c,d]) [x,.int 2]=a_ (.lst [a,b,x,d]):=rfl
def put3(a b c d x:Dat):gX .seti (.lst [a,b,c,d]) [x,.int 3]=a_ (.lst [a,b,c,x]):=rfl
def ct(c:Int):List Nat:=((ax 6).filter λi=>c.toNat / 2 ^ i % 2=1).map (·+ 49)
abbrev A7(c:Int):Prop:=1<=c/\c<=63
def mh{C:Fs}{caps:List Nat}{e elt:Ex}{ρ:eW}{l_:Nat}{g:Nat->Dat}{fl:Bool}(he:bF C e ρ=a_ (.int (l_:Nat),fl))(hm:l_<=1000)(h:∀j<l_,∃b,bF C elt ((fJ 1 caps ρ).set 0 (a_ (.int (j:Nat))))=a_ (g j,b))(hi:∀j<l_,im (g j)=c_) :
  bF C (.comp 1 c_ caps (.rng [e]) [] elt) ρ=a_ (.lst ((ax l_).map g),c_):=by
 refine jc (items:=(ax l_).map λk:Nat=>Dat.int k) ?_ (by rw[ah,bQ];omega) ?_
 ·rw[qr,bO,fR,he];exact p3 (by omega)
 have:=oy (f:=iG C 1 c_ (fJ 1 caps ρ) [] elt) (g:=λd=>match d with | .int x=>g x.toNat|_=>.non) (ds:=(ax l_).map λk:Nat=>Dat.int k) ?_ ?_
 ·rw[this,bc];rfl
 ·intro d hd;obtain⟨j,hj,rfl⟩:=aQ.mp hd;obtain⟨b,hb⟩:=h j (aZ.mp hj);exact⟨b,by rw[mi,hb];rfl⟩
 ·intro d hd;obtain⟨j,hj,rfl⟩:=aQ.mp hd;exact hi j (aZ.mp hj)
end M
namespace K60
open PySem L2 M
def zI{n:Nat}{ns:List Int}:UG (Cn D (n+1)) 24 ns:=by
 intro k m hk hm;refine dE (C:=Cn D n) (np:=3) (nl:=4) (body:=YJ) rfl ?_;unfold YJ;have hb:=K6 ns k;by_cases h:0<ns.length
 ·have hc:wR ns k=ns.getD (k % ns.length).toNat 0 % 2147483629:=if_pos h;have ha:=Ll (k:=k) h;unfold LI;rw[hc]at hb ⊢;walk_at "py"
 ·have hc:wR ns k=0:=if_neg h;unfold LI;rw[hc]at hb ⊢;walk_at "py"
def dZ{n:Nat}(ns:List Int)(k m:Int)(hk:0<=k/\k<=100000)(hm:0<m):∃q:Nat,Cn D (n+1) 24 [.lst (ns.map Dat.int),.int k,.int m]=a_ (.int (q:Nat),d_)/\(q:Int)<m:=by
 obtain⟨q,e,b⟩:=Tv (ns:=ns) (k:=k) (m:=m) hm;exact⟨q,by rw[<-e];exact zI k m (by omega) hm,b⟩
def yy(B q:Nat):1<=(1:Int)+((B:Int)+11 * (q:Int)) % 63/\(1:Int)+((B:Int)+11 * (q:Int)) % 63<=63:=by omega
def TN{n:Nat}{ns:List Int}{at_:Int}{st B l_:Nat}(h0:0<=at_/\at_<=10000)(hs:st<3)(hm:l_<=100)(hB:B<63)(y3:Option Dat):∃cs:List Int,bF (Cn D (n+1)) CX [a_ (.lst (ns.map Dat.int)),a_ (.int at_),a_ (.int (st:Nat)),y3,a_ (.int (l_:Nat)),a_ (.int (B:Nat)),b_]=a_ (.lst (cs.map Dat.int),c_)/\cs.length=l_/\∀c∈cs,A7 c:=by
 obtain⟨few,hf,hf0⟩:∃few:Int,lN [Dat.int 3,Dat.int 12,Dat.int 63] (st:Int)=a_ (.int few)/\0<few:=by
  rcases(by omega:st=0\/st=1\/st=2)with rfl|rfl|rfl
  ·exact⟨3,rfl,by omega⟩
  ·exact⟨12,rfl,by omega⟩
  ·exact⟨63,rfl,by omega⟩
 refine⟨(ax l_).map λj:Nat=>1+((B:Int)+11 * LI ns (at_+(j:Int)) few) % 63,?_,by simp,λc hc=>?_⟩
 ·rw[bc];refine mh (fl:=d_) rfl (by omega) (λj hj=>⟨d_,?_⟩) λj _=>rfl;obtain⟨q,e,b⟩:=Tv (ns:=ns) (k:=at_+(j:Int)) (m:=few) hf0;have r:Cn D (n+1) 24 _=_:=zI (n:=n) (ns:=ns) (at_+(j:Int)) few (by omega) hf0;have hl:e8 .mul (.int 11) (.int (LI ns (at_+(j:Int)) few))=a_ (.int (11 * LI ns (at_+(j:Int)) few),d_):=fN (by omega) (by omega);have hmd:=kP (i:=(B:Int)+11 * LI ns (at_+(j:Int)) few) (j:=63) (by omega)
  have hfew:bF (Cn D (n+1)) (.ix (.lst [(.e_ 3),(.e_ 12),(.e_ 63)]) (.v 4)) [a_ (Dat.int (j:Nat)),a_ (.int at_),a_ (.int (B:Nat)),a_ (.lst (ns.map Dat.int)),a_ (.int (st:Nat))]=a_ (.int few,d_):=by
   rw[nZ];show(qh (.lst [Dat.int 3,Dat.int 12,Dat.int 63]) (.int (st:Int))).map _=_;rw[Eo,hf];rfl
  show bF _ _ [a_ (Dat.int (j:Nat)),a_ (.int at_),a_ (.int (B:Nat)),a_ (.lst (ns.map Dat.int)),a_ (.int (st:Nat))]=_;simp only[bM,gP,bO,fR,ki,eV,hfew,aT,bf,bD,aK,af,jh,r,hl,hmd];rfl
 ·obtain⟨j,_,rfl⟩:=aQ.mp hc;obtain⟨q,e,b⟩:=Tv (ns:=ns) (k:=at_+(j:Int)) (m:=few) hf0;rw[e];exact yy B q
def Gk(x d:Dat)(ds:List Dat):gX .seti (.lst (d::ds)) [x,.int 0]=a_ (.lst (x::ds)):=by
 show(if -1000000<=(0:Int)/\(0:Int)<=1000000 then(xG x 0 (d::ds)).map Dat.lst else b_)=_;rw[if_pos (by omega)];have:Em (d::ds).length 0=a_ 0:=by unfold Em;simp
 unfold xG;rw[this];rfl
def qR{n:Nat}{ns:List Int}{at_:Int}{st nu l_:Nat}(h0:0<=at_/\at_<=10000)(hs:st<3)(hn:nu<=100)(hm:0<l_/\l_<=100) :
  ∃cs:List Int,Cn D (n+2) 25 [.lst (ns.map Dat.int),.int at_,.int (st:Nat),.int (nu:Nat),.int (l_:Nat)]=a_ (tI cs,d_)/\cs.length=l_/\∀c∈cs,A7 c:=by
 obtain⟨B,rB,hB⟩:=dZ (n:=n) ns 1 63 (by omega) (by omega);obtain⟨cs,hc,hl,hr⟩:=TN (n:=n) (ns:=ns) (B:=B) (l_:=l_) h0 hs hm.2 (by omega) (a_ (.int (nu:Nat)));have hmul:e8 .mul (.int 11) (.int (nu:Nat))=a_ (.int (11 * (nu:Nat)),d_):=fN (by omega) (by omega);have hmd:=kP (i:=(B:Int)+11 * (nu:Int)) (j:=63) (by omega);by_cases h2:st=2
 ·have hb:((st:Int) == 2)=c_:=by simp;omega
  obtain⟨cs',hset,hl',hr'⟩:∃cs':List Int,gX .seti (.lst (cs.map Dat.int)) [.int (1+((B:Int)+11 * (nu:Int)) % 63),.int 0]=a_ (.lst (cs'.map Dat.int))/\cs'.length=l_/\∀c∈cs',A7 c:=by
   cases cs with
   |nil=>simp at hl;omega
   |cons c0 r=>
     refine⟨(1+((B:Int)+11 * (nu:Int)) % 63)::r,Gk _ _ _,by simpa using hl,λc hc'=>?_⟩
     rcases ao.mp hc' with rfl|h
     ·exact yy B nu
     ·exact hr c (ib _ h)
  refine⟨cs',dE (C:=Cn D (n+1)) (np:=5) (nl:=7) (body:=W2) rfl ?_,hl',hr'⟩;unfold W2;clear hl hr hl' hr' h2;walk_at "py"
 ·refine⟨cs,dE (C:=Cn D (n+1)) (np:=5) (nl:=7) (body:=W2) rfl ?_,hl,hr⟩;unfold W2;have hb:((st:Int) == 2)=d_:=by simp;omega
  clear hl hr;walk_at "py"
structure oA(f:Fm):Prop where
 ne:f.1≠[]
 low:∀c∈f.1,c∈jE
 ll:f.1.length<=6
 c1:0<f.2.1.length
 cl:f.2.1.length<=4
 cr:∀c∈f.2.1,A7 c
 pp:∃k,1<=k/\k<16/\f.2.2=Gp k
def PX:Ex:=.l5 .join (.f_ "") [(.comp 1 c_ [7] (.rng [(.e_ 4)]) [(.cmp .eq (.bin .band (.bin .shr (.v 1) (.v 0)) (.e_ 1)) (.e_ 1))] (.ix (.f_ "wbme") (.v 0)))]
def ZK(C:Fs)(a0 a1 a2 a3 a4 a5 a6 a8 a9:Option Dat):((ax 16).all λk=>um (bF C PX [a0,a1,a2,a3,a4,a5,a6,a_ (.int (k:Nat)),a8,a9]) (a_ (.str (T (Gp k)),d_)))=c_:=by kernel_rfl
def Q3{C:Fs}{a0 a1 a2 a3 a4 a5 a6 a8 a9:Option Dat}{k:Nat}(h:k<16):bF C PX [a0,a1,a2,a3,a4,a5,a6,a_ (.int (k:Nat)),a8,a9]=a_ (.str (T (Gp k)),d_):=
 uk (aY.mp (ZK C a0 a1 a2 a3 a4 a5 a6 a8 a9) k (aZ.mpr h))
def WX:Ex:=.comp 1 c_ [1,4,0] (.rng [(.bin .add (.e_ 1) (.call 24 [(.v 0),(.bin .add (.v 1) (.e_ 3)),(.e_ 3)]))]) [] (.ix (.v 2) (.call 24 [(.v 3),(.bin .add (.v 1) (.v 0)),(.blt .len [(.v 2)])]))
def TM{n:Nat}{ns:List Int}{at_:Int}{ls:List Nat}(h0:0<=at_/\at_<=10000)(hl:0<ls.length)(y2 y3 y5 y6 y7 y8 y9:Option Dat):∃W:List Nat,bF (Cn D (n+1)) WX [a_ (.lst (ns.map Dat.int)),a_ (.int at_),y2,y3,a_ (.lst (ls.map λc=>.str (T [c]))),y5,y6,y7,y8,y9]=a_ (.lst ((W.map λc=>[c]).map λl=>.str (T l)),c_)/\0<W.length/\W.length<=3/\∀c∈W,c∈ls:=by
 obtain⟨q,r,hq⟩:=dZ (n:=n) ns (at_+3) 3 (by omega) (by omega)
 have hch:∀j:Nat,∃c∈ls,j<3->∃z:Nat,Cn D (n+1) 24 [.lst (ns.map Dat.int),.int (at_+(j:Int)),.int (ls.length:Nat)]=a_ (.int (z:Nat),d_)/\ls[z]?=a_ c:=λj=>by
  by_cases hj:j<3
  ·obtain⟨z,rz,hz⟩:=dZ (n:=n) ns (at_+(j:Int)) (ls.length:Nat) (by omega) (by omega);have hz':z<ls.length:=by omega
   exact⟨ls[z],bI hz',λ_=>⟨z,rz,aj hz'⟩⟩
  ·exact⟨ls[0],bI hl,λz=>absurd z hj⟩
 let ch:Nat->Nat:=λj=>(hch j).choose;refine⟨(ax (1+q)).map ch,?_,by simp;omega,by simp;omega,λc hc=>?_⟩
 ·rw[bc,bc];refine mh (l_:=1+q) (fl:=d_) ?_ (by omega) (λj hj=>⟨d_,?_⟩) λj _=>rfl
  ·simp only[ki,bM,gP,bO,fR,eV,aT,bf,bD,aK,af,jh,r];rw[show(1:Int)+(q:Int)=((1+q:Nat):Int) by omega]
  ·obtain⟨h1,h2⟩:=(hch j).choose_spec;obtain⟨z,rz,hz⟩:=h2 (by omega);have hx:lN (ls.map λc=>Dat.str (T [c])) (z:Int)=a_ (.str (T [ch j])):=jA (by rw[aW,hz];rfl);have hlen:eD .len [.lst (ls.map λc=>Dat.str (T [c]))]=a_ (.int (ls.length:Nat),d_):=by rw[iH,ah]
   show bF _ _ [a_ (Dat.int (j:Nat)),a_ (.int at_),a_ (.lst (ls.map λc=>.str (T [c]))),a_ (.lst (ns.map Dat.int))]=_;simp only[nZ,jf,bM,gP,bO,fR,ki,eV,hlen,aT,bf,bD,aK,af,jh,rz,Eo,hx];rfl
 ·obtain⟨j,_,rfl⟩:=aQ.mp hc;exact(hch j).choose_spec.1
def F6{n:Nat}{ns:List Int}{at_:Int}{st nu mo:Nat}{ls:List Nat}(h0:0<=at_/\at_<=9000)(hs:st<3)(hn:nu<=100)(hm:0<mo/\mo<=4)(hl:0<ls.length)(hlo:∀c∈ls,c∈jE) :
  ∃(f:Fm) (fr:Bool),Cn D (n+3) 26 [.lst (ns.map Dat.int),.int at_,.int (st:Nat),.int (nu:Nat),.lst (ls.map λc=>.str (T [c])),.int (mo:Nat)]=a_ (dS f,fr)/\oA f/\∀c∈f.1,c∈ls:=by
 obtain⟨W,hW,w0,w3,wl⟩:=TM (n:=n+1) (ns:=ns) (at_:=at_) (ls:=ls) (by omega) hl (a_ (.int (st:Nat))) (a_ (.int (nu:Nat))) (a_ (.int (mo:Nat))) b_ b_ b_ b_;unfold WX at hW;obtain⟨q4,r4,b4⟩:=dZ (n:=n+1) ns (at_+4) 15 (by omega) (by omega);obtain⟨q5,r5,b5⟩:=dZ (n:=n+1) ns (at_+5) (mo:Nat) (by omega) (by omega);have e4:(1:Int)+(q4:Int)=((1+q4:Nat):Int):=by omega
 have e5:(1:Int)+(q5:Int)=((1+q5:Nat):Int):=by omega
 obtain⟨cs,hc,cl,cr⟩:=qR (n:=n) (ns:=ns) (at_:=at_+6) (st:=st) (nu:=nu) (l_:=1+q5) (by omega) hs hn (by omega);have hjn:=xT (ws:=W.map λc=>[c]) (by rw[Vi];omega);rw[PY]at hjn;have hp:=λa0 a1 a2 a3 a4 a5 a6 a8 a9=>Q3 (C:=Cn D (n+2)) (a0:=a0) (a1:=a1) (a2:=a2) (a3:=a3) (a4:=a4) (a5:=a5) (a6:=a6) (a8:=a8) (a9:=a9) (k:=1+q4) (by omega);have hpp:∃k,1<=k/\k<16/\Gp (1+q4)=Gp k:=⟨1+q4,by omega,by omega,rfl⟩
 generalize Gp (1+q4)=P at hp hpp;unfold PX at hp;rw[Y2]at hp;refine⟨(W,cs,P),c_,dE (C:=Cn D (n+2)) (np:=6) (nl:=10) (body:=YI) rfl ?_,⟨by intro e;rw[show W=[]from e]at w0;simp at w0,λc hc=>hlo c (wl c hc),by show W.length<=6;omega,by show 0<cs.length;omega,by show cs.length<=4;omega,cr,hpp⟩,wl⟩;unfold YI;rw[Y2];have himc:im (.tup (cs.map Dat.int))=c_:=cT cs;clear w0 w3 wl cl cr hlo hpp;walk_at "py"
structure UW(m0 m1 m2 m3 fg:List Int):Prop where
 l0:m0.length<=2
 l1:m1.length<=2
 l2:m2.length<=2
 l3:m3.length<=2
 lf:fg.length<=10
 r0:∀c∈m0,A7 c
 r1:∀c∈m1,A7 c
 r2:∀c∈m2,A7 c
 r3:∀c∈m3,A7 c
 rf:∀c∈fg,A7 c
 k1:m1≠[]->m0≠[]
 k2:m2=[]↔fg=[]
 k3:m3=[]↔fg=[]
def Rk{ms:List Dat}{k:Nat}(h:k<ms.length)(hk:k<=1000)(x:Dat):gX .seti (.lst ms) [x,.int (k:Nat)]=a_ (.lst (ms.set k x)):=by
 show(if -1000000<=(k:Int)/\(k:Int)<=1000000 then(xG x (k:Int) ms).map Dat.lst else b_)=_;rw[if_pos (by omega)];have:Em ms.length (k:Int)=a_ k:=by unfold Em;rw[if_pos (by omega),if_pos (by omega)];simp
 unfold xG;rw[this];rfl
noncomputable abbrev EM(ns:List Int)(st:Nat)(ms:List Dat)(fg:List Int)(w:Nat)(z:g_):cF:=[a_ (.lst (ns.map Dat.int),d_),a_ (.int (st:Nat),d_),a_ (.lst ms,c_),a_ (tI fg,d_),a_ (.int (w:Nat),d_),z]
def yC{n:Nat}(ns:List Int){st:Nat}(hs:st<3)(w k:Nat)(hk:k<4):∃c:List Int,c≠[]/\c.length<=2/\(∀x∈c,A7 x)/\∀ms fg,ms.length=4->bN (Cn D (n+2)) Ka (EM ns st ms fg w (a_ (.int (k:Nat),d_)))=a_ (.nx (EM ns st (ms.set k (tI c)) fg w (a_ (.int (k:Nat),d_)))):=by
 obtain⟨m,hm,hm1,hm2⟩:∃m:Nat,(1:Int)+(if((w:Int) == (k:Int))=c_ then 1 else 0)=(m:Nat)/\0<m/\m<=2:=by
  by_cases h:((w:Int) == (k:Int))=c_
  ·exact⟨2,by rw[if_pos h];rfl,by omega,by omega⟩
  ·exact⟨1,by rw[if_neg h];rfl,by omega,by omega⟩
 obtain⟨c,rc,cl,cr⟩:=qR (n:=n) (ns:=ns) (at_:=82+2 * (k:Int)) (st:=st) (nu:=20+k) (l_:=m) (by omega) hs (by omega) (by omega);refine⟨c,λe=>by rw[e]at cl;simp at cl;omega,by omega,cr,λms fg hl=>?_⟩;have hp:=Rk (ms:=ms) (k:=k) (by omega) (by omega) (tI c);have e20:(20:Int)+(k:Int)=((20+k:Nat):Int):=by omega
 have hmul:e8 .mul (.int 2) (.int (k:Nat))=a_ (.int (2 * (k:Nat)),d_):=fN (by omega) (by omega);have himc:im (.tup (c.map Dat.int))=c_:=cT c;unfold Ka;clear hl cl cr;walk_at "py"
def Sl{n:Nat}(ns:List Int){st:Nat}(hs:st<3)(w:Nat)(fg:List Int):∃c0 c1 c2 c3:List Int,(∀c∈[c0,c1,c2,c3],c≠[]/\c.length<=2/\∀x∈c,A7 x)/\fE (Cn D (n+2)) (.loop c_ [5] (.rng [(.e_ 4)]) Ka) (EM ns st [.tup [],.tup [],.tup [],.tup []] fg w b_)=a_ (.nx (EM ns st [tI c0,tI c1,tI c2,tI c3] fg w (a_ (.int 3,d_)))):=by
 obtain⟨c0,a0,b0,d0,r0⟩:=yC (n:=n) ns hs w 0 (by omega);obtain⟨c1,a1,b1,d1,r1⟩:=yC (n:=n) ns hs w 1 (by omega);obtain⟨c2,a2,b2,d2,r2⟩:=yC (n:=n) ns hs w 2 (by omega);obtain⟨c3,a3,b3,d3,r3⟩:=yC (n:=n) ns hs w 3 (by omega);refine⟨c0,c1,c2,c3,λc hc=>?_,?_⟩
 ·simp only[ao,bG,or_false]at hc
  rcases hc with rfl|rfl|rfl|rfl
  ·exact⟨a0,b0,d0⟩
  ·exact⟨a1,b1,d1⟩
  ·exact⟨a2,b2,d2⟩
  ·exact⟨a3,b3,d3⟩
 rw[me];have hi:tU (Cn D (n+2)) (.rng [(.e_ 4)]) (full (EM ns st [.tup [],.tup [],.tup [],.tup []] fg w b_))=a_ [.int (0:Nat),.int (1:Nat),.int (2:Nat),.int (3:Nat)]:=rfl;rw[hi];have q0:=r0 [.tup [],.tup [],.tup [],.tup []] fg rfl;have q1:=r1 [tI c0,.tup [],.tup [],.tup []] fg rfl;have q2:=r2 [tI c0,tI c1,.tup [],.tup []] fg rfl;have q3:=r3 [tI c0,tI c1,tI c2,.tup []] fg rfl;simp only[af,dn,dC,gZ,ck,q0,q1,q2,q3,nO];rfl
def Ul:YH=[(.set 2 (.lst [(.tup []),(.tup []),(.tup []),(.tup [])])),(.set 3 (.tup [])),(.set 4 (.call 24 [(.v 0),(.e_ 80),(.e_ 24)])),.loop c_ [5] (.rng [(.e_ 4)]) Ka,sA,sB,sC,sD,.ret (.tup [(.v 2),(.v 3)])]:=rfl
def XR{n:Nat}(ns:List Int)(st w:Nat)(c0 c1 c2 c3 fg:List Int)(z:g_):∃c1':List Int,(c1'=[]\/c1'=c1)/\fE (Cn D (n+2)) sA (EM ns st [tI c0,tI c1,tI c2,tI c3] fg w z)=a_ (.nx (EM ns st [tI c0,tI c1',tI c2,tI c3] fg w z)):=by
 obtain⟨q,r,hq⟩:=dZ (n:=n+1) ns 90 2 (by omega) (by omega);have fc:=@pv;unfold sA
 cases h:((q:Int) == 0)with
 |true=>
   refine⟨[],.inl rfl,?_⟩;have hp:=VD (tI c0) (tI c1) (tI c2) (tI c3) (.tup []);walk_at "py"<;>rfl
 |false=>
   refine⟨c1,.inr rfl,?_⟩;walk_at "py"<;>rfl
def OF{n:Nat}(ns:List Int)(y1 y2 y3 y4 y5:Option Dat):∃fg:List Int,bF (Cn D (n+1)) Zx [a_ (.lst (ns.map Dat.int)),y1,y2,y3,y4,y5]=a_ (.lst (fg.map Dat.int),c_)/\fg≠[]/\fg.length<=2/\∀c∈fg,A7 c:=by
 obtain⟨q,r,hq⟩:=dZ (n:=n) ns 93 2 (by omega) (by omega);obtain⟨B,rB,hB⟩:=dZ (n:=n) ns 92 63 (by omega) (by omega);refine⟨(ax (1+q)).map λj:Nat=>1+((B:Int)+11 * (j:Int)) % 63,?_,by simp,by simp;omega,λc hc=>?_⟩
 ·rw[bc];refine mh (l_:=1+q) (fl:=d_) ?_ (by omega) (λj hj=>⟨d_,?_⟩) λj _=>rfl
  ·simp only[ki,bM,gP,bO,fR,eV,aT,bf,bD,aK,af,jh,r];rw[show(1:Int)+(q:Int)=((1+q:Nat):Int) by omega]
  ·have hl:e8 .mul (.int 11) (.int (j:Nat))=a_ (.int (11 * (j:Nat)),d_):=fN (by omega) (by omega);have hmd:=kP (i:=(B:Int)+11 * (j:Int)) (j:=63) (by omega);show bF _ _ [a_ (Dat.int (j:Nat)),a_ (.lst (ns.map Dat.int))]=_;simp only[bM,gP,bO,fR,ki,eV,aT,bf,bD,aK,af,jh,rB,hl,hmd];rfl
 ·obtain⟨j,_,rfl⟩:=aQ.mp hc;exact yy B j
def ZI{n:Nat}(ns:List Int)(st w:Nat)(ms:List Dat)(z:g_):∃fg:List Int,fg.length<=2/\(∀c∈fg,A7 c)/\fE (Cn D (n+2)) sB (EM ns st ms [] w z)=a_ (.nx (EM ns st ms fg w z)):=by
 obtain⟨q,r,hq⟩:=dZ (n:=n+1) ns 91 2 (by omega) (by omega);have fc:=@pv;unfold sB
 cases h:((q:Int) == 0)with
 |true=>
   obtain⟨fg,rf,f1,f2,f3⟩:=OF (n:=n+1) ns (a_ (.int (st:Nat))) (a_ (.lst ms)) (a_ (tI [])) (a_ (.int (w:Nat))) (z.map (·.1));refine⟨fg,f2,f3,?_⟩;have himc:im (.tup (fg.map Dat.int))=c_:=cT fg;clear f1 f2 f3;walk_at "py"<;>rfl
 |false=>
   refine⟨[],by simp,λc hc=>(nomatch hc),?_⟩;walk_at "py"<;>rfl
def stC{n:Nat}(ns:List Int)(st w:Nat)(c0 c1 c2 c3 fg:List Int)(z:g_)(h2:c2≠[])(h3:c3≠[]):∃c2' c3':List Int,(c2'=[]\/c2'=c2)/\(c3'=[]\/c3'=c3)/\(c2'=[]↔fg=[])/\(c3'=[]↔fg=[])/\fE (Cn D (n+2)) sC (EM ns st [tI c0,tI c1,tI c2,tI c3] fg w z)=a_ (.nx (EM ns st [tI c0,tI c1,tI c2',tI c3'] fg w z)):=by
 have fc:=@pv;have hl:eD .len [tI fg]=a_ (.int (fg.length:Nat),d_):=by rw[kO,ah]
 unfold sC
 cases h:(((fg.length:Nat):Int) == 0)with
 |true=>
   have e:fg=[]:=by simpa using h
   refine⟨[],[],.inl rfl,.inl rfl,by simp[e],by simp[e],?_⟩;have hp:=put2 (tI c0) (tI c1) (tI c2) (tI c3) (.tup []);have hq:=put3 (tI c0) (tI c1) (.tup []) (tI c3) (.tup []);clear e;walk_at "py"<;>rfl
 |false=>
   have e:fg≠[]:=by intro e;rw[e]at h;simp at h
   refine⟨c2,c3,.inr rfl,.inr rfl,by simp[e,h2],by simp[e,h3],?_⟩;clear e;walk_at "py"<;>rfl
def ZH{n:Nat}(ns:List Int)(st w:Nat)(c0 c1 c2 c3 fg:List Int)(z:g_)(h0:c0≠[]):∃c0' c1':List Int,(c0'=[]\/c0'=c0)/\(c1'=[]\/c1'=c1)/\(c1'≠[]->c0'≠[])/\fE (Cn D (n+2)) sD (EM ns st [tI c0,tI c1,tI c2,tI c3] fg w z)=a_ (.nx (EM ns st [tI c0',tI c1',tI c2,tI c3] fg w z)):=by
 obtain⟨q,r,hq⟩:=dZ (n:=n+1) ns 94 2 (by omega) (by omega);have fc:=@pv;have hl:eD .len [tI fg]=a_ (.int (fg.length:Nat),d_):=by rw[kO,ah]
 unfold sD
 cases h:(decide (0<((fg.length:Nat):Int)) && ((q:Int) == 0))with
 |true=>
   rw[aq]at h;obtain⟨g1,g2⟩:=h;refine⟨[],[],.inl rfl,.inl rfl,λz=>absurd rfl z,?_⟩;have hp:=X2 (tI c0) (tI c1) (tI c2) (tI c3) (.tup []);have hq:=VD (.tup []) (tI c1) (tI c2) (tI c3) (.tup []);walk_at "py"<;>rfl
 |false=>
   refine⟨c0,c1,.inr rfl,.inr rfl,λ_=>h0,?_⟩
   cases g1:decide (0<((fg.length:Nat):Int))with
   |false=>walk_at "py"<;>rfl
   |true=>
     rw[g1,jk]at h;walk_at "py"<;>rfl
def F8{n:Nat}(ns:List Int){st:Nat}(hs:st<3):∃(m0 m1 m2 m3 fg:List Int),Cn D (n+3) 27 [.lst (ns.map Dat.int),.int (st:Nat)]=a_ (.tup [.lst [tI m0,tI m1,tI m2,tI m3],tI fg],d_)/\UW m0 m1 m2 m3 fg/\fg.length<=2:=by
 obtain⟨w,rw_,hw⟩:=dZ (n:=n+1) ns 80 24 (by omega) (by omega);obtain⟨c0,c1,c2,c3,hc,l0⟩:=Sl (n:=n) ns hs w [];have h0:=hc c0 (by simp);have h1:=hc c1 (by simp);have h2:=hc c2 (by simp);have h3:=hc c3 (by simp);obtain⟨d1,q1,l1⟩:=XR (n:=n) ns st w c0 c1 c2 c3 [] (a_ (.int 3,d_));obtain⟨fg,f2,f3,l2⟩:=ZI (n:=n) ns st w [tI c0,tI d1,tI c2,tI c3] (a_ (.int 3,d_));obtain⟨d2,d3,q2,q3,k2,k3,l3⟩:=stC (n:=n) ns st w c0 d1 c2 c3 fg (a_ (.int 3,d_)) h2.1 h3.1;obtain⟨e0,e1,q4,q5,k4,l4⟩:=ZH (n:=n) ns st w c0 d1 d2 d3 fg (a_ (.int 3,d_)) h0.1
 have ok:∀{a b:List Int},(a=[]\/a=b)->(b.length<=2/\∀x∈b,A7 x)->a.length<=2/\∀x∈a,A7 x:=λ{a b}h g=>by
  rcases h with rfl|rfl
  ·exact⟨by simp,λx hx=>by cases hx⟩
  ·exact g
 have a0:=ok q4 h0.2;have a1:=ok q5 (ok q1 h1.2);have a2:=ok q2 h2.2;have a3:=ok q3 h3.2;refine⟨e0,e1,d2,d3,fg,dE (C:=Cn D (n+2)) (np:=2) (nl:=6) (body:=YH) rfl ?_,⟨a0.1,a1.1,a2.1,a3.1,by omega,a0.2,a1.2,a2.2,a3.2,f3,k4,k2,k3⟩,f2⟩;rw[Ul];have s1:fE (Cn D (n+2)) (.set 2 (.lst [(.tup []),(.tup []),(.tup []),(.tup [])])) [a_ (.lst (ns.map Dat.int),d_),a_ (.int (st:Nat),d_),b_,b_,b_,b_]=a_ (.nx [a_ (.lst (ns.map Dat.int),d_),a_ (.int (st:Nat),d_),a_ (.lst [.tup [],.tup [],.tup [],.tup []],c_),b_,b_,b_]):=rfl;have s2:fE (Cn D (n+2)) (.set 3 (.tup [])) [a_ (.lst (ns.map Dat.int),d_),a_ (.int (st:Nat),d_),a_ (.lst [.tup [],.tup [],.tup [],.tup []],c_),b_,b_,b_]=a_ (.nx [a_ (.lst (ns.map Dat.int),d_),a_ (.int (st:Nat),d_),a_ (.lst [.tup [],.tup [],.tup [],.tup []],c_),a_ (.tup [],d_),b_,b_]):=rfl
 have s3:fE (Cn D (n+2)) (.set 4 (.call 24 [(.v 0),(.e_ 80),(.e_ 24)])) [a_ (.lst (ns.map Dat.int),d_),a_ (.int (st:Nat),d_),a_ (.lst [.tup [],.tup [],.tup [],.tup []],c_),a_ (.tup [],d_),b_,b_]=a_ (.nx (EM ns st [.tup [],.tup [],.tup [],.tup []] [] w b_)):=by
  walk_at "py"<;>rfl
 refine(bP s1).trans ((bP s2).trans ((bP s3).trans ((bP l0).trans ((bP l1).trans ((bP l2).trans ((bP l3).trans ((bP l4).trans ?_)))))));rfl
noncomputable abbrev wM(ns:List Int)(st:Nat)(mk:Bool)(l_:Nat)(ls:List Nat)(acc:List Fm)(z4 z7 z8 z9:g_):cF:=[a_ (.lst (ns.map Dat.int),d_),a_ (.int (st:Nat),d_),a_ (.bl mk,d_),a_ (.int (l_:Nat),d_),z4,a_ (.lst (ls.map λc=>.str (T [c])),c_),a_ (.lst (acc.map dS),c_),z7,z8,z9,b_,b_]
def Ki{acc:List Fm}{f:Fm}{q:Nat}(hl:acc.length<=1000)(hq:q<=1000):gX .ins (.lst (acc.map dS)) [.int (q:Nat),dS f]=a_ (.lst ((insI f (q:Int) acc).map dS)):=by
 simp only[gX,zr,zq,zp,zm,zo];rw[if_pos (by rw[ah,bB];omega),<-Aq]
def Xb:vm=Gp 15:=by decide
def vJ{α:Type}{x:α}{i:Int}{xs:List α}:x∈insI x i xs:=by
 unfold insI;simp
def WW{n:Nat}(ns:List Int){st:Nat}(hs:st<3)(mk:Bool)(l_:Nat){ls:List Nat}(hl:∀c∈ls,c∈jE){j:Nat}(hj:j<ls.length)(h6:ls.length<=6){acc:List Fm}(ha:acc.length<=100):∃(f:Fm) (q:Nat) (z7 z8:g_),oA f/\f.1=[ls[j]]/\f.2.2=vm/\∀y7 y8 y9,
  bN (Cn D (n+2)) Sn (wM ns st mk l_ ls acc (a_ (.int (j:Nat),d_)) y7 y8 y9)=a_ (.nx (wM ns st mk l_ ls (insI f (q:Int) acc) (a_ (.int (j:Nat),d_)) z7 z8 y9)):=by
 obtain⟨q10,r10,Xr⟩:=dZ (n:=n+1) ns (10+(j:Int)) 6 (by omega) (by omega);obtain⟨q45,r45,b45⟩:=dZ (n:=n+1) ns (45+(j:Int)) ((acc.length:Int)+1) (by omega) (by omega)
 obtain⟨m,hm,hm1,hm2⟩:∃m:Nat,(1:Int)+(if(!mk && ((q10:Int) == 0))=c_ then 1 else 0)=(m:Nat)/\0<m/\m<=2:=by
  by_cases h:(!mk && ((q10:Int) == 0))=c_
  ·exact⟨2,by rw[if_pos h];rfl,by omega,by omega⟩
  ·exact⟨1,by rw[if_neg h];rfl,by omega,by omega⟩
 obtain⟨cs,rc,cl,cr⟩:=qR (n:=n) (ns:=ns) (at_:=20+4 * (j:Int)) (st:=st) (nu:=j) (l_:=m) (by omega) hs (by omega) (by omega);have hx:lN (ls.map λc=>Dat.str (T [c])) (j:Int)=a_ (.str (T [ls[j]])):=jA (by simp[hj]);have hmul:e8 .mul (.int 4) (.int (j:Nat))=a_ (.int (4 * (j:Nat)),d_):=fN (by omega) (by omega);have himc:im (.tup (cs.map Dat.int))=c_:=cT cs;have hmt:=Ki (acc:=acc) (f:=([ls[j]],cs,vm)) (q:=q45) (by omega) (by omega);have hlen8:eD .len [.lst (acc.map dS)]=a_ (.int (acc.length:Nat),d_):=by rw[iH,ah]
 have him8:im (.tup [.str (T [ls[j]]),.tup (cs.map Dat.int),.str (T vm)])=c_:=Kn ([ls[j]],cs,vm);refine⟨([ls[j]],cs,vm),q45,a_ (.int (m:Nat),d_),a_ (.tup [.str (T [ls[j]]),.tup (cs.map Dat.int),.str (T vm)],d_),⟨by simp,λc h=>by rw[aF.mp h];exact hl _ (bI hj),by simp,by show 0<cs.length;omega,by show cs.length<=4;omega,cr,15,by omega,by omega,Xb⟩,rfl,rfl,λy7 y8 y9=>?_⟩;unfold Sn;rw[Zu];have fc:=@pv;generalize hf:[ls[j]]=L1 at *;clear cl cr hl hj ha h6 hf b45
 cases mk with
 |false=>
   rw[iQ,jk]at hm;walk_at "py"<;>rfl
 |true=>
   rw[dh,jI,if_neg bh]at hm;walk_at "py"<;>rfl
structure vP(ls:List Nat)(k:Nat)(acc:List Fm):Prop where
 len:acc.length=k
 ok:∀f∈acc,oA f
 one:∀f∈acc,∃(j:Nat) (h:j<ls.length),j<k/\f.1=[ls[j]]
 own:∀(j:Nat)(h:j<ls.length),j<k->∃g∈acc,g.1=[ls[j]]/\g.2.2=vm
 nd:(acc.map ent).Nodup
def Aa{α β:Type}(g:α->β)(x:α)(i:Int)(xs:List α):(insI x i xs).map g=insI (g x) i (xs.map g):=(Aq g x i xs).symm
def vP.ins{ls:List Nat}{k:Nat}{acc:List Fm}(o:vP ls k acc)(hn:ls.Nodup)(hk:k<ls.length){f:Fm}(hf:oA f)(h1:f.1=[ls[k]])(h2:f.2.2=vm)(q:Int):vP ls (k+1) (insI f q acc):=by
 refine⟨by rw[Ae,o.len],λg hg=>?_,λg hg=>?_,λj hj hjk=>?_,?_⟩
 ·rcases p8 hg with rfl|hg
  ·exact hf
  ·exact o.ok g hg
 ·rcases p8 hg with rfl|hg
  ·exact⟨k,hk,by omega,h1⟩
  ·obtain⟨j,hj,a,b⟩:=o.one g hg;exact⟨j,hj,by omega,b⟩
 ·by_cases e:j=k
  ·subst e;exact⟨f,vJ,h1,h2⟩
  ·obtain⟨g,a,b,c⟩:=o.own j hj (by omega);exact⟨g,Ap a,b,c⟩
 ·rw[Aa];refine uD (λm=>?_) o.nd;obtain⟨g,hg,e⟩:=aQ.mp m;obtain⟨j,hj,a,b⟩:=o.one g hg;have e1:g.1=f.1:=(Bn.mp e).1;rw[b,h1]at e1;have e2:ls[j]=ls[k]:=by simpa using e1
  have:=(LF hn).mp e2;omega
theorem PK{n:Nat}(ns:List Int){st:Nat}(hs:st<3)(mk:Bool)(l_:Nat){ls:List Nat}(hn:ls.Nodup)(hl:∀c∈ls,c∈jE)(h6:ls.length<=6):∀(m k:Nat) (acc:List Fm) (z4 z7 z8 z9:g_),k+m=ls.length->vP ls k acc->
  ∃(acc':List Fm) (z4' z7' z8':g_),vP ls ls.length acc'/\dn (dC c_ [4]) (bN (Cn D (n+2)) Sn) ((List.range' k m).map λj:Nat=>Dat.int j) (wM ns st mk l_ ls acc z4 z7 z8 z9)=a_ (.nx (wM ns st mk l_ ls acc' z4' z7' z8' z9))
 |0,k,acc,z4,z7,z8,z9,hk,o=>⟨acc,z4,z7,z8,by rw[<-hk];exact o,rfl⟩
 |m+1,k,acc,z4,z7,z8,z9,hk,o=>by
   have hkl:k<ls.length:=by omega
   obtain⟨f,q,y7,y8,g1,g2,g3,r⟩:=WW (n:=n) ns hs mk l_ hl hkl h6 (acc:=acc) (by rw[o.len];omega);obtain⟨acc',w4,w7,w8,o',r'⟩:=PK (n:=n) ns hs mk l_ hn hl h6 m (k+1) (insI f (q:Int) acc) (a_ (.int (k:Nat),d_)) y7 y8 z9 (by omega) (o.ins hn hkl g1 g2 g3 _);refine⟨acc',w4,w7,w8,o',?_⟩;rw[LC,ag];simp only[dn,dC,gZ,ck,af,r,nO];exact r'
noncomputable def V7:List Sx:=[(.set 9 (.bin .add (.e_ 2) (.bin .mul (.e_ 2) (.blt .int [(.and (.cmp .eq (.v 4) (.e_ 0)) (.and (.not (.v 2)) (.cmp .eq (.call 24 [(.v 0),(.e_ 7),(.e_ 4)]) (.e_ 0))))])))),(.set 8 (.call 26 [(.v 0),(.bin .add (.e_ 300) (.bin .mul (.e_ 12) (.v 4))),(.v 1),(.bin .add (.e_ 10) (.v 4)),(.v 5),(.v 9)])),(.ifs (.cmp .nin (.sl (.v 8) b_ (a_ (.e_ 2))) YV) [(.mut .ins 6 [(.call 24 [(.v 0),(.bin .add (.e_ 52) (.v 4)),(.bin .add (.blt .len [(.v 6)]) (.e_ 1))]),(.v 8)])] [])]
structure Kv(ls:List Nat)(fs:List Fm):Prop where
 ok:∀f∈fs,oA f
 nd:(fs.map ent).Nodup
 sub:∀f∈fs,∀c∈f.1,c∈ls
 own:∀c∈ls,∃g∈fs,g.1=[c]/\g.2.2=vm
def Kv.ins{ls:List Nat}{fs:List Fm}(o:Kv ls fs){f:Fm}(hf:oA f)(hs:∀c∈f.1,c∈ls)(hn:ent f∉fs.map ent)(q:Int):Kv ls (insI f q fs):=by
 refine⟨λg hg=>?_,?_,λg hg=>?_,λc hc=>?_⟩
 ·rcases p8 hg with rfl|hg
  ·exact hf
  ·exact o.ok g hg
 ·rw[Aa];exact uD hn o.nd
 ·rcases p8 hg with rfl|hg
  ·exact hs
  ·exact o.sub g hg
 ·obtain⟨g,a,b⟩:=o.own c hc;exact⟨g,Ap a,b⟩
abbrev Oo(f:Fm):Dat:=.tup [.str (T f.1),.tup (f.2.1.map Dat.int)]
def WI{C:Fs}{acc:List Fm}(ha:acc.length<=100)(y0 y1 y2 y3 y4 y5 y7 y8 y9 y10 y11:Option Dat):bF C YV [y0,y1,y2,y3,y4,y5,a_ (.lst (acc.map dS)),y7,y8,y9,y10,y11]=a_ (.lst (acc.map Oo),c_):=by
 refine jc (items:=acc.map dS) ?_ (by rw[ah];omega) ?_
 ·simp only[EH,eV,aT,bf,bD,aK,af,Ak]
 have:=oy (f:=iG C 1 c_ (fJ 1 [] [y0,y1,y2,y3,y4,y5,a_ (.lst (acc.map dS)),y7,y8,y9,y10,y11]) [] (.sl (.v 0) b_ (a_ (.e_ 2)))) (g:=λd=>match d with | .tup [a,b,c]=>.tup [a,b]|_=>.non) (ds:=acc.map dS) ?_ ?_
 ·rw[this,bc];rfl
 ·intro d hd';obtain⟨g,hg,rfl⟩:=aQ.mp hd';refine⟨d_,?_⟩;rw[mi];simp only[fJ,fB,ag,cm,gn,fL,ck,AL,eV,E8,vb,D1,bM,aT,bD,aK,af,MG]
 ·intro d hd';obtain⟨g,hg,rfl⟩:=aQ.mp hd';show(c_ && (iX (g.2.1.map Dat.int) && c_))=c_;rw[cT];rfl
theorem wd:∀acc:List Fm,dm 20 (acc.map Oo)=c_
 |[]=>rfl
 |g::r=>by rw[ag];show(fx 20 _ && dm 20 _)=c_;rw[zz,wd r];rfl
def Ts(g f:Fm):jT (Oo g) (Oo f)=decide (ent g=ent f):=by
 show((T g.1 == T f.1) && (kM (g.2.1.map Dat.int) (f.2.1.map Dat.int) && c_))=_;rw[Lr,wL,fq];by_cases h1:g.1=f.1
 ·by_cases h2:g.2.1=f.2.1
  ·rw[decide_eq_true h1,decide_eq_true h2,decide_eq_true (show ent g=ent f from jj h1 h2)];rfl
  ·rw[decide_eq_false h2,iR,decide_eq_false (show¬ent g=ent f from λz=>h2 (Bn.mp z).2)]
 ·rw[decide_eq_false h1,jI,decide_eq_false (show¬ent g=ent f from λz=>h1 (Bn.mp z).1)]
theorem Fc(f:Fm):∀acc:List Fm,((acc.map Oo).any λy=>jT y (Oo f))=decide (ent f∈acc.map ent)
 |[]=>rfl
 |g::r=>by
   rw[ag,fQ,Fc f r,Ts];by_cases h:ent g=ent f
   ·simp[h]
   ·have h':¬ent f=ent g:=λz=>h z.symm;simp[h,h']
def X9(f:Fm)(acc:List Fm):dF .nin (Oo f) (.lst (acc.map Oo))=a_ (!decide (ent f∈acc.map ent)):=by
 refine(if_pos (by rw[show fx 20 (Oo f)=c_ from zz f,wd];rfl)).trans ?_;rw[Fc]
def BX:Ex:=.and (.cmp .eq (.v 4) (.e_ 0)) (.and (.not (.v 2)) (.cmp .eq (.call 24 [(.v 0),(.e_ 7),(.e_ 4)]) (.e_ 0)))
def ZP{C:Fs}{ns:List Int}{q:Nat}(r:C 24 [.lst (ns.map Dat.int),.int 7,.int 4]=a_ (.int (q:Nat),d_))(mk:Bool)(j:Nat)(y1 y3 y5 y6 y7 y8 y9 y10 y11:Option Dat):bF C BX [a_ (.lst (ns.map Dat.int)),y1,a_ (.bl mk),y3,a_ (.int (j:Nat)),y5,y6,y7,y8,y9,y10,y11]=a_ (.bl (((j:Int) == 0) && (!mk && ((q:Int) == 0))),d_):=by
 unfold BX;simp only[KN,iY,rL,gP,bO,fR,eV,bM,aT,bf,bD,aK,af,rO,r];cases((j:Int) == 0)<;>cases mk<;>rfl
def WV{n:Nat}(ns:List Int){st:Nat}(hs:st<3)(mk:Bool)(l_:Nat){ls:List Nat}(hl:∀c∈ls,c∈jE)(h0:0<ls.length){j:Nat}(hj:j<10){acc:List Fm}(ha:acc.length<=50)(o:Kv ls acc):∃(acc':List Fm) (z8 z9:g_),acc'.length<=acc.length+1/\Kv ls acc'/\∀y7 y8 y9,
  bN (Cn D (n+3)) V7 (wM ns st mk l_ ls acc (a_ (.int (j:Nat),d_)) y7 y8 y9)=a_ (.nx (wM ns st mk l_ ls acc' (a_ (.int (j:Nat),d_)) y7 z8 z9)):=by
 obtain⟨q7,r7,b7⟩:=dZ (n:=n+2) ns 7 4 (by omega) (by omega);obtain⟨q52,r52,b52⟩:=dZ (n:=n+2) ns (52+(j:Int)) ((acc.length:Int)+1) (by omega) (by omega)
 obtain⟨m,hm,hm1,hm2⟩:∃m:Nat,(2:Int)+2 * (if(((j:Int) == 0) && (!mk && ((q7:Int) == 0)))=c_ then 1 else 0)=(m:Nat)/\0<m/\m<=4:=by
  by_cases h:(((j:Int) == 0) && (!mk && ((q7:Int) == 0)))=c_
  ·exact⟨4,by rw[if_pos h];rfl,by omega,by omega⟩
  ·exact⟨2,by rw[if_neg h];rfl,by omega,by omega⟩
 obtain⟨f,fr,rf,f1,f2⟩:=F6 (n:=n) (ns:=ns) (at_:=300+12 * (j:Int)) (st:=st) (nu:=10+j) (mo:=m) (ls:=ls) (by omega) hs (by omega) (by omega) h0 hl;have e10:(10:Int)+(j:Int)=((10+j:Nat):Int):=by omega
 have hmul:e8 .mul (.int 12) (.int (j:Nat))=a_ (.int (12 * (j:Nat)),d_):=fN (by omega) (by omega);have hc:=λy0 y1 y2 y3 y4 y5 y7 y8 y9 y10 y11=>WI (C:=Cn D (n+3)) (acc:=acc) (by omega) y0 y1 y2 y3 y4 y5 y7 y8 y9 y10 y11;have hnin:=X9 f acc;have hs2:=MG (.str (T f.1)) (.tup (f.2.1.map Dat.int)) (.str (T f.2.2));have hmt:=Ki (acc:=acc) (f:=f) (q:=q52) (by omega) (by omega);have hlen8:eD .len [.lst (acc.map dS)]=a_ (.int (acc.length:Nat),d_):=by rw[iH,ah]
 have him8:im (dS f)=c_:=Kn f;have hmu2:e8 .mul (.int 2) (.int (if(((j:Int) == 0) && (!mk && ((q7:Int) == 0)))=c_ then 1 else 0))=a_ (.int (2 * (if(((j:Int) == 0) && (!mk && ((q7:Int) == 0)))=c_ then 1 else 0)),d_):=fN (by omega) (by omega);have hB:=λy1 y3 y5 y6 y7 y8 y9 y10 y11=>ZP (C:=Cn D (n+3)) (ns:=ns) (q:=q7) r7 mk j y1 y3 y5 y6 y7 y8 y9 y10 y11;unfold BX at hB;generalize (((j:Int) == 0) && (!mk && ((q7:Int) == 0)))=bb at hm hmu2 hB;have fc:=@pv;by_cases hin:ent f∈acc.map ent
 ·refine⟨acc,a_ (dS f,d_),a_ (.int (m:Nat),d_),by omega,o,λy7 y8 y9=>?_⟩;rw[decide_eq_true hin]at hnin;unfold V7;clear hin o f1 f2 hl h0 ha hj b52 b7;walk_at "py"<;>rfl
 ·refine⟨insI f (q52:Int) acc,a_ (dS f,d_),a_ (.int (m:Nat),d_),by rw[Ae];omega,o.ins f1 f2 hin _,λy7 y8 y9=>?_⟩;rw[decide_eq_false hin]at hnin;unfold V7;clear hin o f1 f2 hl h0 ha hj b52 b7;walk_at "py"<;>rfl
theorem PJ{n:Nat}(ns:List Int){st:Nat}(hs:st<3)(mk:Bool)(l_:Nat){ls:List Nat}(hl:∀c∈ls,c∈jE)(h0:0<ls.length):∀(m k:Nat) (acc:List Fm) (z4 z7 z8 z9:g_),k+m<=10->acc.length+m<=50->Kv ls acc->
  ∃(acc':List Fm) (z4' z8' z9':g_),acc'.length<=acc.length+m/\Kv ls acc'/\dn (dC c_ [4]) (bN (Cn D (n+3)) V7) ((List.range' k m).map λj:Nat=>Dat.int j) (wM ns st mk l_ ls acc z4 z7 z8 z9)=a_ (.nx (wM ns st mk l_ ls acc' z4' z7 z8' z9'))
 |0,k,acc,z4,z7,z8,z9,_,_,o=>⟨acc,z4,z8,z9,by omega,o,rfl⟩
 |m+1,k,acc,z4,z7,z8,z9,hk,ha,o=>by
   obtain⟨acc1,y8,y9,g1,g2,r⟩:=WV (n:=n) ns hs mk l_ hl h0 (j:=k) (by omega) (acc:=acc) (by omega) o;obtain⟨acc',w4,w8,w9,a1,a2,r'⟩:=PJ (n:=n) ns hs mk l_ hl h0 m (k+1) acc1 (a_ (.int (k:Nat),d_)) z7 y8 y9 (by omega) (by omega) g2;refine⟨acc',w4,w8,w9,by omega,a2,?_⟩;rw[LC,ag];simp only[dn,dC,gZ,ck,af,r,nO];exact r'
def AY(c:Int):Bool:=decide (1<=c) && decide (c<=63)
def B4{n:Nat}{c:Int}:Cn D (n+1) 0 [.int c]=a_ (.bl (AY c),d_):=by
 refine dE (C:=Cn D n) (np:=1) (nl:=1) (body:=b0) rfl ?_;unfold b0 AY;generalize e1:decide (1<=c)=p;generalize e2:decide (c<=63)=q;cases p<;>cases q<;>walk_at "py"
def uq{n:Nat}{cs:List Int}{lo hi:Int}(hc:∀c∈cs,A7 c)(h1:lo<=cs.length)(h2:(cs.length:Int)<=hi)(hl:cs.length<=1000):Cn D (n+2) 1 [tI cs,.int lo,.int hi]=a_ (.bl c_,d_):=by
 refine dE (C:=Cn D (n+1)) (np:=3) (nl:=3) (body:=b1) rfl ?_;unfold b1
 have h3:bF (Cn D (n+1)) (.comp 1 c_ [] (.itv (.v 0)) [] (.call 0 [.v 0])) [a_ (tI cs),a_ (.int lo),a_ (.int hi)]=a_ (.lst (cs.map λc=>.bl (AY c)),c_):=by
  refine jc (items:=cs.map Dat.int) rfl (by rw[ah];omega) ?_;have:=oy (f:=iG (Cn D (n+1)) 1 c_ (fJ 1 [] [a_ (tI cs),a_ (.int lo),a_ (.int hi)]) [] (.call 0 [.v 0])) (g:=λd=>match d with | .int x=>.bl (AY x)|_=>.non) (ds:=cs.map Dat.int) ?_ ?_
  ·rw[this,bc];rfl
  ·intro d hd;obtain⟨c,_,rfl⟩:=aQ.mp hd;refine⟨d_,?_⟩;rw[mi];simp only[fJ,fB,cm,gn,fL,ck,gP,bO,fR,eV,aT,bD,aK,af,B4]
  ·intro d hd;obtain⟨c,_,rfl⟩:=aQ.mp hd;rfl
 have h4:=Lp AY cs
 have h5:cs.all AY=c_:=aY.mpr λc hm=>by
  have:=hc c hm;unfold AY;rw[decide_eq_true this.1,decide_eq_true this.2];rfl
 rw[h5]at h4;have e1:decide (lo<=(cs.length:Int))=c_:=decide_eq_true h1;have e2:decide ((cs.length:Int)<=hi)=c_:=decide_eq_true h2;have el:eD .len [tI cs]=a_ (.int (cs.length:Nat),d_):=by unfold tI;rw[kO,ah]
 generalize (cs.map λc=>Dat.bl (AY c))=W at h3 h4;generalize tI cs=tc at h3 el ⊢;clear h1 h2 h5 hl hc;walk_at "py"
def zH{n:Nat}{l:List Nat}(h0:l≠[])(h6:l.length<=6)(hl:∀c∈l,c∈jE):Cn D (n+1) 2 [.str (T l)]=a_ (.bl c_,d_):=by
 refine dE (C:=Cn D n) (np:=1) (nl:=1) (body:=b2) rfl ?_;unfold b2;rw[Zv]
 have h1:bF (Cn D n) (.comp 1 c_ [] (.itv (.v 0)) [] (.cmp .isin (.v 0) (.con (.str (T jE))))) [a_ (.str (T l))]=a_ (.lst (l.map λc=>.bl (decide (c∈jE))),c_):=by
  refine jc (items:=l.map λc=>Dat.str (T [c])) Er (by rw[ah];omega) ?_;have:=oy (f:=iG (Cn D n) 1 c_ (fJ 1 [] [a_ (.str (T l))]) [] (.cmp .isin (.v 0) (.con (.str (T jE))))) (g:=λd=>match d with | .str x=>.bl (decide (x.cps.toList.headD 0∈jE))|_=>.non) (ds:=l.map λc=>Dat.str (T [c])) ?_ ?_
  ·rw[this,bc];rfl
  ·intro d hd;obtain⟨c,_,rfl⟩:=aQ.mp hd;refine⟨d_,?_⟩;rw[mi];simp only[fJ,fB,cm,gn,fL,ck,iY,eV,bM,aT,bD,aK,af,SU];rfl
  ·intro d hd;obtain⟨c,_,rfl⟩:=aQ.mp hd;rfl
 have h2:=Lp (λc=>decide (c∈jE)) l;have h5:(l.all λc=>decide (c∈jE))=c_:=aY.mpr λc hm=>decide_eq_true (hl c hm);rw[h5]at h2;have h3:=len_T (l:=l) (by omega)
 have hp:0<l.length:=by
  cases l with
  |nil=>exact absurd rfl h0
  |cons _ _=>simp
 have e1:decide ((1:Int)<=(l.length:Int))=c_:=decide_eq_true (by omega);have e2:decide ((l.length:Int)<=6)=c_:=decide_eq_true (by omega);generalize (l.map λc=>Dat.bl (decide (c∈jE)))=W at h1 h2;clear h0 h6 hl hp h5;walk_at "py"
def Jd(C:Fs):((ax 16).all λk=>k == 0 || um (Ov C 1 1 b3 [.str (T (Gp k))]) (a_ (.bl c_,d_)))=c_:=by kernel_rfl
def IP{n k:Nat}(h1:1<=k)(h2:k<16):Cn D (n+1) 3 [.str (T (Gp k))]=a_ (.bl c_,d_):=by
 have:=aY.mp (Jd (Cn D n)) k (aZ.mpr h2);rw[jt]at this
 rcases this with z|z
 ·have:k=0:=by simpa using z
  omega
 ·exact uk z
def B6{n:Nat}{f:Fm}(h:oA f):Cn D (n+3) 4 [dS f]=a_ (.bl c_,d_):=by
 refine dE (C:=Cn D (n+2)) (np:=1) (nl:=1) (body:=b4) rfl ?_;unfold b4;obtain⟨k,k1,k2,k3⟩:=h.pp;have r1:=zH (n:=n+1) h.ne h.ll h.low;have r2:=uq (n:=n) (cs:=f.2.1) (lo:=1) (hi:=4) h.cr (by have:=h.c1;omega) (by have:=h.cl;omega) (by have:=h.cl;omega);have r3:=IP (n:=n+1) k1 k2;rw[<-k3]at r3;have i0:lN [Dat.str (T f.1),tI f.2.1,.str (T f.2.2)] 0=a_ (.str (T f.1)):=rfl;have i1:lN [Dat.str (T f.1),tI f.2.1,.str (T f.2.2)] 1=a_ (tI f.2.1):=rfl;have i2:lN [Dat.str (T f.1),tI f.2.1,.str (T f.2.2)] 2=a_ (.str (T f.2.2)):=rfl;show bN (Cn D (n+2)) _ [a_ (.tup [Dat.str (T f.1),tI f.2.1,.str (T f.2.2)],d_)]=_;generalize tI f.2.1=tc at r2 i0 i1 i2 ⊢;clear h k3;walk_at "py"
def ltN(a b:Nat):Bool:=decide (a<b)
def Xk:M.LO ltN:=⟨λx=>by simp[ltN],λx y z h h'=>by simp[ltN]at *;omega,λx y h h'=>by simp[ltN]at *;omega⟩
def ZM(a b:Nat):p9 (T [a]) (T [b])=ltN a b:=by
 show decide ([a] < [b])=decide (a<b);refine decide_eq_decide.mpr ⟨λh=>?_,λh=>?_⟩
 ·cases h with
  |rel h=>exact h
  |cons h=>cases h
 ·exact List.Lex.rel h
theorem Ao{α β:Type}{lt:α->α->Bool}{lt':β->β->Bool}{g:α->β}(h:∀a b,lt' (g a) (g b)=lt a b)(x:α):∀l:List α,uN lt' (g x) (l.map g)=(uN lt x l).map g
 |[]=>rfl
 |y::ys=>by
   simp only[ag,uN,h];split
   ·rfl
   ·split
    ·rw[Ao h x ys];rfl
    ·rfl
theorem vY{α β:Type}{lt:α->α->Bool}{lt':β->β->Bool}{g:α->β}(h:∀a b,lt' (g a) (g b)=lt a b):∀l:List α,dQ lt' (l.map g)=(dQ lt l).map g
 |[]=>rfl
 |x::l=>by simp only[ag,dQ,vY h l,Ao h]
abbrev c1(l:List Nat):List Dat:=l.map λc=>Dat.str (T [c])
def Qw{l:List Nat}(h:l.length<4000)(hu:(dQ ltN l).length<64):eD .sset [.str (T l)]=a_ (.lst (c1 (dQ ltN l)),c_):=by
 show sd (dW (T l))=_;rw[DE];unfold sd;rw[vY (lt:=ltN) ZM,if_pos ⟨by rw[ah];omega,by rw[ah];exact hu⟩,bc];rfl
def WS(l:List Nat):c1 l=(l.map λc=>[c]).map λl=>Dat.str (T l):=by rw[bc];rfl
def join_1{l:List Nat}(h:l.length<=1000):j5 .join (.str (T [])) [.lst (c1 l)]=a_ (.str (T l),d_):=by
 have:=xT (ws:=l.map λc=>[c]) (by rw[Vi];omega);rw[PY,<-WS]at this;exact this
def lets(fs:List Fm):List Nat:=(fs.map (·.1)).flatten
def U(fs:List Fm):List Nat:=dQ ltN (lets fs)
def Ad{fs:List Fm}(h:fs.length<=100)(ho:∀f∈fs,oA f):(lets fs).length<=6 * fs.length:=by
 clear h
 induction fs with
 |nil=>simp[lets]
 |cons f r ih=>
   have a:=ih λg m=>ho g (ib _ m);have b:=(ho f hJ).ll;simp only[lets,ag,HJ,aw,aM]at a ⊢;omega
def W7{fs:List Fm}(ho:∀f∈fs,oA f):∀c∈U fs,c∈jE:=λc hc=>by
 rw[U,fm Xk]at hc;obtain⟨l,h1,h2⟩:=LD.mp hc;obtain⟨f,h3,rfl⟩:=aQ.mp h1;exact(ho f h3).low c h2
def W8{fs:List Fm}(ho:∀f∈fs,oA f):(U fs).length<=26:=by
 have hn:(U fs).Nodup:=jy Xk (fU Xk _);have hl:(jE.filter λc=>decide (c∈U fs)).Nodup:=oi pK (by decide)
 have hp:(U fs).Perm (jE.filter λc=>decide (c∈U fs)):=by
  rw[de hn hl];intro c;rw[cz];simp only[decide_eq_true_eq];exact⟨λh=>⟨W7 ho c h,h⟩,λh=>h.2⟩
 rw[hp.length_eq];exact cW (bS _ _) (by decide)
def GZ{C:Fs}{fs:List Fm}{ρ:eW}{it:Iw}(hi:tU C it ρ=a_ (fs.map dS))(h:fs.length<=100):bF C (.comp 1 c_ [] it [] (.ix (.v 0) (.e_ 0))) ρ=a_ (.lst ((fs.map (·.1)).map λl=>.str (T l)),c_):=by
 refine jc (items:=fs.map dS) hi (by rw[ah];omega) ?_;have:=oy (f:=iG C 1 c_ (fJ 1 [] ρ) [] (.ix (.v 0) (.e_ 0))) (g:=λd=>match d with | .tup (a::_)=>a|_=>.non) (ds:=fs.map dS) ?_ ?_
 ·rw[this,bc,bc];rfl
 ·intro d hd';obtain⟨g,hg,rfl⟩:=aQ.mp hd';refine⟨d_,?_⟩;rw[mi];simp only[fJ,fB,cm,gn,fL,ck,nZ,bM,eV,aT,bD,aK,af,En];rfl
 ·intro d hd';obtain⟨g,hg,rfl⟩:=aQ.mp hd';rfl
def GJ{fs:List Fm}(h:fs.length<=100)(ho:∀f∈fs,oA f):j5 .join (.str (T [])) [.lst ((fs.map (·.1)).map λl=>.str (T l))]=a_ (.str (T (lets fs)),d_):=by
 refine xT (ws:=fs.map (·.1)) ?_
 have e:((fs.map (·.1)).map (·.length)).sum=(lets fs).length:=by
  unfold lets;rw[List.length_flatten]
 rw[e];have:=Ad h ho;omega
def F9{n:Nat}{fs:List Fm}(h:fs.length<=100)(ho:∀f∈fs,oA f):Cn D (n+1) 5 [.tup (fs.map dS)]=a_ (.str (T (U fs)),d_):=by
 refine dE (C:=Cn D n) (np:=1) (nl:=1) (body:=b5) rfl ?_;unfold b5;rw[Y2];have h1:=GZ (C:=Cn D n) (fs:=fs) (ρ:=[a_ (.tup (fs.map dS))]) (it:=.itv (.v 0)) rfl h;have h2:=GJ h ho;have hul:=W8 ho;unfold U at hul;have h3:=Qw (l:=lets fs) (by have:=Ad h ho;omega) (by omega);have h4:=join_1 (l:=dQ ltN (lets fs)) (by omega);show _=a_ (Out.rt (.str (T (dQ ltN (lets fs)))) d_);walk_at "py"
def ym{C:Fs}{np nl:Nat}{body:List Sx}{ds:List Dat}{ρ:cF}(h:ds.length=np)(hx:bN C body (ds.map (λd=>a_ (d,d_))++iP (nl - np) b_)=a_ (.nx ρ)):Ov C np nl body ds=a_ (.non,d_):=by
 unfold Ov;rw[if_pos h,hx];rfl
abbrev sT(l:List Nat):Dat:=.str (T l)
def uK{C:Fs}{ts:List Nat}{i:Nat}{body:List Sx}{ρ:cF}{xs:List Dat}(hv:bF C (.v i) (rZ (ka [i] ρ))=a_ (.tup xs,d_)):fE C (.loop d_ ts (.enu (.v i)) body) ρ=dn (dC d_ ts) (bN C body) (n4 0 xs) (ka [i] ρ):=by
 have h:tU C (.enu (.v i)) (rZ (ka [i] ρ))=a_ (n4 0 xs):=by
  show(bF C (.v i) (rZ (ka [i] ρ))).bind _=_;rw[hv];rfl
 show((tU C (.enu (.v i)) (rZ (ka [i] ρ))).map _).bind _=_;rw[h];rfl
theorem Zc{n:Nat}(s0:Dat):∀(fs:List Fm)(k:Nat)(z1 z2:g_),(∀f∈fs,oA f)->∃z1' z2',dn (dC d_ [1,2]) (bN (Cn D (n+3)) Sk) (n4 k (fs.map dS)) [a_ (s0,d_),z1,z2]=a_ (.nx [a_ (s0,d_),z1',z2'])
 |[],k,z1,z2,_=>⟨z1,z2,rfl⟩
 |f::fs,k,z1,z2,h=>by
   have r:=B6 (n:=n) (h f hJ);obtain⟨y1,y2,hl⟩:=Zc (n:=n) s0 fs (k+1) (a_ (.int (k:Nat),d_)) (a_ (dS f,d_)) λg hg=>h g (ib _ hg);refine⟨y1,y2,?_⟩;have hbd:dC d_ [1,2] (.tup [.int (k:Nat),dS f]) [a_ (s0,d_),z1,z2]=a_ [a_ (s0,d_),a_ (.int (k:Nat),d_),a_ (dS f,d_)]:=rfl
   have hb:bN (Cn D (n+3)) Sk [a_ (s0,d_),a_ (.int (k:Nat),d_),a_ (dS f,d_)]=a_ (.nx [a_ (s0,d_),a_ (.int (k:Nat),d_),a_ (dS f,d_)]):=by
    unfold Sk;generalize dS f=FD at r ⊢;clear hl hbd h;walk_at "py"
   rw[ag];simp only[n4,dn,hbd,af,hb];exact hl
def Q7{n:Nat}{fs:List Fm}(hn:fs≠[])(hl:fs.length<=24)(h:∀f∈fs,oA f):Cn D (n+4) 6 [.tup (fs.map dS)]=a_ (.non,d_):=by
 obtain⟨z1,z2,hz⟩:=Zc (n:=n) (.tup (fs.map dS)) fs 0 b_ b_ h;refine ym (C:=Cn D (n+3)) (np:=1) (nl:=3) (body:=b6) (ρ:=[a_ (.tup (fs.map dS),d_),z1,z2]) rfl ?_;have hb:b6=[b6[0],b6[1],.loop d_ [1,2] (.enu (.v 0)) Sk]:=rfl;rw[hb];simp only[b6,List.getElem_cons_zero,Bq]
 have hl':fE (Cn D (n+3)) (.loop d_ [1,2] (.enu (.v 0)) Sk) [a_ (.tup (fs.map dS),d_),b_,b_]=a_ (.nx [a_ (.tup (fs.map dS),d_),z1,z2]):=by
  rw[uK (xs:=fs.map dS) (by rw[eV];rfl)];exact hz
 have e1:((fs.length:Int) == 0)=d_:=beq_false_of_ne (by
  cases fs with
  |nil=>exact absurd rfl hn
  |cons _ _=>simp;omega)
 have e2:decide ((24:Int)<(fs.length:Int))=d_:=decide_eq_false (by omega);have el:eD .len [.tup (fs.map dS)]=a_ (.int (fs.length:Nat),d_):=by rw[kO,ah]
 generalize Sk=body at hl' ⊢;generalize fs.map dS=FS at hl' el ⊢;clear hb hz h hn hl;walk_at "py"
abbrev UU(i:Int):N2:=.inl (.inl i)
def nk(f:Fm):List NK:=[.inl (.inr (T f.1)),.inr (f.2.1.map UU)]
theorem pk:∀cs:List Int,Gv (cs.map Dat.int)=a_ (cs.map UU)
 |[]=>rfl
 |c::r=>by simp only[ag,Gv,PC,pk r,af,aK]
def D7(f:Fm):tK (.tup [sT f.1,tI f.2.1])=a_ (nk f):=by
 simp only[tK,JM,PB,pk,aK,af,nk]
def EA{a b:List Int}(e:a.map UU=b.map UU):a=b:=(qF (λx y z=>nA (nA z))).mp e
def JK{f g:Fm}(h:nk f=nk g):ent f=ent g:=by
 simp only[nk,dw,vv,vt,and_true]at h;exact jj (Be h.1) (EA h.2)
noncomputable def kj(pre:List Fm):Dat:=match pre with
 |[]=>.dct [] []
 |_=>.dcn (pre.map nk)
def MQ{pre:List Fm}{f:Fm}(h:ent f∉pre.map ent):dF .isin (.tup [sT f.1,tI f.2.1]) (kj pre)=a_ d_:=by
 cases pre with
 |nil=>
   show(if c_=c_ then(tK (.tup [sT f.1,tI f.2.1])).map λ_=>d_ else b_)=_;rw[D7];rfl
 |cons a r=>
   show(tK (.tup [sT f.1,tI f.2.1])).map (λk=>decide (k∈(a::r).map nk))=_;rw[D7];refine congrArg a_ (decide_eq_false λm=>?_);obtain⟨g,hg,e⟩:=aQ.mp m;exact h (aQ.mpr ⟨g,hg,JK e⟩)
def IA{pre:List Fm}{f:Fm}(h:ent f∉pre.map ent)(hl:pre.length<1000):gX .dput (kj pre) [.bl c_,.tup [sT f.1,tI f.2.1]]=a_ (kj (pre++[f])):=by
 cases pre with
 |nil=>
   show(if c_=c_ then(tK (.tup [sT f.1,tI f.2.1])).map λk=>Dat.dcn [k]else b_)=_;rw[D7];rfl
 |cons a r=>
   show(tK (.tup [sT f.1,tI f.2.1])).bind (λk=>if((a::r).map nk).length<aE/\k∉(a::r).map nk then a_ (Dat.dcn ((a::r).map nk++[k]))else b_)=_
   have hk:nk f∉(a::r).map nk:=λm=>by
    obtain⟨g,hg,e⟩:=aQ.mp m;exact h (aQ.mpr ⟨g,hg,JK e⟩)
   rw[D7,af,if_pos ⟨by rw[ah,bB];omega,hk⟩];simp[kj]
theorem Zb{C:Fs}(s0:Dat):∀(fs pre:List Fm)(k:Nat)(z2 z3 z4:g_),((pre++fs).map ent).Nodup->(pre++fs).length<1000->∃z2' z3' z4',dn (dC d_ [2,3]) (bN C PF) (n4 k (fs.map dS)) [a_ (s0,d_),a_ (kj pre,c_),z2,z3,z4]=a_ (.nx [a_ (s0,d_),a_ (kj (pre++fs),c_),z2',z3',z4'])
 |[],pre,k,z2,z3,z4,_,_=>⟨z2,z3,z4,by rw[aX];rfl⟩
 |f::fs,pre,k,z2,z3,z4,hnd,hl=>by
   have hno:ent f∉pre.map ent:=λm=>by
    rw[cO,cR]at hnd;exact hnd.2.2 _ m _ (by simp) rfl
   have e1:pre++f::fs=(pre++[f])++fs:=by simp
   obtain⟨y2,y3,y4,hr⟩:=Zb (C:=C) s0 fs (pre++[f]) (k+1) (a_ (.int (k:Nat),d_)) (a_ (dS f,d_)) (a_ (.tup [sT f.1,tI f.2.1],d_)) (by rw[<-e1];exact hnd) (by rw[<-e1];exact hl);refine⟨y2,y3,y4,?_⟩;have hbd:dC d_ [2,3] (.tup [.int (k:Nat),dS f]) [a_ (s0,d_),a_ (kj pre,c_),z2,z3,z4]=a_ [a_ (s0,d_),a_ (kj pre,c_),a_ (.int (k:Nat),d_),a_ (dS f,d_),z4]:=rfl;have q1:=MQ hno;have q2:=IA hno (by rw[aw]at hl;omega);have i0:lN [Dat.str (T f.1),tI f.2.1,.str (T f.2.2)] 0=a_ (.str (T f.1)):=rfl;have i1:lN [Dat.str (T f.1),tI f.2.1,.str (T f.2.2)] 1=a_ (tI f.2.1):=rfl
   have him:im (.tup [sT f.1,tI f.2.1])=c_:=by
    show(c_ && (iX (f.2.1.map Dat.int) && c_))=c_;rw[cT];rfl
   have hb:bN C PF [a_ (s0,d_),a_ (kj pre,c_),a_ (.int (k:Nat),d_),a_ (.tup [Dat.str (T f.1),tI f.2.1,.str (T f.2.2)],d_),z4]=a_ (.nx [a_ (s0,d_),a_ (kj (pre++[f]),c_),a_ (.int (k:Nat),d_),a_ (.tup [Dat.str (T f.1),tI f.2.1,.str (T f.2.2)],d_),a_ (.tup [sT f.1,tI f.2.1],d_)]):=by
    unfold PF;generalize kj (pre++[f])=S2 at q2 ⊢;generalize kj pre=S1 at q1 q2 ⊢;generalize tI f.2.1=tc at q1 q2 i0 i1 him ⊢;clear hr hbd hno e1 hnd hl;walk_at "py"
   rw[ag];simp only[n4,dn,hbd,af];rw[show bN C PF [a_ (s0,d_),a_ (kj pre,c_),a_ (.int (k:Nat),d_),a_ (dS f,d_),z4]=_ from hb];simp only[af];rw[e1];exact hr
def Q4{n:Nat}{fs:List Fm}(hnd:(fs.map ent).Nodup)(hl:fs.length<=24):Cn D (n+1) 7 [.tup (fs.map dS)]=a_ (.non,d_):=by
 obtain⟨z2,z3,z4,hz⟩:=Zb (C:=Cn D n) (.tup (fs.map dS)) fs [] 0 b_ b_ b_ hnd (by simp;omega);refine ym (C:=Cn D n) (np:=1) (nl:=5) (body:=b7) (ρ:=[a_ (.tup (fs.map dS),d_),a_ (kj ([]++fs),c_),z2,z3,z4]) rfl ?_;have hb:b7=[.set 1 .vL,.loop d_ [2,3] (.enu (.v 0)) PF]:=rfl;rw[hb]
 have hl':fE (Cn D n) (.loop d_ [2,3] (.enu (.v 0)) PF) [a_ (.tup (fs.map dS),d_),a_ (.dct [] [],c_),b_,b_,b_]=a_ (.nx [a_ (.tup (fs.map dS),d_),a_ (kj ([]++fs),c_),z2,z3,z4]):=by
  rw[uK (xs:=fs.map dS) (by rw[eV];rfl)];exact hz
 have him:im (.dct [] [])=d_:=rfl;generalize PF=body at hl' ⊢;generalize fs.map dS=FS at hl' ⊢;generalize kj ([]++fs)=SS at hl' ⊢;clear hb hz hnd hl;walk_at "py"
def S10:aa "0123456789"=T [48,49,50,51,52,53,54,55,56,57]:=by decide +kernel
noncomputable abbrev Ib(fs:List Fm)(m0 m1 m2 m3 fg:List Int):Dat:=.tup [.tup (fs.map dS),.tup [tI m0,tI m1,tI m2,tI m3],tI fg]
def ne_nil(cs:List Int):dF .ne (tI cs) (.tup [])=a_ (!decide (cs=[])):=by
 unfold tI;rw[VX (pd 19 _) rfl];cases cs<;>simp[kM]
def eq_nil(cs:List Int):dF .eq (tI cs) (.tup [])=a_ (decide (cs=[])):=by
 unfold tI;rw[Wx (pd 19 _) rfl];cases cs<;>simp[kM]
theorem V5{n:Nat}(s0 s1:Dat):∀(ms:List (List Int))(k:Nat)(z2 z3:g_),(∀m∈ms,m.length<=2/\∀c∈m,A7 c)->∃z2' z3',dn (dC d_ [2,3]) (bN (Cn D (n+2)) Cr) (n4 k (ms.map tI)) [a_ (s0,d_),a_ (s1,d_),z2,z3]=a_ (.nx [a_ (s0,d_),a_ (s1,d_),z2',z3'])
 |[],k,z2,z3,_=>⟨z2,z3,rfl⟩
 |m::ms,k,z2,z3,h=>by
   have hm:=h m hJ;have r:=uq (n:=n) (lo:=0) (hi:=2) hm.2 (by omega) (by have:=hm.1;omega) (by have:=hm.1;omega);obtain⟨y1,y2,hl⟩:=V5 (n:=n) s0 s1 ms (k+1) (a_ (.int (k:Nat),d_)) (a_ (tI m,d_)) λg hg=>h g (ib _ hg);refine⟨y1,y2,?_⟩;have hbd:dC d_ [2,3] (.tup [.int (k:Nat),tI m]) [a_ (s0,d_),a_ (s1,d_),z2,z3]=a_ [a_ (s0,d_),a_ (s1,d_),a_ (.int (k:Nat),d_),a_ (tI m,d_)]:=rfl
   have hb:bN (Cn D (n+2)) Cr [a_ (s0,d_),a_ (s1,d_),a_ (.int (k:Nat),d_),a_ (tI m,d_)]=a_ (.nx [a_ (s0,d_),a_ (s1,d_),a_ (.int (k:Nat),d_),a_ (tI m,d_)]):=by
    unfold Cr;generalize tI m=FD at r ⊢;clear hl hbd h hm;walk_at "py"
   rw[ag];simp only[n4,dn,hbd,af,hb];exact hl
def WU{C:Fs}{m0 m1 m2 m3 fg:List Int}{k:Nat}{m:List Int}(z3:g_)(hk:([m0,m1,m2,m3]:List (List Int))[k]?=a_ m)(h:m=[]↔fg=[]) :
  bN C GA [a_ (.tup [tI m0,tI m1,tI m2,tI m3],d_),a_ (tI fg,d_),a_ (.int (k:Nat),d_),z3]=a_ (.nx [a_ (.tup [tI m0,tI m1,tI m2,tI m3],d_),a_ (tI fg,d_),a_ (.int (k:Nat),d_),z3]):=by
 have i1:lN [tI m0,tI m1,tI m2,tI m3] (k:Int)=a_ (tI m):=by
  refine jA ?_;show(([m0,m1,m2,m3]:List (List Int)).map tI)[k]?=_;rw[aW,hk];rfl
 have e1:=eq_nil m;have e2:=eq_nil fg;have e3:decide (m=[])=decide (fg=[]):=decide_eq_decide.mpr h;rw[e3]at e1;unfold GA;generalize decide (fg=[])=b at e1 e2;generalize tI m=tm at i1 e1;generalize tI fg=tf at e2 ⊢;clear hk h e3;cases b<;>walk_at "py"
def Q5{n:Nat}{m0 m1 m2 m3 fg:List Int}(h:UW m0 m1 m2 m3 fg):Cn D (n+3) 8 [.tup [tI m0,tI m1,tI m2,tI m3],tI fg]=a_ (.non,d_):=by
 obtain⟨z2,z3,hz⟩:=V5 (n:=n) (.tup [tI m0,tI m1,tI m2,tI m3]) (tI fg) [m0,m1,m2,m3] 0 b_ b_ (λm hm=>by
  simp only[ao,bG,or_false]at hm
  rcases hm with rfl|rfl|rfl|rfl
  ·exact⟨h.l0,h.r0⟩
  ·exact⟨h.l1,h.r1⟩
  ·exact⟨h.l2,h.r2⟩
  ·exact⟨h.l3,h.r3⟩)
 refine ym (C:=Cn D (n+2)) (np:=2) (nl:=4) (body:=b8) (ρ:=[a_ (.tup [tI m0,tI m1,tI m2,tI m3],d_),a_ (tI fg,d_),a_ (.int (3:Nat),d_),z3]) rfl ?_;have hb:b8=[.loop d_ [2,3] (.enu (.v 0)) Cr,b8[1],b8[2],.loop c_ [2] (.itv (.tup [.e_ 2,.e_ 3])) GA]:=rfl;rw[hb]
 have l1:fE (Cn D (n+2)) (.loop d_ [2,3] (.enu (.v 0)) Cr) [a_ (.tup [tI m0,tI m1,tI m2,tI m3],d_),a_ (tI fg,d_),b_,b_]=a_ (.nx [a_ (.tup [tI m0,tI m1,tI m2,tI m3],d_),a_ (tI fg,d_),z2,z3]):=by
  rw[uK (xs:=[tI m0,tI m1,tI m2,tI m3]) (by rw[eV];rfl)];exact hz
 have hlf:=h.lf;have r:=uq (n:=n) (cs:=fg) (lo:=0) (hi:=10) h.rf (by omega) (by omega) (by omega);have h10:eD .len [.str (T [48,49,50,51,52,53,54,55,56,57])]=a_ (.int 10,d_):=len_T (l:=[48,49,50,51,52,53,54,55,56,57]) (by simp)
 have l2:fE (Cn D (n+2)) b8[1] [a_ (.tup [tI m0,tI m1,tI m2,tI m3],d_),a_ (tI fg,d_),z2,z3]=a_ (.nx [a_ (.tup [tI m0,tI m1,tI m2,tI m3],d_),a_ (tI fg,d_),z2,z3]):=by
  show fE (Cn D (n+2)) (.ifs (.not (.call 1 [.v 1,.e_ 0,.blt .len [.f_ "0123456789"]])) [.xC] []) _=_;rw[S10];generalize tI fg=tf at r ⊢;clear hb hz l1 h hlf;walk_at "py"
 have l3:fE (Cn D (n+2)) b8[2] [a_ (.tup [tI m0,tI m1,tI m2,tI m3],d_),a_ (tI fg,d_),z2,z3]=a_ (.nx [a_ (.tup [tI m0,tI m1,tI m2,tI m3],d_),a_ (tI fg,d_),z2,z3]):=by
  show fE (Cn D (n+2)) (.ifs (.and (.cmp .ne (.ix (.v 0) (.e_ 1)) (.tup [])) (.cmp .eq (.ix (.v 0) (.e_ 0)) (.tup []))) [.xC] []) _=_;have e1:=ne_nil m1;have e2:=eq_nil m0;have i0:lN [tI m0,tI m1,tI m2,tI m3] 0=a_ (tI m0):=rfl;have i1:lN [tI m0,tI m1,tI m2,tI m3] 1=a_ (tI m1):=rfl;by_cases e:m1=[]
  ·rw[decide_eq_true e]at e1;generalize tI m1=t1 at e1 i0 i1 ⊢;generalize tI m0=t0 at e2 i0 i1 ⊢;clear hb hz l1 l2 h hlf e r;walk_at "py"
  ·rw[decide_eq_false e]at e1;rw[decide_eq_false (h.k1 e)]at e2;generalize tI m1=t1 at e1 i0 i1 ⊢;generalize tI m0=t0 at e2 i0 i1 ⊢;clear hb hz l1 l2 h hlf e r;walk_at "py"
 have b0:=WU (C:=Cn D (n+2)) (m0:=m0) (m1:=m1) (m2:=m2) (m3:=m3) (k:=2) (m:=m2) z3 rfl h.k2;have b3:=WU (C:=Cn D (n+2)) (m0:=m0) (m1:=m1) (m2:=m2) (m3:=m3) (k:=3) (m:=m3) z3 rfl h.k3
 have l4:fE (Cn D (n+2)) (.loop c_ [2] (.itv (.tup [.e_ 2,.e_ 3])) GA) [a_ (.tup [tI m0,tI m1,tI m2,tI m3],d_),a_ (tI fg,d_),z2,z3]=a_ (.nx [a_ (.tup [tI m0,tI m1,tI m2,tI m3],d_),a_ (tI fg,d_),a_ (.int (3:Nat),d_),z3]):=by
  rw[iO]
  have he:bF (Cn D (n+2)) (.tup [.e_ 2,.e_ 3]) (full [a_ (.tup [tI m0,tI m1,tI m2,tI m3],d_),a_ (tI fg,d_),z2,z3])=a_ (.tup [.int (2:Nat),.int (3:Nat)],c_):=by
   simp only[CI,iF,ku,bM,af,aK,Km,Bs,fq,aM,eY,Nat.reduceAdd,Nat.reduceLeDiff,if_true];rfl
  rw[he];simp only[af,Aj,Bs,if_true,dn,dC,gZ,ck,b0,b3,nO]
 generalize Cr=ba at l1 ⊢;generalize GA=bb at l4 ⊢;generalize b8[1]=s1 at l2 ⊢;generalize b8[2]=s2 at l3 ⊢;generalize (Dat.tup [tI m0,tI m1,tI m2,tI m3])=MS at l1 l2 l3 l4 ⊢;generalize tI fg=tf at l1 l2 l3 l4 ⊢;clear hb hz h hlf r b0 b3 h10;walk_at "py"
def alone(fs:List Fm):List (List Nat):=(fs.filter λf=>decide (f.2.2=vm)).map (·.1)
theorem zy(k:Nat):∀ws:List (List Nat),dm k (ws.map sT)=c_
 |[]=>by simp[dm]
 |a::r=>by rw[ag];simp only[dm,fx,zy k r,iq]
def R0(c:List Nat)(ws:List (List Nat)):dF .nin (sT c) (.lst (ws.map sT))=a_ (!decide (c∈ws)):=by
 refine(if_pos (by rw[zy];rfl)).trans ?_
 congr 2
 induction ws with
 |nil=>rfl
 |cons a r ih=>
   rw[ag,fQ,ih];show((T a == T c) || _)=_;rw[Lr];by_cases h:a=c
   ·simp[h]
   ·have h':¬c=a:=λz=>h z.symm;simp[h,h']
theorem Za{C:Fs}(s0:Dat)(A:List (List Nat)):∀(us:List Nat)(z2:g_),(∀c∈us,[c]∈A)->∃z2',dn (dC c_ [2]) (bN C Sj) (us.map λc=>Dat.str (T [c])) [a_ (s0,d_),a_ (.lst (A.map sT),c_),z2]=a_ (.nx [a_ (s0,d_),a_ (.lst (A.map sT),c_),z2'])
 |[],z2,_=>⟨z2,rfl⟩
 |c::us,z2,h=>by
   have q:=R0 [c] A;rw[decide_eq_true (h c hJ)]at q;obtain⟨y2,hr⟩:=Za (C:=C) s0 A us (a_ (sT [c],d_)) λe he=>h e (ib _ he);refine⟨y2,?_⟩
   have hb:bN C Sj [a_ (s0,d_),a_ (.lst (A.map sT),c_),a_ (sT [c],d_)]=a_ (.nx [a_ (s0,d_),a_ (.lst (A.map sT),c_),a_ (sT [c],d_)]):=by
    unfold Sj;generalize A.map sT=AA at q ⊢;clear hr h;walk_at "py"
   rw[ag];simp only[dn,dC,gZ,ck,af,hb];exact hr
def Q6{n:Nat}{fs:List Fm}{ls:List Nat}(h:fs.length<=100)(ho:∀f∈fs,oA f)(hs:∀f∈fs,∀c∈f.1,c∈ls)(hw:∀c∈ls,∃g∈fs,g.1=[c]/\g.2.2=vm):Cn D (n+2) 9 [.tup (fs.map dS)]=a_ (.non,d_):=by
 have hc:bF (Cn D (n+1)) (.comp 1 c_ [] (.itv (.v 0)) [.cmp .eq (.ix (.v 0) (.e_ 2)) (.con (.str (T vm)))] (.ix (.v 0) (.e_ 0))) [a_ (.tup (fs.map dS)),b_,b_]=a_ (.lst ((alone fs).map sT),c_):=by
  refine jc (items:=fs.map dS) rfl (by rw[ah];omega) ?_;have:=Ab (f:=iG (Cn D (n+1)) 1 c_ (fJ 1 [] [a_ (.tup (fs.map dS)),b_,b_]) [.cmp .eq (.ix (.v 0) (.e_ 2)) (.con (.str (T vm)))] (.ix (.v 0) (.e_ 0))) (g:=λd=>match d with | .tup (a::_)=>a|_=>.non) (p:=λd=>match d with | .tup [_,_,.str x]=>decide (x.cps.toList=vm)|_=>d_) (ds:=fs.map dS) ?_ ?_
  ·rw[this,List.filter_map,bc];unfold alone;rw[bc];rfl
  ·intro d hd;obtain⟨f,_,rfl⟩:=aQ.mp hd;refine⟨d_,?_⟩;have i2:lN [Dat.str (T f.1),.tup (f.2.1.map Dat.int),.str (T f.2.2)] 2=a_ (.str (T f.2.2)):=rfl;have i0:lN [Dat.str (T f.1),.tup (f.2.1.map Dat.int),.str (T f.2.2)] 0=a_ (.str (T f.1)):=rfl;have he:=Yv f.2.2 vm
   have hq:bF (Cn D (n+1)) (.cmp .eq (.ix (.v 0) (.e_ 2)) (.con (.str (T vm)))) ((fJ 1 [] [a_ (Dat.tup (fs.map dS)),b_,b_]).set 0 (a_ (dS f)))=a_ (.bl (decide (f.2.2=vm)),d_):=by
    simp only[fJ,fB,cm,gn,fL,ck,iY,nZ,bM,eV,aT,bD,aK,af,En,i2,he]
   rw[n6 hq rfl];simp only[fJ,fB,cm,gn,fL,ck,nZ,bM,eV,aT,bD,aK,af,En,i0];show _=a_ (if decide ((T f.2.2).cps.toList=vm)=c_ then a_ (Dat.str (T f.1),d_)else b_);rw[show(T f.2.2).cps.toList=f.2.2 by simp[T]];cases decide (f.2.2=vm)<;>rfl
  ·intro d hd _;obtain⟨f,_,rfl⟩:=aQ.mp hd;rfl
 obtain⟨z2,hz⟩:=Za (C:=Cn D (n+1)) (.tup (fs.map dS)) (alone fs) (U fs) b_ (λc hc'=>by
  rw[U,fm Xk]at hc';obtain⟨l,h1,h2⟩:=LD.mp hc';obtain⟨f,h3,rfl⟩:=aQ.mp h1;obtain⟨g,g1,g2,g3⟩:=hw c (hs f h3 c h2)
  exact aQ.mpr ⟨g,cz.mpr ⟨g1,decide_eq_true g3⟩,g2⟩)
 have r:=F9 (n:=n) h ho;refine ym (C:=Cn D (n+1)) (np:=1) (nl:=3) (body:=b9) (ρ:=[a_ (.tup (fs.map dS),d_),a_ (.lst ((alone fs).map sT),c_),z2]) rfl ?_;have hb:b9=[.set 1 (.comp 1 c_ [] (.itv (.v 0)) [.cmp .eq (.ix (.v 0) (.e_ 2)) (.f_ "wbme")] (.ix (.v 0) (.e_ 0))),.loop c_ [2] (.itv (.call 5 [.v 0])) Sj]:=rfl;rw[hb,Zu]
 have hl':fE (Cn D (n+1)) (.loop c_ [2] (.itv (.call 5 [.v 0])) Sj) [a_ (.tup (fs.map dS),d_),a_ (.lst ((alone fs).map sT),c_),b_]=a_ (.nx [a_ (.tup (fs.map dS),d_),a_ (.lst ((alone fs).map sT),c_),z2]):=by
  rw[iO];simp only[gP,bO,fR,eV,wG,wH,AB,aT,bD,aK,af,r,Er,Kl,kX,if_true];exact hz
 generalize Sj=body at hl' ⊢;generalize (alone fs).map sT=AA at hc hl' ⊢;generalize fs.map dS=FS at hc hl' ⊢;clear hb hz r h ho hs hw;walk_at "py"
def II{n:Nat}{fs:List Fm}{ls:List Nat}{m0 m1 m2 m3 fg:List Int}(hn:fs≠[])(hl:fs.length<=24)(ho:∀f∈fs,oA f)(hnd:(fs.map ent).Nodup)(hs:∀f∈fs,∀c∈f.1,c∈ls)(hw:∀c∈ls,∃g∈fs,g.1=[c]/\g.2.2=vm)(hm:UW m0 m1 m2 m3 fg) :
  Cn D (n+5) 10 [.lst (fs.map dS),.lst [tI m0,tI m1,tI m2,tI m3],tI fg]=a_ (Ib fs m0 m1 m2 m3 fg,d_):=by
 refine dE (C:=Cn D (n+4)) (np:=3) (nl:=4) (body:=Xr) rfl ?_;have r1:=Q7 (n:=n) hn hl ho;have r2:=Q4 (n:=n+3) hnd hl;have r3:=Q5 (n:=n+1) hm;have r4:=Q6 (n:=n+2) (ls:=ls) (by omega) ho hs hw
 have hc:bF (Cn D (n+4)) (.comp 1 c_ [] (.itv (.v 1)) [] (.blt .tuple [.v 0])) [a_ (.lst (fs.map dS)),a_ (.lst [tI m0,tI m1,tI m2,tI m3]),a_ (tI fg),b_]=a_ (.lst [tI m0,tI m1,tI m2,tI m3],c_):=by
  refine jc (items:=[tI m0,tI m1,tI m2,tI m3]) rfl (by simp) ?_;have:=oy (f:=iG (Cn D (n+4)) 1 c_ (fJ 1 [] [a_ (.lst (fs.map dS)),a_ (.lst [tI m0,tI m1,tI m2,tI m3]),a_ (tI fg),b_]) [] (.blt .tuple [.v 0])) (g:=λd=>d) (ds:=[tI m0,tI m1,tI m2,tI m3]) ?_ ?_
  ·rw[this,List.map_id']
  ·intro d hd;simp only[ao,bG,or_false]at hd
   rcases hd with rfl|rfl|rfl|rfl<;>exact⟨d_,rfl⟩
  ·intro d hd;simp only[ao,bG,or_false]at hd
   rcases hd with rfl|rfl|rfl|rfl<;>exact cT _
 have t1:eD .tuple [tI fg]=a_ (tI fg,d_):=rfl;have i0:lN [Dat.tup (fs.map dS),.tup [tI m0,tI m1,tI m2,tI m3],tI fg] 0=a_ (.tup (fs.map dS)):=rfl;have i1:lN [Dat.tup (fs.map dS),.tup [tI m0,tI m1,tI m2,tI m3],tI fg] 1=a_ (.tup [tI m0,tI m1,tI m2,tI m3]):=rfl;have i2:lN [Dat.tup (fs.map dS),.tup [tI m0,tI m1,tI m2,tI m3],tI fg] 2=a_ (tI fg):=rfl;have j0:im (.tup (fs.map dS))=c_:=rq fs
 have j1:im (.tup [tI m0,tI m1,tI m2,tI m3])=c_:=by
  show(iX (m0.map Dat.int) && (iX (m1.map Dat.int) && (iX (m2.map Dat.int) && (iX (m3.map Dat.int) && c_))))=c_;rw[cT,cT,cT,cT];rfl
 have j2:im (tI fg)=c_:=cT fg
 have j3:im (Ib fs m0 m1 m2 m3 fg)=c_:=by
  show(im (.tup (fs.map dS)) && (im (.tup [tI m0,tI m1,tI m2,tI m3]) && (im (tI fg) && c_)))=c_;rw[j0,j1,j2];rfl
 unfold Xr;unfold Ib at j3 ⊢;generalize [tI m0,tI m1,tI m2,tI m3]=MS at r3 hc i0 i1 i2 j1 j3 ⊢;generalize tI fg=tf at r3 hc t1 i0 i1 i2 j2 j3 ⊢;generalize fs.map dS=FS at r1 r2 r4 hc i0 i1 i2 j0 j3 ⊢;clear hn hl ho hnd hs hw hm;walk_at "py"
def Bu(d k:Nat):Nat:=jE.getD ((d+7 * k) % 26) 97
def Yd:((ax 26).all λd=>decide (((ax 6).map (Bu d)).Nodup) && ((ax 6).map (Bu d)).all λc=>decide (c∈jE))=c_:=by decide +kernel
def Sh{d m:Nat}(hd:d<26)(hm:m<=6):((ax m).map (Bu d)).Nodup/\∀c∈(ax m).map (Bu d),c∈jE:=by
 have h:=aY.mp Yd d (aZ.mpr hd);rw[aq]at h;have sl:List.Sublist ((ax m).map (Bu d)) ((ax 6).map (Bu d)):=List.Sublist.map _ (List.range_sublist.mpr hm);exact⟨(of_decide_eq_true h.1).sublist sl,λc hc=>of_decide_eq_true (aY.mp h.2 c (sl.subset hc))⟩
abbrev LX:Ex:=.comp 1 c_ [0] (.rng [(.v 3)]) [] (.ix (.con (.str (T jE))) (.bin .mod (.bin .add (.call 24 [(.v 1),(.e_ 5),(.e_ 26)]) (.bin .mul (.e_ 7) (.v 0))) (.e_ 26)))
def K1{n:Nat}{ns:List Int}{d l_:Nat}(r:Cn D (n+1) 24 [.lst (ns.map Dat.int),.int 5,.int 26]=a_ (.int (d:Nat),d_))(hm:l_<=6)(y1 y2 y4 y5 y6 y7 y8 y9 y10 y11:Option Dat) :
  bF (Cn D (n+1)) LX [a_ (.lst (ns.map Dat.int)),y1,y2,a_ (.int (l_:Nat)),y4,y5,y6,y7,y8,y9,y10,y11]=a_ (.lst (((ax l_).map (Bu d)).map λc=>.str (T [c])),c_):=by
 rw[bc];refine mh (fl:=d_) rfl (by omega) (λj hj=>⟨d_,?_⟩) λj _=>rfl;have hl:e8 .mul (.int 7) (.int (j:Nat))=a_ (.int (7 * (j:Nat)),d_):=fN (by omega) (by omega);have hmd:=kP (i:=(d:Int)+7 * (j:Int)) (j:=26) (by omega);have hk:(d+7 * j) % 26<jE.length:=iU _ (by decide);have hx:=Wc (l:=jE) (i:=(d+7 * j) % 26) (by decide) hk;have e:((d:Int)+7 * (j:Int)) % 26=(((d+7 * j) % 26:Nat):Int):=by omega
 rw[e]at hmd;show bF _ _ [a_ (Dat.int (j:Nat)),a_ (.lst (ns.map Dat.int))]=_;simp only[nZ,bM,gP,bO,fR,ki,eV,aT,bf,bD,aK,af,jh,r,hl,hmd,hx];show _=a_ (Dat.str (T [Bu d j]),d_);unfold Bu;rw[eA,aj hk];rfl
def vP.nil(ls:List Nat):vP ls 0 []:=⟨rfl,λf h=>(nomatch h),λf h=>(nomatch h),λj _ h=>by omega,by simp⟩
def vP.all{ls:List Nat}{acc:List Fm}(o:vP ls ls.length acc):Kv ls acc:=by
 refine⟨o.ok,o.nd,λf hf c hc=>?_,λc hc=>?_⟩
 ·obtain⟨j,hj,_,e⟩:=o.one f hf;rw[e]at hc;rw[aF.mp hc];exact bI hj
 ·obtain⟨j,hj,rfl⟩:=bR.mp hc;exact o.own j hj hj
abbrev l6:Sx:=.loop c_ [4] (.rng [(.call 24 [(.v 0),(.e_ 6),(.ix (.lst [(.e_ 5),(.e_ 2)]) (.blt .int [(.or (.v 2) (.cmp .eq (.v 3) (.e_ 6)))]))])]) V7
def Uk:YG=[(.set 2 (.cmp .eq (.call 24 [(.v 0),(.e_ 2),(.e_ 3)]) (.e_ 0))),(.set 3 (.bin .add (.e_ 1) (.call 24 [(.v 0),(.e_ 3),(.bin .sub (.e_ 3) (.blt .int [(.v 2)]))]))),DL,.set 5 (.comp 1 c_ [0] (.rng [(.v 3)]) [] (.ix (.f_ "abcdefghijklmnopqrstuvwxyz") (.bin .mod (.bin .add (.call 24 [(.v 1),(.e_ 5),(.e_ 26)]) (.bin .mul (.e_ 7) (.v 0))) (.e_ 26)))),.set 6 (.lst []),.loop c_ [4] (.rng [(.v 3)]) Sn,l6,M4,Vv,.ret (.call 10 [(.v 6),(.v 10),(.v 11)])]:=rfl
noncomputable abbrev e0(ns:List Int)(st:Nat)(a b c d:g_):cF:=[a_ (.lst (ns.map Dat.int),d_),a_ (.int (st:Nat),d_),a,b,b_,c,d,b_,b_,b_,b_,b_]
def S9{n:Nat}(ns:List Int)(st:Nat):∃(mk:Bool) (l_ d:Nat),0<l_/\l_<=6/\d<26/\(mk=c_->l_<=2)/\(l_≠6->l_<=3)/\bN (Cn D (n+1)) [(.set 2 (.cmp .eq (.call 24 [(.v 0),(.e_ 2),(.e_ 3)]) (.e_ 0))),(.set 3 (.bin .add (.e_ 1) (.call 24 [(.v 0),(.e_ 3),(.bin .sub (.e_ 3) (.blt .int [(.v 2)]))]))),DL,.set 5 LX,.set 6 (.lst [])] (e0 ns st b_ b_ b_ b_) =
  a_ (.nx (wM ns st mk l_ ((ax l_).map (Bu d)) [] b_ b_ b_ b_)):=by
 obtain⟨q2,r2,b2⟩:=dZ (n:=n) ns 2 3 (by omega) (by omega);obtain⟨q4,r4,b4⟩:=dZ (n:=n) ns 4 12 (by omega) (by omega);obtain⟨d,rd,bd⟩:=dZ (n:=n) ns 5 26 (by omega) (by omega)
 cases hq:((q2:Int) == 0)with
 |true=>
   obtain⟨q3,r3,b3⟩:=dZ (n:=n) ns 3 2 (by omega) (by omega);refine⟨c_,1+q3,d,by omega,by omega,by omega,λ_=>by omega,λ_=>by omega,?_⟩;have e1:(1:Int)+(q3:Int)=((1+q3:Nat):Int):=by omega
   have e32:(3:Int) - 1=2:=rfl;have hc:=λy1 y2 y4 y5 y6 y7 y8 y9 y10 y11=>K1 (n:=n) (ns:=ns) (l_:=1+q3) rd (by omega) y1 y2 y4 y5 y6 y7 y8 y9 y10 y11;generalize ((ax (1+q3)).map (Bu d))=LS at hc;clear b2 b3 b4 bd;walk_at "py"<;>rfl
 |false=>
   obtain⟨q3,r3,b3⟩:=dZ (n:=n) ns 3 3 (by omega) (by omega);have e1:(1:Int)+(q3:Int)=((1+q3:Nat):Int):=by omega
   have e32:(3:Int) - 0=3:=rfl
   cases h4:((q4:Int) == 0)with
   |true=>
     refine⟨d_,6,d,by omega,by omega,by omega,λz=>(by cases z),λz=>absurd rfl z,?_⟩;have hc:∀y1 y2 y4 y5 y6 y7 y8 y9 y10 y11,bF (Cn D (n+1)) LX [a_ (.lst (ns.map Dat.int)),y1,y2,a_ (.int 6),y4,y5,y6,y7,y8,y9,y10,y11]=a_ (.lst (((ax 6).map (Bu d)).map λc=>.str (T [c])),c_):=λy1 y2 y4 y5 y6 y7 y8 y9 y10 y11=>K1 (n:=n) (ns:=ns) (l_:=6) rd (by omega) y1 y2 y4 y5 y6 y7 y8 y9 y10 y11;generalize ((ax 6).map (Bu d))=LS at hc;clear b2 b3 b4 bd;walk_at "py"<;>rfl
   |false=>
     refine⟨d_,1+q3,d,by omega,by omega,by omega,λz=>(by cases z),λ_=>by omega,?_⟩;have hc:=λy1 y2 y4 y5 y6 y7 y8 y9 y10 y11=>K1 (n:=n) (ns:=ns) (l_:=1+q3) rd (by omega) y1 y2 y4 y5 y6 y7 y8 y9 y10 y11;generalize ((ax (1+q3)).map (Bu d))=LS at hc;clear b2 b3 b4 bd;walk_at "py"<;>rfl
theorem nY{C:Fs}:∀{a b:List Sx}{ρ ρ':cF},bN C a ρ=a_ (.nx ρ')->bN C (a++b) ρ=bN C b ρ'
 |[],_,ρ,ρ',h=>by cases h;rfl
 |s::a,b,ρ,ρ',h=>by
   obtain⟨o,h1,h2⟩:=cU h
   match o,h1,h2 with
   |.nx ρ1,h1,h2=>
     rw[gn,bP h1];exact nY h2
def QJ(C:Fs)(b:Bool)(few:Int)(h:few=if b=c_ then 2 else 5):lN [Dat.int 5,Dat.int 2] (if b=c_ then 1 else 0)=a_ (.int few):=by
 subst h;cases b<;>rfl
def TK{n:Nat}(ns:List Int)(mk:Bool)(l_:Nat):∃q6:Nat,q6<=4/\(mk=c_\/l_=6->q6<=1)/\∀y1 y4 y5 y6 y7 y8 y9 y10 y11,tU (Cn D (n+1)) Y0 [a_ (.lst (ns.map Dat.int)),y1,a_ (.bl mk),a_ (.int (l_:Nat)),y4,y5,y6,y7,y8,y9,y10,y11]=a_ ((ax q6).map λk:Nat=>Dat.int k):=by
 have hb:∃b:Bool,(b=c_↔(mk=c_\/l_=6))/\∀y0 y1 y4 y5 y6 y7 y8 y9 y10 y11,bF (Cn D (n+1)) (.or (.v 2) (.cmp .eq (.v 3) (.e_ 6))) [y0,y1,a_ (.bl mk),a_ (.int (l_:Nat)),y4,y5,y6,y7,y8,y9,y10,y11]=a_ (.bl b,d_):=by
  refine⟨mk || ((l_:Int) == 6),?_,λy0 y1 y4 y5 y6 y7 y8 y9 y10 y11=>?_⟩
  ·rw[jt,beq_iff_eq];constructor
   ·rintro(h|h)
    ·exact .inl h
    ·exact .inr (by omega)
   ·rintro(h|h)
    ·exact .inl h
    ·exact .inr (by omega)
  ·simp only[P1,iY,eV,bM,aT,bf,bD,aK,af,rO];cases mk<;>rfl
 obtain⟨b,hbi,hbe⟩:=hb;obtain⟨few,hf⟩:∃few:Int,few=if b=c_ then 2 else 5:=⟨_,rfl⟩
 obtain⟨q6,r6,b6⟩:=dZ (n:=n) ns 6 few (by omega) (by rw[hf];split<;>omega);refine⟨q6,by rw[hf]at b6;split at b6<;>omega,λz=>by rw[hf,if_pos (hbi.mpr z)]at b6;omega,λy1 y4 y5 y6 y7 y8 y9 y10 y11=>?_⟩;have hi:eD .int [.bl b]=a_ (.int (if b=c_ then 1 else 0),d_):=va;have hx:=QJ (Cn D n) b few hf;have hl:bF (Cn D (n+1)) (.lst [(.e_ 5),(.e_ 2)]) [a_ (.lst (ns.map Dat.int)),y1,a_ (.bl mk),a_ (.int (l_:Nat)),y4,y5,y6,y7,y8,y9,y10,y11]=a_ (.lst [.int 5,.int 2],c_):=rfl;rw[qr];simp only[bO,fR,gP,nZ,jf,eV,bM,hbe,hl,aT,bf,bD,aK,af,hi,Eo,hx,r6];exact p3 (by rw[hf]at b6;split at b6<;>omega)
structure Xm(fs:List Fm)(m0 m1 m2 m3 fg:List Int):Prop where
 ne:fs≠[]
 ls:∃ls:List Nat,ls≠[]/\Kv ls fs
 mm:UW m0 m1 m2 m3 fg
 lf:fg.length<=2
 sz:(m0=[]/\m1=[]/\fg=[]/\fs.length<=7)\/fs.length<=3
def Ky:UW [] [] [] [] []:=⟨by simp,by simp,by simp,by simp,by simp,by simp,by simp,by simp,by simp,by simp,by simp,by simp,by simp⟩
def Kv.ne{ls:List Nat}{fs:List Fm}(g:Kv ls fs)(h:ls≠[]):fs≠[]:=λe=>by
 cases ls with
 |nil=>exact h rfl
 |cons c r=>
   obtain⟨x,hx,_⟩:=g.own c hJ;rw[e]at hx;cases hx
def U7{C:Fs}{ρ:cF}{x y b:Dat}{as:List Dat}{r:cF}(rk:C 27 [x,y]=a_ (.tup [.lst as,b],d_))(hρ:ρ=a_ (x,d_)::a_ (y,d_)::a_ (.bl c_,d_)::r):fE C Vv ρ=a_ (.nx ((ρ.set 10 (a_ (.lst as,d_))).set 11 (a_ (b,d_)))):=by
 subst hρ;have a1:bF C (.call 27 [(.v 0),(.v 1)]) (full (a_ (x,d_)::a_ (y,d_)::a_ (.bl c_,d_)::r))=a_ (.tup [.lst as,b],d_):=rk;have a2:bF C (.call 27 [(.v 0),(.v 1)]) (rZ (ka [0,1] (a_ (x,d_)::a_ (y,d_)::a_ (.bl c_,d_)::r)))=a_ (.tup [.lst as,b],d_):=rk
 have hu:fE C (.Mg [10,11] (.call 27 [(.v 0),(.v 1)])) (a_ (x,d_)::a_ (y,d_)::a_ (.bl c_,d_)::r)=a_ (.nx (((a_ (x,d_)::a_ (y,d_)::a_ (.bl c_,d_)::r).set 10 (a_ (.lst as,d_))).set 11 (a_ (b,d_)))):=by
  show((bF C (.call 27 [(.v 0),(.v 1)]) (full (a_ (x,d_)::a_ (y,d_)::a_ (.bl c_,d_)::r))).bind _).bind _=_;rw[a1];show((bF C (.call 27 [(.v 0),(.v 1)]) (rZ (ka [0,1] (a_ (x,d_)::a_ (y,d_)::a_ (.bl c_,d_)::r)))).map _).bind _=_;rw[a2];rfl
 show bN C [.Mg [10,11] (.call 27 [(.v 0),(.v 1)])] _=_;rw[bP hu];rfl
def FW{n:Nat}(ns:List Int){st:Nat}(hs:st<3):∃(fs:List Fm) (m0 m1 m2 m3 fg:List Int),Cn D (n+6) 28 [.lst (ns.map Dat.int),.int (st:Nat)]=a_ (Ib fs m0 m1 m2 m3 fg,d_)/\Xm fs m0 m1 m2 m3 fg:=by
 obtain⟨mk,l_,d,h0,h6,hd,hmk,hm3,r0⟩:=S9 (n:=n+4) ns st;obtain⟨nd,low⟩:=Sh hd h6;have hlen:((ax l_).map (Bu d)).length=l_:=by simp
 generalize ((ax l_).map (Bu d))=ls at nd low hlen r0;obtain⟨acc,y4,y7,y8,o5,r5⟩:=PK (n:=n+3) ns hs mk l_ nd low (by omega) l_ 0 [] b_ b_ b_ b_ (by omega) (vP.nil ls);have g5:=o5.all;obtain⟨q6,hq6,hq6',r6⟩:=TK (n:=n+4) ns mk l_;obtain⟨fs,w4,w8,w9,f1,gl,r7⟩:=PJ (n:=n+2) ns hs mk l_ low (by omega) q6 0 acc y4 y7 y8 b_ (by omega) (by rw[o5.len];omega) g5;have lsn:ls≠[]:=λe=>by rw[e]at hlen;simp at hlen;omega
 rw[o5.len,hlen]at f1
 have s5:fE (Cn D (n+5)) (.loop c_ [4] (.rng [(.v 3)]) Sn) (wM ns st mk l_ ls [] b_ b_ b_ b_)=a_ (.nx (wM ns st mk l_ ls acc y4 y7 y8 b_)):=by
  rw[me];have hi:tU (Cn D (n+5)) (.rng [(.v 3)]) (full (wM ns st mk l_ ls [] b_ b_ b_ b_))=a_ ((ax l_).map λk:Nat=>Dat.int k):=p3 (by omega);rw[hi,Di];exact r5
 have s6:fE (Cn D (n+5)) l6 (wM ns st mk l_ ls acc y4 y7 y8 b_)=a_ (.nx (wM ns st mk l_ ls fs w4 y7 w8 w9)):=by
  rw[me];have hi:tU (Cn D (n+5)) Y0 (full (wM ns st mk l_ ls acc y4 y7 y8 b_))=a_ ((ax q6).map λk:Nat=>Dat.int k):=r6 _ _ _ _ _ _ _ _ _;rw[hi,Di];exact r7
 have fin:∀m0 m1 m2 m3 fg:List Int,UW m0 m1 m2 m3 fg->(fE (Cn D (n+5)) Vv ((wM ns st mk l_ ls fs w4 y7 w8 w9).set 10 (a_ (.lst [.tup [],.tup [],.tup [],.tup []],d_)) |>.set 11 (a_ (.tup [],d_)))=a_ (.nx ((wM ns st mk l_ ls fs w4 y7 w8 w9).set 10 (a_ (.lst [tI m0,tI m1,tI m2,tI m3],d_)) |>.set 11 (a_ (tI fg,d_)))))->
   Cn D (n+6) 28 [.lst (ns.map Dat.int),.int (st:Nat)]=a_ (Ib fs m0 m1 m2 m3 fg,d_):=λm0 m1 m2 m3 fg gm s8=>by
  refine dE (C:=Cn D (n+5)) (np:=2) (nl:=12) (body:=YG) rfl ?_;have rm:=II (n:=n) (ls:=ls) (gl.ne lsn) (by omega) gl.ok gl.nd gl.sub gl.own gm;rw[Uk,Zv];refine(nY (a:=[(.set 2 (.cmp .eq (.call 24 [(.v 0),(.e_ 2),(.e_ 3)]) (.e_ 0))),(.set 3 (.bin .add (.e_ 1) (.call 24 [(.v 0),(.e_ 3),(.bin .sub (.e_ 3) (.blt .int [(.v 2)]))]))),DL,.set 5 LX,.set 6 (.lst [])]) (b:=[.loop c_ [4] (.rng [(.v 3)]) Sn,l6,M4,Vv,.ret (.call 10 [(.v 6),(.v 10),(.v 11)])]) r0).trans ?_;refine(bP s5).trans ((bP s6).trans ?_);have s7:fE (Cn D (n+5)) M4 (wM ns st mk l_ ls fs w4 y7 w8 w9)=a_ (.nx ((wM ns st mk l_ ls fs w4 y7 w8 w9).set 10 (a_ (.lst [.tup [],.tup [],.tup [],.tup []],d_)) |>.set 11 (a_ (.tup [],d_)))):=rfl;refine(bP s7).trans ((bP s8).trans ?_);refine iM ?_;show(bF (Cn D (n+5)) (.call 10 [(.v 6),(.v 10),(.v 11)]) _).map _=_;have he:bF (Cn D (n+5)) (.call 10 [(.v 6),(.v 10),(.v 11)]) (full ((wM ns st mk l_ ls fs w4 y7 w8 w9).set 10 (a_ (.lst [tI m0,tI m1,tI m2,tI m3],d_)) |>.set 11 (a_ (tI fg,d_))))=Cn D (n+5) 10 [.lst (fs.map dS),.lst [tI m0,tI m1,tI m2,tI m3],tI fg]:=rfl;rw[he,rm];rfl
 cases mk with
 |false=>
   refine⟨fs,[],[],[],[],[],fin [] [] [] [] [] Ky rfl,gl.ne lsn,⟨ls,lsn,gl⟩,Ky,by simp,.inl ⟨rfl,rfl,rfl,?_⟩⟩;by_cases e:l_=6
   ·have:=hq6' (.inr e);omega
   ·have:=hm3 e;omega
 |true=>
   obtain⟨m0,m1,m2,m3,fg,rk,gm,l2⟩:=F8 (n:=n+2) ns hs;refine⟨fs,m0,m1,m2,m3,fg,fin m0 m1 m2 m3 fg gm ?_,gl.ne lsn,⟨ls,lsn,gl⟩,gm,l2,.inr ?_⟩
   ·exact U7 rk rfl
   ·have:=hq6' (.inl rfl);have:=hmk rfl;omega
end K60
namespace K60E
open PySem L2 M K60
abbrev Ed:=aV×List Nat×List Int×aV
noncomputable abbrev bJ(e:Ed):Dat:=.tup [.str e.1,.str (T e.2.1),.tup (e.2.2.1.map Dat.int),.str e.2.2.2]
noncomputable abbrev GU(e:Ed):List NK:=[.inl (.inr e.1),.inl (.inr (T e.2.1)),.inr (e.2.2.1.map UU),.inl (.inr e.2.2.2)]
def Pz(e:Ed):tK (bJ e)=a_ (GU e):=by
 simp only[bJ,tK,JM,PB,pk,aK,af]
theorem JJ:∀es:List Ed,lZ (es.map bJ)=a_ (es.map GU)
 |[]=>rfl
 |e::es=>by
   rw[ag,lZ,Pz,JJ es];rfl
theorem allI:∀l:List Int,(l.map UU).all sI=c_
 |[]=>rfl
 |a::r=>by rw[ag,cu,allI r];rfl
abbrev Vm:List (List Nat):=[[1],[1],[2],[1]]
def we(e:Ed):(GU e).map sN=Vm:=by
 simp only[ag,cm,sN,allI,if_true]
abbrev Hq(e:Ed):List (List (List Int)):=codeN (GU e)
def FO(es:List Ed):List Dat:=(dQ sr (es.map Hq)).map (uY Vm)
def Pw(e:Ed):∀x∈GU e,vI (sN x)=c_:=λx hx=>by
 have:sN x∈(GU e).map sN:=cL hx;rw[we]at this;exact aY.mp (show Vm.all vI=c_ by decide) _ this
def TB(e:Ed):uY Vm (Hq e)=bJ e:=by
 have:=yt (Pz e) (Pw e);rw[we]at this;exact this
def K7{a b:Ed}(h:Hq a=Hq b):a=b:=by
 have h1:GU a=GU b:=code_inj ((we a).trans (we b).symm) (Pw a) h;simp only[GU,dw,vv,vt,and_true]at h1;obtain⟨h1,h2,h3,h4⟩:=h1;exact jj h1 (jj (Be h2) (jj (EA h3) h4))
def xS{α:Type}[BEq α][LawfulBEq α]{l l':List α}(hn:l.Nodup)(h:∀x∈l,x∈l'):l.length<=l'.length:=by
 induction l generalizing l' with
 |nil=>exact bY _
 |cons a r ih=>
   obtain⟨h1,h2⟩:=be.mp hn;have ha:=h a hJ;have:=ih (l':=l'.erase a) h2 λx hx=>(List.mem_erase_of_ne (λe:x=a=>h1 (e▸hx))).mpr (h x (ib _ hx));rw[List.length_erase_of_mem ha]at this;have:0<l'.length:=List.length_pos_of_mem ha;simp;omega
def QE(es:List Ed):∃E:List Ed,FO es=E.map bJ/\E.Nodup/\(∀e,e∈E↔e∈es)/\E.length<=es.length:=by
 have key:∀l:List (List (List (List Int))),(∀c∈l,∃e:Ed,c=Hq e)->l.Nodup->∃E:List Ed,l=E.map Hq/\E.Nodup:=λl=>by
  induction l with
  |nil=>intro _ _;exact⟨[],rfl,et⟩
  |cons c r ih=>
    intro h hn;obtain⟨e,rfl⟩:=h c hJ;obtain⟨E,h1,h2⟩:=ih (λc hc=>h c (ib _ hc)) (be.mp hn).2;refine⟨e::E,by rw[h1];rfl,be.mpr ⟨λm=>(be.mp hn).1 ?_,h2⟩⟩;rw[h1];exact cL m
 obtain⟨E,h1,h2⟩:=key (dQ sr (es.map Hq)) (λc hc=>by
  obtain⟨e,_,rfl⟩:=aQ.mp ((fm tO).mp hc)
  exact⟨e,rfl⟩) (jy tO (fU tO _))
 refine⟨E,?_,h2,λe=>?_,?_⟩
 ·unfold FO;rw[h1,bc];exact dv λe _=>TB e
 ·have:=fm tO (z:=Hq e) (l:=es.map Hq);rw[h1]at this;constructor
  ·intro h;obtain⟨e',he,q⟩:=aQ.mp (this.mp (cL h));rw[<-K7 q];exact he
  ·intro h;obtain⟨e',he,q⟩:=aQ.mp (this.mpr (cL h));rw[<-K7 q];exact he
 ·have:=xS (jy tO (fU tO (es.map Hq))) λx hx=>(fm tO).mp hx;rw[h1,ah,ah]at this;exact this
def Qj(es:List Ed):(dQ sr (es.map Hq)).length<=es.length:=by
 have:=xS (jy tO (fU tO (es.map Hq))) λx hx=>(fm tO).mp hx
 rwa [ah]at this
def Oa(e:Ed)(es:List Ed):lz ((e::es).map bJ)=b_:=rfl
def Mp(e:Ed)(es:List Ed):jX ((e::es).map bJ)=b_:=rfl
def Mt{es:List Ed}(hl:es.length<64)(hn:es≠[]):eD .sset [.lst (es.map bJ)]=a_ (.lst (FO es),c_):=by
 cases es with
 |nil=>exact absurd rfl hn
 |cons e r=>
   have hs:xF ((e::r).map GU)=Vm:=we e
   have h3:(((e::r).map GU).all λk=>decide (k.map sN=xF ((e::r).map GU)))=c_:=by
    rw[aY];intro k hk;obtain⟨q,_,rfl⟩:=aQ.mp hk;rw[hs];exact decide_eq_true (we q)
   have h4:=Qj (e::r)
   show(match lz ((e::r).map bJ),jX ((e::r).map bJ)with
    |some is,_=>Dy is
    |none,a_ ss=>sd ss
    |none,b_=>(lZ ((e::r).map bJ)).bind nQ)=_
   rw[Oa,Mp];show(lZ ((e::r).map bJ)).bind nQ=_;rw[JJ];show nQ ((e::r).map GU)=_;unfold nQ Cj;rw[if_pos ⟨by rw[ah];omega,by rw[hs];rfl,by rw[hs];rfl,h3,by rw[bc];exact df h4 hl⟩,hs,bc];rfl
structure Tb where
 fs:List Fm
 m0:List Int
 m1:List Int
 m2:List Int
 m3:List Int
 fg:List Int
structure VU(t:Tb):Prop where
 ho:∀f∈t.fs,oA f
 hl:t.fs.length<=10
 h0:t.m0.length<=2
 h1:t.m1.length<=2
 h2:t.m2.length<=2
 h3:t.m3.length<=2
 hf:t.fg.length<=10
noncomputable abbrev rj(t:Tb):Dat:=.tup [tI t.m0,tI t.m1,tI t.m2,tI t.m3]
noncomputable abbrev tb(t:Tb):Dat:=.tup [.tup (t.fs.map dS),rj t,tI t.fg]
def Cm(m:List Int):dF .ne (tI m) (.tup [])=a_ (!m.isEmpty):=by
 cases m with
 |nil=>rfl
 |cons a r=>
   have h:dm 19 ((a::r).map Dat.int)=c_:=pd 19 (a::r);rw[VX h rfl];rfl
def n5(m:List Int):dF .eq (tI m) (.tup [])=a_ m.isEmpty:=by
 cases m with
 |nil=>rfl
 |cons a r=>
   have h:dm 19 ((a::r).map Dat.int)=c_:=pd 19 (a::r);rw[Wx h rfl];rfl
def J9(m:List Int):eD .len [tI m]=a_ (.int (m.length:Nat),d_):=by rw[kO,ah]
def oM(m:List Int):im (tI m)=c_:=cT m
def C8(a b:List Int)(h:a.length+b.length<=1000):e8 .add (tI a) (tI b)=a_ (tI (a++b),d_):=by
 rw[C4 (by rw[ah,ah];omega),<-cO]
abbrev Dc:aV:=aa "out"
abbrev Fe:aV:=aa "let"
def at0(t:Tb):lN [Dat.tup (t.fs.map dS),rj t,tI t.fg] 0=a_ (Dat.tup (t.fs.map dS)):=rfl
def at1(t:Tb):lN [Dat.tup (t.fs.map dS),rj t,tI t.fg] 1=a_ (rj t):=rfl
def at2(t:Tb):lN [Dat.tup (t.fs.map dS),rj t,tI t.fg] 2=a_ (tI t.fg):=rfl
def rA(a b c:aV)(m:List Int):im (.tup [.str a,.str b,tI m,.str c])=c_:=by
 have h:iX (m.map Dat.int)=c_:=cT m;simp[im,iX,h]
def Zy:(jE.all λc=>decide (sJ c=[c - 32]))=c_:=by kernel_rfl
def up1{c:Nat}(h:c∈jE):sJ c=[c - 32]:=of_decide_eq_true (aY.mp Zy c h)
def Je(u:List Nat)(f:Nat->List Nat):(za (T u) λ_ c=>f c)=(u.flatMap f).toArray:=by
 apply Array.ext';simp only[za,T];rw[Array.toList_flatten,Array.toList_mapIdx];simp only[Fw]
 have e:∀(u:List Nat),(u.mapIdx λ_ c=>(f c).toArray)=u.map λc=>(f c).toArray:=λu=>by
  apply gh<;>simp
 rw[e,bc,List.flatMap_def]
 congr 1
def Dl{u:List Nat}(h:∀c∈u,c∈jE)(hl:u.length<=1000):j5 .upper (.str (T u)) []=a_ (.str (T (u.map (·- 32))),d_):=by
 show(if(T u).length<=1000000 then a_ (Dat.str (qM (T u)),d_)else b_)=_;rw[qy,if_pos (by omega)]
 have:qM (T u)=T (u.map (·- 32)):=by
  show(⟨za (T u) λ_ c=>sJ c⟩:aV)=_;rw[Je];show T _=T _
  congr 1
  clear hl
  induction u with
  |nil=>rfl
  |cons a r ih=>
    rw[eB,up1 (h a hJ),ih λc m=>h c (ib _ m)];rfl
 rw[this]
def Wq(l:List Nat):List Nat:=(T [l.headD 0 - 32]++iZ (T l) (a_ 1) b_).cps.toList
def Ku{f:Fm}(ho:oA f):∃(c0:Nat) (S1:aV),qh (.str (T f.1)) (.int 0)=a_ (.str (T [c0]))/\j5 .upper (.str (T [c0])) []=a_ (.str (T [c0 - 32]),d_)/\Iy (.str (T f.1)) (a_ 1) b_=a_ (.str S1,d_)/\e8 .add (.str (T [c0 - 32])) (.str S1)=a_ (.str (T (Wq f.1)),d_):=by
 obtain⟨c0,r0,hc⟩:∃c r,f.1=c::r:=by
  cases q:f.1 with
  |nil=>exact absurd q ho.ne
  |cons c r=>exact⟨c,r,rfl⟩
 have hlen:=ho.ll;have hlow:c0∈jE:=ho.low c0 (by rw[hc];exact hJ);refine⟨c0,iZ (T f.1) (a_ 1) b_,?_,Dl (u:=[c0]) (λc hc=>by rw[aF.mp hc];exact hlow) (by simp),if_pos (by rw[qy,bB];omega),?_⟩
 ·rw[hc];exact Wc (l:=c0::r0) (i:=0) (by rw[<-hc];omega) (by simp)
 ·have hle:=zb (T f.1) (a_ 1) b_;have e3:(T f.1).length=f.1.length:=qy _;have e1:(T [c0 - 32]).length=1:=qy _;have hh:f.1.headD 0=c0:=by rw[hc];rfl
  show(if(T [c0 - 32]).length+(iZ (T f.1) (a_ 1) b_).length<=aE then a_ (Dat.str (T [c0 - 32]++iZ (T f.1) (a_ 1) b_),d_)else b_)=_;rw[if_pos (by rw[e1,bB];omega)];unfold Wq;rw[hh,W9]
abbrev uT(l:List Nat):List Nat:=l.map (·- 32)
abbrev Bk:aV:=aa "all"
abbrev sR:aV:=aa "done"
theorem Kk:∀es:List Ed,iX (es.map bJ)=c_
 |[]=>rfl
 |e::es=>by rw[ag,iX,rA,Kk es];rfl
def Qk{f:Fm}(ho:oA f):j5 .upper (.str (T f.1)) []=a_ (.str (T (uT f.1)),d_):=Dl ho.low (by have:=ho.ll;omega)
abbrev j7:aV:=aa "num"
abbrev Xw:aV:=aa "0123456789"
noncomputable def KL:List Nat:=[48,49,50,51,52,53,54,55,56,57]
def Y1:Xw=T KL:=by decide +kernel
noncomputable def Hr:List Ed:=[("out",[32],[0],"out"),("done",[32],[0],"out"),("num",[32],[0],"out")]
def yH{es:List Ed}(e:Ed)(hl:es.length<900):gX .app (.lst (es.map bJ)) [bJ e]=a_ (.lst ((es++[e]).map bJ)):=by
 rw[jN (by rw[ah];omega),cO];rfl
def NIL:aa ""=T []:=by decide +kernel
def W6:List (Nat×aV×aV):=[(119,"out","done"),(119,"let","done"),(98,"out","in"),(98,"let","in"),(109,"in","in"),(101,"in","done")]
noncomputable abbrev Dk(w:Nat×aV×aV):Dat:=.tup [.str (T [w.1]),.str w.2.1,.str w.2.2]
noncomputable abbrev GR(f:Fm)(w:Nat×aV×aV):List Ed:=if w.1∈f.2.2 then [(w.2.1,f.1,f.2.1,w.2.2)]else []
abbrev E6(f:Fm):List Ed:=W6.flatMap (GR f)
def Mb:(Dat.tup [(.tup [(.str (aa "w")),(.str (aa "out")),(.str (aa "done"))]),(.tup [(.str (aa "w")),(.str (aa "let")),(.str (aa "done"))]),(.tup [(.str (aa "b")),(.str (aa "out")),(.str (aa "in"))]),(.tup [(.str (aa "b")),(.str (aa "let")),(.str (aa "in"))]),(.tup [(.str (aa "m")),(.str (aa "in")),(.str (aa "in"))]),(.tup [(.str (aa "e")),(.str (aa "in")),(.str (aa "done"))])])=.tup (W6.map Dk):=by
 have h1:aa "w"=T [119]:=by decide +kernel
 have h2:aa "b"=T [98]:=by decide +kernel
 have h3:aa "m"=T [109]:=by decide +kernel
 have h4:aa "e"=T [101]:=by decide +kernel
 rw[h1,h2,h3,h4];rfl
def We:((ax 16).all λk=>W6.all λw=>decide (dF .isin (.str (T [w.1])) (.str (T (Gp k)))=a_ (decide (w.1∈Gp k))))=c_:=by decide +kernel
def N7{f:Fm}(ho:oA f){w:Nat×aV×aV}(hw:w∈W6):dF .isin (.str (T [w.1])) (.str (T f.2.2))=a_ (decide (w.1∈f.2.2)):=by
 obtain⟨k,_,k2,hk⟩:=ho.pp;rw[hk];have:=aY.mp (aY.mp We k (aZ.mpr k2)) w hw;exact of_decide_eq_true this
def WZ{C:Fs}{f:Fm}(ho:oA f){w:Nat×aV×aV}(hw:w∈W6)(a0:Dat)(es:List Ed)(hl:es.length<1000) :
  bN C UT [a_ (a0,d_),a_ (.lst (es.map bJ),c_),a_ (.str (T f.1),d_),a_ (.tup (f.2.1.map Dat.int),d_),a_ (.str (T f.2.2),d_),a_ (.str (T [w.1]),d_),a_ (.str w.2.1,d_),a_ (.str w.2.2,d_)] =
   a_ (.nx [a_ (a0,d_),a_ (.lst ((es++GR f w).map bJ),c_),a_ (.str (T f.1),d_),a_ (.tup (f.2.1.map Dat.int),d_),a_ (.str (T f.2.2),d_),a_ (.str (T [w.1]),d_),a_ (.str w.2.1,d_),a_ (.str w.2.2,d_)]):=by
 have hc:=N7 ho hw;have i1:im (.tup (f.2.1.map Dat.int))=c_:=cT _;by_cases hm:w.1∈f.2.2
 ·rw[decide_eq_true hm]at hc;rw[show GR f w=[(w.2.1,f.1,f.2.1,w.2.2)]from if_pos hm,cO];have ha:gX .app (.lst (es.map bJ)) [.tup [.str w.2.1,.str (T f.1),.tup (f.2.1.map Dat.int),.str w.2.2]]=a_ (.lst (es.map bJ++[.tup [.str w.2.1,.str (T f.1),.tup (f.2.1.map Dat.int),.str w.2.2]])):=jN (by rw[ah];omega);have i4:im (.tup [.str w.2.1,.str (T f.1),.tup (f.2.1.map Dat.int),.str w.2.2])=c_:=by simp only[im,iX,fq,jk]at i1 ⊢;exact i1
  show _=a_ (Out.nx [a_ (a0,d_),a_ (.lst (es.map bJ++[.tup [.str w.2.1,.str (T f.1),.tup (f.2.1.map Dat.int),.str w.2.2]]),c_),_,_,_,_,_,_]);generalize es.map bJ=ES at ha ⊢;generalize f.2.1.map Dat.int=cs at i1 i4 ha ⊢;generalize T f.1=lt at ha i4 ⊢;generalize T f.2.2=pl at hc ⊢;generalize T [w.1]=tw at hc ⊢;clear hl hm ho hw;unfold UT;walk_at "py"
 ·rw[decide_eq_false hm]at hc;rw[show GR f w=[]from if_neg hm,aX];generalize es.map bJ=ES;generalize f.2.1.map Dat.int=cs at i1 ⊢;generalize T f.1=lt;generalize T f.2.2=pl at hc ⊢;generalize T [w.1]=tw at hc ⊢;clear hl hm ho hw;unfold UT;walk_at "py"
theorem J1{C:Fs}{f:Fm}(ho:oA f)(a0:Dat):∀(ws:List (Nat×aV×aV)) (es:List Ed) (z5 z6 z7:g_),(∀w∈ws,w∈W6)->es.length+ws.length<1000->
  ∃y5 y6 y7:g_,dn (dC d_ [5,6,7]) (bN C UT) (ws.map Dk) [a_ (a0,d_),a_ (.lst (es.map bJ),c_),a_ (.str (T f.1),d_),a_ (.tup (f.2.1.map Dat.int),d_),a_ (.str (T f.2.2),d_),z5,z6,z7] =
   a_ (.nx [a_ (a0,d_),a_ (.lst ((es++ws.flatMap (GR f)).map bJ),c_),a_ (.str (T f.1),d_),a_ (.tup (f.2.1.map Dat.int),d_),a_ (.str (T f.2.2),d_),y5,y6,y7])
 |[],es,z5,z6,z7,_,_=>⟨z5,z6,z7,by simp only[cm,i6,aX,dn]⟩
 |w::ws,es,z5,z6,z7,h,hl=>by
   have hb:=WZ (C:=C) ho (h w hJ) a0 es (by omega)
   have h1:(GR f w).length<=1:=by
    unfold GR;split<;>simp
   obtain⟨y5,y6,y7,hr⟩:=J1 (C:=C) ho a0 ws (es++GR f w) (a_ (.str (T [w.1]),d_)) (a_ (.str w.2.1,d_)) (a_ (.str w.2.2,d_)) (λv hv=>h v (ib _ hv)) (by rw[aw];rw[aM]at hl;omega);refine⟨y5,y6,y7,?_⟩;have hbd:dC d_ [5,6,7] (Dk w) [a_ (a0,d_),a_ (.lst (es.map bJ),c_),a_ (.str (T f.1),d_),a_ (.tup (f.2.1.map Dat.int),d_),a_ (.str (T f.2.2),d_),z5,z6,z7]=a_ [a_ (a0,d_),a_ (.lst (es.map bJ),c_),a_ (.str (T f.1),d_),a_ (.tup (f.2.1.map Dat.int),d_),a_ (.str (T f.2.2),d_),a_ (.str (T [w.1]),d_),a_ (.str w.2.1,d_),a_ (.str w.2.2,d_)]:=rfl;rw[ag];simp only[dn,hbd,af,hb];rw[eB,<-cC];exact hr
def US:List Sx:=[.loop d_ [5,6,7] (.itv (.con (.tup (W6.map Dk)))) UT]
def Uq:YL=[.set 1 (.lst []),.loop d_ [2,3,4] (.itv (.v 0)) US,.pe 1]:=by
 unfold US;rw[<-Mb];rfl
def U6:im (.tup (W6.map Dk))=c_:=by decide +kernel
def RF{C:Fs}{f:Fm}(ho:oA f)(a0:Dat)(es:List Ed)(hl:es.length<900)(z5 z6 z7:g_) :
  ∃y5 y6 y7:g_,bN C US [a_ (a0,d_),a_ (.lst (es.map bJ),c_),a_ (.str (T f.1),d_),a_ (.tup (f.2.1.map Dat.int),d_),a_ (.str (T f.2.2),d_),z5,z6,z7] =
   a_ (.nx [a_ (a0,d_),a_ (.lst ((es++E6 f).map bJ),c_),a_ (.str (T f.1),d_),a_ (.tup (f.2.1.map Dat.int),d_),a_ (.str (T f.2.2),d_),y5,y6,y7]):=by
 obtain⟨y5,y6,y7,h⟩:=J1 (C:=C) ho a0 W6 es z5 z6 z7 (λw hw=>hw) (by show _+6<_;omega);refine⟨y5,y6,y7,?_⟩;unfold US;rw[fM,iO,bM,af];have hi:gJ (.tup (W6.map Dk))=a_ (W6.map Dk):=rfl;simp only[hi,af,U6,kX,if_true];rw[h];rfl
def CM(f:Fm):(E6 f).length<=6:=by
 show(W6.flatMap (GR f)).length<=6;rw[Fy];have h:∀w,(GR f w).length<=1:=λw=>by unfold GR;split<;>simp
 have h1:=h (119,"out","done");have h2:=h (119,"let","done");have h3:=h (98,"out","in");have h4:=h (98,"let","in");have h5:=h (109,"in","in");have h6:=h (101,"in","done");simp only[W6,ag,cm,yR,List.sum_nil];omega
theorem PM{C:Fs}(a0:Dat):∀(gs:List Fm) (es:List Ed) (z2 z3 z4 z5 z6 z7:g_),(∀f∈gs,oA f)->es.length+6 * gs.length<900->
  ∃y2 y3 y4 y5 y6 y7:g_,dn (dC d_ [2,3,4]) (bN C US) (gs.map dS) [a_ (a0,d_),a_ (.lst (es.map bJ),c_),z2,z3,z4,z5,z6,z7]=a_ (.nx [a_ (a0,d_),a_ (.lst ((es++gs.flatMap E6).map bJ),c_),y2,y3,y4,y5,y6,y7])
 |[],es,z2,z3,z4,z5,z6,z7,_,_=>⟨z2,z3,z4,z5,z6,z7,by simp only[cm,i6,aX,dn]⟩
 |g::gs,es,z2,z3,z4,z5,z6,z7,h,hl=>by
   rw[aM]at hl;obtain⟨x5,x6,x7,hb⟩:=RF (C:=C) (h g hJ) a0 es (by omega) z5 z6 z7;have h6:=CM g;obtain⟨y2,y3,y4,y5,y6,y7,hr⟩:=PM (C:=C) a0 gs (es++E6 g) (a_ (.str (T g.1),d_)) (a_ (.tup (g.2.1.map Dat.int),d_)) (a_ (.str (T g.2.2),d_)) x5 x6 x7 (λf hf=>h f (ib _ hf)) (by rw[aw];omega);refine⟨y2,y3,y4,y5,y6,y7,?_⟩;have hbd:dC d_ [2,3,4] (dS g) [a_ (a0,d_),a_ (.lst (es.map bJ),c_),z2,z3,z4,z5,z6,z7]=a_ [a_ (a0,d_),a_ (.lst (es.map bJ),c_),a_ (.str (T g.1),d_),a_ (.tup (g.2.1.map Dat.int),d_),a_ (.str (T g.2.2),d_),z5,z6,z7]:=rfl;rw[ag];simp only[dn,hbd,af,hb];rw[eB,<-cC];exact hr
def FZ{n:Nat}{fs:List Fm}(ho:∀f∈fs,oA f)(hl:fs.length<=10):Cn D (n+1) 14 [.tup (fs.map dS)]=a_ (.lst ((fs.flatMap E6).map bJ),c_):=by
 refine dE (C:=Cn D n) (np:=1) (nl:=8) (body:=YL) rfl ?_;obtain⟨y2,y3,y4,y5,y6,y7,h⟩:=PM (C:=Cn D n) (.tup (fs.map dS)) fs [] b_ b_ b_ b_ b_ b_ ho (by show 0+_<_;omega);rw[Uq];show bN (Cn D n) _ [a_ (.tup (fs.map dS),d_),b_,b_,b_,b_,b_,b_,b_]=_
 have l1:fE (Cn D n) (.loop d_ [2,3,4] (.itv (.v 0)) US) [a_ (.tup (fs.map dS),d_),a_ (.lst [],c_),b_,b_,b_,b_,b_,b_]=a_ (.nx [a_ (.tup (fs.map dS),d_),a_ (.lst ((fs.flatMap E6).map bJ),c_),y2,y3,y4,y5,y6,y7]):=by
  rw[iO,eV];have hi:gJ (.tup (fs.map dS))=a_ (fs.map dS):=rfl;have hm:im (.tup (fs.map dS))=c_:=rq fs;simp only[full,ag,cm,aT,bD,aK,af,hi,hm,kX,if_true];exact h
 rw[fM,show fE (Cn D n) (.set 1 (.lst [])) [a_ (.tup (fs.map dS),d_),b_,b_,b_,b_,b_,b_,b_]=a_ (.nx [a_ (.tup (fs.map dS),d_),a_ (.lst [],c_),b_,b_,b_,b_,b_,b_])from by rw[kr,yn,ku];rfl];rw[af,ip,fM,l1,af,ip,fM,qq];rfl
def Gc{n:Nat}:Cn D (n+1) 12 []=a_ (.lst (Hr.map bJ),c_):=by
 have:um (Cn D (n+1) 12 []) (a_ (.lst (Hr.map bJ),c_))=c_:=by kernel_rfl
 exact uk this
noncomputable abbrev LH(m:List Int)(e:Ed):Ed:=(e.1,Wq e.2.1,m++e.2.2.1,e.2.2.2)
structure Xi(e:Ed):Prop where
 ho:∃f,oA f/\e.2.1=f.1
 hl:e.2.2.1.length<=6
def GO{C:Fs}{m:List Int}(hm:m.length<=2){e:Ed}(he:Xi e):bF C GX [a_ (.str e.1),a_ (.str (T e.2.1)),a_ (tI e.2.2.1),a_ (.str e.2.2.2),a_ (tI m)]=a_ (bJ (LH m e),c_):=by
 obtain⟨f,hf,ef⟩:=he.ho;have hl:=he.hl;obtain⟨c0,S1,g1,g2,g3,g4⟩:=Ku hf;rw[<-ef]at g1 g3 g4;have ha:=C8 m e.2.2.1 (by omega);have i1:=oM (m++e.2.2.1);show _=a_ (Dat.tup [.str e.1,.str (T (Wq e.2.1)),tI (m++e.2.2.1),.str e.2.2.2],c_);clear hl hm he ef;generalize T (Wq e.2.1)=X at *;generalize T e.2.1=Y at *;generalize tI (m++e.2.2.1)=C3 at *;generalize tI e.2.2.1=C1 at *;generalize tI m=M0 at *;generalize T [c0 - 32]=U at *;generalize T [c0]=V at *;walk_at "py"
theorem wD{C:Fs}{m:List Int}(hm:m.length<=2)(x0:Dat):∀es:List Ed,(∀e∈es,Xi e)->k9 (iG C 4 d_ (fJ 4 [1] [a_ x0,a_ (tI m)]) [] GX) (es.map bJ)=a_ ((es.map (LH m)).map bJ,c_)
 |[],_=>rfl
 |e::es,h=>by
   have hc:iG C 4 d_ (fJ 4 [1] [a_ x0,a_ (tI m)]) [] GX (bJ e)=a_ (a_ (bJ (LH m e),c_)):=by
    show(bF C GX [a_ (.str e.1),a_ (.str (T e.2.1)),a_ (tI e.2.2.1),a_ (.str e.2.2.2),a_ (tI m)]).map a_=_;rw[GO hm (h e hJ)];rfl
   rw[ag];unfold k9;rw[hc,wD hm x0 es λe he=>h e (ib _ he)];rfl
def Ga{n:Nat}{m:List Int}(hm:m.length<=2){es:List Ed}(h:∀e∈es,Xi e)(hl:es.length<=1000):Cn D (n+1) 15 [.lst (es.map bJ),tI m]=a_ (.lst ((es.map (LH m)).map bJ),c_):=by
 refine dE (C:=Cn D n) (np:=2) (nl:=2) (body:=Zs) rfl ?_
 have hc:bF (Cn D n) (.comp 4 d_ [1] (.itv (.v 0)) [] GX) [a_ (.lst (es.map bJ)),a_ (tI m)]=a_ (.lst ((es.map (LH m)).map bJ),c_):=
  jc (items:=es.map bJ) rfl (by rw[ah];omega) (wD hm _ es h)
 show eP (kW _ (bF (Cn D n) (.comp 4 d_ [1] (.itv (.v 0)) [] GX) [a_ (.lst (es.map bJ)),a_ (tI m)])) _=_;rw[hc];rfl
noncomputable def A6:List (Nat×aV×aV):=[(119,"out","done"),(119,"let","done"),(98,"out","all"),(98,"let","all"),(109,"all","all"),(101,"all","done")]
noncomputable abbrev bg(f:Fm)(w:Nat×aV×aV):Bool:=decide (w.1∈f.2.2) && (decide (w.1≠119) || decide (1<(f.1.length:Int)))
noncomputable def Ay(m:List Int)(f:Fm)(w:Nat×aV×aV):List Ed:=if bg f w=c_ then [(w.2.1,uT f.1,(if(w.2.1 == Bk)=c_ then []else m)++f.2.1,w.2.2)]else []
abbrev H6(m:List Int)(f:Fm):List Ed:=A6.flatMap (Ay m f)
def Xl:List Sx:=[.ifs CN [.set 9 (.ite (.cmp .eq (.v 7) (.con (.str Bk))) (.tup []) (.v 1)),.mut .app 2 [.tup [.v 7,.l5 .upper (.v 3) [],.bin .add (.v 9) (.v 4),.v 8]]] []]
def Lk:(Dat.tup [(.tup [(.str (aa "w")),(.str (aa "out")),(.str (aa "done"))]),(.tup [(.str (aa "w")),(.str (aa "let")),(.str (aa "done"))]),(.tup [(.str (aa "b")),(.str (aa "out")),(.str (aa "all"))]),(.tup [(.str (aa "b")),(.str (aa "let")),(.str (aa "all"))]),(.tup [(.str (aa "m")),(.str (aa "all")),(.str (aa "all"))]),(.tup [(.str (aa "e")),(.str (aa "all")),(.str (aa "done"))])])=.tup (A6.map Dk):=by
 have h1:aa "w"=T [119]:=by decide +kernel
 have h2:aa "b"=T [98]:=by decide +kernel
 have h3:aa "m"=T [109]:=by decide +kernel
 have h4:aa "e"=T [101]:=by decide +kernel
 rw[h1,h2,h3,h4];rfl
def Wf:((ax 16).all λk=>A6.all λw=>decide (dF .isin (.str (T [w.1])) (.str (T (Gp k)))=a_ (decide (w.1∈Gp k))) && decide (dF .ne (.str (T [w.1])) (.str (aa "w"))=a_ (decide (w.1≠119))))=c_:=by decide +kernel
noncomputable abbrev e4(a0:Dat)(m:List Int)(f:Fm)(es:List Ed)(r:cF):cF:=a_ (a0,d_)::a_ (tI m,d_)::a_ (.lst (es.map bJ),c_)::a_ (.str (T f.1),d_)::a_ (tI f.2.1,d_)::a_ (.str (T f.2.2),d_)::r
def WY{C:Fs}{f:Fm}(ho:oA f){m:List Int}(hm:m.length<=2){w:Nat×aV×aV}(hw:w∈A6)(a0:Dat)(es:List Ed)(hl:es.length<800)(z9:g_) :
  ∃y9,bN C Xl (e4 a0 m f es [a_ (.str (T [w.1]),d_),a_ (.str w.2.1,d_),a_ (.str w.2.2,d_),z9])=a_ (.nx (e4 a0 m f (es++Ay m f w) [a_ (.str (T [w.1]),d_),a_ (.str w.2.1,d_),a_ (.str w.2.2,d_),y9])):=by
 obtain⟨k,_,k2,hk⟩:=ho.pp;have hq:=aY.mp (aY.mp Wf k (aZ.mpr k2)) w hw;rw[aq]at hq;have c1:=of_decide_eq_true hq.1;have c2:=of_decide_eq_true hq.2;rw[<-hk]at c1;have hll:=ho.ll;have hcl:=ho.cl;have c3:eD .len [.str (T f.1)]=a_ (.int (f.1.length:Nat),d_):=len_T (by omega);have c4:dF .gt (.int (f.1.length:Nat)) (.int 1)=a_ (decide (1<(f.1.length:Int))):=rfl
 have cc:bF C CN (full (e4 a0 m f es [a_ (.str (T [w.1]),d_),a_ (.str w.2.1,d_),a_ (.str w.2.2,d_),z9]))=a_ (.bl (bg f w),d_):=by
  unfold bg e4;generalize decide (w.1∈f.2.2)=p at *;generalize decide (w.1≠119)=q at *;generalize decide (1<(f.1.length:Int))=r at *;generalize ((f.1.length:Nat):Int)=L at *;generalize T [w.1]=tw at *;generalize T f.2.2=pl at *;generalize T f.1=lt at *;generalize tI f.2.1=C1 at *;generalize tI m=M0 at *;generalize es.map bJ=ES at *;clear hll hcl hl hm hk hq ho;cases p<;>cases q<;>cases r<;>walk_at "py"
 unfold Xl;rw[fM,tS,cc];show ∃y9,eP (if bg f w=c_ then bN C [_,_] _ else bN C [] _) _=_
 cases hb:bg f w with
 |false=>
   refine⟨z9,?_⟩;rw[if_neg bh];unfold Ay;rw[if_neg (by rw[hb];exact bh),aX];rfl
 |true=>
   rw[if_pos rfl];refine⟨a_ (tI (if(w.2.1 == Bk)=c_ then []else m),d_),?_⟩;unfold Ay;rw[if_pos hb];have hu:=Qk ho;have ce:dF .eq (.str w.2.1) (.str Bk)=a_ (w.2.1 == Bk):=rfl
   have ha:=C8 (if(w.2.1 == Bk)=c_ then []else m) f.2.1 (by
    split
    ·rw[eY];omega
    ·omega)
   have hp:=yH (es:=es) (w.2.1,uT f.1,(if(w.2.1 == Bk)=c_ then []else m)++f.2.1,w.2.2) (by omega);have i1:=rA w.2.1 (T (uT f.1)) w.2.2 ((if(w.2.1 == Bk)=c_ then []else m)++f.2.1);have i2:=oM ((if(w.2.1 == Bk)=c_ then []else m)++f.2.1);have i3:=oM m;have i4:im (.tup [])=c_:=rfl;have hp:gX .app (.lst (es.map bJ)) [.tup [.str w.2.1,.str (T (uT f.1)),tI ((if(w.2.1 == Bk)=c_ then []else m)++f.2.1),.str w.2.2]]=a_ (.lst ((es++[(w.2.1,uT f.1,(if(w.2.1 == Bk)=c_ then []else m)++f.2.1,w.2.2)]).map bJ)):=hp;have e1:tI (if(w.2.1 == Bk)=c_ then []else m)=if(w.2.1 == Bk)=c_ then .tup []else tI m:=by split<;>rfl
   rw[e1]at ha;show eP (bN C [_,_] (e4 a0 m f es _)) _=a_ (Out.nx (e4 a0 m f _ [_,_,_,a_ (tI (if(w.2.1 == Bk)=c_ then []else m),d_)]));rw[e1];unfold e4;generalize (es++[(w.2.1,uT f.1,(if(w.2.1 == Bk)=c_ then []else m)++f.2.1,w.2.2)]).map bJ=E2 at *;generalize tI ((if(w.2.1 == Bk)=c_ then []else m)++f.2.1)=C3 at *;generalize (w.2.1 == Bk)=al at *;generalize T (uT f.1)=U at *;generalize T [w.1]=tw at *;generalize T f.2.2=pl at *;generalize T f.1=lt at *;generalize tI f.2.1=C1 at *;generalize tI m=M0 at *;generalize es.map bJ=ES at *;clear cc c1 c2 c3 c4 hll hcl hl hm hk hq ho hb e1;cases al
   ·simp only[aG,if_false]at ha ⊢;walk_at "py"
   ·simp only[if_true]at ha ⊢;walk_at "py"
theorem J0{C:Fs}{f:Fm}(ho:oA f){m:List Int}(hm:m.length<=2)(a0:Dat):∀(ws:List (Nat×aV×aV)) (es:List Ed) (z6 z7 z8 z9:g_),(∀w∈ws,w∈A6)->es.length+ws.length<800->
  ∃y6 y7 y8 y9:g_,dn (dC d_ [6,7,8]) (bN C Xl) (ws.map Dk) (e4 a0 m f es [z6,z7,z8,z9])=a_ (.nx (e4 a0 m f (es++ws.flatMap (Ay m f)) [y6,y7,y8,y9]))
 |[],es,z6,z7,z8,z9,_,_=>⟨z6,z7,z8,z9,by simp only[cm,i6,aX,dn]⟩
 |w::ws,es,z6,z7,z8,z9,h,hl=>by
   obtain⟨x9,hb⟩:=WY (C:=C) ho hm (h w hJ) a0 es (by omega) z9
   have h1:(Ay m f w).length<=1:=by
    unfold Ay;split
    ·exact aC 1
    ·exact bY 1
   obtain⟨y6,y7,y8,y9,hr⟩:=J0 (C:=C) ho hm a0 ws (es++Ay m f w) (a_ (.str (T [w.1]),d_)) (a_ (.str w.2.1,d_)) (a_ (.str w.2.2,d_)) x9 (λv hv=>h v (ib _ hv)) (by rw[aw];rw[aM]at hl;omega);refine⟨y6,y7,y8,y9,?_⟩;have hbd:dC d_ [6,7,8] (Dk w) (e4 a0 m f es [z6,z7,z8,z9])=a_ (e4 a0 m f es [a_ (.str (T [w.1]),d_),a_ (.str w.2.1,d_),a_ (.str w.2.2,d_),z9]):=rfl;rw[ag];simp only[dn,hbd,af,hb];rw[eB,<-cC];exact hr
def UR:List Sx:=[.loop d_ [6,7,8] (.itv (.con (.tup (A6.map Dk)))) Xl]
def Uo:YK=[.set 2 (.lst []),.loop d_ [3,4,5] (.itv (.v 0)) UR,.pe 2]:=by
 unfold UR;rw[<-Lk];rfl
def W4:im (.tup (A6.map Dk))=c_:=by decide +kernel
def RE{C:Fs}{f:Fm}(ho:oA f){m:List Int}(hm:m.length<=2)(a0:Dat)(es:List Ed)(hl:es.length<700)(z6 z7 z8 z9:g_) :
  ∃y6 y7 y8 y9:g_,bN C UR (e4 a0 m f es [z6,z7,z8,z9])=a_ (.nx (e4 a0 m f (es++H6 m f) [y6,y7,y8,y9])):=by
 obtain⟨y6,y7,y8,y9,h⟩:=J0 (C:=C) ho hm a0 A6 es z6 z7 z8 z9 (λw hw=>hw) (by show _+6<_;omega);refine⟨y6,y7,y8,y9,?_⟩;unfold UR;rw[fM,iO,bM,af];have hi:gJ (.tup (A6.map Dk))=a_ (A6.map Dk):=rfl;simp only[hi,af,W4,kX,if_true];rw[h];rfl
def yi(m:List Int)(f:Fm):(H6 m f).length<=6:=by
 show(A6.flatMap (Ay m f)).length<=6;rw[Fy]
 have h:∀w,(Ay m f w).length<=1:=λw=>by
  unfold Ay;split
  ·exact aC 1
  ·exact bY 1
 have h1:=h (119,"out","done");have h2:=h (119,"let","done");have h3:=h (98,"out","all");have h4:=h (98,"let","all");have h5:=h (109,"all","all");have h6:=h (101,"all","done");simp only[A6,ag,cm,yR,List.sum_nil];omega
theorem PL{C:Fs}{m:List Int}(hm:m.length<=2)(a0:Dat):∀(gs:List Fm) (es:List Ed) (z3 z4 z5 z6 z7 z8 z9:g_),(∀f∈gs,oA f)->es.length+6 * gs.length<700->
  ∃y3 y4 y5 y6 y7 y8 y9:g_,dn (dC d_ [3,4,5]) (bN C UR) (gs.map dS) [a_ (a0,d_),a_ (tI m,d_),a_ (.lst (es.map bJ),c_),z3,z4,z5,z6,z7,z8,z9]=a_ (.nx [a_ (a0,d_),a_ (tI m,d_),a_ (.lst ((es++gs.flatMap (H6 m)).map bJ),c_),y3,y4,y5,y6,y7,y8,y9])
 |[],es,z3,z4,z5,z6,z7,z8,z9,_,_=>⟨z3,z4,z5,z6,z7,z8,z9,by simp only[cm,i6,aX,dn]⟩
 |g::gs,es,z3,z4,z5,z6,z7,z8,z9,h,hl=>by
   rw[aM]at hl;obtain⟨x6,x7,x8,x9,hb⟩:=RE (C:=C) (h g hJ) hm a0 es (by omega) z6 z7 z8 z9;have h6:=yi m g;obtain⟨y3,y4,y5,y6,y7,y8,y9,hr⟩:=PL (C:=C) hm a0 gs (es++H6 m g) (a_ (.str (T g.1),d_)) (a_ (tI g.2.1,d_)) (a_ (.str (T g.2.2),d_)) x6 x7 x8 x9 (λf hf=>h f (ib _ hf)) (by rw[aw];omega);refine⟨y3,y4,y5,y6,y7,y8,y9,?_⟩;have hbd:dC d_ [3,4,5] (dS g) [a_ (a0,d_),a_ (tI m,d_),a_ (.lst (es.map bJ),c_),z3,z4,z5,z6,z7,z8,z9]=a_ (e4 a0 m g es [z6,z7,z8,z9]):=rfl;rw[ag];simp only[dn,hbd,af,hb];rw[eB,<-cC];exact hr
def xK{n:Nat}{m:List Int}(hm:m.length<=2){fs:List Fm}(ho:∀f∈fs,oA f)(hl:fs.length<=10):Cn D (n+1) 16 [.tup (fs.map dS),tI m]=a_ (.lst ((fs.flatMap (H6 m)).map bJ),c_):=by
 refine dE (C:=Cn D n) (np:=2) (nl:=10) (body:=YK) rfl ?_;obtain⟨y3,y4,y5,y6,y7,y8,y9,h⟩:=PL (C:=Cn D n) hm (.tup (fs.map dS)) fs [] b_ b_ b_ b_ b_ b_ b_ ho (by show 0+_<_;omega);rw[Uo];show bN (Cn D n) _ [a_ (.tup (fs.map dS),d_),a_ (tI m,d_),b_,b_,b_,b_,b_,b_,b_,b_]=_
 have l1:fE (Cn D n) (.loop d_ [3,4,5] (.itv (.v 0)) UR) [a_ (.tup (fs.map dS),d_),a_ (tI m,d_),a_ (.lst [],c_),b_,b_,b_,b_,b_,b_,b_]=a_ (.nx [a_ (.tup (fs.map dS),d_),a_ (tI m,d_),a_ (.lst ((fs.flatMap (H6 m)).map bJ),c_),y3,y4,y5,y6,y7,y8,y9]):=by
  rw[iO,eV];have hi:gJ (.tup (fs.map dS))=a_ (fs.map dS):=rfl;have hm:im (.tup (fs.map dS))=c_:=rq fs;simp only[full,ag,cm,aT,bD,aK,af,hi,hm,kX,if_true];exact h
 rw[fM,show fE (Cn D n) (.set 2 (.lst [])) [a_ (.tup (fs.map dS),d_),a_ (tI m,d_),b_,b_,b_,b_,b_,b_,b_,b_]=a_ (.nx [a_ (.tup (fs.map dS),d_),a_ (tI m,d_),a_ (.lst [],c_),b_,b_,b_,b_,b_,b_,b_])from by rw[kr,yn,ku];rfl];rw[af,ip,fM,l1,af,ip,fM,qq];rfl
noncomputable abbrev pF(t:Tb)(p:Nat×Int):List Ed:=[(Dc,[p.1],t.m2++[p.2],j7),(sR,[p.1],t.m2++[p.2],j7),(j7,[p.1],[p.2],j7)]
abbrev AK(t:Tb):List (Nat×Int):=KL.zip t.fg
noncomputable def S5:List Sx:=[.mut .app 2 [.tup [.con (.str Dc),.v 3,.bin .add (.ix (.v 0) (.e_ 2)) (.tup [.v 4]),.con (.str j7)]],.mut .app 2 [.tup [.con (.str sR),.v 3,.bin .add (.ix (.v 0) (.e_ 2)) (.tup [.v 4]),.con (.str j7)]],.mut .app 2 [.tup [.con (.str j7),.v 3,.tup [.v 4],.con (.str j7)]]]
def Ur:YM=[.ifs (.cmp .eq (.v 1) (.tup [])) [.ret (.lst [])] [],.set 2 (.lst [.tup [.con (.str j7),.f_ "",.ix (.v 0) (.e_ 3),.con (.str Fe)]]),.loop d_ [3,4] (.zip [.con (.str Xw),.v 1]) S5,.pe 2]:=rfl
noncomputable abbrev e1(t:Tb)(es:List Ed)(z3 z4:g_):cF:=[a_ (rj t,d_),a_ (tI t.fg,d_),a_ (.lst (es.map bJ),c_),z3,z4]
def W0{C:Fs}{t:Tb}(h2:t.m2.length<=2)(p:Nat×Int)(es:List Ed)(hl:es.length<800) :
  bN C S5 (e1 t es (a_ (.str (T [p.1]),d_)) (a_ (.int p.2,d_)))=a_ (.nx (e1 t (es++pF t p) (a_ (.str (T [p.1]),d_)) (a_ (.int p.2,d_)))):=by
 have a2:e8 .add (tI t.m2) (.tup [.int p.2])=a_ (tI (t.m2++[p.2]),d_):=C8 t.m2 [p.2] (by show _+1<=_;omega);have a3:gX .app (.lst (es.map bJ)) [.tup [.str Dc,.str (T [p.1]),tI (t.m2++[p.2]),.str j7]]=a_ (.lst ((es++[(Dc,[p.1],t.m2++[p.2],j7)]).map bJ)):=yH (Dc,[p.1],t.m2++[p.2],j7) (by omega);have a4:gX .app (.lst ((es++[(Dc,[p.1],t.m2++[p.2],j7)]).map bJ)) [.tup [.str sR,.str (T [p.1]),tI (t.m2++[p.2]),.str j7]]=a_ (.lst ((es++[(Dc,[p.1],t.m2++[p.2],j7)]++[(sR,[p.1],t.m2++[p.2],j7)]).map bJ)):=yH (sR,[p.1],t.m2++[p.2],j7) (by rw[aw];show _+1<_;omega);have a5:gX .app (.lst ((es++[(Dc,[p.1],t.m2++[p.2],j7)]++[(sR,[p.1],t.m2++[p.2],j7)]).map bJ)) [.tup [.str j7,.str (T [p.1]),.tup [.int p.2],.str j7]]=a_ (.lst ((es++[(Dc,[p.1],t.m2++[p.2],j7)]++[(sR,[p.1],t.m2++[p.2],j7)]++[(j7,[p.1],[p.2],j7)]).map bJ)):=yH (j7,[p.1],[p.2],j7) (by rw[aw,aw];show _+1+1<_;omega);have e:es++pF t p=es++[(Dc,[p.1],t.m2++[p.2],j7)]++[(sR,[p.1],t.m2++[p.2],j7)]++[(j7,[p.1],[p.2],j7)]:=by simp
 have a6:lN [tI t.m0,tI t.m1,tI t.m2,tI t.m3] 2=a_ (tI t.m2):=rfl;have a7:=rA Dc (T [p.1]) j7 (t.m2++[p.2]);have a9:=rA sR (T [p.1]) j7 (t.m2++[p.2]);have a10:im (.tup [.str j7,.str (T [p.1]),.tup [.int p.2],.str j7])=c_:=rfl;have a8:=oM (t.m2++[p.2]);rw[e];clear e h2 hl;unfold e1 rj at *;generalize (es++[(Dc,[p.1],t.m2++[p.2],j7)]++[(sR,[p.1],t.m2++[p.2],j7)]++[(j7,[p.1],[p.2],j7)]).map bJ=E4 at *;generalize (es++[(Dc,[p.1],t.m2++[p.2],j7)]++[(sR,[p.1],t.m2++[p.2],j7)]).map bJ=E3 at *;generalize (es++[(Dc,[p.1],t.m2++[p.2],j7)]).map bJ=E2 at *;generalize tI (t.m2++[p.2])=C2 at *;generalize es.map bJ=ES at *;generalize tI t.m0=M0 at *;generalize tI t.m1=M1 at *;generalize tI t.m2=M2 at *;generalize tI t.m3=M3 at *;generalize tI t.fg=F0 at *;generalize T [p.1]=X at *;unfold S5;walk_at "py"
abbrev Zg(p:Nat×Int):Dat:=.tup [.str (T [p.1]),.int p.2]
theorem PN{C:Fs}{t:Tb}(h2:t.m2.length<=2):∀(ps:List (Nat×Int)) (es:List Ed) (z3 z4:g_),es.length+3 * ps.length<800->
  ∃y3 y4,dn (dC d_ [3,4]) (bN C S5) (ps.map Zg) (e1 t es z3 z4)=a_ (.nx (e1 t (es++ps.flatMap (pF t)) y3 y4))
 |[],es,z3,z4,_=>⟨z3,z4,by rw[i6,aX];rfl⟩
 |p::ps,es,z3,z4,hl=>by
   rw[aM]at hl;have hb:=W0 (C:=C) h2 p es (by omega);obtain⟨y3,y4,hr⟩:=PN (C:=C) h2 ps (es++pF t p) (a_ (.str (T [p.1]),d_)) (a_ (.int p.2,d_)) (by rw[aw];show _+3+_<_;omega);refine⟨y3,y4,?_⟩;show(bN C S5 (e1 t es (a_ (.str (T [p.1]),d_)) (a_ (.int p.2,d_)))).bind _=_;rw[hb,eB,<-cC];exact hr
theorem Dj:∀(l:List Nat)(g:List Int),m7 ((l.map λc=>T [c]).map Dat.str) (g.map Dat.int)=(l.zip g).map Zg
 |[],_=>by simp[m7]
 |_::_,[]=>by simp[m7]
 |c::l,x::g=>by
   have:=Dj l g;simp only[ag,m7,fA,this]
abbrev rF(t:Tb):List Ed:=if t.fg.isEmpty=c_ then []else(j7,[],t.m3,Fe)::(AK t).flatMap (pF t)
def M7{n:Nat}{t:Tb}(h2:t.m2.length<=2):Cn D (n+1) 13 [rj t,tI t.fg]=a_ (.lst ((rF t).map bJ),c_):=by
 refine dE (C:=Cn D n) (np:=2) (nl:=5) (body:=YM) rfl ?_;rw[Ur];show bN (Cn D n) _ [a_ (rj t,d_),a_ (tI t.fg,d_),b_,b_,b_]=_
 have hc:bF (Cn D n) (.cmp .eq (.v 1) (.tup [])) (full [a_ (rj t,d_),a_ (tI t.fg,d_),b_,b_,b_])=a_ (.bl t.fg.isEmpty,d_):=by
  show(dF .eq (tI t.fg) (.tup [])).map _=_;rw[n5];rfl
 rw[fM,tS,hc];show eP (if t.fg.isEmpty=c_ then bN (Cn D n) [_] _ else bN (Cn D n) [] _) _=_;unfold rF
 cases hb:t.fg.isEmpty with
 |true=>
   rw[if_pos rfl,if_pos rfl];rfl
 |false=>
   rw[if_neg bh,if_neg bh]
   have hl:(AK t).length<=10:=by
    show(KL.zip t.fg).length<=10;rw[nF];exact Pc _ _
   obtain⟨y3,y4,h⟩:=PN (C:=Cn D n) h2 (AK t) [(j7,[],t.m3,Fe)] b_ b_ (by show 1+_<_;omega)
   have l0:fE (Cn D n) (.set 2 (.lst [.tup [.con (.str j7),.f_ "",.ix (.v 0) (.e_ 3),.con (.str Fe)]])) [a_ (rj t,d_),a_ (tI t.fg,d_),b_,b_,b_]=a_ (.nx (e1 t [(j7,[],t.m3,Fe)] b_ b_)):=by
    rw[NIL];have a7:=rA j7 (T []) Fe t.m3;have a8:=oM t.m3;have a6:lN [tI t.m0,tI t.m1,tI t.m2,tI t.m3] 3=a_ (tI t.m3):=rfl;show _=a_ (Out.nx [a_ (rj t,d_),a_ (tI t.fg,d_),a_ (.lst [.tup [.str j7,.str (T []),tI t.m3,.str Fe]],c_),b_,b_]);clear h hl hb hc h2;unfold rj at *;generalize tI t.m0=M0 at *;generalize tI t.m1=M1 at *;generalize tI t.m2=M2 at *;generalize tI t.m3=M3 at *;generalize tI t.fg=F0 at *;generalize T []=X at *;walk_at "py"
   have l1:fE (Cn D n) (.loop d_ [3,4] (.zip [.con (.str Xw),.v 1]) S5) (e1 t [(j7,[],t.m3,Fe)] b_ b_)=a_ (.nx (e1 t ((j7,[],t.m3,Fe)::(AK t).flatMap (pF t)) y3 y4)):=by
    show eP (kW (λds=>(ds,e1 t [(j7,[],t.m3,Fe)] b_ b_)) (a_ (m7 ((dW Xw).map Dat.str) (t.fg.map Dat.int)))) (λx:List Dat×cF=>dn (dC d_ [3,4]) (bN (Cn D n) S5) x.1 x.2)=_;rw[Y1,DE,Dj];exact h
   show eP (a_ (Out.nx [a_ (rj t,d_),a_ (tI t.fg,d_),b_,b_,b_])) _=_;rw[af,ip,fM,l0,af,ip,fM,l1,af,ip,fM,qq];rfl
theorem sy{α β:Type}{g:α->List β}{m:Nat}:∀{l:List α},(∀x∈l,(g x).length<=m)->(l.flatMap g).length<=m * l.length
 |[],_=>by simp
 |a::r,h=>by
   rw[eB,aw,aM,Nat.mul_add];have:=h a hJ;have:=sy (l:=r) λx hx=>h x (ib _ hx);omega
abbrev p7(e:Ed):Bool:=!(e.1 == Fe)
theorem Ww{C:Fs}:∀es:List Ed,k9 (iG C 1 c_ (fJ 1 [] ([]:eW)) [.cmp .ne (.ix (.v 0) (.e_ 0)) (.con (.str Fe))] (.v 0)) (es.map bJ)=a_ ((es.filter p7).map bJ,c_)
 |[]=>rfl
 |e::es=>by
   have ih:=Ww (C:=C) es
   have hc:iG C 1 c_ (fJ 1 [] ([]:eW)) [.cmp .ne (.ix (.v 0) (.e_ 0)) (.con (.str Fe))] (.v 0) (bJ e)=if p7 e=c_ then a_ (a_ (bJ e,d_))else a_ b_:=by
    rw[n6 (x:=.bl (p7 e)) (f:=d_) (t:=p7 e) (by
     simp only[fJ,fB,cm,aX,ck,iY,nZ,eV,bM,aT,bD,aK,af]
     rfl) rfl]
    rfl
   have hi:im (bJ e)=c_:=by
    have h:iX (e.2.2.1.map Dat.int)=c_:=cT _;simp[im,iX,h]
   rw[ag];unfold k9;rw[hc,ih]
   cases q:p7 e with
   |true=>simp[q,hi]
   |false=>simp[q]
def yI(A B:List Ed)(h:A.length+B.length<=1000):e8 .add (.lst (A.map bJ)) (.lst (B.map bJ))=a_ (.lst ((A++B).map bJ),c_):=by
 show(if _ then a_ (Dat.lst (A.map bJ++B.map bJ),iX (A.map bJ++B.map bJ))else b_)=_;rw[<-cO,Kk,if_pos (by rw[ah,ah,bB];omega)]
abbrev s0(t:Tb):List Ed:=t.fs.flatMap E6
abbrev s1(t:Tb):List Ed:=if t.m0.isEmpty=c_ then s0 t else s0 t++(s0 t).map (LH t.m0)
noncomputable abbrev pY(t:Tb):List Ed:=if t.m1.isEmpty=c_ then s1 t else s1 t++t.fs.flatMap (H6 t.m1)
noncomputable abbrev s3(t:Tb):List Ed:=if t.fg.isEmpty=c_ then(pY t).filter p7 else pY t
noncomputable abbrev got(t:Tb):List Ed:=s3 t++Hr++rF t
def ite_le{b:Bool}{α:Type}{x y:List α}{n:Nat}(h1:x.length<=n)(h2:y.length<=n):(if b=c_ then x else y).length<=n:=by
 split
 ·exact h1
 ·exact h2
def IH{t:Tb}(hl:t.fs.length<=10):(s0 t).length<=60:=by
 have:=sy (g:=E6) (m:=6) (l:=t.fs) λf _=>CM f;show(t.fs.flatMap E6).length<=60;omega
def IG{t:Tb}(hl:t.fs.length<=10):(s1 t).length<=120:=by
 have h:=IH hl;refine ite_le (by omega) ?_;rw[aw,ah];omega
def IF{t:Tb}(hl:t.fs.length<=10):(pY t).length<=180:=by
 have h:=IG hl;have h':=sy (g:=H6 t.m1) (m:=6) (l:=t.fs) λf _=>yi t.m1 f;refine ite_le (by omega) ?_;rw[aw];omega
def Q2{t:Tb}(hl:t.fs.length<=10):(s3 t).length<=180:=by
 have h:=IF hl;exact ite_le (cW (bS _ _) h) h
def Rf(t:Tb):(rF t).length<=31:=by
 have h:(AK t).length<=10:=by
  show(KL.zip t.fg).length<=10;rw[nF];exact Pc _ _
 have h':=sy (g:=pF t) (m:=3) (l:=AK t) λ_ _=>aC 3;refine ite_le (bY _) ?_;rw[aM];omega
def VV{f:Fm}(ho:oA f):∀e∈E6 f,Xi e:=λe he=>by
 obtain⟨w,_,h⟩:=fY.mp he;unfold GR at h;split at h
 ·obtain rfl:=aF.mp h;exact⟨⟨f,ho,rfl⟩,cW ho.cl (by decide)⟩
 ·exact absurd h bG
noncomputable abbrev e5(t:Tb)(es:List Ed):cF:=[a_ (tb t,d_),a_ (.tup (t.fs.map dS),d_),a_ (rj t,d_),a_ (.lst (es.map bJ),c_)]
def ee{n:Nat}{t:Tb}(ht:VU t):fE (Cn D (n+1)) (.ifs (.cmp .ne (.ix (.v 2) (.e_ 0)) (.tup [])) [.set 3 (.bin .add (.v 3) (.call 15 [.v 3,.ix (.v 2) (.e_ 0)]))] []) (e5 t (s0 t))=a_ (.nx (e5 t (s1 t))):=by
 have hl:=IH ht.hl;have r:=Ga (n:=n) ht.h0 (es:=s0 t) (λe he=>by obtain⟨f,hf,h⟩:=fY.mp he;exact VV (ht.ho f hf) e h) (by omega);have a:=yI (s0 t) ((s0 t).map (LH t.m0)) (by rw[ah];omega);have hn:=Cm t.m0;have a2:lN [tI t.m0,tI t.m1,tI t.m2,tI t.m3] 0=a_ (tI t.m0):=rfl
 have e1:(s1 t).map bJ=if t.m0.isEmpty=c_ then(s0 t).map bJ else(s0 t++(s0 t).map (LH t.m0)).map bJ:=by
  unfold s1;split<;>rfl
 unfold e5;rw[e1];clear e1 hl;generalize t.m0.isEmpty=b at hn ⊢;generalize (s0 t++(s0 t).map (LH t.m0)).map bJ=E2 at *;generalize ((s0 t).map (LH t.m0)).map bJ=E3 at *;generalize (s0 t).map bJ=E1 at *;unfold tb rj at *;generalize tI t.m0=M0 at *;generalize tI t.m1=M1 at *;generalize tI t.m2=M2 at *;generalize tI t.m3=M3 at *;generalize tI t.fg=F0 at *;generalize Dat.tup (t.fs.map dS)=FS at *;clear ht;cases b
 ·walk_at "py"
 ·walk_at "py"
def iu{n:Nat}{t:Tb}(ht:VU t):fE (Cn D (n+1)) (.ifs (.cmp .ne (.ix (.v 2) (.e_ 1)) (.tup [])) [.set 3 (.bin .add (.v 3) (.call 16 [.v 1,.ix (.v 2) (.e_ 1)]))] []) (e5 t (s1 t))=a_ (.nx (e5 t (pY t))):=by
 have hl:=IG ht.hl;have h':=sy (g:=H6 t.m1) (m:=6) (l:=t.fs) λf _=>yi t.m1 f;have hfl:=ht.hl;have r:=xK (n:=n) ht.h1 ht.ho ht.hl;have a:=yI (s1 t) (t.fs.flatMap (H6 t.m1)) (by omega);have hn:=Cm t.m1;have a2:lN [tI t.m0,tI t.m1,tI t.m2,tI t.m3] 1=a_ (tI t.m1):=rfl
 have e1:(pY t).map bJ=if t.m1.isEmpty=c_ then(s1 t).map bJ else(s1 t++t.fs.flatMap (H6 t.m1)).map bJ:=by
  unfold pY;cases t.m1.isEmpty<;>rfl
 unfold e5;rw[e1];clear e1 hl h' hfl;generalize t.m1.isEmpty=b at hn ⊢;generalize (s1 t++t.fs.flatMap (H6 t.m1)).map bJ=E2 at *;generalize (t.fs.flatMap (H6 t.m1)).map bJ=E3 at *;generalize (s1 t).map bJ=E1 at *;unfold tb rj at *;generalize tI t.m0=M0 at *;generalize tI t.m1=M1 at *;generalize tI t.m2=M2 at *;generalize tI t.m3=M3 at *;generalize tI t.fg=F0 at *;generalize Dat.tup (t.fs.map dS)=FS at *;clear ht;cases b
 ·walk_at "py"
 ·walk_at "py"
abbrev CF:Ex:=.comp 1 c_ [] (.itv (.v 3)) [.cmp .ne (.ix (.v 0) (.e_ 0)) (.con (.str Fe))] (.v 0)
def oo{n:Nat}{t:Tb}(ht:VU t):fE (Cn D (n+1)) (.ifs (.cmp .eq (.ix (.v 0) (.e_ 2)) (.tup [])) [.set 3 CF] []) (e5 t (pY t))=a_ (.nx (e5 t (s3 t))):=by
 have hl:=IF ht.hl
 have hc:bF (Cn D (n+1)) CF [a_ (tb t),a_ (.tup (t.fs.map dS)),a_ (rj t),a_ (.lst ((pY t).map bJ))]=a_ (.lst (((pY t).filter p7).map bJ),c_):=
  jc (items:=(pY t).map bJ) rfl (by rw[ah];omega) (Ww (C:=Cn D (n+1)) _)
 have hq:bF (Cn D (n+1)) (.cmp .eq (.ix (.v 0) (.e_ 2)) (.tup [])) (full (e5 t (pY t)))=a_ (.bl t.fg.isEmpty,d_):=by
  show(dF .eq (tI t.fg) (.tup [])).map _=_;rw[n5];rfl
 have e1:e5 t (s3 t)=if t.fg.isEmpty=c_ then e5 t ((pY t).filter p7)else e5 t (pY t):=by
  unfold s3;cases t.fg.isEmpty<;>rfl
 rw[tS,hq,e1];show(if t.fg.isEmpty=c_ then bN _ [_] _ else bN _ [] _)=_
 cases t.fg.isEmpty with
 |true=>
   rw[if_pos rfl,if_pos rfl,fM,kr];show eP (eP (bF (Cn D (n+1)) CF [a_ (tb t),a_ (.tup (t.fs.map dS)),a_ (rj t),a_ (.lst ((pY t).map bJ))]) _) _=_;rw[hc];unfold e5;generalize ((pY t).filter p7).map bJ=E2 at *;generalize (pY t).map bJ=E1 at *;rfl
 |false=>rfl
def Gb{n:Nat}{t:Tb}(ht:VU t)(h64:(got t).length<64):Cn D (n+2) 17 [tb t]=a_ (.lst (FO (got t)),c_):=by
 refine dE (C:=Cn D (n+1)) (np:=1) (nl:=4) (body:=Zr) rfl ?_;have l1:=ee (n:=n) ht;have l2:=iu (n:=n) ht;have l3:=oo (n:=n) ht;have r0:=FZ (n:=n) ht.ho ht.hl;have rb:=Gc (n:=n);have rf:=M7 (n:=n) ht.h2;have n3:=Q2 ht.hl;have nf:=Rf t;have a1:=yI (s3 t) Hr (by show _+3<=_;omega);have a2:=yI (s3 t++Hr) (rF t) (by rw[aw];show _+3+_<=_;omega)
 have hs:eD .sset [.lst ((got t).map bJ)]=a_ (.lst (FO (got t)),c_):=
  Mt h64 (by show s3 t++Hr++rF t≠[];intro e;simp[Hr]at e)
 show bN (Cn D (n+1)) (_::_::_::.ifs (.cmp .ne (.ix (.v 2) (.e_ 0)) (.tup [])) [.set 3 (.bin .add (.v 3) (.call 15 [.v 3,.ix (.v 2) (.e_ 0)]))] []::.ifs (.cmp .ne (.ix (.v 2) (.e_ 1)) (.tup [])) [.set 3 (.bin .add (.v 3) (.call 16 [.v 1,.ix (.v 2) (.e_ 1)]))] []::.ifs (.cmp .eq (.ix (.v 0) (.e_ 2)) (.tup [])) [.set 3 CF] []::[.ret (.blt .sset [.bin .add (.bin .add (.v 3) (.call 12 [])) (.call 13 [.v 2,.ix (.v 0) (.e_ 2)])])]) [a_ (tb t,d_),b_,b_,b_]=_
 have g0:fE (Cn D (n+1)) (.set 1 (.ix (.v 0) (.e_ 0))) [a_ (tb t,d_),b_,b_,b_]=a_ (.nx [a_ (tb t,d_),a_ (.tup (t.fs.map dS),d_),b_,b_]):=by
  have a0:=at0 t;have i:=rq t.fs;have i:im (.tup (t.fs.map dS))=c_:=i;unfold tb at *;generalize rj t=Mk0 at *;generalize tI t.fg=F0 at *;generalize Dat.tup (t.fs.map dS)=FS at *;clear l1 l2 l3 r0 rb rf n3 nf a1 a2 hs ht;walk_at "py"
 have g1:fE (Cn D (n+1)) (.set 2 (.ix (.v 0) (.e_ 1))) [a_ (tb t,d_),a_ (.tup (t.fs.map dS),d_),b_,b_]=a_ (.nx [a_ (tb t,d_),a_ (.tup (t.fs.map dS),d_),a_ (rj t,d_),b_]):=by
  have a0:=at1 t
  have i:im (rj t)=c_:=by
   simp only[im,iX,fq,aq];exact⟨oM _,oM _,oM _,oM _⟩
  unfold tb at *;generalize rj t=Mk0 at *;generalize tI t.fg=F0 at *;generalize Dat.tup (t.fs.map dS)=FS at *;clear l1 l2 l3 r0 rb rf n3 nf a1 a2 hs ht g0;walk_at "py"
 have g2:fE (Cn D (n+1)) (.set 3 (.call 14 [.v 1])) [a_ (tb t,d_),a_ (.tup (t.fs.map dS),d_),a_ (rj t,d_),b_]=a_ (.nx (e5 t (s0 t))):=by
  unfold e5;generalize (s0 t).map bJ=E0 at *;unfold tb at *;generalize rj t=Mk0 at *;generalize tI t.fg=F0 at *;generalize Dat.tup (t.fs.map dS)=FS at *;clear l1 l2 l3 rb rf n3 nf a1 a2 hs ht g0 g1;walk_at "py"
 rw[fM,show fE (Cn D (n+1)) _ [a_ (tb t,d_),b_,b_,b_]=_ from g0,af,ip,fM,show fE (Cn D (n+1)) _ [a_ (tb t,d_),a_ (.tup (t.fs.map dS),d_),b_,b_]=_ from g1,af,ip,fM,show fE (Cn D (n+1)) _ [a_ (tb t,d_),a_ (.tup (t.fs.map dS),d_),a_ (rj t,d_),b_]=_ from g2,af,ip,fM,l1,af,ip,fM,l2,af,ip,fM,l3,af,ip];have a5:=at2 t;unfold e5;clear l1 l2 l3 g0 g1 g2 r0 n3 nf;unfold got at *;generalize FO (s3 t++Hr++rF t)=R at *;generalize (s3 t++Hr++rF t).map bJ=E3 at *;generalize (s3 t++Hr).map bJ=E2 at *;generalize (s3 t).map bJ=E1 at *;generalize Hr.map bJ=B at *;generalize (rF t).map bJ=F at *;unfold tb at *;generalize rj t=Mk0 at *;generalize tI t.fg=F0 at *;generalize Dat.tup (t.fs.map dS)=FS at *;clear ht;walk_at "py"
theorem KI{α β:Type}{g:α->List β}{m:Nat}:∀{l:List α}{x:α},(∀x∈l,(g x).length<=m+2)->x∈l->(g x).length<=m->(l.flatMap g).length+2<=(m+2) * l.length
 |a::r,x,h,hx,hg=>by
   rw[eB,aw,aM,Nat.mul_add];have h1:=h a hJ;have h2:=sy (l:=r) (m:=m+2) λx hx=>h x (ib _ hx)
   rcases ao.mp hx with rfl|hx
   ·omega
   ·have:=KI (l:=r) (λx hx=>h x (ib _ hx)) hx hg;omega
def EF(m:List Int)(f:Fm)(w:Nat×aV×aV):(Ay m f w).length<=1:=by
 unfold Ay;split
 ·exact aC 1
 ·exact bY 1
def Ws{m:List Int}{f:Fm}(h:f.1.length=1){w:Nat×aV×aV}(hw:w.1=119):Ay m f w=[]:=by
 unfold Ay bg;rw[hw,h];simp
def Tc{m:List Int}{f:Fm}(h:f.1.length=1):(H6 m f).length<=4:=by
 have h3:=EF m f (98,"out","all");have h4:=EF m f (98,"let","all");have h5:=EF m f (109,"all","all");have h6:=EF m f (101,"all","done");show([_,_,_,_,_,_].flatMap (Ay m f)).length<=4;simp only[eB,i6,aw,eY];rw[Ws h rfl,Ws h rfl,eY];omega
def VA{t:Tb}(h:t.fg.length<=2):(rF t).length<=7:=by
 refine ite_le (bY 7) ?_;have h1:=sy (g:=pF t) (m:=3) (l:=AK t) λp _=>aC 3
 have h2:(AK t).length<=2:=by
  show(KL.zip t.fg).length<=2;rw[nF];omega
 rw[aM];omega
def Vw(t:Tb):(s3 t).length<=(pY t).length:=ite_le (bS _ _) (aC _)
abbrev JV(fs:List Fm)(m0 m1 m2 m3 fg:List Int):Tb:=⟨fs,m0,m1,m2,m3,fg⟩
def Jy{fs:List Fm}{m0 m1 m2 m3 fg:List Int}(g:Xm fs m0 m1 m2 m3 fg):VU (JV fs m0 m1 m2 m3 fg):=by
 obtain⟨ls,_,hl⟩:=g.ls;exact⟨hl.ok,by rcases g.sz with h|h<;>show fs.length<=10<;>omega,g.mm.l0,g.mm.l1,g.mm.l2,g.mm.l3,g.mm.lf⟩
def Of{fs:List Fm}{m0 m1 m2 m3 fg:List Int}(g:Xm fs m0 m1 m2 m3 fg):(got (JV fs m0 m1 m2 m3 fg)).length<64:=by
 generalize ht:JV fs m0 m1 m2 m3 fg=t;have hs:(s0 t).length<=6 * t.fs.length:=sy (g:=E6) (m:=6) (l:=t.fs) λf _=>CM f;have h3:=Vw t;have hr:(rF t).length<=7:=VA (by rw[<-ht];exact g.lf);show(s3 t++Hr++rF t).length<64;rw[aw,aw];show(s3 t).length+3+(rF t).length<64
 rcases g.sz with⟨e0,e1,e2,h⟩|h
 ·have hl:t.fs.length<=7:=by rw[<-ht];exact h
  have q:(pY t).length=(s0 t).length:=by
   have a0:t.m0=[]:=by rw[<-ht];exact e0
   have a1:t.m1=[]:=by rw[<-ht];exact e1
   unfold pY s1;rw[a0,a1];rfl
  omega
 ·have hl:t.fs.length<=3:=by rw[<-ht];exact h
  have q1:(s1 t).length<=36:=by
   refine ite_le (by omega) ?_;rw[aw,ah];omega
  obtain⟨ls,hn,hL⟩:=g.ls
  obtain⟨c,r,rfl⟩:∃c r,ls=c::r:=by
   cases ls with
   |nil=>exact absurd rfl hn
   |cons c r=>exact⟨c,r,rfl⟩
  obtain⟨f,hf,hc,_⟩:=hL.own c hJ
  have q2:(pY t).length<=52:=by
   refine ite_le (by omega) ?_;have:=KI (g:=H6 t.m1) (m:=4) (l:=t.fs) (λf _=>yi t.m1 f) (x:=f) (by rw[<-ht];exact hf) (Tc (by rw[hc];rfl));rw[aw];omega
  omega
abbrev rR:List aV:=["out","in","done","num","let","all"]
structure Px(e:Ed):Prop where
 st:e.1∈rR
 ne:e.2.2.1≠[]
 hl:e.2.2.1.length<=8
def Ys{f:Fm}(ho:oA f):∀e∈E6 f,Px e:=λe he=>by
 obtain⟨w,hw,h⟩:=fY.mp he;unfold GR at h;split at h
 ·cases aF.mp h;refine⟨?_,λq=>?_,cW ho.cl (by omega)⟩
  ·have:(W6.all λw=>decide (w.2.1∈rR))=c_:=by decide +kernel
   exact of_decide_eq_true (aY.mp this w hw)
  ·have:=ho.c1;have q:f.2.1=[]:=q;rw[q]at this;cases this
 ·cases h
def Yr{m:List Int}(hm:m.length<=2){f:Fm}(ho:oA f):∀e∈H6 m f,Px e:=λe he=>by
 obtain⟨w,hw,h⟩:=fY.mp he;unfold Ay at h;split at h
 ·cases aF.mp h;have h1:=ho.c1;have h2:=ho.cl;refine⟨?_,λq=>?_,?_⟩
  ·have:(A6.all λw=>decide (w.2.1∈rR))=c_:=by decide +kernel
   exact of_decide_eq_true (aY.mp this w hw)
  ·have q:=(Br.mp q).2;rw[q]at h1;cases h1
  ·show(_++f.2.1).length<=8;rw[aw];split
   ·rw[eY];omega
   ·omega
 ·cases h
set_option tactic.hygienic true in
def Wr{fs:List Fm}{m0 m1 m2 m3 fg:List Int}(g:Xm fs m0 m1 m2 m3 fg):∀e∈got (JV fs m0 m1 m2 m3 fg),Px e:=by
 have ht:=Jy g;have k3:=g.mm.k3;have l2:=g.mm.l2;have l3:=g.mm.l3
 have h0:∀e∈s0 (JV fs m0 m1 m2 m3 fg),Px e/\e.2.2.1.length<=6:=λe he=>by
  obtain⟨f,hf,h⟩:=fY.mp he;exact⟨Ys (ht.ho f hf) e h,(VV (ht.ho f hf) e h).hl⟩
 have h1:∀e∈s1 (JV fs m0 m1 m2 m3 fg),Px e:=λe he=>by
  unfold s1 at he;split at he
  ·exact(h0 e he).1
  ·rcases az.mp he with he|he
   ·exact(h0 e he).1
   ·obtain⟨e',h',rfl⟩:=aQ.mp he;obtain⟨a,b⟩:=h0 e' h';refine⟨a.st,λq=>a.ne (Br.mp q).2,?_⟩;have:m0.length<=2:=ht.h0;show(m0++e'.2.2.1).length<=8;rw[aw];omega
 have h2:∀e∈pY (JV fs m0 m1 m2 m3 fg),Px e:=λe he=>by
  unfold pY at he;split at he
  ·exact h1 e he
  ·rcases az.mp he with he|he
   ·exact h1 e he
   ·obtain⟨f,hf,h⟩:=fY.mp he;exact Yr ht.h1 (ht.ho f hf) e h
 have h3:∀e∈s3 (JV fs m0 m1 m2 m3 fg),Px e:=λe he=>by
  unfold s3 at he;split at he
  ·exact h2 e (cz.mp he).1
  ·exact h2 e he
 intro e he
 rcases az.mp he with he|he
 ·rcases az.mp he with he|he
  ·exact h3 e he
  ·rcases ao.mp he with rfl|he
   ·exact⟨by decide +kernel,by simp,by simp⟩
   ·rcases ao.mp he with rfl|he
    ·exact⟨by decide +kernel,by simp,by simp⟩
    ·cases aF.mp he;exact⟨by decide +kernel,by simp,by simp⟩
 ·unfold rF at he;split at he
  ·cases he
  ·rename_i hf
   rcases ao.mp he with rfl|he
   ·refine⟨?_,λq=>hf ?_,cW l3 (by omega)⟩
    ·show j7∈rR;decide +kernel
    ·show fg.isEmpty=c_;rw[k3.mp q];rfl
   ·obtain⟨p,_,h⟩:=fY.mp he
    rcases ao.mp h with rfl|h
    ·exact⟨by show Dc∈rR;decide +kernel,by simp,by show(m2++[p.2]).length<=8;simp;omega⟩
    ·rcases ao.mp h with rfl|h
     ·exact⟨by show sR∈rR;decide +kernel,by simp,by show(m2++[p.2]).length<=8;simp;omega⟩
     ·cases aF.mp h;exact⟨by show j7∈rR;decide +kernel,by simp,by simp⟩
theorem DV{g g':aV->Dat}{s:aV}:∀{l:List aV},l.Nodup->s∈l->(∀s'∈l,s'≠s->g' s'=g s')->∃j,posK (.inr s) (l.map eC)=a_ j/\(l.map g)[j]?=a_ (g s)/\(l.map g).set j (g' s)=l.map g'
 |a::r,hn,hs,h=>by
   obtain⟨h1,h2⟩:=be.mp hn;by_cases q:a=s
   ·subst q;refine⟨0,if_pos rfl,rfl,?_⟩;have:r.map g=r.map g':=dv λs' m=>(h s' (ib _ m) λe=>h1 (e▸m)).symm;rw[ag,ck,ag,this]
   ·obtain⟨j,e1,e2,e3⟩:=DV (g:=g) (g':=g') (s:=s) (l:=r) h2 ((ao.mp hs).resolve_left λe=>q e.symm) λs' m=>h s' (ib _ m);refine⟨j+1,?_,e2,?_⟩
    ·show(if(eC a:Key)=.inr s then a_ 0 else(posK (.inr s) (r.map eC)).map (·+ 1))=_;rw[if_neg λe=>q (rS e),e1];rfl
    ·rw[ag,gZ,e3,ag,h a hJ q]
abbrev T8(E:List Ed)(s:aV):List Ed:=E.filter λe=>e.1 == s
abbrev ED(E:List Ed)(s:aV):Dat:=.lst ((T8 E s).map bJ)
noncomputable abbrev uZ(E:List Ed):Dat:=.dct (rR.map eC) (rR.map (ED E))
def Vj:rR.Nodup:=by decide +kernel
def Rj{E:List Ed}{e:Ed}(hl:E.length<1000)(hs:e.1∈rR):R9 .app (.str e.1) [bJ e] (uZ E)=a_ (uZ (E++[e])):=by
 obtain⟨j,e1,e2,e3⟩:=DV (g:=ED E) (g':=ED (E++[e])) Vj hs λs' _ q=>by
  unfold ED T8;rw[qG,gf (by simpa using λh=>q h.symm),nH,aX]
 have hb:(T8 E e.1).length<=E.length:=bS _ _
 have e4:gX .app (ED E e.1) [bJ e]=a_ (ED (E++[e]) e.1):=by
  unfold ED T8;rw[jN (by rw[ah];exact df hb (by omega)),qG,f7 (by simp),nH,cO];rfl
 show((posK (.inr e.1) (rR.map eC)).bind λj=>((rR.map (ED E))[j]?).bind λd=>(gX .app d [bJ e]).map λd'=>Dat.dct (rR.map eC) ((rR.map (ED E)).set j d'))=_;rw[e1,af,e2,af,e4,aK,e3]
noncomputable abbrev EN(d:Dat)(E:List Ed)(z:g_):cF:=[a_ (d,d_),a_ (uZ E,c_),a_ (.str "all",d_),z]
def Ez(e:Ed):im (bJ e)=c_:=rA _ _ _ _
def Ud{C:Fs}{d:Dat}{E:List Ed}{e:Ed}(hl:E.length<1000)(hs:e.1∈rR):bN C GF (EN d E (a_ (bJ e,d_)))=a_ (.nx (EN d (E++[e]) (a_ (bJ e,d_)))):=by
 have hp:=Rj hl hs;have hi:=Ez e;have hx:qh (bJ e) (.int 0)=a_ (.str e.1):=rfl;refine lM ?_;show((bF C (.ix (.v 3) (.e_ 0)) (full (EN d E (a_ (bJ e,d_))))).bind λy=>(mf C [.v 3] (full (EN d E (a_ (bJ e,d_))))).bind λx=>if x.2=c_ then Sa .app 1 (EN d E (a_ (bJ e,d_))) y.1 x.1 (a_ (uZ E,c_))else b_)=_;have a1:bF C (.ix (.v 3) (.e_ 0)) (full (EN d E (a_ (bJ e,d_))))=a_ (.str e.1,d_):=rfl
 have a2:mf C [.v 3] (full (EN d E (a_ (bJ e,d_))))=a_ ([bJ e],c_):=by
  show a_ ([bJ e],(d_ || im (bJ e)) && c_)=_;rw[hi];rfl
 rw[a1,a2,af,af];show(R9 .app (.str e.1) [bJ e] (uZ E)).map _=_;rw[hp];rfl
theorem J8{C:Fs}{d:Dat}:∀(es E:List Ed)(z:g_),E.length+es.length<1000->(∀e∈es,e.1∈rR)->∃z',dn (dC c_ [3]) (bN C GF) (es.map bJ) (EN d E z)=a_ (.nx (EN d (E++es) z'))
 |[],E,z,_,_=>⟨z,by rw[aX];rfl⟩
 |e::es,E,z,hl,hs=>by
   rw[aM]at hl;obtain⟨z',ih⟩:=J8 es (E++[e]) (a_ (bJ e,d_)) (by rw[aw,fD];omega) λx hx=>hs x (ib _ hx);refine⟨z',?_⟩;rw[cC]at ih;show((bN C GF (EN d E (a_ (bJ e,d_)))).bind (nO _))=_;rw[Ud (by omega) (hs e hJ)];exact ih
def XS{C:Fs}{d:Dat}:bN C [.set 1 .vL,.loop c_ [2] (.itv (.con (.tup [(.str (aa "out")),(.str (aa "in")),(.str (aa "done")),(.str (aa "num")),(.str (aa "let")),(.str (aa "all"))]))) [(.mut .seti 1 [(.lst []),(.v 2)])]] [a_ (d,d_),b_,b_,b_]=a_ (.nx (EN d [] b_)):=by kernel_rfl
def Q8{n:Nat}{t:Tb}{E:List Ed}(hr:Cn D (n+2) 17 [tb t]=a_ (.lst (E.map bJ),c_))(hl:E.length<64)(hs:∀e∈E,e.1∈rR):Cn D (n+3) 18 [tb t]=a_ (uZ E,c_):=by
 refine dE (C:=Cn D (n+2)) (np:=1) (nl:=4) (body:=Zq) rfl ?_;show bN (Cn D (n+2)) ([.set 1 .vL,.loop c_ [2] (.itv (.con (.tup [(.str (aa "out")),(.str (aa "in")),(.str (aa "done")),(.str (aa "num")),(.str (aa "let")),(.str (aa "all"))]))) [(.mut .seti 1 [(.lst []),(.v 2)])]]++[.loop c_ [3] (.itv (.call 17 [.v 0])) GF,.pe 1]) [a_ (tb t,d_),b_,b_,b_]=_;rw[nY XS];obtain⟨z',hz⟩:=J8 (C:=Cn D (n+2)) (d:=tb t) E [] b_ (by show 0+_<_;omega) hs
 have h1:fE (Cn D (n+2)) (.loop c_ [3] (.itv (.call 17 [.v 0])) GF) (EN (tb t) [] b_)=a_ (.nx (EN (tb t) E z')):=by
  rw[iO];have:bF (Cn D (n+2)) (.call 17 [.v 0]) (full (EN (tb t) [] b_))=a_ (.lst (E.map bJ),c_):=hr;rw[this];exact hz
 rw[bP h1];rfl
abbrev lB:=aV×List Int×List Nat
noncomputable abbrev cQ(p:lB):Dat:=.tup [.str p.1,tI p.2.1,.str (T p.2.2)]
abbrev mQ:=lB×List Nat
noncomputable abbrev dt(s:mQ):Dat:=.tup [cQ s.1,.str (T s.2)]
abbrev Wa(i:Int):Key:=.inl i
noncomputable abbrev stK(s:mQ):List NK:=[.inr [.inl (.inr s.1.1),.inr (s.1.2.1.map Wa),.inl (.inr (T s.1.2.2))],.inl (.inr (T s.2))]
theorem wu:∀cs:List Int,oT (cs.map Dat.int)=a_ (cs.map Wa)
 |[]=>rfl
 |a::r=>by rw[ag,oT,wu r];rfl
def Py(s:mQ):tK (dt s)=a_ (stK s):=by
 simp only[dt,tK,JM,PB,Gv,PC,wu,aK,af]
theorem Co:∀ss:List mQ,lZ (ss.map dt)=a_ (ss.map stK)
 |[]=>rfl
 |s::ss=>by
   rw[ag,lZ,Py,Co ss];rfl
abbrev UM:List (List Nat):=[[3,1,2,1],[1]]
theorem W3:∀l:List Int,(l.map Wa).all sK=c_
 |[]=>rfl
 |a::r=>by rw[ag,cu,W3 r];rfl
def DF(s:mQ):(stK s).map sN=UM:=by
 simp only[ag,cm,sN,cu,sI,sK,L2.s2,W3,if_true,jI,iR,aG,if_false]
abbrev TV(s:mQ):List (List (List Int)):=codeN (stK s)
def BV(ss:List mQ):List Dat:=(dQ sr (ss.map TV)).map (uY UM)
def VT(s:mQ):∀x∈stK s,vI (sN x)=c_:=λx hx=>by
 have:sN x∈(stK s).map sN:=cL hx;rw[DF]at this;exact aY.mp (show UM.all vI=c_ by decide) _ this
def Tx(s:mQ):uY UM (TV s)=dt s:=by
 have:=yt (Py s) (VT s);rw[DF]at this;exact this
def SH{a b:List Int}(e:a.map Wa=b.map Wa):a=b:=(qF (λx y z=>nA z)).mp e
def Mq{a b:mQ}(h1:stK a=stK b):a=b:=by
 simp only[stK,dw,vv,vt,and_true]at h1;obtain⟨⟨h1,h2,h3⟩,h4⟩:=h1;exact jj (jj h1 (jj (SH h2) (Be h3))) (Be h4)
def My(ss:List mQ):∃S:List mQ,BV ss=S.map dt/\S.length<=ss.length:=by
 have key:∀l:List (List (List (List Int))),(∀c∈l,∃s:mQ,c=TV s)->∃S:List mQ,l=S.map TV:=λl=>by
  induction l with
  |nil=>intro _;exact⟨[],rfl⟩
  |cons c r ih=>
    intro h;obtain⟨s,rfl⟩:=h c hJ;obtain⟨S,h1⟩:=ih (λc hc=>h c (ib _ hc));exact⟨s::S,by rw[h1];rfl⟩
 obtain⟨S,h1⟩:=key (dQ sr (ss.map TV)) λc hc=>by
  obtain⟨s,_,rfl⟩:=aQ.mp ((fm tO).mp hc);exact⟨s,rfl⟩
 have:=xS (jy tO (fU tO (ss.map TV))) λx hx=>(fm tO).mp hx;rw[h1,ah,ah]at this;refine⟨S,?_,this⟩;unfold BV;rw[h1,bc];exact dv λs _=>Tx s
def Jw{s:mQ}{r:List mQ}(hl:(s::r).length<64):Cj ((s::r).map stK)/\xF ((s::r).map stK)=UM:=by
 have hs:xF ((s::r).map stK)=UM:=DF s
 have h3:(((s::r).map stK).all λk=>decide (k.map sN=xF ((s::r).map stK)))=c_:=by
  rw[aY];intro k hk;obtain⟨q,_,rfl⟩:=aQ.mp hk;rw[hs];exact decide_eq_true (DF q)
 have h4:=xS (jy tO (fU tO ((s::r).map TV))) λx hx=>(fm tO).mp hx;rw[ah]at h4;exact⟨⟨by rw[hs];rfl,by rw[hs];rfl,h3,by rw[bc];exact df h4 hl⟩,hs⟩
def Eu(s:mQ)(r:List mQ):lz ((s::r).map dt)=b_:=rfl
def Du(s:mQ)(r:List mQ):jX ((s::r).map dt)=b_:=rfl
def Ms{ss:List mQ}(hl:ss.length<64):eD .sset [.lst (ss.map dt)]=a_ (.lst (BV ss),c_):=by
 cases ss with
 |nil=>rfl
 |cons s r=>
   obtain⟨h1,hs⟩:=Jw hl
   show(match lz ((s::r).map dt),jX ((s::r).map dt)with
    |some is,_=>Dy is
    |none,a_ ss=>sd ss
    |none,b_=>(lZ ((s::r).map dt)).bind nQ)=_
   rw[Eu,Du];show(lZ ((s::r).map dt)).bind nQ=_;rw[Co];show nQ ((s::r).map stK)=_;unfold nQ;rw[if_pos ⟨by rw[ah];omega,h1⟩,hs,bc];rfl
theorem JO{α β:Type}{f:α->β}(hf:∀a b,f a=f b->a=b):∀{l:List α},l.Nodup->(l.map f).Nodup
 |[],_=>et
 |a::r,h=>by
   obtain⟨h1,h2⟩:=be.mp h;rw[ag];refine be.mpr ⟨λm=>?_,JO hf h2⟩;obtain⟨b,hb,e⟩:=aQ.mp m;rw[hf _ _ e]at hb;exact h1 hb
def MA{ss:List mQ}(hl:ss.length<64)(hn:ss.Nodup):eD .sorted [.lst (ss.map dt)]=a_ (.lst (BV ss),c_):=by
 cases ss with
 |nil=>rfl
 |cons s r=>
   obtain⟨h1,hs⟩:=Jw hl
   show(match lz ((s::r).map dt),jX ((s::r).map dt)with
    |some is,_=>sortI is
    |none,a_ ss=>zv ss
    |none,b_=>(lZ ((s::r).map dt)).bind t9)=_
   rw[Eu,Du];show(lZ ((s::r).map dt)).bind t9=_;rw[Co];show t9 ((s::r).map stK)=_;unfold t9;rw[if_pos ⟨by rw[ah];exact hl,h1,JO (λa b=>Mq) hn⟩,hs,bc];rfl
noncomputable def qe(s:aV)(cs:List Int)(u:List Nat):mQ:=match cs with
 |[]=>((s,[],[]),u)
 |c::r=>((s,c::r,u),[])
abbrev jo(e:Ed):mQ:=qe e.2.2.2 e.2.2.1.tail e.2.1
def GG{s s':aV}{cs cs':List Int}{u u':List Nat}(h:qe s cs u=qe s' cs' u'):s=s'/\cs=cs'/\u=u':=by
 cases cs<;>cases cs'<;>simp only[qe,lH]at h
 ·exact⟨h.1.1,rfl,h.2⟩
 ·cases h.1.2.1
 ·cases h.1.2.1
 ·exact⟨h.1.1,h.1.2.1,h.1.2.2⟩
abbrev hit(c:Int)(e:Ed):Bool:=e.2.2.1.headD 0 == c
noncomputable abbrev sx(E:List Ed)(p:lB):List Ed:=match p.2.1 with
 |[]=>T8 E p.1
 |c::r=>[(p.1,p.2.2,c::r,p.1)]
abbrev kh(E:List Ed)(p:lB)(c:Int):List mQ:=((sx E p).filter (hit c)).map jo
theorem JP{α β:Type}{f:α->β}:∀{l:List α},(∀a∈l,∀b∈l,f a=f b->a=b)->l.Nodup->(l.map f).Nodup
 |[],_,_=>et
 |a::r,hf,h=>by
   obtain⟨h1,h2⟩:=be.mp h;rw[ag];refine be.mpr ⟨λm=>?_,JP (λa ha b hb=>hf a (ib _ ha) b (ib _ hb)) h2⟩;obtain⟨b,hb,e⟩:=aQ.mp m;have:=hf a hJ b (ib _ hb) e.symm;rw[<-this]at hb;exact h1 hb
def Wo{l l':List Int}{c:Int}(h:l≠[])(h':l'≠[])(e:l.headD 0=c)(e':l'.headD 0=c)(t:l.tail=l'.tail):l=l':=by
 cases l with
 |nil=>exact absurd rfl h
 |cons a r=>
   cases l' with
   |nil=>exact absurd rfl h'
   |cons a' r'=>
     have q:a=a':=Eq.trans (show a=c from e) (show a'=c from e').symm;have t:r=r':=t;rw[q,t]
def Ij{E:List Ed}(hE:E.Nodup)(hg:∀e∈E,e.2.2.1≠[])(p:lB)(c:Int):(kh E p c).Nodup:=by
 unfold kh sx
 cases q:p.2.1 with
 |nil=>
   refine JP (λa ha b hb e=>?_) ((hE.filter _).filter _);obtain⟨ha,ha2⟩:=cz.mp ha;obtain⟨hb,hb2⟩:=cz.mp hb;obtain⟨ha,ha1⟩:=cz.mp ha;obtain⟨hb,hb1⟩:=cz.mp hb;obtain⟨e1,e2,e3⟩:=GG e;have f1:=(eq_of_beq ha1).trans (eq_of_beq hb1).symm;exact jj f1 (jj e3 (jj (Wo (hg a ha) (hg b hb) (eq_of_beq ha2) (eq_of_beq hb2) e2) e1))
 |cons a r=>
   refine JP (λx hx y hy _=>?_) (List.Pairwise.filter _ (by simp));rw[aF.mp (cz.mp hx).1,aF.mp (cz.mp hy).1]
def wa{E:List Ed}(hl:E.length<64)(p:lB)(c:Int):(kh E p c).length<64:=by
 unfold kh;rw[ah];refine df (bS _ _) ?_;unfold sx
 cases p.2.1 with
 |nil=>exact df (bS _ _) hl
 |cons a r=>show 1<64;omega
def WA:aa ""=T []:=by decide +kernel
def CO{cs:List Int}(h:cs≠[]):Iy (tI cs) (a_ 1) b_=a_ (tI cs.tail,d_):=by
 cases cs with
 |nil=>exact absurd rfl h
 |cons a r=>
   show a_ (Dat.tup (cutD ((a::r).map Dat.int) (a_ 1) b_),d_)=_;rw[EU (by omega) (by rw[ah,aM];omega)];rfl
def Dx(s:aV)(u:List Nat){cs:List Int}{C:Fs}{r1 r2:List Sx}{ρ:cF}(h:bF C (.cmp .eq (.v 1) (.tup [])) (full ρ)=a_ (.bl cs.isEmpty,d_))(h1:cs=[]->bN C r1 ρ=a_ (.rt (dt ((s,[],[]),u)) c_))(h2:cs≠[]->bN C r2 ρ=a_ (.rt (dt ((s,cs,u),[])) c_)) :
  bN C (.ifs (.cmp .eq (.v 1) (.tup [])) r1 []::r2) ρ=a_ (.rt (dt (qe s cs u)) c_):=by
 cases cs with
 |nil=>
   refine iM ?_;rw[Ar h rfl];exact h1 rfl
 |cons a r=>
   rw[bP (ρ1:=ρ) (by rw[oV h rfl];rfl)];exact h2 (by simp)
def Gf{n:Nat}{e:Ed}(h:e.2.2.1≠[]):Cn D (n+1) 21 [bJ e]=a_ (dt (jo e),c_):=by
 obtain⟨s,u,cs,s'⟩:=e;have h:cs≠[]:=h;refine dE (C:=Cn D n) (np:=1) (nl:=2) (body:=Zo) rfl ?_
 have g1:fE (Cn D n) (.set 1 (.sl (.ix (.v 0) (.e_ 2)) (a_ (.e_ 1)) b_)) [a_ (bJ (s,u,cs,s'),d_),b_]=a_ (.nx [a_ (bJ (s,u,cs,s'),d_),a_ (tI cs.tail,d_)]):=by
  rw[kr];have:bF (Cn D n) (.sl (.ix (.v 0) (.e_ 2)) (a_ (.e_ 1)) b_) (full [a_ (bJ (s,u,cs,s'),d_),b_])=a_ (tI cs.tail,d_):=CO h;rw[this,af];show(if(im (tI cs.tail) || d_)=c_ then a_ (Out.nx [a_ (bJ (s,u,cs,s'),d_),a_ (tI cs.tail,d_ && !im (tI cs.tail))])else _)=_;rw[oM];rfl
 show bN (Cn D n) (.set 1 (.sl (.ix (.v 0) (.e_ 2)) (a_ (.e_ 1)) b_)::_) [a_ (bJ (s,u,cs,s'),d_),b_]=_;rw[bP g1];refine Dx s' u (cs:=cs.tail) ?_ (λ_=>?_) λ_=>?_
 ·show(dF .eq (tI cs.tail) (.tup [])).map _=_;rw[n5];rfl
 ·rw[WA];rfl
 ·refine iM (lK ?_);rw[WA];show a_ (Dat.tup [.tup [.str s',tI cs.tail,.str (T u)],.str (T [])],((im (tI cs.tail) && c_) || im (.tup [.str s',tI cs.tail,.str (T u)])) && c_)=_;rw[oM];rfl
def B5{n:Nat}{s:aV}{cs:List Int}{u:List Nat}:Cn D (n+1) 29 [.str s,tI cs,.str (T u)]=a_ (dt (qe s cs u),c_):=by
 refine dE (C:=Cn D n) (np:=3) (nl:=3) (body:=Xq) rfl ?_;show bN (Cn D n) Xq [a_ (.str s,d_),a_ (tI cs,d_),a_ (.str (T u),d_)]=_;unfold Xq;refine Dx s u (cs:=cs) ?_ (λ_=>?_) λ_=>?_
 ·show(dF .eq (tI cs) (.tup [])).map _=_;rw[n5];rfl
 ·rw[WA];rfl
 ·refine iM (lK ?_);rw[WA];show a_ (Dat.tup [.tup [.str s,tI cs,.str (T u)],.str (T [])],((im (tI cs) && c_) || im (.tup [.str s,tI cs,.str (T u)])) && c_)=_;rw[oM];rfl
theorem Ek{E:List Ed}{s:aV}:∀{l:List aV},s∈l->jm (.inr s) (l.map eC) (l.map (ED E))=a_ (ED E s)
 |a::r,h=>by
   show(if(eC a:Key)=.inr s then a_ (ED E a)else jm (.inr s) (r.map eC) (r.map (ED E)))=_;by_cases q:a=s
   ·rw[q,if_pos rfl]
   ·rw[if_neg λe=>q (rS e)];exact Ek ((ao.mp h).resolve_left λe=>q e.symm)
def IL{n:Nat}{E:List Ed}{p:lB}(hs:p.2.1=[]->p.1∈rR):∃fr,Cn D (n+1) 20 [uZ E,cQ p]=a_ (.lst ((sx E p).map bJ),fr):=by
 obtain⟨s,cs,u⟩:=p
 have h:bF (Cn D n) (.cmp .eq (.ix (.v 1) (.e_ 1)) (.tup [])) (full [a_ (uZ E,d_),a_ (cQ (s,cs,u),d_)])=a_ (.bl cs.isEmpty,d_):=by
  show(dF .eq (tI cs) (.tup [])).map _=_;rw[n5];rfl
 cases cs with
 |nil=>
   refine⟨d_,dE (C:=Cn D n) (np:=2) (nl:=2) (body:=U1) rfl ?_⟩;show bN (Cn D n) U1 [a_ (uZ E,d_),a_ (cQ (s,[],u),d_)]=_;refine iM ?_;rw[Ar h rfl];refine iM (lK ?_);show(jm (.inr s) (rR.map eC) (rR.map (ED E))).map _=_;rw[Ek (hs rfl)];rfl
 |cons a r=>
   refine⟨c_,dE (C:=Cn D n) (np:=2) (nl:=2) (body:=U1) rfl ?_⟩;show bN (Cn D n) U1 [a_ (uZ E,d_),a_ (cQ (s,a::r,u),d_)]=_;unfold U1;rw[bP (ρ1:=[a_ (uZ E,d_),a_ (cQ (s,a::r,u),d_)]) (by rw[oV h rfl];rfl)];refine iM (lK ?_);show a_ (Dat.lst [bJ (s,u,a::r,s)],((im (tI (a::r)) && c_) || im (bJ (s,u,a::r,s))) && c_)=_;rw[oM];rfl
def EB{cs:List Int}(h:cs≠[]):qh (tI cs) (.int 0)=a_ (.int (cs.headD 0)):=by
 cases cs with
 |nil=>exact absurd rfl h
 |cons a r=>exact jA (j:=0) rfl
theorem PZ{n:Nat}{c:Int}:∀es:List Ed,(∀e∈es,e.2.2.1≠[])->k9 (iG (Cn D (n+1)) 1 c_ [b_,a_ (.int c)] [.cmp .eq (.ix (.ix (.v 0) (.e_ 2)) (.e_ 0)) (.v 1)] (.call 21 [.v 0])) (es.map bJ)=a_ (((es.filter (hit c)).map jo).map dt,c_)
 |[],_=>rfl
 |e::es,h=>by
   have ih:=PZ (n:=n) (c:=c) es λx hx=>h x (ib _ hx);have he:=h e hJ
   have hc:iG (Cn D (n+1)) 1 c_ [b_,a_ (.int c)] [.cmp .eq (.ix (.ix (.v 0) (.e_ 2)) (.e_ 0)) (.v 1)] (.call 21 [.v 0]) (bJ e)=if hit c e=c_ then a_ (a_ (dt (jo e),c_))else a_ b_:=by
    rw[n6 (x:=.bl (hit c e)) (f:=d_) (t:=hit c e) (by
     show((qh (tI e.2.2.1) (.int 0)).map λd=>(d,d_)).bind _=_;rw[EB he]
     rfl) rfl]
    have:bF (Cn D (n+1)) (.call 21 [.v 0]) ([b_,a_ (Dat.int c)].set 0 (a_ (bJ e)))=a_ (dt (jo e),c_):=Gf he;rw[this];rfl
   rw[ag];unfold k9;rw[hc,ih]
   cases q:hit c e with
   |true=>rw[f7 q];rfl
   |false=>rw[gf (by rw[q];exact bh)];rfl
def Ge{n:Nat}{c:Int}{es:List Ed}(h:∀e∈es,e.2.2.1≠[])(hl:es.length<64)(hn:((es.filter (hit c)).map jo).Nodup):Cn D (n+2) 22 [.lst (es.map bJ),.int c]=a_ (.lst (BV ((es.filter (hit c)).map jo)),c_):=by
 refine dE (C:=Cn D (n+1)) (np:=2) (nl:=2) (body:=Zn) rfl ?_;show bN (Cn D (n+1)) [.ret (.blt .sorted [CS])] [a_ (.lst (es.map bJ),d_),a_ (.int c,d_)]=_
 have h1:bF (Cn D (n+1)) CS (full [a_ (.lst (es.map bJ),d_),a_ (.int c,d_)])=a_ (.lst (((es.filter (hit c)).map jo).map dt),c_):=
  jc (items:=es.map bJ) rfl (by rw[ah];omega) (PZ es h)
 refine iM (lK ?_);rw[jf,bO,h1];show eD .sorted [.lst (((es.filter (hit c)).map jo).map dt)]=_;refine MA ?_ hn;rw[ah];exact df (bS _ _) hl
def A4{C:Fs}{f:Nat}{a:Ex}{ρ:eW}{x:Dat}{u:Bool}(h:bF C a ρ=a_ (x,u)):bF C (.call f [a]) ρ=C f [x]:=by
 rw[gP,bO,h];rfl
def EY{C:Fs}{f:Nat}{a b:Ex}{ρ:eW}{x y:Dat}{u v:Bool}(h:bF C a ρ=a_ (x,u))(h':bF C b ρ=a_ (y,v)):bF C (.call f [a,b]) ρ=C f [x,y]:=by
 rw[gP,bO,bO,h,h'];rfl
def lA{C:Fs}{f:Nat}{a b c:Ex}{ρ:eW}{x y z:Dat}{u v w:Bool}(h:bF C a ρ=a_ (x,u))(h':bF C b ρ=a_ (y,v))(h'':bF C c ρ=a_ (z,w)):bF C (.call f [a,b,c]) ρ=C f [x,y,z]:=by
 rw[gP,bO,bO,bO,h,h',h''];rfl
def WJ{C:Fs}{f:Nat}{a b c e:Ex}{ρ:eW}{x y z q:Dat}{u v w w':Bool}(h:bF C a ρ=a_ (x,u))(h':bF C b ρ=a_ (y,v))(h'':bF C c ρ=a_ (z,w))(h3:bF C e ρ=a_ (q,w')):bF C (.call f [a,b,c,e]) ρ=C f [x,y,z,q]:=by
 rw[gP,bO,bO,bO,bO,h,h',h'',h3];rfl
def vr{C:Fs}{i:Nat}{ρ:cF}{d:Dat}{b:Bool}(h:ρ[i]?=a_ (a_ (d,b))):bF C (.v i) (full ρ)=a_ (d,d_):=by
 rw[eV]
 have:(full ρ)[i]?=a_ (a_ d):=by
  unfold full;rw[aW,h];rfl
 rw[this];rfl
def Oi{E:List Ed}(hg:∀e∈E,e.2.2.1≠[])(p:lB):∀e∈sx E p,e.2.2.1≠[]:=by
 unfold sx
 cases p.2.1 with
 |nil=>exact λe he=>hg e (cz.mp he).1
 |cons a r=>exact λe he=>by rw[aF.mp he];exact tu _ _
def KG{E:List Ed}(hl:E.length<64)(p:lB):(sx E p).length<64:=by
 unfold sx
 cases p.2.1 with
 |nil=>exact df (bS _ _) hl
 |cons a r=>show 1<64;omega
def FY{n:Nat}{t:Tb}{E:List Ed}{p:lB}{c:Int}(hr:Cn D (n+2) 17 [tb t]=a_ (.lst (E.map bJ),c_))(hl:E.length<64)(hE:E.Nodup)(hs:∀e∈E,e.1∈rR)(hg:∀e∈E,e.2.2.1≠[])(hp:p.2.1=[]->p.1∈rR) :
  Cn D (n+4) 23 [tb t,cQ p,.int c]=a_ (.lst (BV (kh E p c)),c_):=by
 refine dE (C:=Cn D (n+3)) (np:=3) (nl:=3) (body:=Zm) rfl ?_;show bN (Cn D (n+3)) [.ret (.call 22 [.call 20 [.call 18 [.v 0],.v 1],.v 2])] [a_ (tb t,d_),a_ (cQ p,d_),a_ (.int c,d_)]=_;obtain⟨fr,h20⟩:=IL (n:=n+2) (E:=E) hp;have h18:=Q8 hr hl hs;have h22:=Ge (n:=n+1) (c:=c) (Oi hg p) (KG hl p) (Ij hE hg p c);generalize Cn D (n+3)=C at h18 h20 h22 ⊢;refine iM (lK ?_);rw[EY ((EY ((A4 (vr rfl)).trans h18) (vr rfl)).trans h20) (vr rfl)];exact h22
abbrev ZZ:=g_
noncomputable abbrev yW(d:Dat)(p:lB)(c:Int)(ss:List mQ)(z7 z8 z9 z10:ZZ):cF:=[a_ (d,d_),a_ (cQ p,d_),a_ (.int c,d_),a_ (.str p.1,d_),a_ (tI p.2.1,d_),a_ (.str (T p.2.2),d_),a_ (.lst (ss.map dt),c_),z7,z8,z9,z10]
def Xt(C:Fs):Prop:=∀(s:aV)(cs:List Int)(u:List Nat),C 29 [.str s,tI cs,.str (T u)]=a_ (dt (qe s cs u),c_)
def Ut{ss:List mQ}(s:mQ)(h:ss.length<1000):gX .app (.lst (ss.map dt)) [dt s]=a_ (.lst ((ss++[s]).map dt)):=by
 rw[jN (by rw[ah];omega),cO];rfl
noncomputable abbrev both(s:aV)(c:Int)(e:Ed):Bool:=e.1 == s && hit c e
def Uc{C:Fs}(hC:Xt C){d:Dat}{p:lB}{c:Int}{ss:List mQ}{e:Ed}(he:e.2.2.1≠[])(hl:ss.length<1000) :
  bN C N1 (yW d p c ss (a_ (.str e.1,d_)) (a_ (.str (T e.2.1),d_)) (a_ (tI e.2.2.1,d_)) (a_ (.str e.2.2.2,d_)))=a_ (.nx (yW d p c (ss++([e].filter (both p.1 c)).map jo) (a_ (.str e.1,d_)) (a_ (.str (T e.2.1),d_)) (a_ (tI e.2.2.1,d_)) (a_ (.str e.2.2.2,d_)))):=by
 generalize hρ:yW d p c ss (a_ (.str e.1,d_)) (a_ (.str (T e.2.1),d_)) (a_ (tI e.2.2.1,d_)) (a_ (.str e.2.2.2,d_))=ρ;have v2:bF C (.v 2) (full ρ)=a_ (.int c,d_):=vr (b:=d_) (by rw[<-hρ];rfl);have v3:bF C (.v 3) (full ρ)=a_ (.str p.1,d_):=vr (b:=d_) (by rw[<-hρ];rfl);have v7:bF C (.v 7) (full ρ)=a_ (.str e.1,d_):=vr (b:=d_) (by rw[<-hρ];rfl);have v8:bF C (.v 8) (full ρ)=a_ (.str (T e.2.1),d_):=vr (b:=d_) (by rw[<-hρ];rfl);have v9:bF C (.v 9) (full ρ)=a_ (tI e.2.2.1,d_):=vr (b:=d_) (by rw[<-hρ];rfl);have v10:bF C (.v 10) (full ρ)=a_ (.str e.2.2.2,d_):=vr (b:=d_) (by rw[<-hρ];rfl);have c1:bF C (.cmp .eq (.v 7) (.v 3)) (full ρ)=a_ (.bl (e.1 == p.1),d_):=by rw[iY,v7,v3];rfl
 have c2:bF C (.cmp .eq (.ix (.v 9) (.e_ 0)) (.v 2)) (full ρ)=a_ (.bl (hit c e),d_):=by
  rw[iY,nZ,v9,v2,af,bM,af,EB he];rfl
 have c3:bF C (.and (.cmp .eq (.v 7) (.v 3)) (.cmp .eq (.ix (.v 9) (.e_ 0)) (.v 2))) (full ρ)=a_ (.bl (both p.1 c e),d_):=by
  rw[qt c1,c2];unfold both;cases e.1 == p.1<;>rfl
 refine lM ?_
 cases q:both p.1 c e with
 |false=>
   rw[q]at c3;rw[oV c3 rfl,gf (by rw[q];exact bh),nH,cm,aX,hρ];rfl
 |true=>
   rw[q]at c3;rw[Ar c3 rfl,f7 q,nH]
   have c4:bF C (.call 29 [.v 10,.sl (.v 9) (a_ (.e_ 1)) b_,.v 8]) (full ρ)=a_ (dt (jo e),c_):=by
    rw[lA v10 (by rw[AL,v9];exact CO he) v8];exact hC _ _ _
   refine lM ?_;rw[tR,iF,c4,ku];have hg:(ρ[6]?).join=a_ (.lst (ss.map dt),c_):=by rw[<-hρ];rfl
   show(if((c_ || im (dt (jo e))) && c_)=c_ then Gw .app 6 ρ [dt (jo e)] (ρ[6]?).join else b_)=_;rw[hg];show(gX .app (.lst (ss.map dt)) [dt (jo e)]).map _=_;rw[Ut _ hl,<-hρ];rfl
theorem J7{C:Fs}(hC:Xt C){d:Dat}{p:lB}{c:Int}:∀(es:List Ed) (ss:List mQ) (z7 z8 z9 z10:ZZ),(∀e∈es,e.2.2.1≠[])->ss.length+es.length<1000->
  ∃y7 y8 y9 y10,dn (dC d_ [7,8,9,10]) (bN C N1) (es.map bJ) (yW d p c ss z7 z8 z9 z10)=a_ (.nx (yW d p c (ss++(es.filter (both p.1 c)).map jo) y7 y8 y9 y10))
 |[],ss,z7,z8,z9,z10,_,_=>⟨z7,z8,z9,z10,by rw[show([]:List Ed).filter (both p.1 c)=[]from rfl,show([]:List Ed).map jo=[]from rfl,aX];rfl⟩
 |e::es,ss,z7,z8,z9,z10,h,hl=>by
   rw[aM]at hl;have hf:([e].filter (both p.1 c)).length<=1:=bS _ _;obtain⟨y7,y8,y9,y10,ih⟩:=J7 hC (d:=d) (p:=p) (c:=c) es (ss++([e].filter (both p.1 c)).map jo) (a_ (.str e.1,d_)) (a_ (.str (T e.2.1),d_)) (a_ (tI e.2.2.1,d_)) (a_ (.str e.2.2.2,d_)) (λx hx=>h x (ib _ hx)) (by rw[aw,ah];omega);refine⟨y7,y8,y9,y10,?_⟩
   have hq:(e::es).filter (both p.1 c)=[e].filter (both p.1 c)++es.filter (both p.1 c):=by
    rw[<-qG];rfl
   rw[hq,cO,<-cC];show(bN C N1 (yW d p c ss (a_ (.str e.1,d_)) (a_ (.str (T e.2.1),d_)) (a_ (tI e.2.2.1,d_)) (a_ (.str e.2.2.2,d_)))).bind (nO _)=_;rw[Uc hC (h e hJ) (by omega)];exact ih
def YN{C:Fs}(hC:Xt C){E:List Ed}(hg:∀e∈E,e.2.2.1≠[])(hl:E.length<64)(p:lB)(c:Int) :
  ∃y7 y8 y9 y10,bN C [S6,Wb] (yW (.lst (E.map bJ)) p c [] b_ b_ b_ b_)=a_ (.nx (yW (.lst (E.map bJ)) p c (kh E p c) y7 y8 y9 y10)):=by
 obtain⟨s,cs,u⟩:=p
 have h1:bF C (.cmp .ne (.v 4) (.tup [])) (full (yW (.lst (E.map bJ)) (s,cs,u) c [] b_ b_ b_ b_))=a_ (.bl (!cs.isEmpty),d_):=by
  show(dF .ne (tI cs) (.tup [])).map _=_;rw[Cm];rfl
 have h2:∀ss,bF C (.cmp .eq (.v 4) (.tup [])) (full (yW (.lst (E.map bJ)) (s,cs,u) c ss b_ b_ b_ b_))=a_ (.bl cs.isEmpty,d_):=λss=>by
  show(dF .eq (tI cs) (.tup [])).map _=_;rw[n5];rfl
 cases cs with
 |nil=>
   obtain⟨y7,y8,y9,y10,ih⟩:=J7 hC (d:=.lst (E.map bJ)) (p:=(s,[],u)) (c:=c) E [] b_ b_ b_ b_ hg (by show 0+_<_;omega);refine⟨y7,y8,y9,y10,?_⟩
   have a1:fE C S6 (yW (.lst (E.map bJ)) (s,[],u) c [] b_ b_ b_ b_)=a_ (.nx (yW (.lst (E.map bJ)) (s,[],u) c [] b_ b_ b_ b_)):=by
    unfold S6;rw[oV (d:=.bl d_) (fr:=d_) (by rw[qt h1];rfl) rfl];rfl
   rw[bP a1];refine lM ?_;unfold Wb;rw[Ar (h2 []) rfl];refine lM ?_
   have hq:kh E (s,[],u) c=[]++(E.filter (both s c)).map jo:=by
    show((T8 E s).filter (hit c)).map jo=_;unfold T8;rw[List.filter_filter,fL]
    congr 1
    exact List.filter_congr λe _=>Bool.and_comm _ _
   rw[hq,iO];exact ih
 |cons a r=>
   refine⟨b_,b_,b_,b_,?_⟩
   have a1:fE C S6 (yW (.lst (E.map bJ)) (s,a::r,u) c [] b_ b_ b_ b_)=a_ (.nx (yW (.lst (E.map bJ)) (s,a::r,u) c (kh E (s,a::r,u) c) b_ b_ b_ b_)):=by
    have h3:bF C (.cmp .eq (.ix (.v 4) (.e_ 0)) (.v 2)) (full (yW (.lst (E.map bJ)) (s,a::r,u) c [] b_ b_ b_ b_))=a_ (.bl (a == c),d_):=by
     show((qh (tI (a::r)) (.int 0)).map λd=>(d,d_)).bind _=_;rw[EB (tu _ _)];rfl
    have h4:=qt (b:=.cmp .eq (.ix (.v 4) (.e_ 0)) (.v 2)) h1;rw[h3]at h4;unfold S6
    have hq:kh E (s,a::r,u) c=(if(a == c)=c_ then [qe s r u]else []):=by
     show(([(s,u,a::r,s)]:List Ed).filter (hit c)).map jo=_
     cases q:a == c with
     |true=>rw[f7 (p:=hit c) (a:=(s,u,a::r,s)) q];rfl
     |false=>rw[gf (p:=hit c) (a:=(s,u,a::r,s)) (by show¬(a == c)=c_;rw[q];exact bh)];rfl
    rw[hq]
    cases q:a == c with
    |false=>
      rw[q]at h4;rw[oV h4 rfl];rfl
    |true=>
      rw[q]at h4;rw[Ar h4 rfl]
      have c4:bF C (.call 29 [.v 3,.sl (.v 4) (a_ (.e_ 1)) b_,.v 5]) (full (yW (.lst (E.map bJ)) (s,a::r,u) c [] b_ b_ b_ b_))=a_ (dt (qe s r u),c_):=by
       have g1:bF C (.sl (.v 4) (a_ (.e_ 1)) b_) (full (yW (.lst (E.map bJ)) (s,a::r,u) c [] b_ b_ b_ b_))=a_ (tI r,d_):=CO (tu a r);rw[lA (vr (d:=.str s) (b:=d_) rfl) g1 (vr (d:=.str (T u)) (b:=d_) rfl)];exact hC _ _ _
      refine lM ?_;rw[tR,iF,c4,ku];rfl
   rw[bP a1];refine lM ?_;unfold Wb;rw[oV (h2 _) rfl];rfl
def M9{n:Nat}{E:List Ed}(hg:∀e∈E,e.2.2.1≠[])(hl:E.length<64)(p:lB)(c:Int):Cn D (n+2) 30 [.lst (E.map bJ),cQ p,.int c]=a_ (.lst (BV (kh E p c)),c_):=by
 refine dE (C:=Cn D (n+1)) (np:=3) (nl:=11) (body:=Zl) rfl ?_;have hC:Xt (Cn D (n+1)):=λs cs u=>B5;have hs:=Ms (wa hl p c);show bN (Cn D (n+1)) ([.Mg [3,4,5] (.v 1),.set 6 (.lst [])]++([S6,Wb]++[.ret (.blt .sset [.v 6])])) [a_ (.lst (E.map bJ),d_),a_ (cQ p,d_),a_ (.int c,d_),b_,b_,b_,b_,b_,b_,b_,b_]=_;generalize Cn D (n+1)=C at hC ⊢;obtain⟨y7,y8,y9,y10,ha⟩:=YN hC hg hl p c
 have h0:bN C [.Mg [3,4,5] (.v 1),.set 6 (.lst [])] [a_ (.lst (E.map bJ),d_),a_ (cQ p,d_),a_ (.int c,d_),b_,b_,b_,b_,b_,b_,b_,b_]=a_ (.nx (yW (.lst (E.map bJ)) p c [] b_ b_ b_ b_)):=by
  have hi:im (cQ p)=c_:=by
   have h:iX (p.2.1.map Dat.int)=c_:=cT _;simp[im,iX,h]
  have hu:fE C (.Mg [3,4,5] (.v 1)) [a_ (.lst (E.map bJ),d_),a_ (cQ p,d_),a_ (.int c,d_),b_,b_,b_,b_,b_,b_,b_,b_]=a_ (.nx [a_ (.lst (E.map bJ),d_),a_ (cQ p,d_),a_ (.int c,d_),a_ (.str p.1,d_),a_ (tI p.2.1,d_),a_ (.str (T p.2.2),d_),b_,b_,b_,b_,b_]):=by
   show(EK C (.v 1) [a_ (.lst (E.map bJ),d_),a_ (cQ p,d_),a_ (.int c,d_),b_,b_,b_,b_,b_,b_,b_,b_]).bind _=_;rw[Tp (d:=cQ p) (f:=d_) (vr rfl) (by rw[hi];rfl)];rfl
  rw[bP hu];rfl
 rw[nY h0,nY ha];refine iM (lK ?_);rw[jf,bO,vr (d:=.lst ((kh E p c).map dt)) (b:=c_) rfl];exact hs
def IJ{n:Nat}(s:mQ):Cn D (n+1) 32 [dt s]=a_ (.bl c_,d_):=by
 refine dE (C:=Cn D n) (np:=1) (nl:=1) (body:=Zk) rfl ?_;generalize Cn D n=C;rfl
def MK(s:mQ):fx 19 (dt s)=c_:=by
 have h:=pd 16 s.1.2.1;simp[fx,dm,h]
theorem zx:∀ss:List mQ,dm 19 (ss.map dt)=c_
 |[]=>rfl
 |s::r=>by
   rw[ag];show(fx 19 (dt s) && dm 19 (r.map dt))=c_;rw[MK,zx r];rfl
theorem zU:∀l:List Int,gD (l.map Dat.int)=c_
 |[]=>rfl
 |a::r=>by
   rw[ag];show(c_ && gD (r.map Dat.int))=c_;rw[zU r];rfl
theorem JG:∀ss:List mQ,gD (ss.map dt)=c_
 |[]=>rfl
 |s::r=>by
   rw[ag];show(oS (dt s) && gD (r.map dt))=c_;have h:=zU s.1.2.1;rw[JG r];simp[oS,gD,h]
def MZ(ss:List mQ):dF .eq (.lst (ss.map dt)) (.lst (ss.map dt))=a_ c_/\dF .ne (.lst (ss.map dt)) (.lst (ss.map dt))=a_ d_:=by
 have h:=zx ss;have e:=oB (ss.map dt) (JG ss);exact⟨by rw[Yu h h,e],by rw[Yb h h,e];rfl⟩
theorem D5{C:Fs}(h:∀s:mQ,C 32 [dt s]=a_ (.bl c_,d_)):∀ss:List mQ,k9 (iG C 1 c_ [b_] [.not (.call 32 [.v 0])] (.v 0)) (ss.map dt)=a_ ([],c_)
 |[]=>rfl
 |s::r=>by
   have hc:iG C 1 c_ [b_] [.not (.call 32 [.v 0])] (.v 0) (dt s)=a_ b_:=by
    rw[n6 (x:=.bl d_) (f:=d_) (t:=d_) (by
     rw[rL,A4 (x:=dt s) (u:=d_) rfl,h];rfl) rfl]
    rfl
   rw[ag];unfold k9;rw[hc,D5 h r];rfl
def right_of{C:Fs}{t:Dat}{L:List Dat}{p:lB}{c:Int}{S:List mQ}(h30:C 30 [.lst L,cQ p,.int c]=a_ (.lst (S.map dt),c_))(h23:C 23 [t,cQ p,.int c]=a_ (.lst (S.map dt),c_))(h32:∀s:mQ,C 32 [dt s]=a_ (.bl c_,d_))(hl:S.length<64) :
  bN C YE [a_ (t,d_),a_ (.lst L,d_),a_ (cQ p,d_),a_ (.int c,d_),b_,b_]=a_ (.rt (.bl c_) d_):=by
 obtain⟨e1,e2⟩:=MZ S;have hm:∀d,gX .app (.lst (S.map dt)) [d]=a_ (.lst (S.map dt++[d])):=λd=>jN (by rw[ah];omega)
 have hk:bF C Xs (full [a_ (t,d_),a_ (.lst L,d_),a_ (cQ p,d_),a_ (.int c,d_),a_ (.lst (S.map dt),c_),a_ (.lst (S.map dt),c_)])=a_ (.lst [],c_):=
  jc (items:=S.map dt) rfl (by rw[ah];omega) (D5 h32 S)
 generalize S.map dt=X at h30 h23 e1 e2 hm hk;generalize cQ p=P at h30 h23 hk ⊢
 have g4:fE C (.set 4 (.call 30 [.v 1,.v 2,.v 3])) [a_ (t,d_),a_ (.lst L,d_),a_ (P,d_),a_ (.int c,d_),b_,b_]=a_ (.nx [a_ (t,d_),a_ (.lst L,d_),a_ (P,d_),a_ (.int c,d_),a_ (.lst X,c_),b_]):=by
  rw[kr,lA (x:=.lst L) (u:=d_) (y:=P) (v:=d_) (z:=.int c) (w:=d_) rfl rfl rfl,h30];rfl
 have g5:fE C (.set 5 (.call 23 [.v 0,.v 2,.v 3])) [a_ (t,d_),a_ (.lst L,d_),a_ (P,d_),a_ (.int c,d_),a_ (.lst X,c_),b_]=a_ (.nx [a_ (t,d_),a_ (.lst L,d_),a_ (P,d_),a_ (.int c,d_),a_ (.lst X,c_),a_ (.lst X,c_)]):=by
  rw[kr,lA (x:=t) (u:=d_) (y:=P) (v:=d_) (z:=.int c) (w:=d_) rfl rfl rfl,h23];rfl
 show bN C (.set 4 (.call 30 [.v 1,.v 2,.v 3])::.set 5 (.call 23 [.v 0,.v 2,.v 3])::.ifs (.or (.not (.blt (.isi .list) [.v 5])) (.or (.cmp .ne (.v 5) (.v 4)) (.cmp .ne Xs (.lst [])))) [(.ret (.con (.bl d_)))] []::_) _=_;rw[bP g4,bP g5];generalize hρ:[a_ (t,d_),a_ (.lst L,d_),a_ (P,d_),a_ (.int c,d_),a_ (.lst X,c_),a_ (.lst X,c_)]=ρ at hk ⊢;have v4:bF C (.v 4) (full ρ)=a_ (.lst X,d_):=vr (b:=c_) (by rw[<-hρ];rfl);have v5:bF C (.v 5) (full ρ)=a_ (.lst X,d_):=vr (b:=c_) (by rw[<-hρ];rfl)
 have c1:bF C (.or (.not (.blt (.isi .list) [.v 5])) (.or (.cmp .ne (.v 5) (.v 4)) (.cmp .ne Xs (.lst [])))) (full ρ)=a_ (.bl d_,d_):=by
  rw[CJ (x:=d_) (f:=d_) (by rw[rL,jf,bO,v5];rfl),if_neg bh,CJ (x:=d_) (f:=d_) (by rw[iY,v5,v4,af,af,e2];rfl),if_neg bh,iY,hk];rfl
 rw[bP (ρ1:=ρ) (by rw[oV c1 rfl];rfl)];subst hρ
 obtain⟨Y,hY⟩:∃Y,fE C (.mut .app 5 [(.tup [(.tup [(.f_ ""),(.tup []),(.f_ "")]),(.f_ "")])]) [a_ (t,d_),a_ (.lst L,d_),a_ (P,d_),a_ (.int c,d_),a_ (.lst X,c_),a_ (.lst X,c_)]=a_ (.nx [a_ (t,d_),a_ (.lst L,d_),a_ (P,d_),a_ (.int c,d_),a_ (.lst X,c_),a_ (.lst Y,c_)]):=by
  refine⟨X++[.tup [.tup [.str (aa ""),.tup [],.str (aa "")],.str (aa "")]],?_⟩;have hm:=hm (.tup [.tup [.str (aa ""),.tup [],.str (aa "")],.str (aa "")]);show(gX .app (.lst X) [.tup [.tup [.str (aa ""),.tup [],.str (aa "")],.str (aa "")]]).map _=_;rw[hm];rfl
 rw[bP hY];refine iM (lK ?_);rw[iY,lA (x:=t) (u:=d_) (y:=P) (v:=d_) (z:=.int c) (w:=d_) rfl rfl rfl,h23,af,vr (d:=.lst X) (b:=c_) rfl,af,e1];rfl
def F7{n:Nat}{t:Tb}{E:List Ed}{p:lB}{c:Int}(hr:Cn D (n+2) 17 [tb t]=a_ (.lst (E.map bJ),c_))(hl:E.length<64)(hE:E.Nodup)(hs:∀e∈E,e.1∈rR)(hg:∀e∈E,e.2.2.1≠[])(hp:p.2.1=[]->p.1∈rR) :
  Cn D (n+5) 33 [tb t,.lst (E.map bJ),cQ p,.int c]=a_ (.bl c_,d_):=by
 refine dE (C:=Cn D (n+4)) (np:=4) (nl:=6) (body:=YE) rfl ?_;have h23:=FY (c:=c) hr hl hE hs hg hp;have h30:=M9 (n:=n+2) hg hl p c;have h32:∀s,Cn D (n+4) 32 [dt s]=a_ (.bl c_,d_):=λs=>IJ (n:=n+3) s;obtain⟨S,e1,e2⟩:=My (kh E p c);rw[e1]at h23 h30;exact right_of h30 h23 h32 (df e2 (wa hl p c))
section
variable{C:Fs}
def Qm{a b c:Ex}{ρ:eW}{x y z:Dat}{u v w:Bool}(h:bF C a ρ=a_ (x,u))(h':bF C b ρ=a_ (y,v))(h'':bF C c ρ=a_ (z,w)):bF C (.tup [a,b,c]) ρ=a_ (.tup [x,y,z],(u || im x) && ((v || im y) && ((w || im z) && c_))):=by
 rw[CI,iF,iF,iF,ku,h,h',h''];rfl
def V1{i:Nat}{a:Ex}{ρ:cF}{ds:List Dat}{d:Dat}{fl:Bool}(h:bF C a (full ρ)=a_ (d,fl))(hf:(fl || im d)=c_)(hi:(ρ[i]?).join=a_ (.lst ds,c_))(hl:ds.length<1000000):fE C (.mut .app i [a]) ρ=a_ (.nx (ρ.set i (a_ (.lst (ds++[d]),c_)))):=by
 rw[tR,iF,h,ku];show(if((fl || im d) && c_)=c_ then Gw .app i ρ [d] (ρ[i]?).join else b_)=_;rw[hf,hi];show(gX .app (.lst ds) [d]).map _=_;rw[jN hl];rfl
def se{i:Nat}{a:Ex}{ρ:cF}{d:Dat}{fl:Bool}(h:bF C a (full ρ)=a_ (d,fl))(hi:im d=c_):fE C (.set i a) ρ=a_ (.nx (ρ.set i (a_ (d,d_)))):=by
 rw[kr,h];show(if(im d || fl)=c_ then a_ (Out.nx (ρ.set i (a_ (d,fl && !im d))))else _)=_;rw[hi,dh,iR];rfl
def DI{i:Nat}{a:Ex}{ρ:cF}{ds:List Dat}(h:bF C a (full ρ)=a_ (.lst ds,c_)):fE C (.set i a) ρ=a_ (.nx (ρ.set i (a_ (.lst ds,c_)))):=by
 rw[kr,h];rfl
def Ht{a b:Ex}{ρ:eW}{x y:Int}{u v:Bool}(h:bF C a ρ=a_ (.int x,u))(h':bF C b ρ=a_ (.int y,v)):bF C (.bin .add a b) ρ=a_ (.int (x+y),d_):=by
 rw[ki,h,h'];rfl
def Bv{a b:Ex}{ρ:eW}{x y z:Dat}{u v:Bool}(h:bF C a ρ=a_ (x,u))(h':bF C b ρ=a_ (y,v))(hz:qh x y=a_ z):bF C (.ix a b) ρ=a_ (z,d_):=by
 rw[nZ,h,h',af,af,hz];rfl
def Wj(p:lB):im (cQ p)=c_:=by
 have h:iX (p.2.1.map Dat.int)=c_:=cT _;simp[im,iX,h]
def LN(C:Fs)(S:Dat):Prop:=∀k m:Int,0<=k->k<=100000->0<m->∃q:Nat,C 24 [S,.int k,.int m]=a_ (.int (q:Nat),d_)/\(q:Int)<m
abbrev UN(p:lB):Prop:=p.2.1=[]->p.1∈rR
noncomputable abbrev rM(S L:Dat)(ss:List lB)(z3:ZZ)(Ls:List Ed)(z5 z6 z7 z8 z9:ZZ):cF:=[a_ (S,d_),a_ (L,d_),a_ (.lst (ss.map cQ),c_),z3,a_ (.lst (Ls.map bJ),c_),z5,z6,z7,z8,z9]
def Ln{ss:List lB}(p:lB):ss.map cQ++[cQ p]=(ss++[p]).map cQ:=by rw[cO];rfl
def Ub{S L:Dat}(hD:LN C S){ss:List lB}(hs:ss.length<1000){Ls:List Ed}(hn:Ls≠[])(hL:∀e∈Ls,1<e.2.2.1.length/\e.2.2.1.length<=8)(hl:Ls.length<64){k:Nat}(hk:k<8)(z3 z6 z7 z8 z9:ZZ) :
  ∃(p:lB) (y3:ZZ),bN C GD (rM S L ss z3 Ls (a_ (.int (k:Nat),d_)) z6 z7 z8 z9)=a_ (.nx (rM S L (ss++[p]) y3 Ls (a_ (.int (k:Nat),d_)) z6 z7 z8 z9))/\UN p:=by
 have h0:0<Ls.length:=Fx.mpr hn;obtain⟨q,r1,b1⟩:=hD (400+(k:Int)) (Ls.length:Nat) (by omega) (by omega) (by omega);have hq:q<Ls.length:=by omega
 have hx:qh (.lst (Ls.map bJ)) (.int (q:Nat))=a_ (bJ Ls[q]):=jA (by rw[aW,aj hq];rfl);obtain⟨c1,c2⟩:=hL Ls[q] (bI hq);generalize Ls[q]=e at hx c1 c2;obtain⟨q2,r2,b2⟩:=hD (410+(k:Int)) ((e.2.2.1.length:Int) - 1) (by omega) (by omega) (by omega);generalize hρ:rM S L ss z3 Ls (a_ (.int (k:Nat),d_)) z6 z7 z8 z9=ρ;have v0:bF C (.v 0) (full ρ)=a_ (S,d_):=vr (b:=d_) (by rw[<-hρ];rfl);have v4:bF C (.v 4) (full ρ)=a_ (.lst (Ls.map bJ),d_):=vr (b:=c_) (by rw[<-hρ];rfl);have v5:bF C (.v 5) (full ρ)=a_ (.int (k:Nat),d_):=vr (b:=d_) (by rw[<-hρ];rfl)
 have g1:fE C (.set 3 Yt) ρ=a_ (.nx (ρ.set 3 (a_ (bJ e,d_)))):=by
  refine se (Bv v4 (v:=d_) ?_ hx) (Ez e)
  ·rw[lA v0 (Ht bM v5) (show bF C (.blt .len [.v 4]) (full ρ)=a_ (.int (Ls.length:Nat),d_) by rw[jf,bO,v4];show eD .len [.lst (Ls.map bJ)]=_;rw[iH,ah])];exact r1
 generalize hρ':ρ.set 3 (a_ (bJ e,d_))=ρ' at g1;have w0:bF C (.v 0) (full ρ')=a_ (S,d_):=vr (b:=d_) (by rw[<-hρ',<-hρ];rfl);have w3:bF C (.v 3) (full ρ')=a_ (bJ e,d_):=vr (b:=d_) (by rw[<-hρ',<-hρ];rfl);have w5:bF C (.v 5) (full ρ')=a_ (.int (k:Nat),d_):=vr (b:=d_) (by rw[<-hρ',<-hρ];rfl);have cc:bF C rG (full ρ')=a_ (tI e.2.2.1,d_):=Bv w3 bM rfl
 have cf:bF C KC (full ρ')=a_ (.int (1+(q2:Int)),d_):=by
  refine Ht bM (v:=d_) ?_
  rw[lA w0 (Ht bM w5) (show bF C (.bin .sub (.blt .len [rG]) (.e_ 1)) (full ρ')=a_ (.int ((e.2.2.1.length:Int) - 1),d_) by
   rw[ki,jf,bO,cc];show(eD .len [tI e.2.2.1]).bind _=_
   rw[J9];rfl)]
  exact r2
 have cs:bF C (.sl rG (a_ KC) b_) (full ρ')=a_ (tI (e.2.2.1.drop (1+q2)),d_):=by
  rw[AL,cc,vb,cf];show Iy (tI e.2.2.1) (a_ (1+(q2:Int))) b_=_;show a_ (Dat.tup (cutD (e.2.2.1.map Dat.int) (a_ (1+(q2:Int))) b_),d_)=_;rw[EU (by omega) (by rw[ah];omega),show((1:Int)+(q2:Int)).toNat=1+q2 by omega,<-List.map_drop]
 have ct:=Qm (Bv w3 bM (rfl:qh (bJ e) (.int 3)=a_ (.str e.2.2.2))) cs (Bv w3 bM (rfl:qh (bJ e) (.int 1)=a_ (.str (T e.2.1))));refine⟨(e.2.2.2,e.2.2.1.drop (1+q2),e.2.1),a_ (bJ e,d_),?_,λz=>?_⟩
 ·show bN C [.set 3 Yt,.mut .app 2 [Ze]] ρ=_;rw[bP g1];refine lM ?_;rw[V1 (i:=2) (ds:=ss.map cQ) ct (by rw[oM];rfl) (by rw[<-hρ',<-hρ];rfl) (by rw[ah];omega),<-hρ',<-hρ];show a_ (Out.nx [a_ (S,d_),a_ (L,d_),a_ (.lst (ss.map cQ++[cQ (e.2.2.2,e.2.2.1.drop (1+q2),e.2.1)]),c_),a_ (bJ e,d_),a_ (.lst (Ls.map bJ),c_),a_ (.int (k:Nat),d_),z6,z7,z8,z9])=_;rw[Ln]
 ·have z:e.2.2.1.drop (1+q2)=[]:=z;have:=congrArg lT z;rw[j9,eY]at this;omega
theorem J4{S L:Dat}(hD:LN C S){Ls:List Ed}(hn:Ls≠[])(hL:∀e∈Ls,1<e.2.2.1.length/\e.2.2.1.length<=8)(hl:Ls.length<64)(z6 z7 z8 z9:ZZ):∀(ks:List Nat) (ss:List lB) (z3 z5:ZZ),(∀k∈ks,k<8)->ss.length+ks.length<1000->
  ∃(ps:List lB) (y3 y5:ZZ),dn (dC c_ [5]) (bN C GD) (ks.map λk:Nat=>Dat.int k) (rM S L ss z3 Ls z5 z6 z7 z8 z9)=a_ (.nx (rM S L (ss++ps) y3 Ls y5 z6 z7 z8 z9))/\ps.length=ks.length/\∀p∈ps,UN p
 |[],ss,z3,z5,_,_=>⟨[],z3,z5,by rw[aX];rfl,rfl,λp hp=>by cases hp⟩
 |k::ks,ss,z3,z5,hk,hs=>by
   rw[aM]at hs;obtain⟨p,y3,e1,hp⟩:=Ub (L:=L) hD (ss:=ss) (by omega) hn hL hl (hk k hJ) z3 z6 z7 z8 z9;obtain⟨ps,y3',y5',ih,il,io⟩:=J4 hD hn hL hl z6 z7 z8 z9 ks (ss++[p]) y3 (a_ (.int (k:Nat),d_)) (λk hk'=>hk k (ib _ hk')) (by rw[aw,fD];omega);refine⟨p::ps,y3',y5',?_,by rw[aM,aM,il],λx hx=>?_⟩
   ·rw[cC]at ih;show(bN C GD (rM S L ss z3 Ls (a_ (.int (k:Nat),d_)) z6 z7 z8 z9)).bind (nO _)=_;rw[e1];exact ih
   ·rcases ao.mp hx with rfl|hx
    ·exact hp
    ·exact io x hx
end
section
variable{C:Fs}
def ZL{a b:Ex}{ρ:eW}{y:Int}{v u:Bool}(h:bF C a ρ=a_ (.int 8,u))(h':bF C b ρ=a_ (.int y,v)):bF C (.bin .mul a b) ρ=a_ (.int (8 * y),d_):=by
 rw[ki,h,h'];show e8 .mul (.int 8) (.int y)=_;exact fN (i:=8) (by omega) (by omega)
def E9{S:Dat}(hD:LN C S){base k m:Int}(hb:0<=base/\base<=1000)(hk:0<=k/\k<=100)(hm:0<m):∃ch:Nat->Nat,∀j<10,bF C (.call 24 [.v 2,.bin .add (.bin .add (.con (.int base)) (.bin .mul (.e_ 8) (.v 1))) (.v 0),.con (.int m)]) [a_ (.int (j:Nat)),a_ (.int k),a_ S]=a_ (.int (ch j:Nat),d_)/\(ch j:Int)<m:=by
 have hch:∀j:Nat,∃q:Nat,j<10->C 24 [S,.int (base+8 * k+(j:Int)),.int m]=a_ (.int (q:Nat),d_)/\(q:Int)<m:=λj=>by
  by_cases hj:j<10
  ·obtain⟨q,r,b⟩:=hD (base+8 * k+(j:Int)) m (by omega) (by omega) hm;exact⟨q,λ_=>⟨r,b⟩⟩
  ·exact⟨0,λh=>absurd h hj⟩
 refine⟨λj=>(hch j).choose,λj hj=>?_⟩;obtain⟨r,b⟩:=(hch j).choose_spec hj;refine⟨?_,b⟩;rw[lA (x:=S) (u:=d_) (z:=.int m) (w:=d_) rfl (Ht (Ht bM (ZL bM (y:=k) (v:=d_) rfl)) (y:=(j:Int)) (v:=d_) rfl) rfl];exact r
def signs:aa "abz AZ09"=T [97,98,122,32,65,90,48,57]:=by decide +kernel
def MH{q:Nat}(h:q<8):∃c:Nat,qh (.str (aa "abz AZ09")) (.int (q:Nat))=a_ (.str (T [c])):=by
 rw[signs];refine⟨[97,98,122,32,65,90,48,57][q],?_⟩;show(if(T [97,98,122,32,65,90,48,57]).length<=aE then(lN [97,98,122,32,65,90,48,57] (q:Int)).map λc=>Dat.str ⟨#[c]⟩else b_)=_;rw[qy,if_pos (by rw[bB];decide),jA (aj (by exact h))];rfl
def Ua{S L:Dat}(hD:LN C S){ss:List lB}(hs:6<=ss.length/\ss.length<1000){Ls:List Ed}{k:Nat}(hk:k<6)(z3 z6 z7 z8 z9:ZZ) :
  ∃(p:lB) (y6 y7 y8 y9:ZZ),bN C GC (rM S L ss z3 Ls (a_ (.int (k:Nat),d_)) z6 z7 z8 z9)=a_ (.nx (rM S L (ss++[p]) z3 Ls (a_ (.int (k:Nat),d_)) y6 y7 y8 y9))/\UN p:=by
 obtain⟨q6,r6,b6⟩:=hD (420+(k:Int)) 5 (by omega) (by omega) (by omega);obtain⟨q8,r8,b8⟩:=hD (530+(k:Int)) 5 (by omega) (by omega) (by omega);obtain⟨q2,r2,b2⟩:=hD (540+(k:Int)) 6 (by omega) (by omega) (by omega);obtain⟨ch,hch⟩:=E9 hD (base:=430) (k:=(k:Int)) (m:=63) (by omega) (by omega) (by omega);obtain⟨sg,hsg⟩:=E9 hD (base:=480) (k:=(k:Int)) (m:=8) (by omega) (by omega) (by omega);have hq2:q2<ss.length:=by omega
 have hx:qh (.lst (ss.map cQ)) (.int (q2:Nat))=a_ (cQ ss[q2]):=jA (by rw[aW,aj hq2];rfl);generalize ss[q2]=p0 at hx
 have hc8:∀j:Nat,∃c:Nat,j<10->qh (.str (aa "abz AZ09")) (.int (sg j:Nat))=a_ (.str (T [c])):=λj=>by
  by_cases hj:j<10
  ·obtain⟨c,hc⟩:=MH (q:=sg j) (by have:=(hsg j hj).2;omega);exact⟨c,λ_=>hc⟩
  ·exact⟨0,λh=>absurd h hj⟩
 let cf:Nat->Nat:=λj=>(hc8 j).choose;let cs:List Int:=(ax (1+q6)).map λj=>(1:Int)+(ch j:Nat)
 let u:List Nat:=(ax q8).map cf;have hjn:j5 .join (.str (T [])) [.lst (u.map λc=>Dat.str (T [c]))]=a_ (.str (T u),d_):=join_1 (l:=u) (by show((ax q8).map cf).length<=1000;rw[ah,bQ];omega);generalize hρ:rM S L ss z3 Ls (a_ (.int (k:Nat),d_)) z6 z7 z8 z9=ρ
 have g6:fE C (.set 6 R6) ρ=a_ (.nx (rM S L ss z3 Ls (a_ (.int (k:Nat),d_)) (a_ (.int ((1+q6:Nat):Int),d_)) z7 z8 z9)):=by
  have:bF C R6 (full ρ)=a_ (.int ((1+q6:Nat):Int),d_):=by
   rw[show(((1+q6:Nat)):Int)=1+(q6:Int) by omega];refine Ht bM (v:=d_) ?_;rw[lA (x:=S) (u:=d_) (by rw[<-hρ];rfl) (Ht bM (y:=(k:Int)) (v:=d_) (by rw[<-hρ];rfl)) (bM (d:=.int 5))];exact r6
  rw[se this rfl,<-hρ];rfl
 generalize hρ6:rM S L ss z3 Ls (a_ (.int (k:Nat),d_)) (a_ (.int ((1+q6:Nat):Int),d_)) z7 z8 z9=ρ6 at g6
 have g7:fE C (.set 7 (.blt .tuple [R7])) ρ6=a_ (.nx (rM S L ss z3 Ls (a_ (.int (k:Nat),d_)) (a_ (.int ((1+q6:Nat):Int),d_)) (a_ (tI cs,d_)) z8 z9)):=by
  have h7:bF C R7 (full ρ6)=a_ (.lst (cs.map Dat.int),c_):=by
   have:cs.map Dat.int=(ax (1+q6)).map λj=>Dat.int (1+(ch j:Nat)):=by
    show((ax (1+q6)).map _).map _=_;rw[bc];rfl
   rw[this];refine mh (l_:=1+q6) (fl:=d_) (by rw[<-hρ6];rfl) (by omega) (λj hj=>⟨d_,?_⟩) λj _=>rfl;rw[show(fJ 1 [5,0] (full ρ6)).set 0 (a_ (Dat.int (j:Nat)))=[a_ (.int (j:Nat)),a_ (.int (k:Nat)),a_ S] by rw[<-hρ6];rfl];exact Ht bM (hch j (by omega)).1
  have:bF C (.blt .tuple [R7]) (full ρ6)=a_ (tI cs,d_):=by
   rw[jf,bO,h7];rfl
  rw[se this (oM cs),<-hρ6];rfl
 generalize hρ7:rM S L ss z3 Ls (a_ (.int (k:Nat),d_)) (a_ (.int ((1+q6:Nat):Int),d_)) (a_ (tI cs,d_)) z8 z9=ρ7 at g7
 have g8:fE C (.set 8 R8) ρ7=a_ (.nx (rM S L ss z3 Ls (a_ (.int (k:Nat),d_)) (a_ (.int ((1+q6:Nat):Int),d_)) (a_ (tI cs,d_)) (a_ (.lst (u.map λc=>Dat.str (T [c])),c_)) z9)):=by
  have h8:bF C R8 (full ρ7)=a_ (.lst (u.map λc=>Dat.str (T [c])),c_):=by
   have:(u.map λc=>Dat.str (T [c]))=(ax q8).map λj=>Dat.str (T [cf j]):=by
    show((ax q8).map _).map _=_;rw[bc];rfl
   rw[this];refine mh (l_:=q8) (fl:=d_) ?_ (by omega) (λj hj=>⟨d_,?_⟩) λj _=>rfl
   ·rw[lA (x:=S) (u:=d_) (by rw[<-hρ7];rfl) (Ht bM (y:=(k:Int)) (v:=d_) (by rw[<-hρ7];rfl)) (bM (d:=.int 5))];exact r8
   rw[show(fJ 1 [5,0] (full ρ7)).set 0 (a_ (Dat.int (j:Nat)))=[a_ (.int (j:Nat)),a_ (.int (k:Nat)),a_ S] by rw[<-hρ7];rfl];exact Bv bM (hsg j (by omega)).1 ((hc8 j).choose_spec (by omega))
  rw[DI h8,<-hρ7];rfl
 generalize hρ8:rM S L ss z3 Ls (a_ (.int (k:Nat),d_)) (a_ (.int ((1+q6:Nat):Int),d_)) (a_ (tI cs,d_)) (a_ (.lst (u.map λc=>Dat.str (T [c])),c_)) z9=ρ8 at g8
 have g9:fE C (.set 9 (.l5 .join (.f_ "") [.v 8])) ρ8=a_ (.nx (rM S L ss z3 Ls (a_ (.int (k:Nat),d_)) (a_ (.int ((1+q6:Nat):Int),d_)) (a_ (tI cs,d_)) (a_ (.lst (u.map λc=>Dat.str (T [c])),c_)) (a_ (.str (T u),d_)))):=by
  have:bF C (.l5 .join (.f_ "") [.v 8]) (full ρ8)=a_ (.str (T u),d_):=by
   rw[EI,bM,bO,vr (d:=.lst (u.map λc=>Dat.str (T [c]))) (b:=c_) (by rw[<-hρ8];rfl),WA];exact hjn
  rw[se this rfl,<-hρ8];rfl
 generalize hρ9:rM S L ss z3 Ls (a_ (.int (k:Nat),d_)) (a_ (.int ((1+q6:Nat):Int),d_)) (a_ (tI cs,d_)) (a_ (.lst (u.map λc=>Dat.str (T [c])),c_)) (a_ (.str (T u),d_))=ρ9 at g9
 have hst:bF C (.ix (.ix (.v 2) (.call 24 [.v 0,.bin .add (.e_ 540) (.v 5),.e_ 6])) (.e_ 0)) (full ρ9)=a_ (.str p0.1,d_):=by
  refine Bv (Bv (vr (d:=.lst (ss.map cQ)) (b:=c_) (by rw[<-hρ9];rfl)) (v:=d_) ?_ hx) bM rfl;rw[lA (x:=S) (u:=d_) (by rw[<-hρ9];rfl) (Ht bM (y:=(k:Int)) (v:=d_) (by rw[<-hρ9];rfl)) (bM (d:=.int 6))];exact r2
 have ct:=Qm hst (vr (C:=C) (i:=7) (d:=tI cs) (b:=d_) (by rw[<-hρ9];rfl)) (vr (C:=C) (i:=9) (d:=.str (T u)) (b:=d_) (by rw[<-hρ9];rfl));refine⟨(p0.1,cs,u),a_ (.int ((1+q6:Nat):Int),d_),a_ (tI cs,d_),a_ (.lst (u.map λc=>Dat.str (T [c])),c_),a_ (.str (T u),d_),?_,λz=>?_⟩
 ·show bN C [.set 6 R6,.set 7 (.blt .tuple [R7]),.set 8 R8,.set 9 (.l5 .join (.f_ "") [.v 8]),.mut .app 2 [RT]] ρ=_;rw[bP g6,bP g7,bP g8,bP g9];refine lM ?_;rw[V1 (i:=2) (ds:=ss.map cQ) ct (by rw[oM];rfl) (by rw[<-hρ9];rfl) (by rw[ah];omega),<-hρ9];generalize (a_ (Dat.int ((1+q6:Nat):Int),d_):ZZ)=y6;generalize (a_ (Dat.lst (u.map λc=>Dat.str (T [c])),c_):ZZ)=y8;show a_ (Out.nx [a_ (S,d_),a_ (L,d_),a_ (.lst (ss.map cQ++[cQ (p0.1,cs,u)]),c_),z3,a_ (.lst (Ls.map bJ),c_),a_ (.int (k:Nat),d_),y6,a_ (tI cs,d_),y8,a_ (.str (T u),d_)])=_;rw[Ln]
 ·have z:(ax (1+q6)).map (λj=>(1:Int)+(ch j:Nat))=[]:=z;have:=congrArg lT z;rw[ah,bQ,eY]at this;omega
theorem J3{S L:Dat}(hD:LN C S){Ls:List Ed}(z3:ZZ):∀(ks:List Nat) (ss:List lB) (z5 z6 z7 z8 z9:ZZ),(∀k∈ks,k<6)->6<=ss.length->ss.length+ks.length<1000->
  ∃(ps:List lB) (y5 y6 y7 y8 y9:ZZ),dn (dC c_ [5]) (bN C GC) (ks.map λk:Nat=>Dat.int k) (rM S L ss z3 Ls z5 z6 z7 z8 z9)=a_ (.nx (rM S L (ss++ps) z3 Ls y5 y6 y7 y8 y9))/\ps.length=ks.length/\∀p∈ps,UN p
 |[],ss,z5,z6,z7,z8,z9,_,_,_=>⟨[],z5,z6,z7,z8,z9,by rw[aX];rfl,rfl,λp hp=>by cases hp⟩
 |k::ks,ss,z5,z6,z7,z8,z9,hk,h6,hs=>by
   rw[aM]at hs;obtain⟨p,y6,y7,y8,y9,e1,hp⟩:=Ua (L:=L) hD (ss:=ss) ⟨h6,by omega⟩ (Ls:=Ls) (hk k hJ) z3 z6 z7 z8 z9;obtain⟨ps,w5,w6,w7,w8,w9,ih,il,io⟩:=J3 hD z3 ks (ss++[p]) (a_ (.int (k:Nat),d_)) y6 y7 y8 y9 (λk hk'=>hk k (ib _ hk')) (by rw[aw,fD];omega) (by rw[aw,fD];omega);refine⟨p::ps,w5,w6,w7,w8,w9,?_,by rw[aM,aM,il],λx hx=>?_⟩
   ·rw[cC]at ih;show(bN C GC (rM S L ss z3 Ls (a_ (.int (k:Nat),d_)) z6 z7 z8 z9)).bind (nO _)=_;rw[e1];exact ih
   ·rcases ao.mp hx with rfl|hx
    ·exact hp
    ·exact io x hx
end
section
variable{C:Fs}
noncomputable abbrev Hu:List lB:=rR.map λs=>(s,[],[])
def Oq{S L:Dat}:fE C Xy [a_ (S,d_),a_ (L,d_),b_,b_,b_,b_,b_,b_,b_,b_]=a_ (.nx [a_ (S,d_),a_ (L,d_),a_ (.lst (Hu.map cQ),c_),b_,b_,b_,b_,b_,b_,b_]):=by kernel_rfl
abbrev long(e:Ed):Bool:=decide ((1:Int)<(e.2.2.1.length:Nat))
theorem P0:∀es:List Ed,k9 (iG C 1 c_ [b_] [.cmp .gt (.blt .len [.ix (.v 0) (.e_ 2)]) (.e_ 1)] (.v 0)) (es.map bJ)=a_ ((es.filter long).map bJ,c_)
 |[]=>rfl
 |e::es=>by
   have ih:=P0 es
   have hc:iG C 1 c_ [b_] [.cmp .gt (.blt .len [.ix (.v 0) (.e_ 2)]) (.e_ 1)] (.v 0) (bJ e)=if long e=c_ then a_ (a_ (bJ e,d_))else a_ b_:=by
    rw[n6 (x:=.bl (long e)) (f:=d_) (t:=long e) (by
     rw[iY,jf,bO,Bv (x:=bJ e) (u:=d_) rfl bM (rfl:qh (bJ e) (.int 2)=a_ (tI e.2.2.1))];show(eD .len [tI e.2.2.1]).bind _=_;rw[J9]
     rfl) rfl]
    rfl
   have hi:=Ez e;rw[ag];unfold k9;rw[hc,ih]
   cases q:long e with
   |true=>
     rw[f7 q];show a_ (bJ e::_,(d_ || im (bJ e)) && c_)=_;rw[hi];rfl
   |false=>rw[gf (by rw[q];exact bh)];rfl
def Iq{S:Dat}(hD:LN C S){E:List Ed}(hl:E.length<64)(hg:∀e∈E,e.2.2.1.length<=8):∃ss:List lB,bN C YF [a_ (S,d_),a_ (.lst (E.map bJ),d_),b_,b_,b_,b_,b_,b_,b_,b_]=a_ (.rt (.lst (ss.map cQ)) c_)/\ss.length<=20/\∀p∈ss,UN p:=by
 have g4:fE C (.set 4 YW) [a_ (S,d_),a_ (.lst (E.map bJ),d_),a_ (.lst (Hu.map cQ),c_),b_,b_,b_,b_,b_,b_,b_]=a_ (.nx (rM S (.lst (E.map bJ)) Hu b_ (E.filter long) b_ b_ b_ b_ b_)):=by
  rw[DI (jc (items:=E.map bJ) rfl (by rw[ah];omega) (P0 E))];rfl
 have hLl:(E.filter long).length<64:=df (bS _ _) hl
 have hL:∀e∈E.filter long,1<e.2.2.1.length/\e.2.2.1.length<=8:=λe he=>by
  obtain⟨h1,h2⟩:=cz.mp he;have:=of_decide_eq_true h2;exact⟨by omega,hg e h1⟩
 generalize E.filter long=Ls at g4 hL hLl
 obtain⟨m,hm,m8,m0⟩:∃m:Nat,e8 .mn (.int 8) (.int (Ls.length:Nat))=a_ (.int (m:Nat),d_)/\m<=8/\(Ls=[]->m=0):=by
  by_cases h:Ls.length<8
  ·refine⟨Ls.length,?_,by omega,λe=>by rw[e];rfl⟩;rw[xg]
   congr 3
   omega
  ·refine⟨8,?_,by omega,λe=>by rw[e]at h;exact absurd (show 0<8 by omega) h⟩;rw[xg]
   congr 3
   omega
 have g5:∃(ps:List lB) (y3 y5:ZZ),fE C (.loop c_ [5] (.rng [.bin .mn (.e_ 8) (.blt .len [.v 4])]) GD) (rM S (.lst (E.map bJ)) Hu b_ Ls b_ b_ b_ b_ b_)=a_ (.nx (rM S (.lst (E.map bJ)) (Hu++ps) y3 Ls y5 b_ b_ b_ b_))/\ps.length<=8/\∀p∈ps,UN p:=by
  have hi:tU C (.rng [.bin .mn (.e_ 8) (.blt .len [.v 4])]) (full (rM S (.lst (E.map bJ)) Hu b_ Ls b_ b_ b_ b_ b_))=a_ ((ax m).map λk:Nat=>Dat.int k):=by
   rw[qr,bO,fR,ki,bM,af,jf,bO,fR,vr (d:=.lst (Ls.map bJ)) (b:=c_) rfl];show((((eD .len [.lst (Ls.map bJ)]).bind λy=>e8 .mn (.int 8) y.1).bind _).bind Gg)=_;rw[iH,ah,af,hm];exact p3 (by omega)
  rw[me,hi];by_cases hn:Ls=[]
  ·rw[m0 hn];exact⟨[],b_,b_,by rw[aX];rfl,by simp,λp hp=>by cases hp⟩
  ·obtain⟨ps,y3,y5,h1,h2,h3⟩:=J4 (L:=.lst (E.map bJ)) hD hn hL hLl b_ b_ b_ b_ (ax m) Hu b_ b_ (λk hk=>by have:=aZ.mp hk;omega) (by rw[bQ];show 6+_<_;omega);exact⟨ps,y3,y5,h1,by rw[h2,bQ];exact m8,h3⟩
 obtain⟨ps,y3,y5,g5,pl,po⟩:=g5;obtain⟨qs,w5,w6,w7,w8,w9,g6,ql,qo⟩:=J3 (L:=.lst (E.map bJ)) (Ls:=Ls) hD y3 (ax 6) (Hu++ps) y5 b_ b_ b_ b_ (λk hk=>aZ.mp hk) (by rw[aw];show 6<=6+_;omega) (by rw[aw];show 6+_+6<_;omega)
 have g6':fE C (.loop c_ [5] (.rng [.e_ 6]) GC) (rM S (.lst (E.map bJ)) (Hu++ps) y3 Ls y5 b_ b_ b_ b_)=a_ (.nx (rM S (.lst (E.map bJ)) (Hu++ps++qs) y3 Ls w5 w6 w7 w8 w9)):=by
  rw[me];have hi:tU C (.rng [.e_ 6]) (full (rM S (.lst (E.map bJ)) (Hu++ps) y3 Ls y5 b_ b_ b_ b_))=a_ ((ax 6).map λk:Nat=>Dat.int k):=rfl;rw[hi];exact g6
 refine⟨Hu++ps++qs,?_,?_,λp hp=>?_⟩
 ·show bN C (Xy::.set 4 YW::.loop c_ [5] (.rng [.bin .mn (.e_ 8) (.blt .len [.v 4])]) GD::.loop c_ [5] (.rng [.e_ 6]) GC::[.pe 2]) _=_;rw[bP Oq,bP g4,bP g5,bP g6'];rfl
 ·rw[aw,aw,ql];show 6+_+6<=20;omega
 ·rcases az.mp hp with hp|hp
  ·rcases az.mp hp with hp|hp
   ·obtain⟨s,hs,rfl⟩:=aQ.mp hp;exact λ_=>hs
   ·exact po p hp
  ·exact qo p hp
abbrev mP(s:aV):Bool:=[Dat.str (aa "out"),Dat.str (aa "done"),Dat.str (aa "num")].any λy=>jT y (.str s)
def Kj(s:aV):dF .isin (.str s) (.tup [.str (aa "out"),.str (aa "done"),.str (aa "num")])=a_ (mP s):=rfl
end
def M6{n:Nat}(s:aV):Cn D (n+1) 11 [.str s]=a_ (.bl (mP s),d_):=by
 refine dE (C:=Cn D n) (np:=1) (nl:=1) (body:=Zt) rfl ?_;generalize Cn D n=C;refine iM (lK ?_);rw[iY,vr (d:=.str s) (b:=d_) rfl,af,bM,af,Kj];rfl
def M8{n:Nat}(p:lB):Cn D (n+2) 19 [cQ p]=a_ (.bl (p.2.1.isEmpty && mP p.1),d_):=by
 refine dE (C:=Cn D (n+1)) (np:=1) (nl:=1) (body:=Zp) rfl ?_;have h:=M6 (n:=n) p.1;generalize Cn D (n+1)=C at h ⊢;refine iM (lK ?_)
 rw[qt (x:=p.2.1.isEmpty) (f:=d_) (by
  show(dF .eq (tI p.2.1) (.tup [])).map _=_
  rw[n5];rfl),A4 (Bv (vr (d:=cQ p) (b:=d_) rfl) bM (rfl:qh (cQ p) (.int 0)=a_ (.str p.1))),h]
 cases p.2.1.isEmpty<;>rfl
section
variable{C:Fs}
def Yf{a b c:Ex}{ρ:eW}{x y z:Dat}{u v w:Bool}(h:bF C a ρ=a_ (x,u))(h':bF C b ρ=a_ (y,v))(h'':bF C c ρ=a_ (z,w)):bF C (.lst [a,b,c]) ρ=a_ (.lst [x,y,z],(u || im x) && ((v || im y) && ((w || im z) && c_))):=by
 rw[yn,iF,iF,iF,ku,h,h',h''];rfl
def Uw(a b:List Int)(h:a.length+b.length<=1000):e8 .add (.lst (a.map Dat.int)) (.lst (b.map Dat.int))=a_ (.lst ((a++b).map Dat.int),c_):=by
 show(if _ then a_ (Dat.lst (a.map Dat.int++b.map Dat.int),iX (a.map Dat.int++b.map Dat.int))else b_)=_;rw[<-cO,cT,if_pos (by rw[ah,ah,bB];omega)]
def TF(cs:List Int):Iy (tI cs) b_ (a_ 1)=a_ (tI (cs.take 1),d_):=by
 cases cs with
 |nil=>rfl
 |cons a r=>
   show a_ (Dat.tup (cutD ((a::r).map Dat.int) b_ (a_ 1)),d_)=_;rw[OE (by omega) (by rw[ah,aM];omega)];rfl
noncomputable abbrev uX(S t:Dat)(E:List Ed)(ss:List lB)(z4 z5 z6 z7 z8:ZZ):cF:=[a_ (S,d_),a_ (t,d_),a_ (.lst (E.map bJ),c_),a_ (.lst (ss.map cQ),c_),z4,z5,z6,z7,z8]
theorem PH{S t:Dat}{E:List Ed}{ss:List lB}{p:lB}(h33:∀c:Int,C 33 [t,.lst (E.map bJ),cQ p,.int c]=a_ (.bl c_,d_))(z4 z6 z7:ZZ):∀(is:List Int)(z8:ZZ),∃y8:ZZ,dn (dC c_ [8]) (bN C UQ) (is.map Dat.int) (uX S t E ss z4 (a_ (cQ p,d_)) z6 z7 z8)=a_ (.nx (uX S t E ss z4 (a_ (cQ p,d_)) z6 z7 y8))
 |[],z8=>⟨z8,rfl⟩
 |i::is,z8=>by
   obtain⟨y8,ih⟩:=PH h33 z4 z6 z7 is (a_ (.int i,d_));refine⟨y8,?_⟩
   have hb:bN C UQ (uX S t E ss z4 (a_ (cQ p,d_)) z6 z7 (a_ (.int i,d_)))=a_ (.nx (uX S t E ss z4 (a_ (cQ p,d_)) z6 z7 (a_ (.int i,d_)))):=by
    refine lM ?_
    have hc:bF C (.not (.call 33 [(.v 1),(.v 2),(.v 5),(.v 8)])) (full (uX S t E ss z4 (a_ (cQ p,d_)) z6 z7 (a_ (.int i,d_))))=a_ (.bl d_,d_):=by
     rw[rL,WJ (vr (d:=t) (b:=d_) rfl) (vr (d:=.lst (E.map bJ)) (b:=c_) rfl) (vr (d:=cQ p) (b:=d_) rfl) (vr (d:=.int i) (b:=d_) rfl),h33 i];rfl
    rw[oV hc rfl];rfl
   show(bN C UQ (uX S t E ss z4 (a_ (cQ p,d_)) z6 z7 (a_ (.int i,d_)))).bind (nO _)=_;rw[hb];exact ih
def T9{S t:Dat}(hD:LN C S){E:List Ed}(hE:E≠[])(hl:E.length<64)(hg:∀e∈E,e.2.2.1≠[]){ss:List lB}(hs:ss.length<=20)(h19:∀p:lB,C 19 [cQ p]=a_ (.bl (p.2.1.isEmpty && mP p.1),d_))(h33:∀p∈ss,∀c:Int,C 33 [t,.lst (E.map bJ),cQ p,.int c]=a_ (.bl c_,d_)){k:Nat}(hk:k<ss.length)(z5 z6 z7 z8:ZZ) :
  ∃y5 y6 y7 y8:ZZ,bN C GB (uX S t E ss (a_ (.int (k:Nat),d_)) z5 z6 z7 z8)=a_ (.nx (uX S t E ss (a_ (.int (k:Nat),d_)) y5 y6 y7 y8)):=by
 have hE0:0<E.length:=Fx.mpr hE;have hx:qh (.lst (ss.map cQ)) (.int (k:Nat))=a_ (cQ ss[k]):=jA (by rw[aW,aj hk];rfl);have h33:=h33 ss[k] (bI hk);generalize ss[k]=p at hx h33;obtain⟨q,r1,b1⟩:=hD (580+(k:Int)) (E.length:Nat) (by omega) (by omega) (by omega);obtain⟨q2,r2,b2⟩:=hD (550+(k:Int)) 64 (by omega) (by omega) (by omega);have hq:q<E.length:=by omega
 have hy:qh (.lst (E.map bJ)) (.int (q:Nat))=a_ (bJ E[q]):=jA (by rw[aW,aj hq];rfl);have hge:=hg E[q] (bI hq);generalize E[q]=e at hy hge
 have g5:fE C (.set 5 (.ix (.v 3) (.v 4))) (uX S t E ss (a_ (.int (k:Nat),d_)) z5 z6 z7 z8)=a_ (.nx (uX S t E ss (a_ (.int (k:Nat),d_)) (a_ (cQ p,d_)) z6 z7 z8)):=by
  rw[se (Bv (vr (d:=.lst (ss.map cQ)) (b:=c_) rfl) (vr (d:=.int (k:Nat)) (b:=d_) rfl) hx) (Wj p)];rfl
 have g6:fE C (.set 6 (.call 19 [(.v 5)])) (uX S t E ss (a_ (.int (k:Nat),d_)) (a_ (cQ p,d_)) z6 z7 z8)=a_ (.nx (uX S t E ss (a_ (.int (k:Nat),d_)) (a_ (cQ p,d_)) (a_ (.bl (p.2.1.isEmpty && mP p.1),d_)) z7 z8)):=by
  rw[se ((A4 (vr (d:=cQ p) (b:=d_) rfl)).trans (h19 p)) rfl];rfl
 generalize hρ:uX S t E ss (a_ (.int (k:Nat),d_)) (a_ (cQ p,d_)) (a_ (.bl (p.2.1.isEmpty && mP p.1),d_)) z7 z8=ρ at g6;have v0:bF C (.v 0) (full ρ)=a_ (S,d_):=vr (b:=d_) (by rw[<-hρ];rfl);have v2:bF C (.v 2) (full ρ)=a_ (.lst (E.map bJ),d_):=vr (b:=c_) (by rw[<-hρ];rfl);have v4:bF C (.v 4) (full ρ)=a_ (.int (k:Nat),d_):=vr (b:=d_) (by rw[<-hρ];rfl);have v5:bF C (.v 5) (full ρ)=a_ (cQ p,d_):=vr (b:=d_) (by rw[<-hρ];rfl);have v6:bF C (.v 6) (full ρ)=a_ (.bl (p.2.1.isEmpty && mP p.1),d_):=vr (b:=d_) (by rw[<-hρ];rfl)
 have cE:bF C Xx (full ρ)=a_ (.bl d_,d_):=by
  have a1:bF C (.cmp .eq (.ix (.v 5) (.e_ 1)) (.tup [])) (full ρ)=a_ (.bl p.2.1.isEmpty,d_):=by
   rw[iY,Bv v5 bM (rfl:qh (cQ p) (.int 1)=a_ (tI p.2.1)),af];show(dF .eq (tI p.2.1) (.tup [])).map _=_;rw[n5];rfl
  have a2:bF C (.cmp .isin (.ix (.v 5) (.e_ 0)) (.tup [(.f_ "out"),(.f_ "done"),(.f_ "num")])) (full ρ)=a_ (.bl (mP p.1),d_):=by
   rw[iY,Bv v5 bM (rfl:qh (cQ p) (.int 0)=a_ (.str p.1)),af,Qm (bM) (bM) (bM),af,Kj];rfl
  have a3:bF C (.and (.cmp .eq (.ix (.v 5) (.e_ 1)) (.tup [])) (.cmp .isin (.ix (.v 5) (.e_ 0)) (.tup [(.f_ "out"),(.f_ "done"),(.f_ "num")]))) (full ρ)=a_ (.bl (p.2.1.isEmpty && mP p.1),d_):=by
   rw[qt a1,a2];cases p.2.1.isEmpty<;>rfl
  rw[CJ (x:=d_) (f:=d_) (by rw[rL,jf,bO,v6];rfl),if_neg bh,iY,v6,a3];show a_ (Dat.bl (!((p.2.1.isEmpty && mP p.1) == (p.2.1.isEmpty && mP p.1))),d_)=_;rw[beq_self_eq_true];rfl
 have gc:fE C (.ifs Xx [(.ret (.con (.bl d_)))] []) ρ=a_ (.nx ρ):=by rw[oV cE rfl];rfl
 have g7:fE C (.set 7 EX) ρ=a_ (.nx (uX S t E ss (a_ (.int (k:Nat),d_)) (a_ (cQ p,d_)) (a_ (.bl (p.2.1.isEmpty && mP p.1),d_)) (a_ (bJ e,d_)) z8)):=by
  have:bF C EX (full ρ)=a_ (bJ e,d_):=by
   refine Bv v2 (v:=d_) ?_ hy;rw[lA v0 (Ht bM v4) (show bF C (.blt .len [.v 2]) (full ρ)=a_ (.int (E.length:Nat),d_) by rw[jf,bO,v2];show eD .len [.lst (E.map bJ)]=_;rw[iH,ah])];exact r1
  rw[se this (Ez e),<-hρ];rfl
 obtain⟨y8,g8⟩:=PH (S:=S) h33 (a_ (.int (k:Nat),d_)) (a_ (.bl (p.2.1.isEmpty && mP p.1),d_)) (a_ (bJ e,d_)) ([0,(q2:Int),e.2.2.1.headD 0]++p.2.1.take 1) z8;refine⟨a_ (cQ p,d_),a_ (.bl (p.2.1.isEmpty && mP p.1),d_),a_ (bJ e,d_),y8,?_⟩;generalize hσ:uX S t E ss (a_ (.int (k:Nat),d_)) (a_ (cQ p,d_)) (a_ (.bl (p.2.1.isEmpty && mP p.1),d_)) (a_ (bJ e,d_)) z8=σ at g7 g8;have w0:bF C (.v 0) (full σ)=a_ (S,d_):=vr (b:=d_) (by rw[<-hσ];rfl);have w4:bF C (.v 4) (full σ)=a_ (.int (k:Nat),d_):=vr (b:=d_) (by rw[<-hσ];rfl);have w5:bF C (.v 5) (full σ)=a_ (cQ p,d_):=vr (b:=d_) (by rw[<-hσ];rfl);have w7:bF C (.v 7) (full σ)=a_ (bJ e,d_):=vr (b:=d_) (by rw[<-hσ];rfl)
 have cl:bF C CL (full σ)=a_ (.lst (([0,(q2:Int),e.2.2.1.headD 0]++p.2.1.take 1).map Dat.int),c_):=by
  have a2:=(lA (f:=24) w0 (Ht (x:=550) (u:=d_) bM w4) (bM (d:=.int 64))).trans r2;have a3:=Bv (Bv w7 bM (rfl:qh (bJ e) (.int 2)=a_ (tI e.2.2.1))) (bM (d:=.int 0)) (EB hge);have a1:=Yf (bM (d:=.int 0)) a2 a3
  have a4:bF C (.blt .list [(.sl (.ix (.v 5) (.e_ 1)) b_ (a_ (.e_ 1)))]) (full σ)=a_ (.lst ((p.2.1.take 1).map Dat.int),c_):=by
   rw[jf,bO,AL,Bv w5 bM (rfl:qh (cQ p) (.int 1)=a_ (tI p.2.1)),af];show((Iy (tI p.2.1) b_ (a_ 1)).bind _).bind _=_;rw[TF];show a_ (Dat.lst ((p.2.1.take 1).map Dat.int),iX ((p.2.1.take 1).map Dat.int))=_;rw[cT]
  rw[ki,a1,af,a4,af];exact Uw [0,(q2:Int),e.2.2.1.headD 0] (p.2.1.take 1) (by rw[fZ];show 3+_<=_;omega)
 have gl:fE C (.loop c_ [8] (.itv CL) UQ) σ=a_ (.nx (uX S t E ss (a_ (.int (k:Nat),d_)) (a_ (cQ p,d_)) (a_ (.bl (p.2.1.isEmpty && mP p.1),d_)) (a_ (bJ e,d_)) y8)):=by
  rw[iO,cl];exact g8
 show bN C [(.set 5 (.ix (.v 3) (.v 4))),(.set 6 (.call 19 [(.v 5)])),(.ifs Xx [(.ret (.con (.bl d_)))] []),(.set 7 EX),(.loop c_ [8] (.itv CL) UQ)] _=_;rw[bP g5,bP g6,bP gc,bP g7,bP gl];rfl
theorem J2{S t:Dat}(hD:LN C S){E:List Ed}(hE:E≠[])(hl:E.length<64)(hg:∀e∈E,e.2.2.1≠[]){ss:List lB}(hs:ss.length<=20)(h19:∀p:lB,C 19 [cQ p]=a_ (.bl (p.2.1.isEmpty && mP p.1),d_))(h33:∀p∈ss,∀c:Int,C 33 [t,.lst (E.map bJ),cQ p,.int c]=a_ (.bl c_,d_)):∀(ks:List Nat) (z4 z5 z6 z7 z8:ZZ),(∀k∈ks,k<ss.length)->
  ∃y4 y5 y6 y7 y8:ZZ,dn (dC c_ [4]) (bN C GB) (ks.map λk:Nat=>Dat.int k) (uX S t E ss z4 z5 z6 z7 z8)=a_ (.nx (uX S t E ss y4 y5 y6 y7 y8))
 |[],z4,z5,z6,z7,z8,_=>⟨z4,z5,z6,z7,z8,rfl⟩
 |k::ks,z4,z5,z6,z7,z8,hk=>by
   obtain⟨y5,y6,y7,y8,e1⟩:=T9 hD hE hl hg hs h19 h33 (hk k hJ) z5 z6 z7 z8;obtain⟨x4,x5,x6,x7,x8,ih⟩:=J2 hD hE hl hg hs h19 h33 ks (a_ (.int (k:Nat),d_)) y5 y6 y7 y8 λk hk'=>hk k (ib _ hk');refine⟨x4,x5,x6,x7,x8,?_⟩;show(bN C GB (uX S t E ss (a_ (.int (k:Nat),d_)) z5 z6 z7 z8)).bind (nO _)=_;rw[e1];exact ih
def Wt{ρ:eW}:bF C FX ρ=a_ (.bl d_,d_):=by kernel_rfl
def V8{S t:Dat}(hD:LN C S)(ht:im t=c_){E:List Ed}(hE:E≠[])(hl:E.length<64)(hg:∀e∈E,e.2.2.1≠[]){ss:List lB}(hs:ss.length<=20){q:Nat}(h28:C 28 [S,.int (q:Nat)]=a_ (t,d_))(h17:C 17 [t]=a_ (.lst (E.map bJ),c_))(h31:C 31 [S,.lst (E.map bJ)]=a_ (.lst (ss.map cQ),c_))(h19:∀p:lB,C 19 [cQ p]=a_ (.bl (p.2.1.isEmpty && mP p.1),d_))(h33:∀p∈ss,∀c:Int,C 33 [t,.lst (E.map bJ),cQ p,.int c]=a_ (.bl c_,d_))(h24:C 24 [S,.int 0,.int 3]=a_ (.int (q:Nat),d_)) :
  bN C YD [a_ (S,d_),b_,b_,b_,b_,b_,b_,b_,b_]=a_ (.rt (.bl c_) d_):=by
 have g1:fE C (.set 1 (.call 28 [(.v 0),(.call 24 [(.v 0),(.e_ 0),(.e_ 3)])])) [a_ (S,d_),b_,b_,b_,b_,b_,b_,b_,b_]=a_ (.nx [a_ (S,d_),a_ (t,d_),b_,b_,b_,b_,b_,b_,b_]):=by
  have:bF C (.call 28 [(.v 0),(.call 24 [(.v 0),(.e_ 0),(.e_ 3)])]) (full [a_ (S,d_),b_,b_,b_,b_,b_,b_,b_,b_])=a_ (t,d_):=by
   rw[EY (vr (d:=S) (b:=d_) rfl) ((lA (vr (d:=S) (b:=d_) rfl) (bM (d:=.int 0)) (bM (d:=.int 3))).trans h24)];exact h28
  rw[se this ht];rfl
 have g2:fE C (.set 2 (.call 17 [.v 1])) [a_ (S,d_),a_ (t,d_),b_,b_,b_,b_,b_,b_,b_]=a_ (.nx [a_ (S,d_),a_ (t,d_),a_ (.lst (E.map bJ),c_),b_,b_,b_,b_,b_,b_]):=by
  rw[DI ((A4 (vr (d:=t) (b:=d_) rfl)).trans h17)];rfl
 have g3:fE C (.ifs FX [(.ret (.con (.bl d_)))] []) [a_ (S,d_),a_ (t,d_),a_ (.lst (E.map bJ),c_),b_,b_,b_,b_,b_,b_]=a_ (.nx [a_ (S,d_),a_ (t,d_),a_ (.lst (E.map bJ),c_),b_,b_,b_,b_,b_,b_]):=by
  rw[oV Wt rfl];rfl
 have g4:fE C (.set 3 (.call 31 [(.v 0),(.v 2)])) [a_ (S,d_),a_ (t,d_),a_ (.lst (E.map bJ),c_),b_,b_,b_,b_,b_,b_]=a_ (.nx (uX S t E ss b_ b_ b_ b_ b_)):=by
  rw[DI ((EY (vr (d:=S) (b:=d_) rfl) (vr (d:=.lst (E.map bJ)) (b:=c_) rfl)).trans h31)];rfl
 obtain⟨x4,x5,x6,x7,x8,hL⟩:=J2 hD hE hl hg hs h19 h33 (ax ss.length) b_ b_ b_ b_ b_ λk hk=>aZ.mp hk
 have g5:fE C (.loop c_ [4] (.rng [(.blt .len [(.v 3)])]) GB) (uX S t E ss b_ b_ b_ b_ b_)=a_ (.nx (uX S t E ss x4 x5 x6 x7 x8)):=by
  rw[me]
  have hi:tU C (.rng [(.blt .len [(.v 3)])]) (full (uX S t E ss b_ b_ b_ b_ b_))=a_ ((ax ss.length).map λk:Nat=>Dat.int k):=by
   rw[qr,bO,fR,jf,bO,fR,vr (d:=.lst (ss.map cQ)) (b:=c_) rfl];show(((eD .len [.lst (ss.map cQ)]).bind _).bind Gg)=_;rw[iH,ah];exact p3 (by omega)
  rw[hi];exact hL
 show bN C (.set 1 (.call 28 [(.v 0),(.call 24 [(.v 0),(.e_ 0),(.e_ 3)])])::.set 2 (.call 17 [.v 1])::.ifs FX [(.ret (.con (.bl d_)))] []::.set 3 (.call 31 [(.v 0),(.v 2)])::.loop c_ [4] (.rng [(.blt .len [(.v 3)])]) GB::[.ret (.con (.bl c_))]) _=_;rw[bP g1,bP g2,bP g3,bP g4,bP g5];rfl
end
def Wi(t:Tb):im (tb t)=c_:=by
 have h:iX (t.fs.map dS)=c_:=rq t.fs;have h1:iX (t.m0.map Dat.int)=c_:=cT _;have h2:iX (t.m1.map Dat.int)=c_:=cT _;have h3:iX (t.m2.map Dat.int)=c_:=cT _;have h4:iX (t.m3.map Dat.int)=c_:=cT _;have h5:iX (t.fg.map Dat.int)=c_:=cT _;simp[im,iX,h,h1,h2,h3,h4,h5]
def V0(n:Nat)(ns:List Int):Cn D (n+7) 34 [.lst (ns.map Dat.int)]=a_ (.bl c_,d_):=by
 obtain⟨q,r24,bq⟩:=dZ (n:=n+5) ns 0 3 (by omega) (by omega);obtain⟨fs,m0,m1,m2,m3,fg,h28,g⟩:=FW (n:=n) ns (st:=q) (by omega);have hok:=Jy g;have h64:=Of g;have hgo:=Wr g;have hbl:(("out",[32],[0],"out"):Ed)∈got (JV fs m0 m1 m2 m3 fg):=aJ _ (ak _ hJ);have h28:Cn D (n+6) 28 [.lst (ns.map Dat.int),.int (q:Nat)]=a_ (tb (JV fs m0 m1 m2 m3 fg),d_):=h28;generalize JV fs m0 m1 m2 m3 fg=t at h28 hok h64 hgo hbl;obtain⟨E,eE,nE,mE,lE⟩:=QE (got t);have h17:∀m,Cn D (m+2) 17 [tb t]=a_ (.lst (E.map bJ),c_):=λm=>by rw[<-eE];exact Gb hok h64
 have hl:E.length<64:=df lE h64
 have hE:E≠[]:=λe=>by
  have:=(mE _).mpr hbl;rw[e]at this;cases this
 have hgE:∀e∈E,Px e:=λe he=>hgo e ((mE e).mp he);have hD:∀m,LN (Cn D (m+1)) (.lst (ns.map Dat.int)):=λm k v h1 h2 h3=>dZ (n:=m) ns k v ⟨h1,h2⟩ h3;obtain⟨ss,s1,pY,s3⟩:=Iq (hD (n+4)) hl λe he=>(hgE e he).hl;have h31:Cn D (n+6) 31 [.lst (ns.map Dat.int),.lst (E.map bJ)]=a_ (.lst (ss.map cQ),c_):=dE (C:=Cn D (n+5)) (np:=2) (nl:=10) (body:=YF) rfl s1;have h33:∀p∈ss,∀c:Int,Cn D (n+6) 33 [tb t,.lst (E.map bJ),cQ p,.int c]=a_ (.bl c_,d_):=λp hp c=>F7 (n:=n+1) (h17 _) hl nE (λe he=>(hgE e he).st) (λe he=>(hgE e he).ne) (s3 p hp);have h19:∀p:lB,Cn D (n+6) 19 [cQ p]=a_ (.bl (p.2.1.isEmpty && mP p.1),d_):=λp=>M8 (n:=n+4) p;exact dE (C:=Cn D (n+6)) (np:=1) (nl:=9) (body:=YD) rfl (V8 (hD (n+5)) (Wi t) hE hl (λe he=>(hgE e he).ne) pY h28 (h17 _) h31 h19 h33 r24)
end K60E
namespace K60
open M
def math(ns:List Int)(h:ns.length<=63):∃fr,Cn D 12 34 [.lst (ns.map Dat.int)]=a_ (.bl c_,fr):=⟨d_,K60E.V0 5 ns⟩
end K60
namespace M
open PySem PySem.Spec PyProof.Rows L2
section
variable{K:Fg}{mg:aV->Option ab}
mutual
noncomputable def Nb(K:Fg):Dat->ab->Bool
 |.str x,.str y _=>decide (x=y)
 |.int i,.int j _=>decide (i=j)
 | .tup ds,.ref p=>match K.lookup p with
   |some ⟨.type c,b_,.seq its _,_⟩=>decide (c="tuple") && decide (its.size<=aE) && IU K ds its.toList
   |_=>d_
 |_,_=>d_
noncomputable def IU(K:Fg):List Dat->List ab->Bool
 |[],[]=>c_
 |d::ds,u::us=>Nb K d u && IU K ds us
 |_,_=>d_
end
set_option tactic.hygienic true
mutual
theorem DO:∀(d:Dat)(u:ab),Nb K d u=c_->∃v,RelV v u/\CV K d v
 |.str x,.str y t,h=>by
   cases of_decide_eq_true h;exact⟨.str x,⟨t,rfl⟩,λ_=>rfl,λ_ z=>nomatch z⟩
 |.int i,.int j t,h=>by
   cases of_decide_eq_true h;exact⟨.int i,⟨t,rfl⟩,λ_=>rfl,λ_ z=>nomatch z⟩
 |.tup ds,.ref p,h=>by
   unfold Nb at h;split at h
   ·rename_i c its n l lk;obtain⟨h,h3⟩:=iS.mp h;obtain⟨h1,h2⟩:=iS.mp h;cases of_decide_eq_true h1;obtain⟨vs,r,q⟩:=zL ds its.toList h3;exact⟨.ref p,rfl,λF=>⟨p,vs,rfl,.inr ⟨_,its,n,lk,rfl,rfl,of_decide_eq_true h2,r⟩,q F⟩,λb z=>by cases z;exact⟨_,lk,rfl,rfl⟩⟩
   ·cases h
theorem zL:∀(ds:List Dat)(us:List ab),IU K ds us=c_->∃vs,cD vs us/\∀F,cy K F ds vs
 |[],[],_=>⟨[],.nil,λ_=>rfl⟩
 |d::ds,u::us,h=>by
   obtain⟨h1,h2⟩:=iS.mp h;obtain⟨v,r,q⟩:=DO d u h1;obtain⟨vs,rs,qs⟩:=zL ds us h2;exact⟨v::vs,.cons r rs,λF=>⟨v,vs,rfl,q.1 F,qs F⟩⟩
end
noncomputable def WH(K:Fg)(p:aV×Dat):Bool:=match mG K mainGlobals p.1 with
 |some (a_ u)=>Nb K p.2 u
 |_=>d_
theorem EV{h:bH}(X:K.In h)(G:h.Ns mainGlobals mg):∀{con:List (aV×Dat)},con.all (WH K)=c_->∀x d,con.lookup x=a_ d->∃v u,mg x=a_ u/\RelV v u/\CV K d v
 |(y,e)::L,h,x,d,q=>by
   rw[cu]at h;obtain⟨h1,h2⟩:=iS.mp h;rw[eL]at q;split at q
   ·rename_i z;cases q;rw[eq_of_beq z];unfold WH at h1;split at h1
    ·rename_i u a;obtain⟨v,r,c⟩:=DO _ _ h1;exact⟨v,u,Ly X G a,r,c⟩
    ·cases h1
   ·exact EV X G h2 x d q
set_option tactic.hygienic false
end
end M
open PySem PySem.W PyProof.Rows
namespace PySem.W.Fast
def tw13378090541659068883:=0
def tw9702178142857328779:=0
def tw11680961967653395568:=0
def tw540728601682489670:=0
def tw11679157719307982406:=0
def tw1664764408250418350:=0
def tw762929748785079915:=0
def tw340950985310183902:=0
def tw7168302917381124513:=0
def tw14380735827315890146:=0
def tw10090374497256932200:=0
def tw14582578515159222325:=0
def tw4781632003033852122:=0
def tw3356240540620121289:=0
def tw16662711874603564135:=0
def tw11873762031400086804:=0
def tw4072414362082948958:=0
def tw8359310791202040422:=0
def tw14331598380341195106:=0
def tw5784318917109490748:=0
def tw11215526810466965624:=0
def tw3637264768080502962:=0
def tw11531876593209378813:=0
def tw17043784571508126280:=0
def tw14907498931323719334:=0
def tw18251083354561174219:=0
def tw17620769402386046220:=0
def tw10551862412960435609:=0
def tw3003366435828550723:=0
def tw15470659439241591439:=0
def tw2809218323620425805:=0
def tw13910363495882428820:=0
def tw16043548137361657024:=0
def tw5290180365239250337:=0
def tw11029703803790821527:=0
def tw9827097060130825480:=0
def tw12667484022846545855:=0
def tw7452824257520598678:=0
def tw12905791036001110242:=0
def tw2426191914660662166:=0
def tw16845073395683633101:=0
def tw14810233134274636592:=0
def tw4500271588437939749:=0
def tw15086282208077085190:=0
def tw5589781769354558845:=0
def tw1253726689990616609:=0
def tw17150681733870105077:=0
def tw17014939114415239117:=0
def tw2614080297820950006:=0
def tw16852064491505311309:=0
def tw11572757498222186154:=0
def tw12398918036300484020:=0
def tw3491965506816449495:=0
def tw12695331334062570614:=0
def tw13644425837761849387:=0
def tw4401625697656269751:=0
def tw13155950469937194831:=0
def tw11116055424245064388:=0
def tw14230817127770848091:=0
def tw11454055045902617314:=0
def tw12391178173812641698:=0
def tw14945088757317136171:=0
def tw7187057004189744151:=0
def tw7937870475143863362:=0
def tw16780517699022868703:=0
def tw3817644789121701118:=0
def tw12723588824942029696:=0
def tw2456337476868506199:=0
def tw9587677124207343830:=0
def tw13917479675931108900:=0
def tw11647510671107110083:=0
def tw6420982778746636024:=0
def tw7361361215219404667:=0
def tw15710221290626620775:=0
def tw1392538757932348711:=0
def tw4652601818779184832:=0
def tw2607948042366761734:=0
def tw1045853007727992759:=0
def tw4071468236434917790:=0
def tw9976961353785043439:=0
def tw1014234276006688223:=0
def tw3966555147896066535:=0
def tw5581995283596419535:=0
def tw4868962713753531726:=0
def tw1441270573315316670:=0
def tw1596442889585241175:=0
def tw7496662774171755177:=0
def tw9438425916510952974:=0
def tw15644920241653135350:=0
def tw17815825221216948942:=0
def tw3108655590087902243:=0
def tw9015162717025247478:=0
def tw10882289881991357129:=0
def tw8726878596479186527:=0
def tw15468329120232928883:=0
def tw1685928461590533199:=0
def tw6892233183411609300:=0
def tw5794493197772140062:=0
def tw17751782247974482338:=0
def tw15580133179182996379:=0
end PySem.W.Fast
set_option maxRecDepth 100000 in
set_option maxHeartbeats 0 in
theorem PySem.Challenge.cw_dots_k60_steps_holds : PySem.Challenge.rw_dots_k60_steps.Holds := by
 w_on;o_law;k_head;(case hw=>w_witness2)
 k_fill
 refine M.walk (l:=mU) (n:=12) (x:="_law_script") rfl ⟨rfl,by decide,by decide⟩ rfl (λw h Y=>PySem.W.kIn_of Y) ?F
 case F=>
  intro w mg fa h KX G hmg
  have Z:∀x∈M.kN,mg x=b_:=by
   refine M.OU KX G ?_
   kernel_rfl
  have T:M.Here (L2.KOf KX) mg K60.D K60.con:=⟨K60.VS,M.Us KX G (by kernel_rfl) (by kernel_rfl) (λ_ _ _ _ _ _ _=>by kernel_rfl),Z,M.EV KX G (by kernel_rfl)⟩
  exact M.So (l:=mU) T (j:=34) rfl rfl hmg K60.math
