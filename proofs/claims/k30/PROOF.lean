import PyProof.Rows.All
import Wide.All
import OpenK.AllK
import Wide.FinOn
import Lean
import PyProof.EqAt
import PyProof.EqKinds
import PyProof.TupleCall
import PySem.Challenge.RW_dots_k30_prices
set_option tactic.hygienic false
open Option renaming some->a_,none->b_
open Bool renaming true->c_,false->d_
noncomputable section
set_option bootstrap.genMatcherCode false
set_option genInjectivity false
set_option genSizeOf false
open And renaming intro->ue
open Array renaming getElem?_eq_getElem->aS,length_toList->aY,getElem?_eq_some_iff->bO,getElem?_eq_none->gW,getElem?_toList->ip,forIn_toList->lI,getElem_toList->oZ,replicate->ud,getD_eq_getD_getElem?->vz,mem_iff_getElem->BD,getD->FY,ext_getElem?->FZ,toList_push->HF
open Bool renaming and_eq_true->aj,false_eq_true->bM,and_true->eO,and_eq_true_iff->iT,and_self->kB,or_eq_true->kQ,not_eq_true'->mH,or_true->sA,not_false->Pl,and_false->Pn,and_assoc->Po
open Classical renaming propDecidable->lZ,em->HX
open Eq renaming symm->oJ
open False renaming elim->iO
open ForInStep renaming yield->iY
open Iff renaming rfl->LN
open Int renaming ofNat->eM,ofNat_le->eP,le_trans->fu,lt_of_le_of_lt->hV,eq_ofNat_of_zero_le->jD,ofNat_zero_le->jU,not_le->rA,toNat->ub,not_le_of_gt->uc,natCast_pos->vM,toNat_natCast->LM,emod_nonneg->Pk
open Int.ofNat renaming inj->HE
open List renaming getElem?_eq_getElem->ae,length_append->ag,mem_append_right->ak,map_cons->aq,mem_cons->au,length_map->aw,append_nil->az,append_assoc->aC,mem_append->aE,mem_append_left->aH,range->aK,mem_singleton->aL,getElem?_map->aM,getElem?_eq_some_iff->aN,getElem?_append_right->aQ,mem_of_getElem?->aR,nodup_cons->aT,getElem?_append_left->aU,length_range->aW,take_append_drop->aZ,mem_range->a9,length_cons->ba,not_mem_nil->bf,size_toArray->bp,all_eq_true->br,getElem_mem->bA,mem_map->bQ,map_map->bS,nodup_append->bW,pairwise_cons->bZ,mem_of_mem_take->cz,mem_iff_getElem->cA,flatMap_singleton->cB,mem_map_of_mem->cH,map_congr_left->cJ,flatMap_append->cL,getElem?_cons_succ->dc,perm_append_comm->dA,replicate->dB,all_cons->dC,mem_filter->dF,getElem?_take->dH,pairwise_append->dM,mem_of_mem_drop->dO,length_drop->dP,take_of_length_le->eo,pairwise_iff_getElem->eE,length_take->eK,nodup_nil->eR,pairwise_map->eV,getElem?_replicate->eW,drop_sublist->eX,length->fj,nodup_range->fB,mem_flatMap->fD,lookup_cons->fE,perm_ext_iff_of_nodup->fG,length_filter_le->fL,drop_eq_getElem_cons->fR,map_append->fT,reverse_perm->fU,mem_of_mem_tail->fV,getElem?_of_mem->fW,flatMap_nil->gG,filter_append->g8,length_replicate->iu,take_sublist->iy,isEmpty_iff->iW,ext_getElem->iX,filterMap_cons->jb,of_mem_zip->ji,length_nil->jj,length_eq_zero_iff->jr,filter_cons_of_pos->jt,take_take->jI,getElem?_inj->jJ,ext_getElem?->jK,drop_left->jL,drop_eq_nil_of_le->jM,drop_drop->jN,pairwise_reverse->j9,getElem?_toArray->kc,getElem?_eq_none->kg,getElem_of_mem->kT,take_zero->lP,mem_filterMap->lQ,getD_eq_getElem?_getD->lR,getElem?_set->mG,any_cons->mY,prefix_iff_eq_take->nN,pairwise_singleton->nO,filter_cons_of_neg->nP,cons_append->nQ,pairwise_lt_range->n5,getElem?_set_self->n6,getElem?_set_ne->o9,length_pos_iff->p0,getElem?_range->p3,getElem_range->qT,getElem?_drop->qU,filterMap_nil->qV,set_eq_take_append_cons_drop->rq,findIdx?_eq_some_iff_getElem->rz,zipWith->sx,map_inj_left->sy,zipIdx_cons->tK,getElem_map->tL,any_eq_true->tM,take_append_of_le_length->t9,eq_nil_of_length_eq_zero->ua,length_zip->vv,forIn_cons->vx,filter_nil->vy,take_left->we,drop_take->wg,map_take->zf,find?_range_eq_none->zg,pairwise_filterMap->zt,getElem?_cons_zero->zu,zipWith_cons_cons->BA,range_succ_eq_map->BB,length_eq_one_iff->BC,length_singleton->BV,getElem?_reverse->BW,filterMap_append->BX,filter_sublist->FX,zip_cons_cons->HA,map_inj_right->HB,length_modify->HC,filterMap_map->HD,tail_sublist->HV,flatMap_cons->HW,reverse_nil->LI,range'_succ->LJ,perm_middle->LK,drop_length->LL,zip_append->Mf,zipIdx_nil->Mg,head?_cons->Mh,foldl_cons->Mi,map->Pg,forIn_nil->Ph,drop_zero->Pj
open List.Nodup renaming sublist->zh
open List.Pairwise renaming imp_of_mem->iA,imp->og,nil->wj
open List.Perm renaming append_left->jC,eq_of_pairwise->lH,trans->DI
open List.cons renaming inj->dQ,injEq->fH
open Nat renaming le_trans->ab,le_of_eq->af,le_refl->ao,lt_of_le_of_lt->aB,zero_le->aP,lt_of_lt_of_le->aV,le_add_right->bb,le_of_lt->be,ne_of_lt->bo,not_le_of_lt->bB,lt_irrefl->bC,succ_le_succ->bD,le_of_succ_le_succ->bF,le_antisymm->bI,le_of_not_lt->cy,add_sub_cancel_left->cP,le_succ_of_le->cT,lt_trans->c5,lt_of_le_of_ne->dI,min_eq_left->eY,pos_of_ne_zero->fJ,add_le_add->fK,add_sub_of_le->fY,add_le_of_le_sub->fZ,lt_succ_self->i6,lt_or_ge->i7,min_le_left->jl,mod_lt->jq,zero_add->jS,lt_succ_of_lt->jT,min_le_right->kA,add_assoc->kG,sub_self->lF,ne_of_gt->lG,lt_trichotomy->mX,lt_of_not_le->nW,add_lt_of_lt_sub->pJ,add_le_add_left->qb,sub_add_cancel->rn,add_right_comm->rp,lt_of_succ_lt->tv,le_succ->vt,not_lt_zero->vK,le_add_left->vL,eq_of_lt_succ_of_not_lt->wd,le_of_add_le_add_left->ze,le_add_right_of_le->BU,le_sub_of_add_le->FW,sub_le->HU,sub_lt_of_lt->Md,lt_add_right->Me
open Ne renaming symm->eQ
open Option renaming bind->bh,bind_some->bw,map_some->bV,isNone_iff_eq_none->eD,map->j5,isSome_iff_exists->mz,getD_some->sv,isSome->wc,bind_eq_some_iff->xO,map_eq_some_iff->y8,join_some->Hy,getD_none->Hz,map_map->LH
open Option.some renaming inj->bx,injEq->gP
open Prod renaming ext->DH
open Prod.mk renaming injEq->vJ
open PyProof.Rows renaming SortSt->bJ,callWith_type1->c6,slot_tuple_getitem->c8,Keyed->jk,lt_int->nM,AllBare->n4,SortKind->oY,callWith_builtin1->o8,StrsAre->pI,getItem_tuple->qS,len_tuple->tJ,IsTup->y7,IntsAre->Bz,listUpdate_at->FV,subscriptTail_builtinR->HR,tail_any->Ma,seqEpoch_at->Mb
open PyProof.Rows.F renaming entry_set_update_loop->eJ,plain_set_update_loop->ig
open PyProof.Rows.IsTup renaming new->HS
open PyProof.Rows.SortSt renaming mk'->lA
open PySem renaming Value->ah,Shared->ai,sizeLine->ax,wpAny->aA,model->aD,Addr->aF,starEach->aO,Expr->aX,Str->bc,SetTable->bq,wpAny_setField_rec->bG,wpAny_call_entry->bH,Around->bP,wpAny_holding->bR,Heap->cc,Program->cg,wpAny_callSpecial?_slot->cx,wpAny_field->cQ,wpAny_seqItems->cU,World->cZ,wpAny_mono->c9,wpAny_setState_of->de,wpAny_newObj_type->df,cLine->dh,wpAny_isInstance->dq,codeAny_builtin->dS,wpAny_Call_Name_kw->eT,wpAny_specialOf->fi,Builtin->fI,plainId_quiet->fM,wpAny_rule->fS,mem_of_lookup->gu,wpAny_truthy_bool->gC,sizeLine_eq->gD,wpAny_forIn_list->g9,Paired->hJ,wpAny_typeOf->iw,wpAny_updateSeq->iM,wpAny_attempt->iR,FuncData->jG,wpAny_tupleItemsOf->jQ,IsPair->jR,wpAny_of_eq->j3,wpAny_getItem_str_slice->j4,codeAny_mono->ko,NameKind->ku,Stmt->kK,Obj->kL,wpAny_letGo->lD,codeAny_call_builtin->lE,wpAny_passesOwn->lW,Scope->my,KeyKind->mE,wpAny_pyIter_strU->n3,wpAny_loadPart'->pW,post_val_or_str->pY,isSubtype_tuple_tuple->p6,wpAny_updateSeq_pair->rd,wpAny_runValue->rf,IsPart->rj,wpAny_onRaise->tG,call_meets->t4,wpAny_pyIter_slot->vB,wpAny_pyIter_list->vC,concat_meets->vF,wpAny_askSetting->xE,scanBound->xF,noFill_tuple_add->xG,Pos->xI,placed->zl,Sem->zp,wpAny_richCompare_same_room->Bx,BindsTo->By,wpAny_tryCatch->BJ,wpAny_newTuple->BK,isSubtype_stop->BM,entryFor_alias->BN,Operator->BP,MulOk->BQ,IsZip->BR,GenState->BS,Tok->DD,wpAny_standAt->FK,wpAny_newList->FL,wpAny_comprehension_free->FN,seq_tuple_add->FO,call->FP,PassesOwn->Hx,wpAny_pyNext_range_end->HK,wpAny_pyIter_rangeiter->HL,seqIndex_neg->HM,pyIter->HN,callType_new->HP,seqIndex_of->L4,codeAny_extend_loopS->L5,Slot->L7,wpAny_setEntries_of->Pa,Env->Pe,ElemsOf->Pf
open PySem.Builtin renaming bitAnd->t8,bitOr->LG
open PySem.Builtin.Frozenset renaming updateFrom->n9,sizeOf->L8,isAnySet->L9
open PySem.Builtin.List renaming listTooLong->fF,listLengthHint->p9,listExtendWith->qa,listSameRef->su
open PySem.Builtin.Range renaming rangeSize->iS,small->vq
open PySem.Builtin.Slice renaming slicePlaces->ie,sliceAdjust->qR
open PySem.Builtin.SmallTypes renaming nextOf->gV
open PySem.Builtin.Str renaming occurrences->iV
open PySem.Builtin.Tuple renaming tupleHashOf->dY,tupleItemsOf->j8
open PySem.Calls renaming spliced_nil->rm,Name_function_global->vI,call_function_entry->wb,callWith_builtin->zr,spliced_cons->FU
open PySem.Challenge renaming rw_dots_k30_prices->m8
open PySem.Env renaming kindOf->rl
open PySem.F renaming slot_tuple_iterator_next->fO,slot_tuple_hash->gf,plainAttrs_list->gh,slot_list_extend->iZ,slot_list_append->i5,plain_min_loop->jm,entry_set_init->jo,slot_zip_next->jH,called_set->kR,type_list_append->lX,args_tuple_add_2->lY,entry_tuple_add->mF,slot_tuple_add->m6,plainAttrs_str->m7,slot_tuple_eq->nV,args_tuple_iterator_next_1->pH,entry_tuple_iterator_next->pZ,args_list_extend_2->p8,entry_list_extend->rk,entry_proto_collect->tH,slot_tuple_getitem->t6,args_object_init_2->t7,slot_dict_getitem->vo,plain_extend_loop->vp,slot_list_index->v7,plain_list_iadd->v8,entry_list_iadd->v9,args_zip_next_1->wa,typeCall_set_1->xK,entry_zip_next->xM,entry_min_loop->xN,slot_tuple_lt->yY,slot_set_iter->yZ
open PySem.Heap renaming get?_push_size->aG,SameBut->cj,get?_update_other->dk,size_push->eh,get?_update_self->eG,get?_none_of_le->o7,ExtBut->DG
open PySem.Heap.SameBut renaming update->nL,refl->xJ
open PySem.IsRange renaming new->Pd
open PySem.ItemsOf renaming nil->Pc
open PySem.Manifest renaming owners->FT
open PySem.NameKind renaming free->dW,cell->lO
open PySem.Obj renaming mapSeq->eL,data_mapFields->HQ
open PySem.Paired renaming length->pG
open PySem.ScopeKind renaming function->zq
open PySem.SeqAt renaming EqAt->vH,RcNeAt->zo,RcAt->FR
open PySem.SetTable renaming below->aI,Probe->bE,insertAt->cM,grown->dm,runEnd->dz,advance->dE,bits->dU,toList_insertAt->eF,sizeAbove->fh,leap->gR,turns->kP,slot->lL,laid->lM,fits->lN,fill->oX,has->v5,layClean->BO,tooFull->DF,relaid->FQ,Met->LF
open PySem.SetTable.below renaming go->kr
open PySem.SetTable.layClean renaming free->c7
open PySem.SetTable.probe renaming go->bN
open PySem.Shared renaming TypeIs->pE
open PySem.Str renaming ofString->aa
open PySem.StrLaws renaming found_one->DE
open PySem.Txt renaming slice->cY,startswith3->gQ,upper->rh,join->tu,slice_le->zm
open PySem.Unicode renaming upperOf->tm
open PySem.Value renaming ref->cW,none->eU,type->iN,isStrOf->Pb
open PySem.W renaming Frag->aJ,kia_one->fN,keepIn->f7,OpenLaw->ja,nsIn->mZ,fnOf->p7,codeIn->t5,WalkO->vG,cellsFrom_some->xH,kitx_dict->DC,mg_of->LD,kas_item->L6
open PySem.pickOrder renaming go->vE
open String renaming ofList->L3
open Sum renaming inr->ck,inl->BI
open Sum.inl renaming inj->zk
open Sum.inr renaming inj->sr
open True renaming intro->kn
set_option Elab.async false
set_option compiler.extract_closed false
set_option linter.all false
set_option maxRecDepth 100000
set_option maxHeartbeats 4000000
def cR{α β:Type _}{x:Option α}{f:α->Option β}{b:β}(h:x.bind f=a_ b):∃a,x=a_ a/\f a=a_ b:=xO.mp h
def dZ{α β:Type _}{x:Option α}{f:α->β}{b:β}(h:x.map f=a_ b):∃a,x=a_ a/\f a=b:=y8.mp h
open PySem PySem.Spec in def wb9:=@wpAny_bind
open PySem PySem.Spec in def wu9:=@wpAny_pure
open PySem in def hp9:=@Heap.get?_push_of_some
open PySem in def hl9:=@Heap.lt_size
def jE{α:Type _}{a:α}{l:List α}:a∈a::l:=List.mem_cons_self
def kD{α:Type _}(y:α){a:α}{l:List α}(h:a∈l):a∈y::l:=List.mem_cons_of_mem y h
namespace L2
open PySem PySem.Spec PyProof.Rows
abbrev Key:=Sum Int bc
noncomputable def sO:Key->ah->Bool
 |.inl k,v=>Value.isInt k v
 |.inr x,v=>Pb x v
noncomputable def Y1(w:cZ):Key->Int
 |.inl k=>hashInt k
 |.inr x=>hashStr w x
def cG:∀{k:Key}{v:ah},sO k v=c_->(∃i t,k=BI i/\v=Value.int i t)\/(∃x t,k=ck x/\v=Value.str x t)
 |.inl i,v,h=>by
   obtain⟨t,e⟩:=Value.isInt_shape h;exact .inl ⟨i,t,rfl,e⟩
 |.inr x,v,h=>by
   obtain⟨t,e⟩:=Value.isStrOf_shape h;exact .inr ⟨x,t,rfl,e⟩
def GU(i:Int)(t:DD):sO (.inl i) (.int i t)=c_:=by simp[sO,Value.isInt]
def wQ(x:bc)(t:DD):sO (.inr x) (.str x t)=c_:=by simp[sO,Pb]
def Tp(a b:Int):decide ((BI a:Key)=BI b)=(a == b):=by
 grind
def Th(a b:bc):decide ((ck a:Key)=ck b)=decide (a=b):=by
 simp
def To(a:Int)(b:bc):decide ((BI a:Key)=ck b)=d_:=decide_eq_false (λq=>nomatch q)
def Tn(a:bc)(b:Int):decide ((ck a:Key)=BI b)=d_:=decide_eq_false (λq=>nomatch q)
def cv(prog:cg)(w:cZ):mE prog w Key where
 is:=sO
 hash:=Y1 w
 inj:=λv a b ha hb=>by
  rcases cG ha with⟨i,t,rfl,rfl⟩|⟨x,t,rfl,rfl⟩
  ·rcases cG hb with⟨j,u,rfl,e⟩|⟨y,u,rfl,e⟩
   ·injection e with e1 _;rw[e1]
   ·exact nomatch e
  ·rcases cG hb with⟨j,u,rfl,e⟩|⟨y,u,rfl,e⟩
   ·exact nomatch e
   ·injection e with e1 _;rw[e1]
 byValue:=λk v h=>by
  rcases cG h with⟨i,t,rfl,rfl⟩|⟨x,t,rfl,rfl⟩<;>rfl
 pyHash:=λc h=>by
  rcases cG c with⟨i,t,rfl,rfl⟩|⟨x,t,rfl,rfl⟩
  ·exact wpAny_pyHash_int h
  ·exact wpAny_pyHash_str h
 eqBool:=λd c h=>by
  rcases cG d with⟨i,t,rfl,rfl⟩|⟨x,t,rfl,rfl⟩
  ·rcases cG c with⟨j,u,rfl,rfl⟩|⟨y,u,rfl,rfl⟩
   ·rw[Tp]at h;exact wpAny_eqBool_int h
   ·rw[To]at h;exact SeqAt.EqAt.int_str i t y u _ _ _ _ h
  ·rcases cG c with⟨j,u,rfl,rfl⟩|⟨y,u,rfl,rfl⟩
   ·rw[Tn]at h;exact SeqAt.EqAt.str_int x t j u _ _ _ _ h
   ·rw[Th]at h;exact wpAny_eqBool_str h
 «strs» :=λk x t v h=>by
  rcases cG h with⟨i,u,rfl,e⟩|⟨y,u,rfl,e⟩
  ·exact nomatch e
  ·injection e with e1 _
   subst e1;cases v<;>rfl
def Al(prog:cg)(w:cZ)(i:Int)(t:DD):(cv prog w).is (.inl i) (.int i t)=c_:=GU i t
def Ak(prog:cg)(w:cZ)(x:bc)(t:DD):(cv prog w).is (.inr x) (.str x t)=c_:=wQ x t
def OZ(h h':cc):Prop:=∀b o,h.get? b=a_ o->o.cls=.type "tuple"->(∃its n,o.data=.seq its n)->h'.get? b=a_ o
structure Ik(P:cg)(w:cZ) where
 κ:Type
 d:Nat
 is:cc->κ->ah->Prop
 hash:κ->Int
 draw:κ->Nat
 inj:∀{h:cc}{x y:κ}{v:ah},is h x v->is h y v->x=y
 nX:∀{h h':cc}{k:κ}{v:ah},OZ h h'->is h k v->is h' k v
 hsh:∀{A:bP}{E:ah->ai->Prop}{s:ai}{k:κ}{v:ah}{Q:Int->ai->Prop},A.units+d<=dh->is s.heap k v->Q (hash k) { s with toks:=s.toks+draw k }->aA (aD P w) A (pyHash v) Q E s
 eqb:∀{A:bP}{E:ah->ai->Prop}{s:ai}{x y:κ}{u v:ah}{Q:Bool->ai->Prop},A.units+d<=dh->is s.heap x u->is s.heap y v->(x=y->Q c_ s)->(x≠y->Q d_ s)->aA (aD P w) A (eqBool u v) Q E s
 qui:∀{A:bP}{E:ah->ai->Prop}{s:ai}{k:κ}{v:ah}{Q:Bool->ai->Prop}{n:Nat},d<=n->is s.heap k v->Q c_ s->aA (aD P w) A (eqIsQuiet n v) Q E s
 cla:∀{A:bP}{E:ah->ai->Prop}{s:ai}{k:κ}{v:ah}{Q:Bool->ai->Prop}{n:Nat},d<=n->is s.heap k v->Q d_ s->aA (aD P w) A (ofAClassStatement n v) Q E s
 hbv:∀{A:bP}{E:ah->ai->Prop}{s:ai}{k:κ}{v:ah}{Q:Bool->ai->Prop}{n:Nat},d<=n->is s.heap k v->(∀b,Q b s)->aA (aD P w) A (hashByValue n v) Q E s
section
variable{P:cg}{w:cZ}{A:bP}{E:ah->ai->Prop}{z0:ai}{I:Ik P w}
def Ld(c:carriedByValue v=c_)(h:Q d_ z0):aA (aD P w) A (ofAClassStatement n v) Q E z0:=by
 cases v<;>first|(cases c;done)|(exact wu9 h)|(cases n<;>(exact wu9 h))
def TC(c:carriedByValue v=c_)(h:∀b,Q b z0):aA (aD P w) A (hashByValue n v) Q E z0:=by
 cases v<;>first|(cases c;done)|(unfold hashByValue;exact wu9 (h _))|simp
abbrev GV(P:cg)(w:cZ):Ik P w where
 κ:=Key
 d:=0
 is:=λ_ k v=>(cv P w).is k v=c_
 hash:=(cv P w).hash
 draw:=λ_=>1
 inj:=λex g=>(cv P w).inj _ _ _ ex g
 nX:=λ_ x=>x
 hsh:=λ_ c h=>(cv P w).pyHash c h
 eqb:=λ{A E s x y u v Q}_ ex g h1 h2=>(cv P w).eqBool ex g (by
  by_cases e:x=y
  ·rw[decide_eq_true e];exact h1 e
  ·rw[decide_eq_false e];exact h2 e)
 qui:=λ_ c h=>by rw[eqIsQuiet_byValue _ ((cv P w).byValue _ _ c)];exact wu9 h
 cla:=λ_ c h=>Ld ((cv P w).byValue _ _ c) h
 hbv:=λ_ c h=>TC ((cv P w).byValue _ _ c) h
inductive qY (I:Ik P w) (h:cc):List I.κ->List ah->Prop
 |nil:qY I h [] []
 |cons {k:I.κ} {v:ah} {ks:List I.κ} {vs:List ah}:I.is h k v->qY I h ks vs->qY I h (k::ks) (v::vs)
def qZ(I:Ik P w)(h:cc)(ks:List I.κ)(p:aF):Prop:=∃o c n,h.get? p=a_ o/\o.cls=.type "tuple"/\o.data=.seq c n/\qY I h ks c.toList
theorem qY.inj(ex:qY I h x vs)(c:qY I h y vs):x=y:=by
 induction ex generalizing y with
 |nil=>cases c;rfl
 |cons h1 _ d=>
   cases c with
   |cons h2 g=>rw[I.inj h1 h2,d g]
theorem qY.length(x:qY I h ks vs):vs.length=ks.length:=by
 induction x with
 |nil=>rfl
 |cons _ _ c=>simp[c]
theorem qY.nX(k:OZ h h')(x:qY I h ks vs):qY I h' ks vs:=by
 induction x with
 |nil=>exact .nil
 |cons h1 _ c=>exact .cons (I.nX k h1) c
def qZ.typeIs(x:qZ I z0.heap ks p):z0.TypeIs (.ref p) "tuple":=let ⟨o,_,_,go,gc,_⟩:=x;⟨o,go,gc⟩
def qZ.inj(ex:qZ I h x p)(l:qZ I h y p):x=y:=by
 obtain⟨o,k,n,go,_,q,v⟩:=ex;obtain⟨o',d,z,g,_,c,j⟩:=l;obtain rfl:o=o':=bx (go.symm.trans g);rw[q]at c
 injection c with h1 _
 subst h1;exact v.inj j
def qZ.nX(k:OZ h h')(x:qZ I h ks p):qZ I h' ks p:=
 let ⟨o,its,n,h1,h2,h3,h4⟩:=x;⟨o,its,n,k p o h1 h2 ⟨_,_,h3⟩,h2,h3,h4.nX k⟩
def Xj{h h':cc}(go:h.get? d=a_ o)(g:o.cls≠.type "tuple")(k:∀b o,b≠d->h.get? b=a_ o->h'.get? b=a_ o):OZ h h':=λb o' e c _=>
 k b o' (λz=>by
   simp_all) e
noncomputable def EZ(I:Ik P w)(ks:List I.κ):Int:=reduceHash (dY (ks.map I.hash))
def C3(B:A.units+(I.d+1)<=dh)(y:qZ I z0.heap ks p)(h:Q (EZ I ks) { z0 with toks:=z0.toks+((ks.map I.draw).sum+1) }) :
  aA (aD P w) A (pyHash (.ref p)) Q E z0:=by
 have gt:=y.typeIs;obtain⟨o,z,n,go,_,D,J⟩:=y
 first|unfold pyHashByItsType|skip
 first|refine wb9 (wpAny_cRoomFor_or (.inr (aB (bb _ _) B)) ?_)|skip
 refine wb9 (fi gt gf.lookup ?_);refine wb9 (fi gt gf.lookup ?_);refine wb9 (wpAny_callSpecialIfBoundUnlessNone?_slot gt gf (bH gf gt PySem.F.entry_tuple_hash ?_ (PySem.F.args_tuple_hash_1 _)));show aA _ _ (j8 (.ref p) >>= _) _ _ z0;refine wb9 (jQ go D ?_);refine wb9 ?_;rw[<-lI]
 refine g9 _
  (λtl(b)g=>∃pre c,ks=pre++c/\qY I z0.heap c tl/\b.toList=pre.map I.hash/\g={ z0 with toks:=z0.toks+(pre.map I.draw).sum })
  _ ?_ ?_ _ _ ⟨[],ks,rfl,J,rfl,rfl⟩
 ·rintro x tl b g ⟨pre,c,rfl,j,l,rfl⟩
  cases j with
  | @cons k _ q _ h1 v=>
    refine wb9 (I.hsh ?_ h1 ?_)
    ·grind
    first
     |exact wu9 ⟨pre++[k],q,by simp,v,by simp[l],by simp[kG]⟩
     |simp
 ·rintro b g ⟨pre,c,rfl,j,l,rfl⟩;cases j;rw[az]at h;show aA _ _ (retInt (dY b.toList)) _ _ _;rw[l];refine wpAny_ret_mkInt ?_;show aA _ _ (if(decide (-(2) ^ 63<=dY (pre.map I.hash)) && decide (dY (pre.map I.hash)<2 ^ 63))=c_ then _ else _) Q E _;unfold EZ reduceHash at h;by_cases ge:(decide (-(2) ^ 63<=dY (pre.map I.hash)) && decide (dY (pre.map I.hash)<2 ^ 63))=c_
  ·rw[if_pos ge];rw[if_pos ge]at h;exact wu9 (by simpa [kG]using h)
  ·rw[if_neg ge];rw[if_neg ge]at h;exact wb9 (fS (wu9 (by simpa [kG]using h)))
def KR(i_:A.units+I.d<=dh)(ex:qZ I z0.heap x p)(ey:qZ I z0.heap y b)(h1:x=y->R (.done (.ret (.bool c_))) z0)(h2:x≠y->R (.done (.ret (.bool d_))) z0) :
  aA (aD P w) A (fI.«tuple.__eq__» ⟨[.ref p,.ref b],[]⟩) R E z0:=by
 have D:=ey.typeIs;obtain⟨oa,xs,na,J,_,L,M⟩:=ex;obtain⟨ob,ys,nb,O,_,U,W⟩:=ey;show aA _ _ (isInstance (.ref b) (.type "tuple") >>= _) _ _ z0;refine wb9 (dq D p6 ?_);refine wb9 (jQ J L ?_);refine wb9 (jQ O U ?_);refine wb9 ?_
 refine g9 _
  (λtl r z=>r.1=b_/\z=z0/\∃x' B c g,tl=List.zip c g/\qY I z0.heap x' c/\qY I z0.heap B g/\(x'=B↔x=y)/\(c.length == g.length)=(xs.size == ys.size))
  _ ?_ ?_ _ _ ⟨rfl,rfl,x,y,xs.toList,ys.toList,rfl,M,W,LN,by simp⟩
 ·rintro⟨u,v⟩ tl r z ⟨ge,rfl,x',B,c,g,gz,hx',hy',gdec,glen⟩
  cases hx' with
  |nil=>simp at gz
  | @cons k1 u' Y j q1 k=>
    cases hy' with
    |nil=>simp at gz
    | @cons k2 v' Z l q2 q=>
      obtain⟨⟨rfl,rfl⟩,rfl⟩:=gz;refine wb9 (I.eqb i_ q1 q2 (λgk=>?_) λgk=>?_)
      ·subst gk;refine wu9 ⟨rfl,rfl,Y,Z,j,l,rfl,k,q,?_,by simpa using glen⟩
       simp_all
      ·exact wb9 (wu9 (wu9 (wu9 (h2 λe=>gk (dQ (gdec.mpr e)).1))))
 ·rintro⟨r1,r2⟩ z ⟨ge,rfl,x',B,c,g,gz,hx',hy',gdec,glen⟩;subst ge;refine wu9 ?_;show R (.done (.ret (.bool (xs.size == ys.size)))) z;rw[<-glen]
  cases hx' with
  |nil=>
    cases hy' with
    |nil=>exact h1 (gdec.mp rfl)
    |cons _ _=>simp_all
  |cons _ _=>
    cases hy' with
    |nil=>simp_all
    |cons _ _=>simp at gz
def W0(j:A.units+(I.d+1)<=dh)(ex:qZ I z0.heap x p)(g:qZ I z0.heap y b)(h1:x=y->Q c_ z0)(h2:x≠y->Q d_ z0) :
  aA (aD P w) A (eqBool (.ref p) (.ref b)) Q E z0:=by
 unfold eqBool
 try with_reducible refine bR ?_
 by_cases c:(cW p == cW b)=c_
 ·rw[if_pos c];have e:p=b:=by simp_all
  subst e;obtain rfl:=ex.inj g;exact wb9 (fS (wu9 (h1 rfl)))
 ·rw[if_neg c]
  exact wb9 (Bx ex.typeIs g.typeIs nV
   (bH nV ex.typeIs PySem.F.entry_tuple_eq (KR (by show A.units+1+I.d<=dh;omega) ex g (λe=>⟨_,rfl,(λe=>nomatch e),gC (h1 e)⟩) λe=>⟨_,rfl,(λe=>nomatch e),gC (h2 e)⟩) (PySem.F.args_tuple_eq_2 _ _)) (by omega))
def tR(z:I.d<=n)(q:qZ I z0.heap ks p)(h:Q c_ z0):aA (aD P w) A (eqIsQuiet (n+1) (.ref p)) Q E z0:=by
 have gt:=q.typeIs;obtain⟨o,y,m,go,_,B,D⟩:=q;unfold eqIsQuiet;refine wb9 (fi gt nV.lookup ?_);refine wb9 (dq gt p6 ?_);refine wb9 (cU go B ?_);refine wb9 ?_;rw[<-lI];refine g9 _ (λtl r c=>r.1=b_/\c=z0/\∃l,qY I z0.heap l tl) _ ?_ ?_ _ _ ⟨rfl,rfl,_,D⟩
 ·rintro v tl r c ⟨ge,rfl,l,J⟩
  cases J with
  | @cons k _ g _ h1 j=>
    refine wb9 (I.qui z h1 ?_);exact wu9 ⟨rfl,rfl,g,j⟩
 ·rintro⟨r1,r2⟩ c ⟨ge,rfl,_⟩;subst ge;exact wu9 h
def yM(y:I.d<=n)(z:qZ I z0.heap ks p)(h:Q d_ z0):aA (aD P w) A (ofAClassStatement (n+1) (.ref p)) Q E z0:=by
 obtain⟨o,q,m,go,B,D,J⟩:=z;unfold ofAClassStatement;refine wb9 (wpAny_typeOf_ref go ?_);rw[B];refine wb9 (wu9 ?_);refine wb9 (cU go D ?_);refine wb9 ?_;rw[<-lI];refine g9 _ (λtl r c=>r.1=b_/\c=z0/\∃l,qY I z0.heap l tl) _ ?_ ?_ _ _ ⟨rfl,rfl,_,J⟩
 ·rintro v tl r c ⟨ge,rfl,l,L⟩
  cases L with
  | @cons k _ g _ h1 j=>
    refine wb9 (I.cla y h1 ?_);exact wu9 ⟨rfl,rfl,g,j⟩
 ·rintro⟨r1,r2⟩ c ⟨ge,rfl,_⟩;subst ge;exact wu9 h
def P4(z:I.d<=n)(q:qZ I z0.heap ks p)(h:∀b,Q b z0):aA (aD P w) A (hashByValue (n+1) (.ref p)) Q E z0:=by
 have gt:=q.typeIs;obtain⟨o,y,m,go,L,B,D⟩:=q;refine wb9 (fi gt gf.lookup ?_);refine wb9 (cU go B ?_);refine wb9 ?_;rw[<-lI];refine g9 _ (λtl r c=>r.1=b_/\c=z0/\∃l,qY I z0.heap l tl) _ ?_ ?_ _ _ ⟨rfl,rfl,_,D⟩
 ·rintro v tl r c ⟨ge,rfl,l,J⟩
  cases J with
  | @cons k _ g _ h1 j=>
    refine wb9 (I.hbv z h1 λb=>?_);cases b
    ·exact wu9 (wu9 (h _))
    ·exact wu9 ⟨rfl,rfl,g,j⟩
 ·rintro⟨r1,r2⟩ c ⟨ge,rfl,_⟩;subst ge;exact wu9 (h _)
abbrev tupI(I:Ik P w):Ik P w where
 κ:=Sum Key (List I.κ)
 d:=I.d+1
 is:=λh k v=>match k with
  |.inl k=>(cv P w).is k v=c_
  |.inr ks=>∃b,v=.ref b/\qZ I h ks b
 hash:=λk=>match k with
  |.inl k=>(cv P w).hash k
  |.inr ks=>EZ I ks
 draw:=λk=>match k with
  |.inl _=>1
  |.inr ks=>(ks.map I.draw).sum+1
 inj:=λ{h x y v}ex g=>by
  cases x with
  |inl k=>
    cases y with
    |inl k'=>exact congrArg _ ((cv P w).inj _ _ _ ex g)
    |inr ks=>obtain⟨b,rfl,_⟩:=g;exact nomatch ((cv P w).byValue _ _ ex)
  |inr ks=>
    obtain⟨b,rfl,q⟩:=ex
    cases y with
    |inl k'=>exact nomatch ((cv P w).byValue _ _ g)
    |inr j=>obtain⟨M,e,l⟩:=g;cases e;exact congrArg _ (q.inj l)
 nX:=λ{h h' k v}q x=>by
  cases k with
  |inl k=>exact x
  |inr ks=>obtain⟨b,e,z⟩:=x;exact⟨b,e,z.nX q⟩
 hsh:=λ{A E s k v Q}B c h=>by
  cases k with
  |inl k=>exact(cv P w).pyHash c h
  |inr ks=>obtain⟨b,rfl,z⟩:=c;exact C3 B z h
 eqb:=λ{A E s x y u v Q}B ex g h1 h2=>by
  cases x with
  |inl k=>
    cases y with
    |inl k'=>exact(GV P w).eqb (by show A.units+0<=dh;omega) ex g (λe=>h1 (by rw[e])) λe=>h2 λz=>e (zk z)
    |inr ks=>
      obtain⟨b,rfl,o,its,n,go,D,J,_⟩:=g;have ht:s.heap.IsTuple b its:=⟨o,go,D,n,J⟩
      rcases cG ex with⟨i,t,rfl,rfl⟩|⟨z,t,rfl,rfl⟩
      ·exact SeqAt.EqAt.int_tuple i t ht (by omega) _ _ _ _ (h2 λe=>nomatch e)
      ·exact SeqAt.EqAt.str_tuple z t ht (by omega) _ _ _ _ (h2 λe=>nomatch e)
  |inr ks=>
    obtain⟨b,rfl,q⟩:=ex
    cases y with
    |inl k'=>
      obtain⟨o,its,n,go,D,J,_⟩:=q;have ht:s.heap.IsTuple b its:=⟨o,go,D,n,J⟩
      rcases cG g with⟨i,t,rfl,rfl⟩|⟨z,t,rfl,rfl⟩
      ·exact SeqAt.EqAt.tuple_int i t ht (by omega) _ _ _ _ (h2 λe=>nomatch e)
      ·exact SeqAt.EqAt.tuple_str z t ht (by omega) _ _ _ _ (h2 λe=>nomatch e)
    |inr j=>
      obtain⟨M,rfl,l⟩:=g;exact W0 B q l (λe=>h1 (by rw[e])) λe=>h2 λz=>e (sr z)
 qui:=λ{A E s k v Q n}L c h=>by
  cases k with
  |inl k=>exact(GV P w).qui (aP _) c h
  |inr ks=>
    obtain⟨b,rfl,z⟩:=c
    cases n with
    |zero=>omega
    |succ n=>exact tR (by omega) z h
 cla:=λ{A E s k v Q n}L c h=>by
  cases k with
  |inl k=>exact(GV P w).cla (aP _) c h
  |inr ks=>
    obtain⟨b,rfl,z⟩:=c
    cases n with
    |zero=>omega
    |succ n=>exact yM (by omega) z h
 hbv:=λ{A E s k v Q n}L c h=>by
  cases k with
  |inl k=>exact(GV P w).hbv (aP _) c h
  |inr ks=>
    obtain⟨b,rfl,z⟩:=c
    cases n with
    |zero=>omega
    |succ n=>exact P4 (by omega) z h
end
abbrev N2:=Sum Key (List Key)
abbrev NK:=Sum Key (List N2)
noncomputable instance Z1:DecidableEq N2:=instDecidableEqSum
instance Z0:DecidableEq NK:=instDecidableEqSum
abbrev i2(P:cg)(w:cZ):Ik P w:=tupI (GV P w)
abbrev i3(P:cg)(w:cZ):Ik P w:=tupI (i2 P w)
abbrev YK(P:cg)(w:cZ):cc->NK->ah->Prop:=(i3 P w).is
abbrev UJ(P:cg)(w:cZ):cc->List NK->List ah->Prop:=qY (i3 P w)
abbrev p4(P:cg)(w:cZ):cc->List NK->aF->Prop:=qZ (i3 P w)
abbrev dJ(P:cg)(w:cZ):List NK->Int:=EZ (i3 P w)
section
variable{A:bP}{z0:ai}
def F8:(i3 P w).d<=7:=by show 2<=7;simp
def WZ(c:A.units+3<=dh)(ex:p4 P w z0.heap x p)(d:p4 P w z0.heap y b)(h:Q (decide (x=y)) z0) :
  aA (aD P w) A (eqBool (.ref p) (.ref b)) Q E z0:=
 W0 c ex d (λe=>by simp_all) λe=>by simp_all
end
def PV(P:cg)(w:cZ):HeapKind P w (List NK) where
 is:=p4 P w
 hash:=dJ P w
 draws:=λks=>(ks.map (i3 P w).draw).sum+1
 room:=λA=>A.units+3<=dh
 inj:=λex c=>ex.inj c
 keeps:=λ{h h' k a d o es ep}x go v g=>x.nX λb o' e _ ⟨y,B,q⟩=>(g.2 b λz=>by
  subst z;rw[go]at e;cases e
  rw[v]at q;cases q).trans e
 pyHash:=λj l h=>C3 j l h
 eqBool:=λj ex c h=>WZ j ex c h
 quiet:=λl h=>tR F8 l h
inductive V where
 |non|bl (b:Bool)|int (i:Int)|str (x:bc)|byt (b:Array UInt8)|flt (b:UInt64)|ref (a:aF)|ty (n:String)
 deriving DecidableEq
def RelV:V->ah->Prop
 |.non,u=>u=eU
 |.bl b,u=>u=Value.bool b
 |.int i,u=>∃t,u=Value.int i t
 |.str x,u=>∃t,u=Value.str x t
 |.byt b,u=>∃t,u=Value.bytes b t
 |.flt b,u=>∃t,u=Value.float b t
 |.ref a,u=>u=cW a
 |.ty n,u=>u=iN n
abbrev cF:List V->List ah->Prop:=hJ RelV
def cF.length(r:cF xs us):xs.length=us.length:=pG r
theorem cF.get:∀{xs:List V}{us:List ah}{i:Nat}{x:V},cF xs us->xs[i]?=a_ x->∃u,us[i]?=a_ u/\RelV x u
 |_,_,_,_,.nil,e=>by simp at e
 |_,_,0,_,.cons r _,e=>by simp at e;subst e;exact⟨_,rfl,r⟩
 |_,_,i+1,x,.cons _ t,e=>by
   obtain⟨u,h1,h2⟩:=cF.get t (by simpa using e);exact⟨u,by simpa using h1,h2⟩
theorem cF.set(r:RelV x u):∀{xs:List V}{us:List ah}(i:Nat),cF xs us->cF (xs.set i x) (us.set i u)
 |_,_,_,.nil=>.nil
 |_,_,0,.cons _ t=>.cons r t
 |_,_,i+1,.cons q t=>.cons q (cF.set r i t)
theorem cF.append:∀{xs ys:List V}{us ws:List ah},cF xs us->cF ys ws->cF (xs++ys) (us++ws)
 |_,_,_,_,.nil,s=>s
 |_,_,_,_,.cons r t,s=>.cons r (cF.append t s)
theorem cF.take:∀{xs:List V}{us:List ah}(n:Nat),cF xs us->cF (xs.take n) (us.take n)
 |_,_,0,_=>.nil
 |_,_,_+1,.nil=>.nil
 |_,_,n+1,.cons r t=>.cons r (cF.take n t)
theorem cF.drop:∀{xs:List V}{us:List ah}(n:Nat),cF xs us->cF (xs.drop n) (us.drop n)
 |_,_,0,r=>r
 |_,_,_+1,.nil=>.nil
 |_,_,n+1,.cons _ t=>cF.drop n t
def v3:Option V->Option ah->Prop
 |some v,a_ u=>RelV v u
 |none,b_=>True
 |_,_=>False
def KV{κ:Type}:List (κ×V)->List (κ×ah)->Prop:=hJ λ(p:κ×V)(q:κ×ah)=>p.1=q.1/\RelV p.2 q.2
noncomputable def kV:Key->V
 |.inl i=>.int i
 |.inr x=>.str x
inductive HO where
 |lst (xs:List V)
 |tup (xs:List V)
 |dK (k_:List (Key×V))|dT (k_:List (List Key×V))
 |dN (xs:List (List NK×aF))
 |set (S:Int->Bool) (n:Nat)
 |ins (C dx:aF) (fs:List (bc×V))
 |own (x:aF)
 |xd (fs:List (bc×V))
 |met (f x:aF)
 |rng (lo hi:Int)
 |mD (o:kL) (u:HO)
 |tbl (ps:Array ah)
 |ext (φ:cc->Prop)
abbrev Hp:=aF->Option HO
noncomputable def upd(H:Hp)(a:aF)(o:HO):Hp:=λb=>if b=a then a_ o else H b
def cu:upd H a o a=a_ o:=by unfold upd;rw[if_pos rfl]
def cD(h:b≠a):upd H a o b=H b:=by unfold upd;rw[if_neg h]
def Wm{H:Hp}{a b:aF}{o u:HO}(h:H a=a_ o)(h':H b=a_ u)(d:o≠u):a≠b:=by
 intro e;simp_all
def ee{H:Hp}{a b:aF}{o:HO}(h:H a=a_ o)(h':H b=b_):a≠b:=by
 intro e;simp_all
section
variable(P:cg)(w:cZ)
def jP(H:Hp)(h:cc)(a:aF):HO->Prop
 |.lst xs=>xs.length<=ax/\∃(its:List ah) (n:Nat),cF xs its/\h.get? a=a_ { cls:=.type "list",data:=.seq its.toArray n }
 |.tup xs=>xs.length<=ax/\∃its:List ah,cF xs its/\y7 h a its.toArray
 |.dK k_=>k_.length<=ax/\(a == sysModules)=d_/\∃vs,KV k_ vs/\h.DictOf (cv P w) a vs
 | .dT k_=>k_.length<=ax/\(a == sysModules)=d_/\∃xs:List (List Key×aF×ah),
   hJ (λ(p:List Key×V)(q:List Key×aF×ah)=>p.1=q.1/\H q.2.1=a_ (.tup (p.1.map kV))/\RelV p.2 q.2.2) k_ xs/\
   ∃o es ep,h.get? a=a_ o/\o.ExactDict/\o.data=.dict es ep/\es.toList=xs.map (entryOfKey (tupleKind (cv P w)))/\(xs.map (·.1)).Nodup
 |.dN xs=>xs.length<=ax/\(a == sysModules)=d_/\∃o es ep,h.get? a=a_ o/\o.ExactDict/\o.data=.dict es ep/\es.toList=xs.map (λx=>entryOfKey (PV P w) (x.1,x.2,.bool c_))/\(xs.map (·.1)).Nodup
 |.set S n=>h.SetOf (intKind P w) a S n
 | .ins C dx fs=>H dx=a_ (.own a)/\fs.length<=1000/\dx≠a/\h.get? a=a_ (PySem.W.instObj C dx)/\
   ∃c,h.Ns1 dx c/\(∀f,v3 (fs.lookup f) (c f))/\PySem.Within c (fs.map (·.1))
 |.own _=>∃o,h.get? a=a_ o
 |.xd fs=>∃c,h.Ns1 a c/\∀f,v3 (fs.lookup f) (c f)
 |.rng lo hi=>∃t u v,h.get? a=a_ { cls:=.type "range",data:=.fields #[.int lo t,.int hi u,.int 1 v] }
 |.mD o u=>h.get? a=a_ o/\jP H h a u
 |.tbl ps=>h.get? a=a_ { cls:=.none,data:=.fields ps }
 |.met f x=>h.get? a=a_ (PySem.W.methodObj (.ref f) (.ref x))
 |.ext φ=>φ h/\(∃o,h.get? a=a_ o)/\∀h1 h2:cc,φ h1->(∀o,h1.get? a=a_ o->h2.get? a=a_ o)->φ h2
def qO(H:Hp)(h:cc):Prop:=∀a o,H a=a_ o->jP P w H h a o
end
section
variable{P:cg}{w:cZ}{H:Hp}{h h':cc}{a:aF}{o:HO}
theorem jP.lt(x:jP P w H h a o):a<h.objs.size:=by
 cases o with
 |lst xs=>obtain⟨_,_,_,_,e⟩:=x;exact hl9 e
 |tup xs=>obtain⟨_,_,_,p⟩:=x;exact p.lt
 |dK k_=>obtain⟨_,_,_,_,o,_,_,e,_⟩:=x;exact hl9 e
 |dT k_=>obtain⟨_,_,_,_,o,_,_,e,_⟩:=x;exact hl9 e
 |dN xs=>obtain⟨_,_,o,_,_,e,_⟩:=x;exact hl9 e
 |set S n=>obtain⟨o,_,_,_,e,_⟩:=x;exact hl9 e
 |ins C dx fs=>obtain⟨_,_,_,e,_⟩:=x;exact hl9 e
 |own y=>obtain⟨_,e⟩:=x;exact hl9 e
 |xd fs=>obtain⟨_,⟨_,_,_,e,_⟩,_⟩:=x;exact hl9 e
 |rng lo hi=>obtain⟨_,_,_,e⟩:=x;exact hl9 e
 |mD c u=>obtain⟨e,_⟩:=x;exact hl9 e
 |tbl ps=>exact hl9 (x)
 |met f y=>exact hl9 (x)
 |ext φ=>obtain⟨_,⟨_,e⟩,_⟩:=x;exact hl9 e
theorem Paired.S7{α β:Type}{F G:α->β->Prop}:∀{l₁:List α}{c:List β},hJ F l₁ c->(∀a b,F a b->G a b)->hJ G l₁ c
 |_,_,.nil,_=>.nil
 |_,_,.cons r t,f=>.cons (f _ _ r) (Paired.S7 t f)
def jP.nX(x:jP P w H h a o)(k:∀b u,(b=a\/H b=a_ (.own a))->h.get? b=a_ u->h'.get? b=a_ u)
  (ho:∀b,H b=a_ (.own a)->H' b=a_ (.own a))(ht:∀b xs,H b=a_ (.tup xs)->H' b=a_ (.tup xs)):jP P w H' h' a o:=by
 induction o with
 |lst xs=>obtain⟨z,its,n,r,e⟩:=x;exact⟨z,its,n,r,k _ _ (.inl rfl) e⟩
 |tup xs=>obtain⟨z,its,r,g,e,c⟩:=x;exact⟨z,its,r,g,k _ _ (.inl rfl) e,c⟩
 |dK k_=>obtain⟨z,y,vs,r,g,es,ep,e,c⟩:=x;exact⟨z,y,vs,r,g,es,ep,k _ _ (.inl rfl) e,c⟩
 |dT k_=>
   obtain⟨z,y,xs,r,g,es,ep,e,c⟩:=x;exact⟨z,y,xs,Paired.S7 r λp q z=>⟨z.1,ht _ _ z.2.1,z.2.2⟩,g,es,ep,k _ _ (.inl rfl) e,c⟩
 |dN xs=>obtain⟨z,y,g,es,ep,e,c⟩:=x;exact⟨z,y,g,es,ep,k _ _ (.inl rfl) e,c⟩
 |set S n=>obtain⟨g,es,ep,t,e,c⟩:=x;exact⟨g,es,ep,t,k _ _ (.inl rfl) e,c⟩
 |ins C dx fs=>
   obtain⟨d,z,ne,e,j,⟨od,es,ep,e2,c⟩,r⟩:=x;exact⟨ho _ d,z,ne,k _ _ (.inl rfl) e,j,⟨od,es,ep,k _ _ (.inr d) e2,c⟩,r⟩
 |own y=>obtain⟨g,e⟩:=x;exact⟨g,k _ _ (.inl rfl) e⟩
 |xd fs=>obtain⟨j,⟨od,es,ep,e,c⟩,r⟩:=x;exact⟨j,⟨od,es,ep,k _ _ (.inl rfl) e,c⟩,r⟩
 |rng lo hi=>obtain⟨t,u,v,e⟩:=x;exact⟨t,u,v,k _ _ (.inl rfl) e⟩
 |mD g u l=>obtain⟨e,q⟩:=x;exact⟨k _ _ (.inl rfl) e,l q⟩
 |tbl ps=>
   have e :=x;exact k a _ (.inl rfl) e
 |met f y=>
   have e :=x;exact k a _ (.inl rfl) e
 |ext φ=>obtain⟨p,⟨o,e⟩,st⟩:=x;exact⟨st _ _ p λo q=>k _ _ (.inl rfl) q,⟨o,k _ _ (.inl rfl) e⟩,st⟩
def qO.lt(x:qO P w H h)(e:H a=a_ o):a<h.objs.size:=(x a o e).lt
def qO.fresh(x:qO P w H h)(e:h.objs.size<=a):H a=b_:=by
 cases q:H a with
 |none=>rfl
 |some u=>exact absurd (aV (x.lt q) e) (bC _)
def qO.kept(x:qO P w H h)(k:∀b u,h.get? b=a_ u->h'.get? b=a_ u):qO P w H h':=λa o e=>
 (x a o e).nX (λb u _ q=>k b u q) (λ_ q=>q) λ_ _ q=>q
def qO.laid(x:qO P w H h)(k:∀b u,h.get? b=a_ u->h'.get? b=a_ u)(hp:h.objs.size<=a)(new:jP P w (upd H a o) h' a o):qO P w (upd H a o) h':=λb u e=>by
 have d:=x.fresh hp;by_cases hb:b=a
 ·subst hb;rw[cu]at e;cases e;exact new
 ·rw[cD hb]at e;exact(x b u e).nX (λc v _ q=>k c v q) (λc q=>by rw[cD (ee q d)];exact q) λc xs q=>by rw[cD (ee q d)];exact q
end
def Rd(H:Hp)(a:aF)(u:HO):Prop:=H a=a_ u\/∃o,H a=a_ (.mD o u)
def Rd.ok(r:Rd H a u)(x:qO P w H h):jP P w H h a u:=by
 rcases r with r|⟨o,r⟩
 ·exact x a u r
 ·obtain⟨_,q⟩:=x a _ r;exact q
def Xx:Option HO->Prop
 |some (.lst _)=>True
 |some (.dK _)=>True
 |some (.dT _)=>True
 |some (.dN _)=>True
 |some (.set _ _)=>True
 |some (.ins _ _ _)=>True
 |some (.ext _)=>True
 |_=>False
section
variable{h':cc}
def qO.write(ok:qO P w H h)(l:Xx (H x))(J:e=x\/H e=a_ (.own x))(k:∀b u,b≠e->h.get? b=a_ u->h'.get? b=a_ u)(D:∃u,h'.get? e=a_ u)
  (new:jP P w (upd H x o') h' x o'):qO P w (upd H x o') h':=λb u q=>by
 have g:∀c y,H c=a_ (.own y)->c≠x:=λc y r z=>by subst z;rw[r]at l;exact l
 have j:∀c xs,H c=a_ (.tup xs)->c≠x:=λc xs r z=>by subst z;rw[r]at l;exact l
 by_cases hb:b=x
 ·subst hb;rw[cu]at q;cases q;exact new
 ·rw[cD hb]at q;by_cases d:b=e
  ·have L:H b=a_ (.own x):=by
    rcases J with z|z
    ·exact absurd (d.trans z) hb
    ·rw[d];exact z
   rw[q]at L;cases L;obtain⟨v,M⟩:=D;exact⟨v,by rw[d];exact M⟩
  ·refine(ok b u q).nX (λc v B r=>k c v ?_ r) (λc r=>by rw[cD (g c b r)];exact r) λc xs r=>by rw[cD (j c xs r)];exact r
   rcases B with rfl|B
   ·exact d
   ·rintro rfl
    rcases J with z|z
    ·exact g c b B z
    ·rw[B]at z;cases z;exact hb rfl
end
structure Un(fs ex:List aF)(H H':Hp)(h h':cc):Prop where
 keep:∀b o,h.get? b=a_ o->H b=b_->b∉fs->b∉ex->h'.get? b=a_ o
 slot:∀b o,h.get? b=a_ o->H b=b_->b∈fs->b∉ex->∃sl,h'.get? b=a_ { o with slots:=sl }
 free:∀b o,h.get? b=a_ o->H b=b_->b∉ex->H' b=b_
 there:∀b o,h.get? b=a_ o->b∉ex->∃o',h'.get? b=a_ o'
 tups:∀b xs,H b=a_ (.tup xs)->H' b=a_ (.tup xs)
 frzs:∀b o u,H b=a_ (.mD o u)->H' b=a_ (.mD o u)
 tbls:∀b ps,H b=a_ (.tbl ps)->∃more,H' b=a_ (.tbl (ps++more))
section
variable{h h':cc}
def Un.any(u:Un fs ex H H1 h h1)(q:h.get? b=a_ ob)(n:H b=b_)(c:b∉ex):∃sl,h1.get? b=a_ { ob with slots:=sl }:=by
 by_cases hb:b∈fs
 ·exact u.slot b ob q n hb c
 ·exact⟨ob.slots,u.keep b ob q n hb c⟩
def Un.kept(k:∀b u,h.get? b=a_ u->h'.get? b=a_ u):Un fs ex H H h h':=
 ⟨λb c q _ _ _=>k b c q,λb c q _ _ _=>⟨c.slots,k b c q⟩,λ_ _ _ n _=>n,λb c q _=>⟨c,k b c q⟩,λ_ _ q=>q,λ_ _ _ q=>q,λ_ ps q=>⟨#[],by rw[q];simp⟩⟩
def Un.refl:Un fs ex H H h h:=Un.kept λ_ _ q=>q
def Un.laid(k:∀b u,h.get? b=a_ u->h'.get? b=a_ u)(hp:h.objs.size<=a)(c:H a=b_):Un fs ex H (upd H a o) h h' where
 keep:=λb u q _ _ _=>k b u q
 slot:=λb u q _ _ _=>⟨u.slots,k b u q⟩
 free:=λb u q n _=>by rw[cD (bo (aV (hl9 q) hp))];exact n
 there:=λb u q _=>⟨u,k b u q⟩
 tups:=λb xs q=>by rw[cD (ee q c)];exact q
 frzs:=λb u xs q=>by rw[cD (ee q c)];exact q
 tbls:=λb ps q=>⟨#[],by rw[cD (ee q c),q];simp⟩
def Un.write(d:Xx (H x))(v:e=x\/H e=a_ (.own x))(k:∀b u,b≠e->h.get? b=a_ u->h'.get? b=a_ u)(g:∃u,h'.get? e=a_ u):Un fs ex H (upd H x o) h h':=by
 have l:∀b,H b=b_->b≠x:=λb n z=>by subst z;rw[n]at d;exact d
 have hb:∀b,H b=b_->b≠e:=λb n z=>by
  subst z
  rcases v with r|r
  ·exact l b n r
  ·rw[n]at r;cases r
 have j:∀b u,H b=a_ u->¬Xx (a_ u)->b≠x:=λb u q nm z=>by subst z;rw[q]at d;exact nm d
 refine⟨λb u q n _ _=>k b u (hb b n) q,λb u q n _ _=>⟨u.slots,k b u (hb b n) q⟩,λb u q n _=>by rw[cD (l b n)];exact n,λb u q _=>?_,
  λb xs q=>by rw[cD (j b _ q λz=>z)];exact q,λb u xs q=>by rw[cD (j b _ q λz=>z)];exact q,λb ps q=>⟨#[],by rw[cD (j b _ q λz=>z),q];simp⟩⟩
 by_cases c:b=e
 ·subst c;exact g
 ·exact⟨u,k b u c q⟩
end
noncomputable def XE(h:cc)(H:Hp):List aF:=(aK h.objs.size).filter λa=>(H a).isSome
def AF(h:cc)(H:Hp):cc:=PySem.W.hideAll h (XE h H)
def G8(h:cc)(H:Hp):(AF h H).objs.size=h.objs.size:=PySem.W.hideAll_size _ _
def Ku{h:cc}(e:h.get? b=a_ o)(n:H b=b_):(AF h H).get? b=a_ o:=
 PySem.W.hideAll_get _ e λc=>by
  have q :=(dF.mp c).2;rw[n]at q;simp at q
def NJ(e:(AF h H).get? b=a_ o):h.get? b=a_ o/\H b=b_:=by
 have c :=PySem.W.of_hideAll (XE h H) e;refine⟨c,?_⟩
 cases q:H b with
 |none=>rfl
 |some x=>
   have d:b∈XE h H:=dF.mpr ⟨a9.mpr (hl9 c),by simp[q]⟩;have z:(AF h H).get? b=b_:=PySem.W.hideAll_none (XE h H) d;rw[z]at e;cases e
noncomputable def OY(g h:cc)(L:aF):List (aF×kL):=(aK h.objs.size).filterMap λa=>if a=L\/(g.get? a).isSome=c_ then b_ else(h.get? a).map λo=>(a,o)
def rest(g h:cc)(L d:aF):List (aF×kL):=(OY g h L).filter λp=>decide (p.1≠d)
structure Mod(K:aJ)(mg:bc->Option ah)(base:cc):Prop where
 kin:K.In base
 glob:base.Ns mainGlobals mg
 blt:∃mb,base.Ns builtinsNs mb/\∀x:bc,x≠"__name__"->mb x=bootBuiltins x
 nolimit:base.NoLimit
structure Cx where
 prog:cg
 w:cZ
 K:aJ
 mg:bc->Option ah
 base:cc
 A:bP
 N:List bc
 s₀:ai
 H₀:Hp
 env:Pe
 outer:List Pe
 stack:List Pe
 ex:List aF
 fn:bc->Bool
 calm:Bool
 pn:List (aF×kL)
 xe:ah->ai->Prop
noncomputable def HH(l:List Pe):List aF:=l.filterMap (·.frame)
abbrev Cx.fs(X:Cx):List aF:=HH X.outer
def Qo(sc:my)(x:bc):Prop:=sc.names.lookup x=a_ .local\/sc.names.lookup x=a_ .cell\/sc.names.lookup x=a_ .free
def Loc(sc:my)(x:bc):Prop:=sc.names.lookup x=a_ .local\/sc.names.lookup x=a_ .cell
def Look(env:Pe)(h:cc)(m:bc->Option ah)(x:bc)(u:ah):Prop:=
 (env.kindOf x=a_ .local/\m x=a_ u)\/((env.kindOf x=a_ .cell\/env.kindOf x=a_ .free)/\∃c,env.cells.lookup x=a_ c/\h.IsCell c (a_ u))
structure Cx.Ok(X:Cx):Prop where
 mod:Mod X.K X.mg X.base
 kind:X.env.scope.kind=.function
 glob:X.env.globals=mainGlobals
 blt:X.env.builtins=builtinsNs
 above:X.s₀.heap.objs.size<=X.env.locals
 inj:∀x y c,X.env.cells.lookup x=a_ c->X.env.cells.lookup y=a_ c->x=y
 has:∀x,(X.env.kindOf x=a_ .cell\/X.env.kindOf x=a_ .free)->∃c,X.env.cells.lookup x=a_ c
 cab:∀x c,X.fn x=c_->X.env.cells.lookup x=a_ c->X.s₀.heap.objs.size<=c
 hd:X.calm=c_->X.A.handled=b_
 frames:X.A.frames=a_ X.stack
 LP:X.stack=X.outer\/(X.stack=X.env::X.outer/\X.env.frame=a_ X.env.locals)
 exf:∀b∈X.ex,b≠X.env.locals/\∀x c,X.env.cells.lookup x=a_ c->c≠b
 bs:∀b o,X.base.get? b=a_ o->X.s₀.heap.get? b=a_ o/\X.H₀ b=b_
 bsz:X.base.objs.size<=X.s₀.heap.objs.size
 noex:∀b o,X.base.get? b=a_ o->b∉X.ex
 exfs:∀b∈X.ex,b∉X.fs
 va:X.s₀.heap.FunFrames X.base X.outer
 frf:∀b∈X.fs,X.H₀ b=b_
structure Inv(X:Cx)(h_:List (aF×kL))(σ:List (Option V))(H:Hp)(s:ai):Prop where
 ok:X.Ok
 os:s.os=X.s₀.os
 bare:n4 s.gens
 base:Un X.fs X.ex X.H₀ H X.s₀.heap s.heap
 loc:∃m,s.heap.Ns X.env.locals m/\∀(i:Nat)(x:bc)(v:V),X.N[i]?=a_ x->σ[i]?=a_ (a_ v)->Qo X.env.scope x->∃u,RelV v u/\Look X.env s.heap m x u
 cell:∀x c,X.env.cells.lookup x=a_ c->∃v,s.heap.IsCell c v
 free:H X.env.locals=b_
 freeC:∀x c,X.env.cells.lookup x=a_ c->H c=b_
 pin:∀p∈X.pn++h_,s.heap.get? p.1=a_ p.2/\H p.1=b_/\p.1≠X.env.locals/\p.1∉X.fs/\∀v,p.2.data≠.cell v
 hok:qO X.prog X.w H s.heap
 len:σ.length=X.N.length
section
variable{X:Cx}{h_:List (aF×kL)}{σ:List (Option V)}{H:Hp}{s:ai}{h':cc}
def Cx.Ok.YF(ok:X.Ok)(e:X.base.get? b=a_ o):b∉X.fs:=λhb=>by
 have:=(ok.va.mem hb).1
 simp_all
def Inv.bs(I:Inv X h_ σ H s):∀b o,X.base.get? b=a_ o->s.heap.get? b=a_ o/\H b=b_:=λb o e=>
 ⟨I.base.keep b o (I.ok.bs b o e).1 (I.ok.bs b o e).2 (I.ok.YF e) (I.ok.noex b o e),I.base.free b o (I.ok.bs b o e).1 (I.ok.bs b o e).2 (I.ok.noex b o e)⟩
def Inv.bk(I:Inv X h_ σ H s):∀b o,X.base.get? b=a_ o->s.heap.get? b=a_ o:=λb o e=>(I.bs b o e).1
def Inv.mod(I:Inv X h_ σ H s):Mod X.K X.mg X.base:=I.ok.mod
def Inv.CU(I:Inv X h_ σ H s):X.K.In s.heap:=I.ok.mod.kin.keeps I.bk
def Inv.fr(I:Inv X h_ σ H s):∃m,Fr X.base X.env.locals s.heap m:=
 let ⟨m,hn,_⟩:=I.loc
 ⟨m,hn,I.bk,ab I.ok.bsz I.ok.above⟩
def Inv.lt(I:Inv X h_ σ H s):X.env.locals<s.heap.objs.size:=let ⟨_,hn,_⟩:=I.loc;hn.lt
def Inv.sz(I:Inv X h_ σ H s):X.s₀.heap.objs.size<=s.heap.objs.size:=ab I.ok.above (be I.lt)
def Inv.Wj(I:Inv X h_ σ H s)(h:s.heap.objs.size<=a):a∉X.fs:=λhb=>by
 obtain⟨_,o,ho,_⟩:=I.ok.va.mem hb;exact absurd (aV (hl9 ho) (ab I.sz h)) (bC _)
def Inv.Ua(I:Inv X h_ σ H s):∀x c,X.env.cells.lookup x=a_ c->c≠X.env.locals:=λx c e z=>by
 obtain⟨v,o,ho,hd⟩:=I.cell x c e;obtain⟨m,⟨o',es,ep,d,g,_⟩,_⟩:=I.loc
 grind
theorem Inv.va(I:Inv X h_ σ H s):s.heap.FunFrames X.base X.outer:=by
 have all:∀(l:List Pe),(∀b∈HH l,b∈X.fs)->X.s₀.heap.FunFrames X.base l->s.heap.FunFrames X.base l:=by
  intro l
  induction l with
  |nil=>intro _ _;trivial
  |cons env r d=>
    intro hs hl;obtain⟨g,⟨L,o,hf,j,ho,hd⟩,k⟩:=hl;have c :=hs L (by unfold HH;simp_all);obtain⟨sl,e⟩:=I.base.slot L o ho (I.ok.frf L c) c λz=>I.ok.exfs L z c;exact⟨g,⟨L,_,hf,j,e,hd⟩,d (λb hb=>hs b (by unfold HH;rw[jb,hf];exact kD _ hb)) k⟩
 exact all X.outer (λ_ hb=>hb) I.ok.va
def Inv.stack(I:Inv X h_ σ H s):s.heap.FunFrames X.base X.stack:=by
 rcases I.ok.LP with e|⟨e,hf⟩
 ·rw[e];exact I.va
 ·rw[e];obtain⟨m,c,_⟩:=I.loc;refine .cons (by rw[I.ok.kind];decide) hf c ?_ I.va;exact o7 (ab I.ok.bsz I.ok.above)
def Inv.um(I:Inv X h_ σ H s):∀b∈HH X.stack,b∈X.env.locals::X.fs:=λb hb=>by
 rcases I.ok.LP with e|⟨e,hf⟩
 ·simp_all
 ·rw[e]at hb;unfold HH at hb;rw[jb,hf]at hb;exact hb
def Inv.DO(I:Inv X h_ σ H s):∀b∈HH X.stack,H b=b_:=λb hb=>by
 rcases au.mp (I.um b hb)with e|hb
 ·rw[e];exact I.free
 ·obtain⟨_,o,ho,_⟩:=I.ok.va.mem hb;exact I.base.free b o ho (I.ok.frf b hb) λz=>I.ok.exfs b z hb
def Inv.step{g':Array BS}{t':Nat}{d':Drawn}{ch:List aF}(I:Inv X h_ σ H s)
  (j:∀b∈ch,(b∈X.ex\/X.s₀.heap.objs.size<=b)/\b≠X.env.locals/\(∀x c,X.env.cells.lookup x=a_ c->c≠b)/\∀p∈X.pn++h_,p.1≠b)
  (keep:∀b o,b≠X.env.locals->b∉X.fs->b∉ch->s.heap.get? b=a_ o->H b=b_->h'.get? b=a_ o)
  (slot:∀b o,b≠X.env.locals->b∈X.fs->b∉ch->s.heap.get? b=a_ o->H b=b_->∃sl,h'.get? b=a_ { o with slots:=sl })(free:∀b o,b∉ch->s.heap.get? b=a_ o->H b=b_->H' b=b_)
  (there:∀b o,b∉ch->s.heap.get? b=a_ o->∃o',h'.get? b=a_ o')
  (tups:∀b xs,H b=a_ (.tup xs)->H' b=a_ (.tup xs))(frzs:∀b o u,H b=a_ (.mD o u)->H' b=a_ (.mD o u))(tbls:∀b ps,H b=a_ (.tbl ps)->∃more,H' b=a_ (.tbl (ps++more)))
  (ns:∀m,s.heap.Ns X.env.locals m->h'.Ns X.env.locals m)(hok:qO X.prog X.w H' h')(M:n4 g') :
  Inv X h_ σ H' { s with heap:=h',gens:=g',drawn:=d',toks:=t' }:=by
 have D:∀b o,X.s₀.heap.get? b=a_ o->b≠X.env.locals:=λb o e=>bo (aV (hl9 e) I.ok.above)
 have B:∀b o,X.s₀.heap.get? b=a_ o->b∉X.ex->b∉ch:=λb o e g hb=>by
  rcases(j b hb).1 with z|z
  ·exact g z
  ·exact absurd (aV (hl9 e) z) (bC _)
 have cellK:∀x c,X.env.cells.lookup x=a_ c->∀v,s.heap.IsCell c v->h'.IsCell c v:=λx c e v O=>by
  obtain⟨o,ho,hd⟩:=O;have y :=λz=>(j c z).2.2.1 x c e rfl;by_cases L:c∈X.fs
  ·obtain⟨sl,q⟩:=slot c o (I.Ua x c e) L y ho (I.freeC x c e);exact⟨_,q,hd⟩
  ·exact⟨o,keep c o (I.Ua x c e) L y ho (I.freeC x c e),hd⟩
 refine⟨I.ok,I.os,M,⟨λb o e n hb g=>?_,λb o e n hb g=>?_,λb o e n g=>?_,λb o e g=>?_,λb xs e=>tups b xs (I.base.tups b xs e),λb o xs e=>frzs b o xs (I.base.frzs b o xs e),λb ps e=>?_⟩,?_,λx c e=>?_,?_,λx c e=>?_,λp hp=>?_,hok,I.len⟩
 ·exact keep b o (D b o e) hb (B b o e g) (I.base.keep b o e n hb g) (I.base.free b o e n g)
 ·obtain⟨sl,e1⟩:=I.base.slot b o e n hb g;obtain⟨J,e2⟩:=slot b _ (D b o e) hb (B b o e g) e1 (I.base.free b o e n g);exact⟨J,e2⟩
 ·obtain⟨o',e1⟩:=I.base.there b o e g;exact free b o' (B b o e g) e1 (I.base.free b o e n g)
 ·obtain⟨o',e1⟩:=I.base.there b o e g;exact there b o' (B b o e g) e1
 ·obtain⟨m1,e1⟩:=I.base.tbls b ps e
  grind
 ·obtain⟨m,R,hl⟩:=I.loc;refine⟨m,ns m R,λi x v e1 e2 e3=>?_⟩;obtain⟨u,r,l⟩:=hl i x v e1 e2 e3;refine⟨u,r,?_⟩
  rcases l with l|⟨k,c,e,z⟩
  ·exact .inl l
  ·exact .inr ⟨k,c,e,cellK x c e _ z⟩
 ·obtain⟨v,z⟩:=I.cell x c e;exact⟨v,cellK x c e v z⟩
 ·obtain⟨m,⟨o,_,_,ho,_⟩,_⟩:=I.loc;exact free _ o (λz=>(j _ z).2.1 rfl) ho I.free
 ·obtain⟨v,o,ho,hd⟩:=I.cell x c e;exact free c o (λz=>(j c z).2.2.1 x c e rfl) ho (I.freeC x c e)
 ·obtain⟨e,n,ne,nf,d⟩:=I.pin p hp;have y :=λz=>(j p.1 z).2.2.2 p hp rfl;exact⟨keep p.1 p.2 ne nf y e n,free p.1 p.2 y e n,ne,nf,d⟩
def Inv.un(I:Inv X h_ σ H s)(u:Un X.fs [] H H' s.heap h')(hok:qO X.prog X.w H' h'):Inv X h_ σ H' { s with heap:=h',toks:=t' }:=by
 obtain⟨m,⟨o,es,ep,ho,r⟩,_⟩:=id I.loc;obtain⟨sl,g⟩:=u.any ho I.free (by simp)
 exact I.step (ch:=[]) (λ_ z=>nomatch z) (λb o _ hb _ e n=>u.keep b o e n hb (by simp)) (λb o _ hb _ e n=>u.slot b o e n hb (by simp)) (λb o _ e n=>u.free b o e n (by simp)) (λb o _ e=>u.there b o e (by simp)) u.tups u.frzs u.tbls (λl j=>by
  obtain⟨o',es',d,c,k⟩:=j;rw[ho]at c;cases c
  exact⟨_,es',d,g,k⟩) hok I.bare
def Inv.call(I:Inv X h_ σ H s)(u:Un (HH X.stack) ch H H' s.heap h')(hok:qO X.prog X.w H' h')(q:n4 g')
  (g:∀b∈ch,(b∈X.ex\/X.s₀.heap.objs.size<=b)/\b≠X.env.locals/\(∀x c,X.env.cells.lookup x=a_ c->c≠b)/\∀p∈X.pn++h_,p.1≠b) :
  Inv X h_ σ H' { s with heap:=h',gens:=g',drawn:=d',toks:=t' }:=by
 obtain⟨m,⟨o,es,ep,ho,r⟩,_⟩:=id I.loc;obtain⟨sl,k⟩:=u.any ho I.free λz=>(g _ z).2.1 rfl
 exact I.step g (λb o k hb d e n=>u.keep b o e n (λz=>(au.mp (I.um b z)).elim k hb) d) (λb o _ _ d e n=>u.any e n d) (λb o d e n=>u.free b o e n d) (λb o d e=>u.there b o e d) u.tups u.frzs u.tbls (λB v=>by
  obtain⟨o',es',l,j,y⟩:=v;rw[ho]at j;cases j
  exact⟨_,es',l,k,y⟩) hok q
def Inv.turned(I:Inv X h_ σ H s)(k:∀b o,b≠it->s.heap.get? b=a_ o->h'.get? b=a_ o)(y:H it=b_)(j:it≠X.env.locals)
  (h1:it∈X.ex\/X.s₀.heap.objs.size<=it)(h2:∀x c,X.env.cells.lookup x=a_ c->c≠it)(h3:∀p∈X.pn++h_,p.1≠it):Inv X h_ σ H { s with heap:=h',toks:=t' }:=by
 have g:∀b u,H b=a_ u->b≠it:=λb u e z=>by simp_all
 refine I.step (ch:=[it]) (λb hb=>?_) (λb o _ _ d e _=>k b o (λz=>d (by simp[z])) e) (λb o _ _ d e _=>⟨o.slots,k b o (λz=>d (by simp[z])) e⟩) (λ_ _ _ _ n=>n)
  (λb o d e=>⟨o,k b o (λz=>d (by simp[z])) e⟩) (λ_ _ e=>e) (λ_ _ _ e=>e) (λb ps e=>⟨#[],by rw[e];simp⟩) (λm l=>?_) (λb u e=>?_) I.bare
 ·have e:b=it:=by simpa using hb
  subst e;exact⟨h1,j,h2,h3⟩
 ·obtain⟨o,es,ep,ho,r⟩:=l;exact⟨o,es,ep,k _ o (eQ j) ho,r⟩
 ·refine(I.hok b u e).nX (λc v d q=>k c v ?_ q) (λ_ q=>q) λ_ _ q=>q
  rcases d with z|z
  ·rw[z];exact g b u e
  ·exact g c _ z
def Inv.tok(I:Inv X h_ σ H s)(t:Nat):Inv X h_ σ H { s with toks:=t }:=I.un Un.refl I.hok
def Inv.kept(I:Inv X h_ σ H s)(k:∀b u,s.heap.get? b=a_ u->h'.get? b=a_ u):Inv X h_ σ H { s with heap:=h',toks:=t' }:=I.un (Un.kept k) (I.hok.kept k)
def Inv.laid(I:Inv X h_ σ H s)(k:∀b u,s.heap.get? b=a_ u->h'.get? b=a_ u)(hp:s.heap.objs.size<=a)(new:jP X.prog X.w (upd H a o) h' a o) :
  Inv X h_ σ (upd H a o) { s with heap:=h',toks:=t' }:=I.un (Un.laid k hp (I.hok.fresh hp)) (I.hok.laid k hp new)
def Inv.write(I:Inv X h_ σ H s)(d:Xx (H x))(g:e=x\/H e=a_ (.own x))(k:∀b u,b≠e->s.heap.get? b=a_ u->h'.get? b=a_ u)(c:∃u,h'.get? e=a_ u)
  (new:jP X.prog X.w (upd H x o) h' x o):Inv X h_ σ (upd H x o) { s with heap:=h',toks:=t' }:=I.un (Un.write d g k c) (I.hok.write d g k c new)
def Inv.weak{c:List (Option V)}(I:Inv X h_ σ H s)(hl:c.length=σ.length)(w:∀(i:Nat)v,c[i]?=a_ (a_ v)->σ[i]?=a_ (a_ v)):Inv X h_ c H s:=
 ⟨I.ok,I.os,I.bare,I.base,let ⟨m,hn,hl'⟩:=I.loc;⟨m,hn,λi x v e1 e2 e3=>hl' i x v e1 (w i v e2) e3⟩,I.cell,I.free,I.freeC,I.pin,I.hok,hl.trans I.len⟩
def Inv.ql(I:Inv X h_ σ H s)(h:∀p∈pins',s.heap.get? p.1=a_ p.2/\H p.1=b_/\p.1≠X.env.locals/\p.1∉X.fs/\∀v,p.2.data≠.cell v):Inv X pins' σ H s:=
 ⟨I.ok,I.os,I.bare,I.base,I.loc,I.cell,I.free,I.freeC,λp hp=>(aE.mp hp).elim (λz=>I.pin p (aH _ z)) (h p),I.hok,I.len⟩
def Af{N:List bc}(c:N.Nodup){i j:Nat}{x:bc}(a:N[i]?=a_ x)(b:N[j]?=a_ x):i=j:=by
 obtain⟨h1,e1⟩:=aN.mp a;obtain⟨h2,e2⟩:=aN.mp b;exact(List.getElem_inj c).mp (e1.trans e2.symm)
def Gh(I:Inv X h_ σ H s)(hN:X.N.Nodup)(hi:X.N[i]?=a_ x)(g:Loc X.env.scope x)(r:RelV v u)
  (h:∀s',Inv X h_ (σ.set i (a_ v)) H s'->(∃a,cj a s.heap s'.heap/\(a=X.env.locals\/X.env.cells.lookup x=a_ a))->Q () s')(hf:X.fn x=c_\/X.env.scope.names.lookup x=a_ .local):aA M A (storeName X.env x u) Q E s:=by
 obtain⟨m,Y,hl⟩:=id I.loc;have O:(X.env.scope.kind == .class || (X.env.scope.kind == .module && X.env.locals != X.env.globals))=d_:=by rw[I.ok.kind];rfl
 have B:i<σ.length:=by rw[I.len];exact(aN.mp hi).1
 have Ua:=I.Ua
 have tracked:∀{a:aF}{h':cc},(∃o,s.heap.get? a=a_ o/\H a=b_)->cj a s.heap h'->qO X.prog X.w H h':=λ{a h'}ha hs b ob e=>by
  obtain⟨_,_,Z⟩:=ha;refine(I.hok b ob e).nX (λc w' l q=>(hs.2 c ?_).trans q) (λ_ q=>q) λ_ _ q=>q;rintro rfl
  simp_all
 rcases g with L|L
 ·refine wpAny_storeName_local L Y (λh' hn' hs=>?_) O;obtain⟨oL,_,_,hoL,_⟩:=id Y;refine h _ ⟨I.ok,I.os,I.bare,⟨λb o e n hb g=>?_,λb o e n hb g=>?_,I.base.free,λb o e g=>?_,I.base.tups,I.base.frzs,I.base.tbls⟩,⟨_,hn',λj y v' e1 e2 e3=>?_⟩,λy c e=>?_,I.free,I.freeC,λp hp=>?_,tracked ⟨oL,hoL,I.free⟩ hs,by simpa using I.len⟩ ⟨_,hs,.inl rfl⟩
  ·exact(hs.2 b (bo (aV (hl9 e) I.ok.above))).trans (I.base.keep b o e n hb g)
  ·obtain⟨sl,e1⟩:=I.base.slot b o e n hb g;exact⟨sl,(hs.2 b (bo (aV (hl9 e) I.ok.above))).trans e1⟩
  ·obtain⟨o',e1⟩:=I.base.there b o e g;exact⟨o',(hs.2 b (bo (aV (hl9 e) I.ok.above))).trans e1⟩
  ·by_cases D:j=i
   ·subst D;rw[hi]at e1;cases e1;rw[n6 B]at e2;cases e2;exact⟨u,r,.inl ⟨L,by simp⟩⟩
   ·rw[o9 (eQ D)]at e2;obtain⟨u',r',q⟩:=hl j y v' e1 e2 e3;refine⟨u',r',?_⟩
    rcases q with⟨k,e⟩|⟨k,c,e,z⟩
    ·refine .inl ⟨k,?_⟩;have:y≠x:=λe=>D (Af hN e1 (e▸hi));simp[this,e]
    ·exact .inr ⟨k,c,e,z.sameBut hs (Ua y c e)⟩
  ·obtain⟨w',z⟩:=I.cell y c e;exact⟨w',z.sameBut hs (Ua y c e)⟩
  ·obtain⟨e,n,ne,nf,d⟩:=I.pin p hp;exact⟨(hs.2 p.1 ne).trans e,n,ne,nf,d⟩
 ·have J:X.fn x=c_:=by
   grind
  obtain⟨c,l⟩:=I.ok.has x (.inl L);obtain⟨w',z⟩:=I.cell x c l;refine wpAny_storeName_cell I.ok.kind L l z (λh' R hs=>?_);obtain⟨oc,hoc,hocd⟩:=id z;refine h { s with heap:=h' } ⟨I.ok,I.os,I.bare,⟨λb o e n hb g=>?_,λb o e n hb g=>?_,I.base.free,λb o e g=>?_,I.base.tups,I.base.frzs,I.base.tbls⟩,⟨m,Y.sameBut hs (eQ (Ua x c l)),λj y v' e1 e2 e3=>?_⟩,λy W e=>?_,I.free,I.freeC,λp hp=>?_,tracked ⟨oc,hoc,I.freeC x c l⟩ hs,by simpa using I.len⟩ ⟨c,hs,.inr l⟩
  ·exact(hs.2 b (bo (aV (hl9 e) (I.ok.cab x c J l)))).trans (I.base.keep b o e n hb g)
  ·obtain⟨sl,e1⟩:=I.base.slot b o e n hb g;exact⟨sl,(hs.2 b (bo (aV (hl9 e) (I.ok.cab x c J l)))).trans e1⟩
  ·obtain⟨o',e1⟩:=I.base.there b o e g;exact⟨o',(hs.2 b (bo (aV (hl9 e) (I.ok.cab x c J l)))).trans e1⟩
  ·by_cases D:j=i
   ·subst D;rw[hi]at e1;cases e1;rw[n6 B]at e2;cases e2;exact⟨u,r,.inr ⟨.inl L,c,l,R⟩⟩
   ·rw[o9 (eQ D)]at e2;obtain⟨u',r',q⟩:=hl j y v' e1 e2 e3;refine⟨u',r',?_⟩
    rcases q with q|⟨k,W,e,z'⟩
    ·exact .inl q
    ·refine .inr ⟨k,W,e,z'.sameBut hs ?_⟩;rintro rfl;exact D (Af hN e1 (I.ok.inj _ _ _ e l▸hi))
  ·by_cases U:W=c
   ·subst U;exact⟨_,R⟩
   ·obtain⟨w2,z2⟩:=I.cell y W e;exact⟨w2,z2.sameBut hs U⟩
  ·obtain⟨e,n,ne,nf,d⟩:=I.pin p hp;refine⟨(hs.2 p.1 ?_).trans e,n,ne,nf,d⟩
   grind
def uk(I:Inv X h_ σ H s)(c:X.N.Nodup)(hi:X.N[i]?=a_ x)(d:Loc X.env.scope x)(r:RelV v u)
  (h:∀s',Inv X h_ (σ.set i (a_ v)) H s'->Q () s')(hf:X.fn x=c_\/X.env.scope.names.lookup x=a_ .local):aA M A (storeName X.env x u) Q E s:=
 Gh I c hi d r (λs' I' _=>h s' I') hf
def Inv.Xa{s':ai}(I:Inv X h_ σ H s)(ho:s'.os=s.os)(u:Un (HH X.stack) ch H H' s.heap s'.heap)(hok:qO X.prog X.w H' s'.heap)(g:n4 s'.gens)
  (d:∀b∈ch,(b∈X.ex\/X.s₀.heap.objs.size<=b)/\b≠X.env.locals/\(∀x c,X.env.cells.lookup x=a_ c->c≠b)/\∀p∈X.pn++h_,p.1≠b):Inv X h_ σ H' s':=by
 obtain⟨h',g',d',t',o'⟩:=s';have e :=ho;subst e;exact I.call u hok g d
end
abbrev XK:=ah->Option aF->Hp->Prop
abbrev St:=List (Option V)
abbrev VK:=V->Hp->Prop
abbrev TE:=St->Hp->VK->Prop
abbrev TT:=St->Hp->(Bool->Hp->Prop)->Prop
abbrev TA:=St->Hp->(List V->Hp->Prop)->Prop
structure Ends where
 nx:St->Hp->Prop
 rt:VK
 bk:St->Hp->Prop:=λ_ _=>False
 ct:St->Hp->Prop:=λ_ _=>False
abbrev TS:=Ends->St->Hp->Prop
def EP(X:Cx)(h_:List (aF×kL))(σ:St)(Q:VK)(u:ah)(s':ai):Prop:=∃v H',Inv X h_ σ H' s'/\RelV v u/\Q v H'
def TP(X:Cx)(h_:List (aF×kL))(σ:St)(Q:Bool->Hp->Prop)(b:Bool)(s':ai):Prop:=∃H',Inv X h_ σ H' s'/\Q b H'
def AP(X:Cx)(h_:List (aF×kL))(σ:St)(Q:List V->Hp->Prop)(us:List ah)(s':ai):Prop:=∃vs H',Inv X h_ σ H' s'/\cF vs us/\Q vs H'
def SP(X:Cx)(h_:List (aF×kL))(D:Ends)(f:Flow)(s':ai):Prop:=
 match f with
 |.next=>∃c H',Inv X h_ c H' s'/\D.nx c H'
 |.brk=>∃c H',Inv X h_ c H' s'/\D.bk c H'
 |.cont=>∃c H',Inv X h_ c H' s'/\D.ct c H'
 |.ret u=>∃v c H',Inv X h_ c H' s'/\RelV v u/\D.rt v H'
def PE(X:Cx)(e:aX)(t:TE):Prop:=
 ∀(h_:List (aF×kL))(s:ai)(σ:St)(H:Hp)(Q:VK),Inv X h_ σ H s->t σ H Q->aA (aD X.prog X.w) X.A (eval e X.env) (EP X h_ σ Q) X.xe s
def PT(X:Cx)(e:aX)(t:TT):Prop:=
 ∀(h_:List (aF×kL))(s:ai)(σ:St)(H:Hp)(Q:Bool->Hp->Prop),Inv X h_ σ H s->t σ H Q->aA (aD X.prog X.w) X.A (isTrue e X.env (eval e X.env)) (TP X h_ σ Q) X.xe s
def PW(X:Cx)(e:aX)(t:TT):Prop:=
 ∀(whole:zp ah)(h_:List (aF×kL))(s:ai)(σ:St)(H:Hp)(Q:Bool->Hp->Prop),Inv X h_ σ H s->t σ H Q->aA (aD X.prog X.w) X.A (isTrue e X.env whole) (TP X h_ σ Q) X.xe s
def PW.pt(h:PW X e t):PT X e t:=h _
def PA(X:Cx)(es:List aX)(t:TA):Prop:=
 ∀(pos:xI)(h_:List (aF×kL))(s:ai)(σ:St)(H:Hp)(Q:List V->Hp->Prop),Inv X h_ σ H s->t σ H Q->aA (aD X.prog X.w) X.A (spliced (backTo pos (aO es X.env))) (AP X h_ σ Q) X.xe s
def PS(X:Cx)(st:kK)(t:TS):Prop:=
 ∀(h_:List (aF×kL))(s:ai)(σ:St)(H:Hp)(D:Ends),Inv X h_ σ H s->t D σ H->aA (aD X.prog X.w) X.A (exec st X.env) (SP X h_ D) X.xe s
def Bt(X:Cx)(st:List kK)(t:TS):Prop:=
 ∀(h_:List (aF×kL))(s:ai)(σ:St)(H:Hp)(D:Ends),Inv X h_ σ H s->t D σ H->aA (aD X.prog X.w) X.A (execs st X.env) (SP X h_ D) X.xe s
def iL (h:aA M A t Q E s)(c:∀a s,Q a s->Q' a s):aA M A t Q' E s:=c9 h c λ_ _ x=>x
section
variable{X:Cx}
def bin{a b:aX}{ta tb:TE}(ha:PE X a ta)(hb:PE X b tb){h_:List (aF×kL)}{s:ai}{σ:St}{H:Hp}{R:V->V->Hp->Prop}(I:Inv X h_ σ H s)(h:ta σ H λx d=>tb σ d λy H2=>R x y H2)
  {α:Type}{Q:α->ai->Prop}{f:ah->ah->zp α}
  (hf:∀v u s2 x y H2,Inv X h_ σ H2 s2->RelV x v->RelV y u->R x y H2->aA (aD X.prog X.w) X.A (f v u) Q X.xe s2) :
  aA (aD X.prog X.w) X.A (eval a X.env) (λv s₁=>aA (aD X.prog X.w) X.A (eval b X.env) (λu c=>aA (aD X.prog X.w) X.A (f v u) Q X.xe c) X.xe s₁) X.xe s:=by
 refine iL (ha h_ s σ H _ I h) λv s1 ⟨x,d,g,j,k⟩=>?_;refine iL (hb h_ s1 σ d _ g k) λu s2 ⟨y,H2,l,q,z⟩=>?_;exact hf v u s2 x y H2 l j q z
def B4(i:Nat):TE:=λσ H Q=>∃v,σ[i]?=a_ (a_ v)/\Q v H
def tC(v:V):TE:=λ_ H Q=>Q v H
def rL(q:X.N[i]?=a_ x)(y:Qo X.env.scope x)(hd:(x == ("__debug__":bc))=d_)(j:(x == ("__classdict__":bc))=d_):PE X (.Name x pos) (B4 i):=by
 intro h_ s σ H Q I h;obtain⟨v,e,h⟩:=h;obtain⟨m,z,hl⟩:=I.loc;obtain⟨u,r,l⟩:=hl i x v q e y;have fin:EP X h_ σ Q u s:=⟨v,H,I,r,h⟩
 rcases l with⟨g,B⟩|⟨g,c,k,d⟩
 ·exact wpAny_Name (wpAny_loadName_local I.ok.kind g z B fin) hd
 ·rcases g with g|g
  ·exact wpAny_Name (wpAny_loadName_cell I.ok.kind g k d fin) hd
  ·exact wpAny_Name (wpAny_loadName_free I.ok.kind g k d fin j) hd
def Sd{i j pos}:PE X (.Constant (.int i) j pos) (tC (.int i)):=λ_ _ _ H _ I h=>wpAny_Constant_int ⟨.int i,H,I.tok _,⟨_,rfl⟩,h⟩
def Wa{b j pos}:PE X (.Constant (.bool b) j pos) (tC (.bl b)):=λ_ _ _ H _ I h=>Constant_bool ⟨.bl b,H,I,rfl,h⟩
def R9{j pos}:PE X (.Constant .none j pos) (tC .non):=λ_ _ _ H _ I h=>Constant_none ⟨.non,H,I,rfl,h⟩
def R7{x j pos}:PE X (.Constant (.str x) j pos) (tC (.str x)):=λ_ _ _ H _ I h=>Calls.Constant_str ⟨.str x,H,I.tok _,⟨_,rfl⟩,h⟩
def Gl(X:Cx)(x:bc):Prop:=X.env.kindOf x=a_ .globalImplicit
def yq(I:Inv X h_ σ H s)(c:Gl X x)(d:X.mg x=a_ u)(h:Q u s)
  (hd:(x == ("__debug__":bc))=d_):aA (aD X.prog X.w) X.A (eval (.Name x pos) X.env) Q E s:=
 vI I.ok.kind c (Calls.loadGlobal_global (by rw[I.ok.glob];exact I.mod.glob.keeps I.bk) d h) hd
def k9(I:Inv X h_ σ H s)(c:Gl X x)(d:X.mg x=b_)(g:bootBuiltins x=a_ u)(h:Q u s)
  (j:x≠"__name__":=by decide)(hd:(x == ("__debug__":bc))=d_:=by decide):aA (aD X.prog X.w) X.A (eval (.Name x pos) X.env) Q E s:=by
 obtain⟨mb,h1,h2⟩:=I.mod.blt;exact vI I.ok.kind c (Calls.loadGlobal_builtin (by rw[I.ok.glob];exact I.mod.glob.keeps I.bk) d (by rw[I.ok.blt];exact h1.keeps I.bk) ((h2 x j).trans g) h) hd
def Nt(c:Gl X x)(d:X.mg x=a_ u)(r:RelV v u)(hd:(x == ("__debug__":bc))=d_):PE X (.Name x pos) (tC v):=
 λ_ _ _ H _ I h=>yq I c d ⟨v,H,I,r,h⟩ hd
def Nx(c:Gl X x)(d:X.mg x=b_)(g:bootBuiltins x=a_ u)(r:RelV v u)(j:x≠"__name__")(hd:(x == ("__debug__":bc))=d_):PE X (.Name x pos) (tC v):=
 λ_ _ _ H _ I h=>k9 I c d g ⟨v,H,I,r,h⟩ j hd
variable{ta tb:TE}
def tB(t:TE):TT:=λσ H Q=>t σ H λx d=>∃c,x=.bl c/\Q c d
variable{rest:List aX}
def Yk(t u:TT):TT:=λσ H Q=>t σ H λc d=>if c=c_ then u σ d Q else Q d_ d
def tOr(t u:TT):TT:=λσ H Q=>t σ H λc d=>if c=c_ then Q c_ d else u σ d Q
def Yf(t:TT):TT:=λσ H Q=>t σ H λc d=>Q (!c) d
def Ni(ha:PT X a tA):PW X (.BoolOp .And [a] pos) tA:=by
 intro d h_ s σ H Q I h;refine isTrue_and (iL (ha h_ s σ H Q I h) λc s1 e=>?_)
 cases c with
 |true=>exact isTrue_and_nil e
 |false=>exact e
def RR(ha:PT X a tA):PW X (.BoolOp .Or [a] pos) tA:=by
 intro d h_ s σ H Q I h;refine isTrue_or (iL (ha h_ s σ H Q I h) λc s1 e=>?_)
 cases c with
 |false=>exact isTrue_or_nil e
 |true=>exact e
def RT(ha:PT X a tA)(hb:PW X (.BoolOp .And (b::rest) pos) tB'):PW X (.BoolOp .And (a::b::rest) pos) (Yk tA tB'):=by
 intro k h_ s σ H Q I h;refine isTrue_and (iL (ha h_ s σ H _ I h) λc s1 ⟨d,g,j⟩=>?_)
 cases c with
 |true=>exact hb k h_ s1 σ d Q g j
 |false=>exact⟨d,g,j⟩
def V3(ha:PT X a tA)(hb:PW X (.BoolOp .Or (b::rest) pos) tB'):PW X (.BoolOp .Or (a::b::rest) pos) (tOr tA tB'):=by
 intro k h_ s σ H Q I h;refine isTrue_or (iL (ha h_ s σ H _ I h) λc s1 ⟨d,g,j⟩=>?_)
 cases c with
 |true=>exact⟨d,g,j⟩
 |false=>exact hb k h_ s1 σ d Q g j
def RV(ha:PT X a tA):PT X (.UnaryOp .Not a pos) (Yf tA):=by
 intro h_ s σ H Q I h;exact isTrue_not (ha h_ s σ H (λc d=>Q (!c) d) I h)
def Vx(ta tb:TE):TE:=λσ H Q=>ta σ H λx d=>∃c,x=.bl c/\if c=c_ then tb σ d Q else Q (.bl d_) d
def Ye(ta tb:TE):TE:=λσ H Q=>ta σ H λx d=>∃c,x=.bl c/\if c=c_ then Q (.bl c_) d else tb σ d Q
def R8{op}(h:PE X a t):PE X (.BoolOp op [a] pos) t:=λh_ s σ H Q I c=>BoolOp_one (h h_ s σ H Q I c)
def Sf(ha:PE X a ta)(hb:PE X (.BoolOp .And (b::rest) pos) tb):PE X (.BoolOp .And (a::b::rest) pos) (Vx ta tb):=by
 intro h_ s σ H Q I h;refine BoolOp_and (iL (ha h_ s σ H _ I h) λv s1 ⟨x,g,j,k,d⟩=>?_);obtain⟨c,rfl,d⟩:=d;cases k;refine gC ?_
 cases c with
 |true=>exact hb h_ s1 σ g Q j d
 |false=>exact⟨.bl d_,g,j,rfl,d⟩
def V9(ha:PE X a ta)(hb:PE X (.BoolOp .Or (b::rest) pos) tb):PE X (.BoolOp .Or (a::b::rest) pos) (Ye ta tb):=by
 intro h_ s σ H Q I h;refine BoolOp_or (iL (ha h_ s σ H _ I h) λv s1 ⟨x,g,j,k,d⟩=>?_);obtain⟨c,rfl,d⟩:=d;cases k;refine gC ?_
 cases c with
 |false=>exact hb h_ s1 σ g Q j d
 |true=>exact⟨.bl c_,g,j,rfl,d⟩
def tIf(t:TT)(ta tb:TE):TE:=λσ H Q=>t σ H λc d=>if c=c_ then ta σ d Q else tb σ d Q
def Jr(l:PT X c tA)(ha:PE X a ta)(hb:PE X b tb):PE X (.IfExp c a b pos) (tIf tA ta tb):=by
 intro h_ s σ H Q I h;refine wpAny_IfExp (iL (l h_ s σ H _ I h) λd s1 ⟨g,j,k⟩=>?_)
 cases d with
 |true=>exact ha h_ s1 σ g Q j k
 |false=>exact hb h_ s1 σ g Q j k
end
def mo(K:aJ)(H:Hp)(a:aF)(xs:List V):Prop:=
 Rd H a (.lst xs)\/
  ∃(o:kL) (its:Array ah) (n:Nat),K.lookup a=a_ o/\o.cls=.type "list"/\o.dict=b_/\o.data=.seq its n/\its.size<=ax/\cF xs its.toList
def sk(K:aJ)(H:Hp)(a:aF)(xs:List V):Prop:=
 Rd H a (.tup xs)\/
  ∃(o:kL) (its:Array ah) (n:Nat),K.lookup a=a_ o/\o.cls=.type "tuple"/\o.data=.seq its n/\its.size<=ax/\cF xs its.toList
noncomputable def Zv:ah->Option V
 |.none=>a_ .non
 |.bool b=>a_ (.bl b)
 |.int i _=>a_ (.int i)
 |.str x _=>a_ (.str x)
 |.bytes b _=>a_ (.byt b)
 |.float b _=>a_ (.flt b)
 |.ref a=>a_ (.ref a)
 |.type n=>a_ (.ty n)
 |_=>b_
def RelV.abs(r:RelV x u):Zv u=a_ x:=by
 cases x with
 |non=>cases r;rfl
 |bl _=>cases r;rfl
 |int _=>obtain⟨t,rfl⟩:=r;rfl
 |str _=>obtain⟨t,rfl⟩:=r;rfl
 |byt _=>obtain⟨t,rfl⟩:=r;rfl
 |flt _=>obtain⟨t,rfl⟩:=r;rfl
 |ref _=>cases r;rfl
 |ty _=>cases r;rfl
def RelV.inj(r:RelV x u)(q:RelV y u):x=y:=bx (r.abs.symm.trans q.abs)
theorem cF.inj:∀{xs ys:List V}{us:List ah},cF xs us->cF ys us->xs=ys
 |_,_,_,.nil,.nil=>rfl
 |_,_,_,.cons r t,.cons c t'=>by rw[r.inj c,cF.inj t t']
section
def mo.of{K:aJ}(h:H a=a_ (.lst xs)):mo K H a xs:=.inl (.inl h)
def Inv.list(I:Inv X h_ σ H s)(h:mo X.K H a xs):∃its:List ah,cF xs its/\PlainL s.heap a its.toArray/\xs.length<=ax:=by
 rcases h with h|⟨o,its,n,c,d,hd,hs,g,r⟩
 ·obtain⟨z,its,n,r,e⟩:=h.ok I.hok;exact⟨its,r,⟨_,n,e,rfl,rfl,rfl⟩,z⟩
 ·refine⟨its.toList,r,⟨o,n,I.CU a o c,d,hd,by simpa using hs⟩,?_⟩;have e:=r.length
  simp_all
def Inv.tuple(I:Inv X h_ σ H s)(h:sk X.K H a xs):∃its:List ah,cF xs its/\y7 s.heap a its.toArray/\xs.length<=ax:=by
 rcases h with h|⟨o,its,n,c,d,hs,g,r⟩
 ·obtain⟨z,its,r,p⟩:=h.ok I.hok;exact⟨its,r,p,z⟩
 ·refine⟨its.toList,r,⟨o,I.CU a o c,d,n,by simpa using hs⟩,?_⟩;have e:=r.length
  simp_all
def Inv.mO(I:Inv X h_ σ H s)(h:mo X.K H a xs)(h':mo X.K H a ys):xs=ys:=by
 obtain⟨its,r,⟨o,n,e,_,_,d⟩,_⟩:=I.list h;obtain⟨c,j,⟨o',k,g,_,_,d'⟩,_⟩:=I.list h';rw[e]at g;cases g;rw[d]at d'
 injection d' with d1 _
 have:its=c:=by simp_all
 subst this;exact r.inj j
def Inv.mJ(I:Inv X h_ σ H s)(h:sk X.K H a xs)(h':sk X.K H a ys):xs=ys:=by
 obtain⟨its,r,⟨o,e,_,n,d⟩,_⟩:=I.tuple h;obtain⟨c,j,⟨o',g,_,k,d'⟩,_⟩:=I.tuple h';rw[e]at g;cases g;rw[d]at d'
 injection d' with d1 _
 have:its=c:=by simp_all
 subst this;exact r.inj j
end
noncomputable abbrev Cx.vN(X:Cx)(E:ah->ai->Prop):Cx:={ X with xe:=E }
abbrev Cx.UY(X:Cx):Cx:=X.vN λ_ _=>False
def Cx.Ok.vN{X:Cx}(ok:X.Ok)(E:ah->ai->Prop):(X.vN E).Ok:=
 ⟨ok.mod,ok.kind,ok.glob,ok.blt,ok.above,ok.inj,ok.has,ok.cab,ok.hd,ok.frames,ok.LP,ok.exf,ok.bs,ok.bsz,ok.noex,ok.exfs,ok.va,ok.frf⟩
def Cx.Ok.oo{X:Cx}(ok:(X.vN E).Ok):X.Ok:=
 ⟨ok.mod,ok.kind,ok.glob,ok.blt,ok.above,ok.inj,ok.has,ok.cab,ok.hd,ok.frames,ok.LP,ok.exf,ok.bs,ok.bsz,ok.noex,ok.exfs,ok.va,ok.frf⟩
section
variable{X:Cx}
def Inv.vN(I:Inv X h_ σ H s)(E:ah->ai->Prop):Inv (X.vN E) h_ σ H s:=⟨I.ok.vN E,I.os,I.bare,I.base,I.loc,I.cell,I.free,I.freeC,I.pin,I.hok,I.len⟩
def Inv.oo(I:Inv (X.vN E) h_ σ H s):Inv X h_ σ H s:=⟨I.ok.oo,I.os,I.bare,I.base,I.loc,I.cell,I.free,I.freeC,I.pin,I.hok,I.len⟩
theorem SP.oo{D:Ends}(h:SP (X.vN E) h_ D f s'):SP X h_ D f s':=by
 cases f with
 |next=>obtain⟨c,H',I,q⟩:=h;exact⟨c,H',I.oo,q⟩
 |brk=>obtain⟨c,H',I,q⟩:=h;exact⟨c,H',I.oo,q⟩
 |cont=>obtain⟨c,H',I,q⟩:=h;exact⟨c,H',I.oo,q⟩
 |ret u=>obtain⟨v,c,H',I,r,q⟩:=h;exact⟨v,c,H',I.oo,r,q⟩
def Bt.UY{st:List kK}(h:Bt X.UY st t):Bt X st t:=λh_ s σ H D I c=>
 c9 (h h_ s σ H D (I.vN _) c) (λ_ _ q=>q.oo) λ_ _ z=>iO z
end
section
variable{st:kK}{rest:List kK}{t u:TS}{te:TE}{pos:xI}
def Vt:TS:=λD σ H=>D.nx σ H
def Yc(t u:TS):TS:=λD σ H=>t { D with nx:=u D } σ H
def Nm:Bt X [] Vt:=λ_ _ σ H _ I h=>wpAny_execs_nil ⟨σ,H,I,h⟩
def Je(h1:PS X st t)(h2:Bt X rest u):Bt X (st::rest) (Yc t u):=by
 intro h_ s σ H D I h;refine wpAny_execs_cons (iL (h1 h_ s σ H { D with nx:=u D } I h) λf s1 q=>?_)
 cases f with
 |next=>
   obtain⟨c,H',I',q⟩:=q;exact h2 h_ s1 c H' D I' q
 |ret v=>exact q
 |brk=>exact q
 |cont=>exact q
def Inv.quiet(I:Inv X h_ σ H s):interactive X.env=d_:=by simp[interactive,I.ok.kind]
def zC(te:TE):TS:=λD σ H=>te σ H λ_ c=>D.nx σ c
def qk(c:PE X e te)(hs:swapsWith e b_ pos.line X.env=pure d_):PS X (.Expr e pos) (zC te):=by
 intro h_ s σ H D I h;exact wpAny_Expr_any (iL (c h_ s σ H _ I h) λv s1 ⟨x,d,g,k,j⟩=>⟨σ,d,g,j⟩) I.quiet hs
def Yd(te:TE):TS:=λD σ H=>te σ H D.rt
def Jf(c:PE X e te):PS X (.Return (a_ e) pos) (Yd te):=by
 intro h_ s σ H D I h;exact wpAny_Return_some (iL (c h_ s σ H _ I h) λv s1 ⟨x,d,g,j,k⟩=>⟨x,σ,d,g,j,k⟩)
def Yh(c:TT)(t u:TS):TS:=λD σ H=>c σ H λb d=>if b=c_ then t D σ d else u D σ d
def V4(l:PT X c tc)(ha:Bt X a t)(hb:Bt X b u):PS X (.If c a b pos) (Yh tc t u):=by
 intro h_ s σ H D I h;refine wpAny_If (iL (l h_ s σ H _ I h) λd s1 ⟨g,j,k⟩=>?_)
 cases d with
 |true=>exact ha h_ s1 σ g D j k
 |false=>exact hb h_ s1 σ g D j k
end
abbrev TG:=V->St->Hp->(St->Hp->Prop)->Prop
abbrev Qs:=List V->St->Hp->(St->Hp->Prop)->Prop
def PG(X:Cx)(target:aX)(t:TG):Prop:=
 ∀(h_:List (aF×kL))(s:ai)(σ:St)(H:Hp)(v:V)(u:ah)(Q:St->Hp->Prop),Inv X h_ σ H s->RelV v u->t v σ H Q->
  aA (aD X.prog X.w) X.A (assign target X.env u) (λ_ s'=>∃c H',Inv X h_ c H' s'/\Q c H') X.xe s
def Vd(X:Cx)(d:List aX)(t:Qs):Prop:=
 ∀(h_:List (aF×kL))(s:ai)(σ:St)(H:Hp)(vs:List V)(us:List ah)(Q:St->Hp->Prop),Inv X h_ σ H s->cF vs us->t vs σ H Q->
  aA (aD X.prog X.w) X.A (assignInOrder ((assignEach d X.env).map (·.2)) us) (λ_ s'=>∃c H',Inv X h_ c H' s'/\Q c H') X.xe s
abbrev Xu:=V->V->V->Hp->(Hp->Prop)->Prop
def UH(X:Cx)(t:Xu):Prop:=
 ∀(h_:List (aF×kL))(s:ai)(σ:St)(H:Hp)(o i v:V)(c d u:ah)(Q:Hp->Prop),Inv X h_ σ H s->RelV o c->RelV i d->RelV v u->t o i v H Q->
  aA (aD X.prog X.w) X.A (setItem c d u) (λ_ s'=>∃H',Inv X h_ σ H' s'/\Q H') X.xe s
section
variable{X:Cx}{pos:xI}
def kH(i:Nat):TG:=λv σ H Q=>Q (σ.set i (a_ v)) H
def El(c:X.N.Nodup)(hi:X.N[i]?=a_ x)(d:Loc X.env.scope x)(hf:X.fn x=c_\/X.env.scope.names.lookup x=a_ .local):PG X (.Name x pos) (kH i):=by
 intro h_ s σ H v u Q I r h;exact wpAny_assign_Name (uk I c hi d r (λs' I'=>⟨_,H,I',h⟩) hf)
def Hb:Qs:=λvs σ H Q=>vs=[]/\Q σ H
def w5(t:TG)(u:Qs):Qs:=λvs σ H Q=>∃v r,vs=v::r/\t v σ H λc H'=>u r c H' Q
def Ek:Vd X [] Hb:=by
 intro h_ s σ H vs us Q I r h;obtain⟨e,h⟩:=h;subst e;cases r;exact assignInOrder_nil ⟨σ,H,I,h⟩
def zZ(h1:PG X e t)(h2:Vd X es u)
  (hs:(assignEach (e::es) X.env).map (·.2)=assign e X.env::(assignEach es X.env).map (·.2):=by rfl):Vd X (e::es) (w5 t u):=by
 intro h_ s σ H vs us Q I r h;obtain⟨v,l,e1,h⟩:=h;subst e1
 cases r with
 |cons r d=>
   rw[hs];refine assignInOrder_cons (iL (h1 h_ s σ H _ _ _ I r h) λ_ s1 ⟨c,g,j,k⟩=>?_);exact h2 h_ s1 c g _ _ Q j d k
def Kx(K:aJ)(n:Nat)(t:Qs):TG:=λv σ H Q=>∃a xs,v=.ref a/\sk K H a xs/\xs.length=n/\t xs σ H Q
def Jl(j:X.calm=c_)(h:Vd X es t)
  (l:(assignEach es X.env).length=n)(c:(assignEach es X.env).findIdx? (·.1)=b_):PG X (.Tuple es k pos) (Kx X.K n t):=by
 intro h_ s σ H v u Q I r d;obtain⟨a,xs,e1,q,hl,d⟩:=d;subst e1;cases r;obtain⟨its,g,ht,B⟩:=I.tuple q;refine assign_Tuple_tuple (I.ok.hd j) ht (by simp[l,<-hl,g.length]) c λh' y=>?_;have z:Inv X h_ σ H { s with heap:=h' }:=I.kept λb o e=>y b o (bo (hl9 e)) e;exact h h_ _ σ H xs _ Q z (by simpa using g) d
def TK(c d:TE)(t:Xu):TG:=λv σ H Q=>c σ H λo g=>d σ g λi H2=>t o i v H2 λj=>Q σ j
def Jn(ho:PE X o to)(hi:PE X i ti)(hs:UH X t)
  (ha:∀v,assign (.Subscript o i pos) X.env v=(do
   let c <-holding [v] (eval o X.env);let d <-holding [v,c] (eval i X.env)
   standAt pos
   holding [v,c,d] (setItem c d v)
   release [v,c,d] []):=by intro _;rfl):PG X (.Subscript o i pos) (TK to ti t):=by
 intro h_ s σ H v u Q I r h;rw[ha];refine wb9 (bR (iL (ho h_ s σ H _ I h) λc s1 ⟨x,g,j,k,l⟩=>?_));refine wb9 (bR (iL (hi h_ s1 σ g _ j l) λd s2 ⟨y,H2,q,z,B⟩=>?_));refine wb9 (FK (wb9 (bR (iL (hs h_ s2 σ H2 x y v c d u _ q k z r B) λ_ s3 ⟨D,J,L⟩=>?_))));exact wpAny_release ⟨σ,D,J,L⟩
def Gg(te:TE)(g:TG):TS:=λD σ H=>te σ H λx c=>g x σ c D.nx
def Cu(c:PE X e te)(d:PG X tg g)(hs:swapsWithSole [tg] e pos.line X.env=pure d_)(j:swappedStores [tg] e X.env=pure b_)
  (h1:(assignEach [tg] X.env).map (·.2)=[assign tg X.env]):PS X (.Assign [tg] e pos) (Gg te g):=by
 intro h_ s σ H D I h;refine wpAny_Assign_stores (iL (c h_ s σ H _ I h) λv s1 ⟨x,k,l,y,z⟩=>?_) hs j;rw[h1];exact iL (d h_ s1 σ k x v _ l y z) λ_ s2 q=>q
def RW(c:X.N.Nodup)(hi:X.N[i]?=a_ x)(d:Loc X.env.scope x)(g:PE X e te)(hs:swapsWith e (a_ (.Name x pos')) pos.line X.env=pure d_)(hf:X.fn x=c_\/X.env.scope.names.lookup x=a_ .local) :
  PS X (.Assign [.Name x pos'] e pos) (Gg te (kH i)):=by
 intro h_ s σ H D I h;refine wpAny_Assign_Name (iL (g h_ s σ H _ I h) λv s1 ⟨y,j,k,l,q⟩=>?_) hs;exact uk k c hi d l (λs2 z=>⟨_,j,z,q⟩) hf
end
section
end
structure It where
 go:Nat->Hp->Prop
 yld:Nat->Hp->V->Hp->Prop
 stop:Nat->Hp->Prop
def qP(X:Cx)(h_:List (aF×kL))(H:Hp)(b:aF):Prop:=
 H b=b_/\b≠X.env.locals/\b∉X.fs/\(b∈X.ex\/X.s₀.heap.objs.size<=b)/\(∀x c,X.env.cells.lookup x=a_ c->c≠b)/\∀p∈X.pn++h_,p.1≠b
def Inv.vV(I:Inv X h_ σ H s)(hb:s.heap.objs.size<=b)(d:H' b=b_):qP X h_ H' b:=by
 refine⟨d,lG (aV I.lt hb),I.Wj hb,.inr (ab I.sz hb),λx c e z=>?_,λp hp z=>?_⟩
 ·obtain⟨v,q⟩:=I.cell x c e;exact absurd (aV q.lt (by rw[z];exact hb)) (bC _)
 ·exact absurd (aV (hl9 (I.pin p hp).1) (by rw[z];exact hb)) (bC _)
structure Turn(P:cg)(w:cZ)(K:aJ)(tg:aX)(J:It)(fp:List aF)(it:aF)(tn:Nat->cc->Prop):Prop where
 mem:it∈fp
 obj:∀i h,tn i h->∀b∈fp,∃o,h.get? b=a_ o/\∀v,o.data≠.cell v
 keep:∀i h h',tn i h->(∀b∈fp,∀o,h.get? b=a_ o->h'.get? b=a_ o)->tn i h'
 item:∀(X:Cx),X.prog=P->X.w=w->X.K=K->X.calm=c_->∀(i:Nat)(h_:List (aF×kL))(s:ai)(σ:St)(H:Hp)(E:ah->ai->Prop),Inv X h_ σ H s->(∀b∈fp,qP X h_ H b)->tn i s.heap->J.go i H->
  aA (aD P w) X.A (pyNext (.ref it)) (λr s1=>∃u,r=a_ u/\
   aA (aD P w) X.A (letOwnedTupleGo tg (.ref it) u) (λ_ s2=>∃x H',Inv X h_ σ H' s2/\RelV x u/\J.yld i H x H'/\tn (i+1) s2.heap/\∀b∈fp,H' b=b_) E s1) E s
 done:∀(X:Cx),X.prog=P->X.w=w->X.K=K->X.calm=c_->∀(i:Nat)(h_:List (aF×kL))(s:ai)(σ:St)(H:Hp)(E:ah->ai->Prop),Inv X h_ σ H s->(∀b∈fp,qP X h_ H b)->tn i s.heap->J.stop i H->
  aA (aD P w) X.A (pyNext (.ref it)) (λr s1=>r=b_/\Inv X h_ σ H s1) E s
 self:∀(A:bP)(i:Nat)(s:ai)(Q:ah->ai->Prop)(E:ah->ai->Prop),tn i s.heap->Q (.ref it) s->aA (aD P w) A (HN (.ref it)) Q E s
abbrev TI:=St->Hp->(It->Hp->Prop)->Prop
def Zy(X:Cx)(h_:List (aF×kL))(σ:St)(tg:aX)(R:It->Hp->Prop)(itv:ah)(s2:ai):Prop:=
 ∃(it:aF) (fp:List aF) (tn:Nat->cc->Prop) (J:It) (H':Hp),itv=.ref it/\Inv X h_ σ H' s2/\Turn X.prog X.w X.K tg J fp it tn/\tn 0 s2.heap/\(∀b∈fp,qP X h_ H' b)/\R J H'
def PI(X:Cx)(tg iter:aX)(wi:TI):Prop:=
 ∀(h_:List (aF×kL))(s:ai)(σ:St)(H:Hp)(R:It->Hp->Prop),Inv X h_ σ H s->wi σ H R->
  aA (aD X.prog X.w) X.A (eval iter X.env) (λv s1=>aA (aD X.prog X.w) X.A (HN v) (Zy X h_ σ tg R) X.xe s1) X.xe s
def uZ{s:ai}(ho:s.heap.get? it=a_ o)(d:o.cls=.type n)(hd:o.data=.fields vs)
  (g:["enumerate","zip","dict_itemiterator","dict_reverseitemiterator","odict_iterator","itertools.zip_longest","itertools.pairwise"].contains n=d_)(c:Q () s):aA M A (letOwnedTupleGo tg (.ref it) u) Q E s:=by
 cases tg<;>first
  |exact wu9 c
  | (cases u<;>first
    |exact wu9 c
    | (refine wb9 (wpAny_load ho ?_)
       rw[d,hd];show aA M A (if(["enumerate","zip","dict_itemiterator","dict_reverseitemiterator","odict_iterator","itertools.zip_longest","itertools.pairwise"].contains n && vs[0]? == a_ (rawInt _))=c_ then _ else _) Q E s;rw[if_neg (by grind)]
       exact wu9 c))
noncomputable def ZF(K:aJ)(a:aF):It:=
 ⟨λi H=>∃xs x,mo K H a xs/\xs[i]?=a_ x,λi H x H'=>H'=H/\∀xs,mo K H a xs->xs[i]?=a_ x,λi H=>∃xs,mo K H a xs/\xs.length<=i⟩
noncomputable def ZE(K:aJ)(a:aF):It:=
 ⟨λi H=>∃xs x,sk K H a xs/\xs[i]?=a_ x,λi H x H'=>H'=H/\∀xs,sk K H a xs->xs[i]?=a_ x,λi H=>∃xs,sk K H a xs/\xs.length<=i⟩
noncomputable def X2(lo:Int)(n:Nat):It:=⟨λi _=>i<n,λi H x H'=>H'=H/\x=.int (lo+i),λi _=>n<=i⟩
def Ga{K:aJ}(a it:aF):Turn P w K tg (ZF K a) [it] it (λi h=>h.IsListIter it a i) where
 mem:=by simp
 obj:=λi h st b hb=>by
  have e:b=it:=by simpa using hb
  subst e;obtain⟨o,e,c,d⟩:=st;exact⟨o,e,λv z=>by rw[d]at z;cases z⟩
 keep:=λi h h' st k=>st.at λo e=>k it (by simp) o e
 item:=by
  intro X q y B W i h_ s σ H E I hf st D;subst q y B;obtain⟨xs,x,j,l⟩:=D;obtain⟨its,J,p,Y⟩:=I.list j;obtain⟨u,Z,ru⟩:=J.get l;obtain⟨L,M,f2,O,R,U⟩:=hf it (by simp);refine wpAny_pyNext_list_item st p.isList (x:=u) (by simpa using Z) λh' g sb=>?_;have I1:Inv X h_ σ H { s with heap:=h' }:=I.turned (t':=s.toks) (λb o hb e=>(sb.2 b hb).trans e) L M O R U;obtain⟨o,e,c,d⟩:=id g;exact⟨u,rfl,uZ (s:={ s with heap:=h' }) e c d (by decide) ⟨x,H,I1,ru,⟨rfl,λys hy=>by rw[I.mO hy j];exact l⟩,g,λb hb=>(hf b hb).1⟩⟩
 done:=by
  intro X q y B W i h_ s σ H E I hf st D;subst q y B;obtain⟨xs,j,l⟩:=D;obtain⟨its,J,p,Y⟩:=I.list j;obtain⟨L,M,f2,O,R,U⟩:=hf it (by simp);have hl:=J.length;exact wpAny_pyNext_list_end (I.ok.hd W) st p.isList (by simp;exact ab (af hl.symm) l) λh' eb=>⟨rfl,I.turned (t':=s.toks) (λb o hb e=>eb b o hb e) L M O R U⟩
 self:=λ_ _ _ _ _ st h=>wpAny_pyIter_listiter st h
def B1{K:aJ}(a it:aF):Turn P w K tg (ZE K a) [it] it (λi h=>h.IsTupleIter it a i) where
 mem:=by simp
 obj:=λi h st b hb=>by
  have e:b=it:=by simpa using hb
  subst e;obtain⟨o,e,c,d⟩:=st;exact⟨o,e,λv z=>by rw[d]at z;cases z⟩
 keep:=λi h h' st k=>st.at λo e=>k it (by simp) o e
 item:=by
  intro X q y B W i h_ s σ H E I hf st D;subst q y B;obtain⟨xs,x,j,l⟩:=D;obtain⟨its,J,p,Y⟩:=I.tuple j;obtain⟨u,Z,ru⟩:=J.get l;obtain⟨L,M,f2,O,R,U⟩:=hf it (by simp);refine wpAny_pyNext_tuple_item st (show s.heap.IsTuple a its.toArray from p) (x:=u) (by simpa using Z) λh' g sb=>?_;have I1:Inv X h_ σ H { s with heap:=h' }:=I.turned (t':=s.toks) (λb o hb e=>(sb.2 b hb).trans e) L M O R U;obtain⟨o,e,c,d⟩:=id g;exact⟨u,rfl,uZ (s:={ s with heap:=h' }) e c d (by decide) ⟨x,H,I1,ru,⟨rfl,λys hy=>by rw[I.mJ hy j];exact l⟩,g,λb hb=>(hf b hb).1⟩⟩
 done:=by
  intro X q y B W i h_ s σ H E I hf st D;subst q y B;obtain⟨xs,j,l⟩:=D;obtain⟨its,J,p,Y⟩:=I.tuple j;obtain⟨L,M,f2,O,R,U⟩:=hf it (by simp);have hl:=J.length;exact wpAny_pyNext_tuple_end (I.ok.hd W) st (show s.heap.IsTuple a its.toArray from p) (by simp;exact ab (af hl.symm) l) λh' eb=>⟨rfl,I.turned (t':=s.toks) (λb o hb e=>eb b o hb e) L M O R U⟩
 self:=λ_ _ _ _ _ st h=>wpAny_pyIter_tupleiter st h
def B2{K:aJ}(it:aF)(lo:Int)(n:Nat):Turn P w K tg (X2 lo n) [it] it (λi h=>IsRangeIter h it (lo+(i:Nat) * 1) ((n:Int) - (i:Nat)) 1) where
 mem:=by simp
 obj:=λi h st b hb=>by
  have e:b=it:=by simpa using hb
  subst e
  exact⟨_,st,λv z=>by
   have O:Data.fields _=Data.cell v:=z
   cases O⟩
 keep:=λi h h' st k=>k it (by simp) _ st
 item:=by
  intro X d g j l i h_ s σ H E I hf st q;subst d g j;obtain⟨y,B,R,D,J,L⟩:=hf it (by simp);have W:=Walks.range (prog:=X.prog) (w:=X.w) (I.ok.hd l) it lo 1 n;refine W.item i s _ _ q st λv h' M U c kk=>?_;obtain⟨t,rfl⟩:=U;have Y:Inv X h_ σ H { s with heap:=h',toks:=M }:=I.turned (λb o hb e=>kk b o (by simpa using hb) e) y B D J L;refine⟨_,rfl,uZ (s:={ s with heap:=h',toks:=M }) (n:="range_iterator") c rfl rfl (by decide) ⟨.int (lo+i),H,Y,⟨t,?_⟩,⟨rfl,rfl⟩,c,λb hb=>(hf b hb).1⟩⟩;rw[Int.mul_one]
 done:=by
  intro X d g j l i h_ s σ H E I hf st q;subst d g j;obtain⟨y,B,R,D,J,L⟩:=hf it (by simp);exact HK (I.ok.hd l) st (by have:n<=i:=q;omega) λh' Z=>⟨rfl,I.turned (t':=s.toks) (λb o hb e=>Z b o hb e) y B D J L⟩
 self:=λ_ _ _ _ _ st h=>HL st h
section
variable{X:Cx}
def WQ(K:aJ)(tl:TE):TI:=λσ H R=>tl σ H λx c=>∃a,x=.ref a/\(∃xs,mo K c a xs)/\R (ZF K a) c
def Zb(K:aJ)(tl:TE):TI:=λσ H R=>tl σ H λx c=>∃a,x=.ref a/\(∃xs,sk K c a xs)/\R (ZE K a) c
def Ej(hl:PE X l tl):PI X tg l (WQ X.K tl):=by
 intro h_ s σ H R I h;refine iL (hl h_ s σ H _ I h) λv s1 ⟨x,d,c,g,j⟩=>?_;obtain⟨a,e,⟨xs,k⟩,q⟩:=j;subst e;cases g;obtain⟨its,y,p,z⟩:=c.list k;refine vC p.isList ?_;refine⟨s1.heap.objs.size,[s1.heap.objs.size],_,_,d,rfl,c.kept λb o e=>hp9 _ e,Ga a _,⟨_,aG _ rfl,rfl,rfl⟩,λb hb=>?_,q⟩;have e:b=s1.heap.objs.size:=by simpa using hb
 subst e;exact c.vV (ao _) (c.hok.fresh (ao _))
def Jj(hl:PE X l tl):PI X tg l (Zb X.K tl):=by
 intro h_ s σ H R I h;refine iL (hl h_ s σ H _ I h) λv s1 ⟨x,d,c,g,j⟩=>?_;obtain⟨a,e,⟨xs,k⟩,q⟩:=j;subst e;cases g;obtain⟨its,y,p,z⟩:=c.tuple k;refine wpAny_pyIter_tuple (p) ?_;refine⟨s1.heap.objs.size,[s1.heap.objs.size],_,_,d,rfl,c.kept λb o e=>hp9 _ e,B1 a _,⟨_,aG _ rfl,rfl,rfl⟩,λb hb=>?_,q⟩;have e:b=s1.heap.objs.size:=by simpa using hb
 subst e;exact c.vV (ao _) (c.hok.fresh (ao _))
def I0{lo:Int}(I:Inv X h_ σ H s)(h1:-(2 ^ 62)<=lo)(h2:lo<2 ^ 62)(h3:-(2 ^ 62)<=hi)(d:hi<2 ^ 62)
  (q:R (X2 lo (hi - lo).toNat) H):aA (aD X.prog X.w) X.A (HN (.ref s.heap.objs.size)) (Zy X h_ σ tg R) E { s with heap:=s.heap.push { cls:=.type "range",data:=.fields #[.int lo t,.int hi u,.int 1 v] },toks:=tk }:=by
 refine wpAny_pyIter_range (Pd ..) (small_one h1 h2 h3 d) ?_;have c:Inv X h_ σ H { s with heap:=s.heap.push { cls:=.type "range",data:=.fields #[.int lo t,.int hi u,.int 1 v] },toks:=tk }:=I.kept λb o e=>hp9 _ e
 refine⟨(s.heap.push { cls:=.type "range",data:=.fields #[.int lo t,.int hi u,.int 1 v] }).objs.size,[(s.heap.push { cls:=.type "range",data:=.fields #[.int lo t,.int hi u,.int 1 v] }).objs.size],_,_,H,rfl,
  c.kept λb o e=>hp9 _ e,B2 _ lo (hi - lo).toNat,?_,λb hb=>?_,q⟩
 ·have e1:lo+((0:Nat)) * 1=lo:=by simp
  have e2:(((hi - lo).toNat):Int) - ((0:Nat))=iS lo hi 1:=by rw[rangeSize_one];split<;>omega
  rw[e1,e2];exact aG _ rfl
 ·have e:b=(s.heap.push { cls:=.type "range",data:=.fields #[.int lo t,.int hi u,.int 1 v] }).objs.size:=by simpa using hb
  subst e;exact c.vV (ao _) (c.hok.fresh (ao _))
def WN(ta:TA):TI:=λσ H R=>ta σ H λvs c=>∃j:Int,vs=[.int j]/\-(2 ^ 62)<=j/\j<2 ^ 62/\R (X2 0 j.toNat) c
def GK(d:Gl X "range")(g:X.mg "range"=b_)(ha:PA X [a] ta)(hs:aO [a] X.env=[(d_,eval a X.env)]):PI X tg (.Call (.Name "range" p) [a] [] pos) (WN ta):=by
 intro h_ s σ H R I h;refine Call_ (k9 I d g boot_range (c6 (iL (ha pos h_ s σ H _ I h) λus s1 ⟨vs,z,k,l,c⟩=>?_) hs rfl));obtain⟨j,e,c,v,q⟩:=c;subst e
 cases l with
 |cons r y=>
   cases y;obtain⟨t,rfl⟩:=r;exact call_range_1 (I0 k (by simp) (by simp) c v (by simpa using q))
def Yi(wi:TI)(g:TG)(tb:TS):TS:=λD σ H=>wi σ H λJ j=>∃W:Nat->Nat->St->Hp->Prop,(∃m,W 0 m σ j)/\∀i m σ H,W i m σ H->
 (J.stop i H/\D.nx σ H)\/(J.go i H/\∃N:St->Hp->Prop,(∀c H',N c H'->∃d,d<m/\W (i+1) d c H')/\∀x H',J.yld i H x H'->g x σ H' λσ2 H2=>tb { D with nx:=N,ct:=N,bk:=D.nx } σ2 H2)
noncomputable def l8(fp:List aF)(h:cc):List (aF×kL):=fp.filterMap λb=>(h.get? b).map λo=>(b,o)
def nu{h:cc}(hb:b∈fp)(e:h.get? b=a_ o):(b,o)∈l8 fp h:=lQ.mpr ⟨b,hb,by rw[e];rfl⟩
def wI(hp:p∈l8 fp h):p.1∈fp/\h.get? p.1=a_ p.2:=by
 obtain⟨b,hb,e⟩:=lQ.mp hp
 cases q:h.get? b with
 |none=>rw[q]at e;cases e
 |some o=>
   rw[q]at e;have c :=bx e;subst c;exact⟨hb,q⟩
def Inv.pinned(I:Inv X h_ σ H s)(hf:∀b∈fp,qP X h_ H b)(ho:∀b∈fp,∃o,s.heap.get? b=a_ o/\∀v,o.data≠.cell v):Inv X (h_++l8 fp s.heap) σ H s:=
 I.ql λp hp=>(aE.mp hp).elim (λz=>I.pin p (ak _ z)) λz=>by
  obtain⟨hb,e⟩:=wI z;obtain⟨c,g,j,_⟩:=hf p.1 hb;obtain⟨o,k,d⟩:=ho p.1 hb
  simp_all
def Inv.mI(I:Inv X (h_++pl) σ H s):Inv X h_ σ H s:=I.ql λp hp=>I.pin p (ak _ (aH _ hp))
def Jg{iter:aX}{tb:TS}(hp:Hx (aD X.prog X.w) X.A X.env X.xe)(hc:X.calm=c_)(hi:PI X tg iter wi)(hg:PG X tg g)(hb:Bt X body tb)
  (hs:∀x,foldedSetIterable iter X.env x=pure x):PS X (.For tg iter body [] pos) (Yi wi g tb):=by
 intro h_ s σ H D I h;refine wpAny_For (iL (hi h_ s σ H _ I h) λv s1 h1=>iL h1 λitv s2 h2=>?_) hs;obtain⟨it,fp,tn,J,H2,e,I2,T,U,f2,W,⟨m0,w0⟩,turn⟩:=h2;subst e;have j:∀{H':Hp},(∀b∈fp,H' b=b_)->∀b∈fp,qP X h_ H' b:=λhn b hb=>⟨hn b hb,(f2 b hb).2⟩
 refine codeAny_forLoop_any (λn s'=>∃i k H',Inv X h_ k H' s'/\tn i s'.heap/\(∀b∈fp,H' b=b_)/\W i n k H') ?_ m0 ⟨0,σ,H2,I2,U,λb hb=>(f2 b hb).1,w0⟩;rintro n s3 ⟨i,l,R,I3,L,M,w3⟩
 rcases turn i n l R w3 with⟨stop,qn⟩|⟨go,N,hN,step⟩
 ·refine lW hp (iL (T.done X rfl rfl rfl hc i h_ s3 l R X.xe I3 (j M) L stop) λr s4 ⟨Y,I4⟩=>?_);subst Y;exact wpAny_execs_nil ⟨l,R,I4,qn⟩
 ·refine lW hp (iL (T.item X rfl rfl rfl hc i h_ s3 l R X.xe I3 (j M) L go) λr s4 ⟨u,Y,h4⟩=>?_);subst Y;refine lW hp (iL h4 λ_ s5 ⟨x,H5,I5,r5,y5,B,Z⟩=>?_);have I5':=I5.pinned (j Z) (T.obj _ _ B);refine lW hp (iL (hg _ s5 l H5 x u _ I5' r5 (step x H5 y5)) λ_ s6 ⟨σ6,H6,I6,q6⟩=>?_);refine lW hp (iL (hb _ s6 σ6 H6 _ I6 q6) λf s7 z=>?_)
  have again:∀{c:St}{q:Hp},Inv X (h_++l8 fp s5.heap) c q s7->N c q->∃m,m<n/\∃i k H',Inv X h_ k H' s7/\tn i s7.heap/\(∀b∈fp,H' b=b_)/\W i m k H':=λ{c q}y O=>by
   obtain⟨m',hm,w7⟩:=hN c q O;refine⟨m',hm,i+1,c,q,y.mI,T.keep _ _ _ B λb hb o e=>(y.pin (b,o) (ak _ (ak _ (nu hb e)))).1,λb hb=>?_,w7⟩;obtain⟨o,e,d⟩:=T.obj _ _ B b hb;exact(y.pin (b,o) (ak _ (ak _ (nu hb e)))).2.1
  cases f with
  |next=>obtain⟨c,q,y,O⟩:=z;exact again y O
  |cont=>obtain⟨c,q,y,O⟩:=z;exact again y O
  |brk=>obtain⟨c,q,y,z⟩:=z;exact⟨c,q,y.mI,z⟩
  |ret v=>obtain⟨x7,c,q,y,r7,z⟩:=z;exact⟨x7,c,q,y.mI,r7,z⟩
end
abbrev R2:=V->V->Hp->VK->Prop
def j7(X:Cx)(f:ah->ah->zp ah)(r:R2):Prop:=
 ∀(h_:List (aF×kL))(s:ai)(σ:St)(H:Hp)(x y:V)(v u:ah)(Q:VK),Inv X h_ σ H s->RelV x v->RelV y u->r x y H Q->
  aA (aD X.prog X.w) X.A (f v u) (EP X h_ σ Q) X.xe s
def Zw(X:Cx)(f:ah->zp ah)(r:V->Hp->VK->Prop):Prop:=
 ∀(h_:List (aF×kL))(s:ai)(σ:St)(H:Hp)(x:V)(v:ah)(Q:VK),Inv X h_ σ H s->RelV x v->r x H Q->
  aA (aD X.prog X.w) X.A (f v) (EP X h_ σ Q) X.xe s
def km(X:Cx)(f:ah)(r:List V->Hp->VK->Prop):Prop:=
 ∀(h_:List (aF×kL))(s:ai)(σ:St)(H:Hp)(xs:List V)(us:List ah)(Q:VK),Inv X h_ σ H s->cF xs us->r xs H Q->
  aA (aD X.prog X.w) X.A (call f us) (EP X h_ σ Q) X.xe s
def Zx(X:Cx)(r:V->Hp->(Bool->Hp->Prop)->Prop):Prop:=
 ∀(h_:List (aF×kL))(s:ai)(σ:St)(H:Hp)(x:V)(v:ah)(Q:Bool->Hp->Prop),Inv X h_ σ H s->RelV x v->r x H Q->
  aA (aD X.prog X.w) X.A (truthy v) (TP X h_ σ Q) X.xe s
def Pr(r:R2)(ta tb:TE):TE:=λσ H Q=>ta σ H λx c=>tb σ c λy H2=>r x y H2 Q
def tUn(r:V->Hp->VK->Prop)(ta:TE):TE:=λσ H Q=>ta σ H λx c=>r x c Q
def rI(C:Int->Int->Prop)(g:Int->Int->V):R2:=λx y H Q=>∃i j,x=.int i/\y=.int j/\C i j/\Q (g i j) H
def PD(g:Int->Int->V):R2:=λx y H Q=>∃i j,x=.int i/\y=.int j/\Q (g i j) H
def rU(g:Int->V):V->Hp->VK->Prop:=λx H Q=>∃i,x=.int i/\Q (g i) H
section
variable{X:Cx}{tb:TE}
def Uv(ha:PE X a ta)(hb:PE X b tb){h_:List (aF×kL)}{s:ai}{σ:St}{H:Hp}{R:V->V->Hp->Prop}(I:Inv X h_ σ H s)
  (h:ta σ H λx d=>tb σ d λy H2=>R x y H2){Q:ah->ai->Prop}{f:ah->ah->zp ah}
  (hf:∀v u s2 x y H2,Inv X h_ σ H2 s2->RelV x v->RelV y u->R x y H2->aA (aD X.prog X.w) X.A (f v u) Q X.xe s2) :
  aA (aD X.prog X.w) X.A (eval a X.env) (λv s₁=>aA (aD X.prog X.w) X.A (eval b X.env) (λu c=>aA (aD X.prog X.w) X.A (f v u) Q X.xe c) X.xe s₁) X.xe s:=by
 refine iL (ha h_ s σ H _ I h) λv s1 ⟨x,d,g,j,k⟩=>?_;refine iL (hb h_ s1 σ d _ g k) λu s2 ⟨y,H2,l,q,z⟩=>?_;exact hf v u s2 x y H2 l j q z
def PH(ho:j7 X (binaryOp op) r)(ha:PE X a ta)(hb:PE X b tb):PE X (.BinOp a op b pos) (Pr r ta tb):=by
 intro h_ s σ H Q I h;exact wpAny_BinOp (Uv ha hb I h λv u s2 x y H2 c d g q=>ho h_ s2 σ H2 x y v u Q c d g q)
def V8(ho:Zw X (unaryOp op) r)(ha:PE X a ta):PE X (.UnaryOp op a pos) (tUn r ta):=by
 intro h_ s σ H Q I h;exact UnaryOp_ (iL (ha h_ s σ H _ I h) λv s1 ⟨x,c,d,g,j⟩=>ho h_ s1 σ c x v Q d g j)
def YD{f:ah->ah->zp ah}{C:Int->Int->Prop}{g:Int->Int->Int}
  (rule:∀(i j:Int)(t u:DD)(s:ai)(Q:ah->ai->Prop)(E:ah->ai->Prop),C i j->Q (.int (g i j) s.toks) { s with toks:=s.toks+1 }->aA (aD X.prog X.w) X.A (f (.int i t) (.int j u)) Q E s) :
  j7 X f (rI C λi j=>.int (g i j)):=by
 intro h_ s σ H x y v u Q I c d h;obtain⟨i,j,rfl,rfl,k,q⟩:=h;obtain⟨t,rfl⟩:=c;obtain⟨t',rfl⟩:=d;exact rule i j t t' s _ _ k ⟨.int (g i j),H,I.tok _,⟨_,rfl⟩,q⟩
def We{f:ah->ah->zp ah}{g:Int->Int->Int}
  (rule:∀(i j:Int)(t u:DD)(s:ai)(Q:ah->ai->Prop)(E:ah->ai->Prop),Q (.int (g i j) s.toks) { s with toks:=s.toks+1 }->aA (aD X.prog X.w) X.A (f (.int i t) (.int j u)) Q E s) :
  j7 X f (PD λi j=>.int (g i j)):=by
 intro h_ s σ H x y v u Q I c d h;obtain⟨i,j,rfl,rfl,q⟩:=h;obtain⟨t,rfl⟩:=c;obtain⟨t',rfl⟩:=d;exact rule i j t t' s _ _ ⟨.int (g i j),H,I.tok _,⟨_,rfl⟩,q⟩
def Wf{f:ah->ah->zp ah}{g:Int->Int->Bool}
  (rule:∀(i j:Int)(t u:DD)(s:ai)(Q:ah->ai->Prop)(E:ah->ai->Prop),Q (.bool (g i j)) s->aA (aD X.prog X.w) X.A (f (.int i t) (.int j u)) Q E s) :
  j7 X f (PD λi j=>.bl (g i j)):=by
 intro h_ s σ H x y v u Q I c d h;obtain⟨i,j,rfl,rfl,q⟩:=h;obtain⟨t,rfl⟩:=c;obtain⟨t',rfl⟩:=d;exact rule i j t t' s _ _ ⟨.bl (g i j),H,I,rfl,q⟩
def US(i j:Int):Prop:=0<j/\j<1073741824
def O9(i j:Int):Prop:=0<=j/\j<=1000000/\i.natAbs<2 ^ 64
def Hw(i j:Int):Prop:=(-(2 ^ 64)<i/\i<2 ^ 64)\/(-(2 ^ 64)<j/\j<2 ^ 64)
def Hw.ok(h:Hw i j):IntMulOk i j:=by
 rcases h with⟨h1,h2⟩|⟨h1,h2⟩
 ·exact .of_left (intBits_le_64 h1 h2)
 ·exact .of_right (intBits_le_64 h1 h2)
def B0(k:Nat):(0:Int)<=2 ^ k:=by
 exact Int.natCast_nonneg _
def Sw:j7 X (binaryOp .Add) (PD λi j=>.int (i+j)):=We λ_ _ _ _ _ _ _ q=>add_int q
def Sk:j7 X (binaryOp .Mult) (rI Hw λi j=>.int (i * j)):=YD λ_ _ _ _ _ _ _ c q=>mul_int q c.ok
def Sl:j7 X (binaryOp .Mod) (rI (λ_ j=>0<j) λi j=>.int (i % j)):=YD λi j _ _ _ _ _ c q=>by
 have h1 :=c;exact mod_int' (Int.ne_of_gt h1) (by rw[Int.fmod_eq_emod_of_nonneg i (Int.le_of_lt h1)];exact q)
def Si:j7 X (binaryOp .RShift) (rI (λ_ j=>0<=j) λi j=>.int (i / 2 ^ j.toNat)):=YD λi j _ _ _ _ _ c q=>
 rshift_int c (by rw[Int.fdiv_eq_ediv_of_nonneg i (B0 _)];exact q)
def Sv:j7 X (binaryOp .BitAnd) (PD λi j=>.int (t8 i j)):=We λ_ _ _ _ _ _ _ q=>and_int q
def unI{f:ah->zp ah}{g:Int->Int}
  (rule:∀(i:Int)(t:DD)(s:ai)(Q:ah->ai->Prop)(E:ah->ai->Prop),Q (.int (g i) s.toks) { s with toks:=s.toks+1 }->aA (aD X.prog X.w) X.A (f (.int i t)) Q E s) :
  Zw X f (rU λi=>.int (g i)):=by
 intro h_ s σ H x v Q I c h;obtain⟨i,rfl,q⟩:=h;obtain⟨t,rfl⟩:=c;exact rule i t s _ _ ⟨.int (g i),H,I.tok _,⟨_,rfl⟩,q⟩
def QA:Zw X (unaryOp .USub) (rU λi=>.int (-i)):=unI λ_ _ _ _ _ q=>neg_int q
end
section
variable{b:aX}{tb:TE}
def C9(I:Inv X h_ σ H s)(q:Q (.bl k) H)(e:k=k'):EP X h_ σ Q (.bool k') s:=by
 subst e;exact⟨.bl k,H,I,rfl,q⟩
def Wc:j7 X (compareOp .Lt) (PD λi j=>.bl (decide (i<j))):=Wf λ_ _ _ _ _ _ _ q=>nM q
def Wd:j7 X (compareOp .Gt) (PD λi j=>.bl (decide (j<i))):=Wf λ_ _ _ _ _ _ _ q=>gt_int q
def GN:j7 X (compareOp .In) (λx y H Q=>∃i j,x=.str i/\y=.str j/\Q (.bl (!(iV j i 0 j.length 1).isEmpty)) H):=by
 intro h_ s σ H x y v u Q I c d h;obtain⟨i,j,rfl,rfl,q⟩:=h;obtain⟨t,rfl⟩:=c;obtain⟨t',rfl⟩:=d;exact in_str (C9 I q rfl)
def Sn:j7 X (compareOp .Is) (λx y H Q=>y=.non/\Q (.bl (decide (x=.non))) H):=by
 intro h_ s σ H x y v u Q I c d h;obtain⟨rfl,q⟩:=h;cases d;refine is_none_gen (C9 I q ?_)
 cases x<;>first
  |(cases c;rfl)
  |(obtain⟨t,rfl⟩:=c;rfl)
def Nz:j7 X (compareOp .IsNot) (λx y H Q=>y=.non/\Q (.bl (!decide (x=.non))) H):=by
 intro h_ s σ H x y v u Q I c d h;obtain⟨rfl,q⟩:=h;cases d;refine isnot_none_gen (C9 I q ?_)
 cases x<;>first
  |(cases c;rfl)
  |(obtain⟨t,rfl⟩:=c;rfl)
def Nv(ho:j7 X (compareOp op) r)(ha:PE X a ta)(hb:PE X b tb)(c:behindInMarks op b=d_):PE X (.Compare a [op] [b] pos) (Pr r ta tb):=by
 intro h_ s σ H Q I h;exact wpAny_Compare1 (Uv ha hb I h λv u s2 x y H2 d g j q=>ho h_ s2 σ H2 x y v u Q d g j q) c
def Vq(t:TE):TT:=λσ H Q=>t σ H λx H'=>∃k,x=.bl k/\Q k H'
def Nl(ho:j7 X (compareOp op) r)(ha:PE X a ta)(hb:PE X b tb)(d:behindInMarks op b=d_):PT X (.Compare a [op] [b] pos) (Vq (Pr r ta tb)):=by
 intro h_ s σ H Q I h
 refine wpAny_isTrue_Compare1 (iL (ha h_ s σ H _ I h) λv s1 ⟨x,g,j,l,q⟩=>iL (hb h_ s1 σ g _ j q) λu s2 ⟨y,H2,B,D,J⟩=>
  iL (ho h_ s2 σ H2 x y v u _ B l D J) λc s3 ⟨z,L,M,O,k,e,R⟩=>?_) d
 subst e;cases O;exact gC ⟨L,M,R⟩
def UD(K:aJ)(x:V)(H:Hp)(k:Bool):Prop:=
 match x with
 |.non=>k=d_
 |.bl b=>k=b
 |.int i=>k=(i != 0)
 |.str y=>y.length<=ax/\k=((y.length:Int) != 0)
 |.byt y=>y.size<=ax/\k=((y.size:Int) != 0)
 |.ref p=>(∃xs,mo K H p xs/\k=!xs.isEmpty)\/(∃xs,sk K H p xs/\k=!xs.isEmpty)\/∃k_,H p=a_ (.dK k_)/\k=!k_.isEmpty
 |_=>False
def CZ{κ:Type}{k_:List (κ×V)}{vs:List (κ×ah)}(r:KV k_ vs):(!vs.isEmpty)=!k_.isEmpty:=by
 cases r<;>rfl
def uX(r:cF xs its):(!its.toArray.isEmpty)=!xs.isEmpty:=by
 cases r<;>simp
def rT:(ax:Nat)<2 ^ 63:=by decide
def Im:Zx X (λx H Q=>∃k,UD X.K x H k/\Q k H):=by
 intro h_ s σ H x v Q I d h;obtain⟨k,e,q⟩:=h;have hs :=gD
 cases x with
 |non=>
   cases d;have c :=e;subst c;exact truthy_none ⟨H,I,q⟩
 |bl b=>
   cases d;have c :=e;subst c;exact gC ⟨H,I,q⟩
 |int i=>
   obtain⟨t,rfl⟩:=d;have c :=e;subst c;exact PySem.P.truthy_int ⟨H,I,q⟩
 |str y=>
   obtain⟨t,rfl⟩:=d;obtain⟨j,c⟩:y.length<=ax/\k=((y.length:Int) != 0):=e;subst c;exact PySem.P.truthy_str (by omega) ⟨H,I.tok _,q⟩
 |byt y=>
   obtain⟨t,rfl⟩:=d;obtain⟨j,c⟩:y.size<=ax/\k=((y.size:Int) != 0):=e;subst c;exact PySem.W.truthy_bytes (ab j (by decide)) ⟨H,I.tok _,q⟩
 |ref p=>
   cases d;have c :=e
   rcases c with⟨xs,g,c⟩|⟨xs,g,c⟩|⟨k_,g,c⟩
   ·subst c;obtain⟨its,r,pl,l⟩:=I.list g;have hlen:=r.length;exact wpAny_truthy_list pl.isList (by simp only[bp];omega) ⟨H,I.tok _,by rw[uX r];exact q⟩
   ·subst c;obtain⟨its,r,pl,l⟩:=I.tuple g;have hlen:=r.length;exact truthy_tuple pl (by simp only[bp];omega) ⟨H,I.tok _,by rw[uX r];exact q⟩
   ·subst c;obtain⟨l,z,vs,r,m⟩:k_.length<=ax/\(p == sysModules)=d_/\∃vs,KV k_ vs/\s.heap.DictOf (cv X.prog X.w) p vs:=I.hok p _ g;have hlen :=pG r;exact wpAny_truthy_dict z m (by omega) ⟨H,I.tok _,by rw[CZ r];exact q⟩
 |_=>exact(e).elim
def Jd(ha:PE X a ta)(c:∀whole,isTrue a X.env whole=(do let v <-whole;standAt a.pos;holding [v] (truthy v))) :
  PT X a (λσ H Q=>ta σ H λx H'=>∃k,UD X.K x H' k/\Q k H'):=by
 intro h_ s σ H Q I h;exact isTrue_plain (iL (ha h_ s σ H _ I h) λv s1 ⟨x,d,g,j,l⟩=>Im h_ s1 σ d x v Q g j l) (c _)
def CB:j7 X (binaryOp .Add) (λx y H Q=>∃i j,x=.str i/\y=.str j/\i.length+j.length<=ax/\Q (.str (i++j)) H):=by
 intro h_ s σ H x y v u Q I c d h;obtain⟨i,j,rfl,rfl,g,q⟩:=h;obtain⟨t,rfl⟩:=c;obtain⟨t',rfl⟩:=d;exact add_str (λt' k=>⟨.str (i++j),H,I.tok _,⟨_,rfl⟩,q⟩) g
def vals1(r:cF [x] us):∃u,us=[u]/\RelV x u:=by
 cases r with
 |cons c d=>cases d;exact⟨_,rfl,c⟩
def vals2(r:cF [x,y] us):∃u c,us=[u,c]/\RelV x u/\RelV y c:=by
 cases r with
 |cons d g=>
   cases g with
   |cons j k=>cases k;exact⟨_,_,rfl,d,j⟩
def Ho:km X (.type "int") (λxs H Q=>(∃i,xs=[.int i]/\Q (.int i) H)\/∃k,xs=[.bl k]/\Q (.int (if k then 1 else 0)) H):=by
 intro h_ s σ H xs us Q I r h
 rcases h with⟨i,rfl,q⟩|⟨k,rfl,q⟩
 ·obtain⟨u,rfl,t,rfl⟩:=vals1 r;exact call_int_int ⟨.int i,H,I,⟨_,rfl⟩,q⟩
 ·obtain⟨u,rfl,c⟩:=vals1 r;cases c;exact call_int_bool ⟨.int (if k then 1 else 0),H,I.tok _,⟨_,rfl⟩,q⟩
def yN:km X (.type "str") (λxs H Q=>∃i,xs=[.int i]/\i.natAbs.log2<1920/\Q (.str (toString i)) H):=by
 intro h_ s σ H xs us Q I r h;obtain⟨i,rfl,c,q⟩:=h;obtain⟨u,rfl,t,rfl⟩:=vals1 r;exact PySem.P.str_of_int c ⟨.str _,H,I.tok _,⟨_,rfl⟩,q⟩
end
section
variable{K:aJ}
end
noncomputable def rH(f:bc)(v:V):List (bc×V)->List (bc×V)
 |[]=>[(f,v)]
 |(g,x)::r=>if g=f then(g,v)::r else(g,x)::rH f v r
def v3.some_of(r:v3 (a_ v) o):∃u,o=a_ u/\RelV v u:=by
 cases o with
 |none=>exact(r).elim
 |some u=>exact⟨u,rfl,r⟩
section
end
section
end
section
end
section
end
structure mU(k:Nat)(A:bP):Prop where
 hd:A.handled=b_
 dp:A.depth+3 * k+5<recursionLimit
 un:A.units+16 * k+200<dh
def mU.deeper(r:mU (k+1) A)(env:Pe):mU k (A.deeper env):=
 ⟨r.hd,by have:=r.dp;show A.depth+1+3 * k+5<_;omega,by have:=r.un;show A.units+3+16 * k+200<_;omega⟩
def mU.depth(r:mU k A):A.depth<recursionLimit:=by have:=r.dp;omega
def mU.units(r:mU k A):A.units+64<dh:=by have:=r.un;omega
def Vs:TA:=λ_ H Q=>Q [] H
def Vu(ta:TE)(tr:TA):TA:=λσ H Q=>ta σ H λx c=>tr σ c λxs H2=>Q (x::xs) H2
section
variable{t:TA}
def x8:PA X [] Vs:=λ_ _ _ _ H Q I h=>rm ⟨[],H,I,.nil,h⟩
def qm(ha:PE X e te)(c:PA X es t)(hs:aO (e::es) X.env=(d_,eval e X.env)::aO es X.env:=by rfl):PA X (e::es) (Vu te t):=by
 intro pos h_ s σ H Q I h;rw[hs];refine FU (iL (ha h_ s σ H _ I h) λu s1 ⟨x,d,g,j,k⟩=>?_);exact iL (c pos h_ s1 σ d _ g k) λus s2 ⟨xs,H2,l,q,v⟩=>⟨x::xs,H2,l,.cons j q,v⟩
def Yb(t:TA):TE:=λσ H Q=>t σ H λxs c=>xs.length<=ax/\∀p,c p=b_->Q (.ref p) (upd c p (.tup xs))
def Yg(t:TA):TE:=λσ H Q=>t σ H λxs c=>xs.length<=ax/\∀p,c p=b_->Q (.ref p) (upd c p (.lst xs))
def R6{x1}(h:PA X es t):PE X (.Tuple es x1 pos) (Yb t):=by
 intro h_ s σ H Q I d;refine wpAny_Tuple_spliced (iL (h pos h_ s σ H _ I d) λus s1 ⟨xs,g,c,r,z,q⟩=>⟨by rw[<-r.length];exact z,?_⟩);have hf :=c.hok.fresh (ao _);refine⟨.ref s1.heap.objs.size,upd g s1.heap.objs.size (.tup xs),c.laid (λb u e=>hp9 _ e) (ao _) ?_,rfl,q _ hf⟩;exact⟨z,us,r,⟨_,aG _ rfl,rfl,_,rfl⟩⟩
def Sa(h:PA X es t):PE X (.List es pos) (Yg t):=by
 intro h_ s σ H Q I d;refine wpAny_List_spliced (iL (h pos h_ s σ H _ I d) λus s1 ⟨xs,g,c,r,z,q⟩=>⟨by rw[<-r.length];exact z,?_⟩);have hf :=c.hok.fresh (ao _);refine⟨.ref s1.heap.objs.size,upd g s1.heap.objs.size (.lst xs),c.laid (λb u e=>hp9 _ e) (ao _) ?_,rfl,q _ hf⟩;exact⟨z,us,0,r,aG _ rfl⟩
end
abbrev Sp:=List V->Hp->VK->XK->Prop
abbrev Vf:=List Pe->Hp->ai->XK->ah->ai->Prop
structure iJ(P:cg)(w:cZ)(K:aJ)(mg:bc->Option ah)(base:cc)(A:bP)(outer:List Pe)(s:ai)(H:Hp):Prop where
 frames:A.frames=a_ outer
 mod:Mod K mg base
 bs:∀b o,base.get? b=a_ o->s.heap.get? b=a_ o/\H b=b_
 bsz:base.objs.size<=s.heap.objs.size
 va:s.heap.FunFrames base outer
 frf:∀b∈HH outer,H b=b_
 hok:qO P w H s.heap
 bare:n4 s.gens
def CE(outer:List Pe)(P:cg)(w:cZ)(H:Hp)(s:ai)(Q:VK)(u:ah)(s':ai):Prop:=
 ∃v H',s'.os=s.os/\n4 s'.gens/\Un (HH outer) [] H H' s.heap s'.heap/\qO P w H' s'.heap/\RelV v u/\Q v H'
def CR(CX:Vf)(outer:List Pe)(P:cg)(w:cZ)(H:Hp)(s:ai)(Q:VK)(E:XK)(r:Result)(s':ai):Prop:=
 match r with
 |.ok (.ret u)=>CE outer P w H s Q u s'
 |.ok _=>False
 |.error e=>CX outer H s E e s'
structure nK(P:cg)(w:cZ)(K:aJ)(mg:bc->Option ah)(base:cc)(CX:Vf)(k:Nat)(f:aF)(fd:jG)(ps:List bc)(sp:Sp):Prop where
 len:∀vs H Q E,sp vs H Q E->vs.length=ps.length
 run:∀(A:bP)(outer:List Pe)(s:ai)(H:Hp)(args:Args)(us:List ah)(vs:List V)(Q:VK)(E:XK),mU k A->iJ P w K mg base A outer s H->By s fd args (ps.zip us)->cF vs us->sp vs H Q E->
  codeAny (aD P w) A (.call (.ref f) args) (CR CX outer P w H s Q E) s
def nK.imp{K:aJ}{base:cc}(F:nK P w K mg base CX k f fd ps sp)
  (h:∀vs H Q E,sp' vs H Q E->sp vs H Q E):nK P w K mg base CX k f fd ps sp':=
 ⟨λvs H Q E q=>F.len vs H Q E (h _ _ _ _ q),λA outer s H args us vs Q E c d hb g hs=>F.run A outer s H args us vs Q E c d hb g (h _ _ _ _ hs)⟩
section
def Inv.Zj(I:Inv X h_ σ H s):iJ X.prog X.w X.K X.mg X.base X.A X.stack s H:=
 ⟨I.ok.frames,I.ok.mod,I.bs,ab I.ok.bsz I.sz,I.stack,I.DO,I.hok,I.bare⟩
def Inv.after(I:Inv X h_ σ H s)(h:CE X.stack X.prog X.w H s Q u s'):EP X h_ σ Q u s':=by
 obtain⟨v,H',os,bare,un,hok,r,q⟩:=h;obtain⟨hh,g,d,t,c⟩:=s';obtain rfl:c=s.os:=os;exact⟨v,H',I.call un hok bare (λb z=>absurd z (by simp)),r,q⟩
end
def Pt(sp:Sp)(c:List V)(E:XK)(t:TA):TE:=λσ H Q=>t σ H λvs d=>sp (vs++c) d Q E
def Binds(K:aJ)(fd:jG)(ps:List bc)(ds:List ah):Prop:=
 ∀(s:ai)(us:List ah),K.In s.heap->(us++ds).length=ps.length->By s fd ⟨us,[]⟩ (ps.zip (us++ds))
def Binds.all{K:aJ}{ps:List bc}(h:∀us:List ah,us.length=ps.length->bindArgs fd ⟨us,[]⟩=pure (ps.zip us)):Binds K fd ps []:=λs us _ hl=>by
 rw[az]at hl ⊢;exact .of_eq (h us hl)
def yV(CX:Vf)(X:Cx)(E:XK):Prop:=∀(h_:List (aF×kL))(σ:St)(H:Hp)(s:ai)(e:ah)(s':ai),Inv X h_ σ H s->CX X.stack H s E e s'->X.xe e s'
section
variable{X:Cx}{f C:aF}
def IT(F:nK X.prog X.w X.K X.mg X.base CX k f fd ps sp)(g:mU k X.A)(hb:Binds X.K fd ps ds)(hd:cF dvs ds)(j:yV CX X E)
  (I:Inv X h_ σ H s)(r:cF vs us)(h:sp (vs++dvs) H Q E):aA (aD X.prog X.w) X.A (call (.ref f) us) (EP X h_ σ Q) X.xe s:=by
 have d :=r.append hd;have hl:(us++ds).length=ps.length:=by rw[<-d.length];exact F.len _ _ _ _ h
 refine wpAny_call (ko (F.run X.A X.stack s H ⟨us,[]⟩ (us++ds) (vs++dvs) Q E g I.Zj (hb s us I.CU hl) d h) λr s' c=>?_)
 cases r with
 |error e=>exact j h_ σ H s e s' I c
 |ok fl=>
   cases fl with
   |ret u=>exact I.after c
   |next=>exact iO c
   |brk=>exact iO c
   |cont=>exact iO c
def Nw(F:nK X.prog X.w X.K X.mg X.base CX k f fd ps sp)(j:mU k X.A)(l:Gl X x)(v:X.mg x=a_ (.ref f))(y:f7 X.K (.ref f)=c_)(hb:Binds X.K fd ps ds)(hd:cF dvs ds)(z:yV CX X E)
  (ha:PA X (e::es) t)(c:(x == ("__debug__":bc))=d_)(B:aO (e::es) X.env=(d_,eval e X.env)::aO es X.env)(d:(backTo pos (aO es X.env)).any (·.1)=d_) :
  PE X (.Call (.Name x p) (e::es) [] pos) (Pt sp dvs E t):=by
 intro h_ s σ H Q I h;refine eT (yq I l v ?_ c);refine PySem.W.callWith_K I.ok.mod.kin y (iL (ha pos h_ s σ H _ I h) λus s1 ⟨vs,D,g,r,q⟩=>⟨g.CU,?_⟩) B d;exact IT F j hb hd z g r q
def Jt(F:nK X.prog X.w X.K X.mg X.base CX k f fd ps sp)(d:mU k X.A)(g:Gl X x)(j:X.mg x=a_ (.ref f))(l:f7 X.K (.ref f)=c_)(hb:Binds X.K fd ps ds)(hd:cF dvs ds)(q:yV CX X E)
  (c:(x == ("__debug__":bc))=d_):PE X (.Call (.Name x p) [] [] pos) (Pt sp dvs E Vs):=by
 intro h_ s σ H Q I h;refine eT (yq I g j ?_ c);exact PySem.W.callWith_K0 I.CU l (IT F d hb hd q I .nil h)
structure Mk(K:aJ)(C f:aF):Prop where
 makes:PySem.W.makesIn K C=c_
 init:PySem.W.findIn K (.ref C) "__init__"=a_ (a_ (.ref f))
 fn:PySem.W.isFn K (.ref f)=c_
 kp:f7 K (.ref C)=c_
end
section
end
structure qQ(N P:List bc)(sc:my):Prop where
 kind:sc.kind=.function
 co:sc.isCoroutine=d_
 gen:sc.isGenerator=d_
 nd:N.Nodup
 pre:N.take P.length=P
 par:∀x∈P,sc.names.lookup x=a_ .local\/sc.names.lookup x=a_ .cell
 nofree:∀y∈sc.names,y.2≠.free
theorem xv{kindOf:bc->Option ku}:∀{binds:List (bc×ah)}{m:bc->Option ah},(∀v,(x,v)∉binds)->bindL kindOf binds m x=m x
 |[],_,_=>rfl
 |(n,v)::r,m,h=>by
   unfold bindL;rw[xv λw c=>h w (kD _ c)];split
   ·grind
   ·rfl
theorem xx{kindOf:bc->Option ku}:∀{binds:List (bc×ah)}{m:bc->Option ah},(∀v,(x,v)∉binds)->bindC kindOf binds m x=m x
 |[],_,_=>rfl
 |(n,v)::r,m,h=>by
   unfold bindC;rw[xx λw c=>h w (kD _ c)];split
   ·rfl
   grind
theorem xw{kindOf:bc->Option ku}:∀{P:List bc} {vs:List ah} {i:Nat} {m:bc->Option ah},P.Nodup->P[i]?=a_ x->vs[i]?=a_ v->kindOf x=a_ .local->
  bindL kindOf (P.zip vs) m x=a_ v
 |[],_,_,_,_,h,_,_=>by simp at h
 |_::_,[],_,_,_,_,h,_=>by simp at h
 |p::P,w::vs,0,m,nd,h1,h2,c=>by
   simp at h1 h2;subst h1;subst h2;show bindL kindOf ((p,w)::P.zip vs) m p=_;unfold bindL;rw[xv λv d=>(aT.mp nd).1 (ji d).1,if_pos c];simp
 |p::P,w::vs,i+1,m,nd,h1,h2,c=>by
   show bindL kindOf ((p,w)::P.zip vs) m x=_;exact xw (aT.mp nd).2 (by simpa using h1) (by simpa using h2) c
theorem xA{kindOf:bc->Option ku}:∀{P:List bc} {vs:List ah} {i:Nat} {m:bc->Option ah},P.Nodup->P[i]?=a_ x->vs[i]?=a_ v->kindOf x≠a_ .local->
  bindC kindOf (P.zip vs) m x=a_ v
 |[],_,_,_,_,h,_,_=>by simp at h
 |_::_,[],_,_,_,_,h,_=>by simp at h
 |p::P,w::vs,0,m,nd,h1,h2,c=>by
   simp at h1 h2;subst h1;subst h2;show bindC kindOf ((p,w)::P.zip vs) m p=_;unfold bindC;rw[xx λv d=>(aT.mp nd).1 (ji d).1,if_neg c];simp
 |p::P,w::vs,i+1,m,nd,h1,h2,c=>by
   show bindC kindOf ((p,w)::P.zip vs) m x=_;exact xA (aT.mp nd).2 (by simpa using h1) (by simpa using h2) c
noncomputable def start(N:List bc)(vs:List V):St:=vs.map a_++dB (N.length - vs.length) b_
noncomputable def Bb(CX:Vf)(P:cg)(w:cZ)(K:aJ)(mg:bc->Option ah)(base:cc)(N:List bc)(qual:bc)(scope:my)(f:aF)(d:ah)(A:bP)(outer:List Pe)(s:ai)(H:Hp)(E:XK):Cx where
 prog:=P
 w:=w
 K:=K
 mg:=mg
 base:=base
 A:=A.deeper (envOfC qual scope s.heap.objs.size f d)
 N:=N
 s₀:=s
 H₀:=H
 env:=envOfC qual scope s.heap.objs.size f d
 outer:=outer
 stack:=envOfC qual scope s.heap.objs.size f d::outer
 ex:=[]
 calm:=c_
 fn:=λ_=>c_
 pn:=[]
 xe:=λe s'=>aA (aD P w) (A.deeper (envOfC qual scope s.heap.objs.size f d)) (leaving (envOfC qual scope s.heap.objs.size f d) e) (λ_ c=>CX outer H s E e c) (λg c=>CX outer H s E g c) s'
def Bf{sc:my}(h:sc.names.lookup x=a_ .cell):∃c,(cellsFrom n sc.names []).lookup x=a_ c:=by
 have q:=xH sc.names n [] (.inl h);exact mz.mp q
def G6{K:aJ}{base:cc}{A:bP}{s1:ai}{vs:List V}
  (S:qQ N ps scope)(hd:A.handled=b_)(d:iJ P w K mg base A outer s H)(hl:vs.length=ps.length)(r:cF vs us)
  (x:InCallC s s.heap.objs.size (bindL (envOfC qual scope s.heap.objs.size f cd).kindOf (ps.zip us) λ_=>b_) (cellsFrom (s.heap.objs.size+1) scope.names []) (bindC (envOfC qual scope s.heap.objs.size f cd).kindOf (ps.zip us) λ_=>b_) s1) :
  Inv (Bb CX P w K mg base N qual scope f cd A outer s H E) [] (start N vs) H s1:=by
 have B:ps.length<=N.length:=by have:=congrArg fj S.pre;rw[eK]at this;exact ab (af this.symm) (kA _ _)
 obtain⟨h1,M,rfl,D⟩:=x.done;have g:∀b:aF,b∉(Bb CX P w K mg base N qual scope f cd A outer s H E).ex:=λb z=>absurd (show b∈([])from z) (by simp)
 refine⟨⟨d.mod,S.kind,rfl,rfl,ao _,λy z c h1 h2=>?_,λy j=>?_,λy c _ h=>?_,λ_=>hd,Around.frames_deeper d.frames,.inr ⟨rfl,rfl⟩,λb z=>absurd z (g b),d.bs,d.bsz,λb _ _=>g b,λb z=>absurd z (g b),d.va,d.frf⟩,
  rfl,d.bare,Un.kept D,⟨_,x.toInCall.ns,λi y v h1 h2 h3=>?_⟩,λy c h=>⟨_,x.cell y c h⟩,d.hok.fresh (ao _),λy c h=>?_,λp hp=>absurd (show p∈([])from hp) (by simp),d.hok.kept D,?_⟩
 ·exact name_of_addr x.apart (gu h1) (gu h2)
 ·rcases j with j|j
  ·exact Bf j
  ·exact absurd rfl (S.nofree _ (gu j))
 ·exact be (x.above y c (gu h))
 ·have hi:i<vs.length:=by
   unfold start at h2;by_cases hi:i<vs.length
   ·exact hi
   ·rw[aQ (by simpa using hi)]at h2;rw[eW]at h2
    grind
  have ha:vs[i]?=a_ v:=by
   unfold start at h2;rw[aU (by simpa using hi),aM]at h2
   simp_all
  obtain⟨u,J,L⟩:=r.get ha
  have hp:ps[i]?=a_ y:=by
   rw[<-S.pre,List.getElem?_take_of_lt (ab hi (af hl))];exact h1
  have l:ps.Nodup:=by rw[<-S.pre];exact S.nd.sublist (iy _ _)
  refine⟨u,L,?_⟩
  rcases S.par y (aR hp)with k|k
  ·exact .inl ⟨k,xw l hp J k⟩
  ·obtain⟨c,e⟩:=Bf k;refine .inr ⟨.inl k,c,e,?_⟩;have q:=x.cell y c e;rw[xA l hp J (by show scope.names.lookup y≠_;rw[k];decide)]at q;exact q
 ·exact d.hok.fresh (be (x.above y c (gu h)))
 ·unfold start;rw[ag,aw,iu];exact fY (ab (af hl) B)
def WU{K:aJ}{base:cc}{kV:ah}
  (O:K.lookup f=a_ ⟨oc,od,.func (p7 name qual params body scope dV kV doc pm an cdv ct),osl⟩)(z:t5 K cdv qual=c_)(S:qQ N ps scope)
  (len:∀vs H Q E,sp vs H Q E->vs.length=ps.length)
  (d:∀(A:bP)(outer:List Pe)(s:ai)(H:Hp)(vs:List V)(Q:VK)(E:XK),mU k (A.deeper (envOfC qual scope s.heap.objs.size f cdv))->sp vs H Q E->
   ∃t,Bt (Bb CX P w K mg base N qual scope f cdv A outer s H E) body t/\t { nx:=λ_ H'=>Q .non H',rt:=Q } (start N vs) H) :
  nK P w K mg base CX (k+1) f (p7 name qual params body scope dV kV doc pm an cdv ct) ps sp:=by
 refine⟨len,λA outer s H args us vs Q E B j hb r l=>?_⟩;have hl:=len _ _ _ _ l;have M :=j.mod.kin.keeps λb o e=>(j.bs b o e).1;have D :=j.mod.nolimit.keeps λb o e=>(j.bs b o e).1
 have g:∀y∈ps.zip us,scope.names.lookup y.1=a_ .local\/(scope.names.lookup y.1=a_ .cell/\((cellsFrom (s.heap.objs.size+1) scope.names []).lookup y.1).isSome=c_):=λz0 R=>by
  obtain⟨n,v⟩:=z0
  rcases S.par n (ji R).1 with q|q
  ·exact .inl q
  ·exact .inr ⟨q,xH _ _ _ (.inl q)⟩
 refine codeAny_call_function B.depth (M _ _ O) rfl S.co S.gen rfl (PySem.W.codeRec_of M z) (hb _ _ _ _ ?_);refine wpAny_newFunctionEnv_cells S.kind g λenv U s1 x=>?_;subst U;refine⟨D.keeps x.toInCall.keep,codeAny_func ?_⟩;obtain⟨t,ht,Y⟩:=d A outer s H vs Q E (B.deeper _) l;have I:Inv (Bb CX P w K mg base N qual scope f cdv A outer s H E) [] (start N vs) H s1:=G6 S B.hd j hl r x;refine c9 (ht [] s1 (start N vs) H _ I Y) (λfl s' hs=>?_) λe s' hs=>hs
 have fin:∀{c:St}{H':Hp}{v:V}{u:ah},Inv (Bb CX P w K mg base N qual scope f cdv A outer s H E) [] c H' s'->RelV v u->Q v H'->CE outer P w H s Q u s':=
  λ{c H' v u}J L q=>⟨v,H',J.os,J.bare,J.base,J.hok,L,q⟩
 cases fl with
 |ret u=>
   obtain⟨v,c,H',J,L,q⟩:=hs;exact fin J L q
 |next=>
   obtain⟨c,H',J,q⟩:=hs;exact fin (v:=V.non) J rfl q
 |brk=>
   obtain⟨_,_,_,q⟩:=hs;exact iO q
 |cont=>
   obtain⟨_,_,_,q⟩:=hs;exact iO q
section
variable{t:TA}{id T:String}{r:List V->Hp->VK->Prop}
def Yj(r:List V->Hp->VK->Prop)(t:TA):TE:=λσ H Q=>t σ H λvs c=>r vs c Q
def Aa(g:km X (.builtin id) r)(j:Gl X x)(k:X.mg x=b_)(l:bootBuiltins x=a_ (.builtin id))(ha:PA X (e::es) t)(q:x≠"__name__")(c:(x == ("__debug__":bc))=d_)
  (v:aO (e::es) X.env=(d_,eval e X.env)::aO es X.env)(d:(backTo pos (aO es X.env)).any (·.1)=d_):PE X (.Call (.Name x p) (e::es) [] pos) (Yj r t):=by
 intro h_ s σ H Q I h;refine eT (k9 I j k l ?_ q c);exact o8 (iL (ha pos h_ s σ H _ I h) λus s1 ⟨vs,y,z,B,D⟩=>g h_ s1 σ y vs us Q z B D) v d
def GL(g:km X (.type T) r)(j:Gl X x)(k:X.mg x=b_)(l:bootBuiltins x=a_ (.type T))(ha:PA X (e::es) t)(q:x≠"__name__")(c:(x == ("__debug__":bc))=d_)
  (v:aO (e::es) X.env=(d_,eval e X.env)::aO es X.env)(d:(backTo pos (aO es X.env)).any (·.1)=d_):PE X (.Call (.Name x p) (e::es) [] pos) (Yj r t):=by
 intro h_ s σ H Q I h;refine eT (k9 I j k l ?_ q c);exact c6 (iL (ha pos h_ s σ H _ I h) λus s1 ⟨vs,y,z,B,D⟩=>g h_ s1 σ y vs us Q z B D) v d
end
end L2
namespace HT
open PySem PyProof.Rows
section
open PySem.SeqAt
open PySem.AutoSeq1 (wpAny_loadPart')
open PySem.MeetsSeq PySem.MeetsSeq2 PySem.MeetsSeq3
end
section
variable{s:ai}
def OH{vs ws:List ah}(ht:y7 s.heap t vs.toArray)(hb:y7 s.heap b ws.toArray)(l:vs≠[])
  (h1:ws=[]->Q (.ref t) s)(h2:ws≠[]->Q (.ref s.heap.objs.size) { s with heap:=s.heap.push { cls:=.type "tuple",data:=.seq (vs++ws).toArray } })
  (hsz:vs.length+ws.length<=ax):aA (aD prog w) A (binaryOp .Add (.ref t) (.ref b)) Q E s:=by
 obtain⟨⟨cls,q,data,sl⟩,ho,z,n,hd⟩:=id ht;obtain⟨⟨v,d,data2,xW⟩,c,j,y,k⟩:=id hb;subst z hd j k;have e:vs.toArray++ws.toArray=(vs++ws).toArray:=by simp
 by_cases g:ws=[]
 ·exact vF ⟨_,ho,rfl⟩ ⟨_,c,rfl⟩ xG FO m6 mF (lY _ _)
   (tuple_addW1 t b vs.toArray ws.toArray n y q d sl xW (by simpa using l) (by simp[g])) ⟨ho,c,h1 g⟩
 ·refine vF ⟨_,ho,rfl⟩ ⟨_,c,rfl⟩ xG FO m6 mF (lY _ _)
   (tuple_addW2 t b vs.toArray ws.toArray n y q d sl xW (by simpa using l) (by simpa using g) (by exact hsz)) ⟨ho,c,?_⟩
  rw[e];exact h2 g
noncomputable def iD(n d:Nat):Option Int->Nat
 |none=>d
 |some v=>if v<0 then(v+(n:Int)).toNat else min v.toNat n
def zQ(n d:Nat):iD n d b_=d:=rfl
def XG(n d k:Nat):iD n d (a_ (k:Int))=min k n:=by
 show(if(k)<0 then((k:Int)+(n)).toNat else min (k:Int).toNat n)=min k n;simp
def RC(n d:Nat)(hd:d<=n)(o:Option Int):iD n d o<=n:=by
 cases o with
 |none=>exact hd
 |some v=>
   show(if v<0 then(v+(n)).toNat else min v.toNat n)<=n;by_cases c:v<0
   ·rw[if_pos c];omega
   ·rw[if_neg c];exact kA _ _
def Fv(v:Int)(n d:Nat):(if v<0 then max (v+(n:Int)) 0 else min v (n:Int))=((iD n d (a_ v):Nat):Int):=by
 show(if v<0 then max (v+(n)) 0 else min v (n))=(((if v<0 then(v+(n)).toNat else min v.toNat n):Nat):Int)
 grind
def Dy(lo hi:Option Int)(n:Nat):qR lo hi 1 (n:Int)=(((iD n 0 lo:Nat):Int),((iD n n hi:Nat):Int)):=by
 refine DH ?_ ?_
 ·cases lo with
  |none=>rfl
  |some v=>exact Fv v n 0
 ·cases hi with
  |none=>rfl
  |some v=>exact Fv v n n
def Cy(i j:Nat):ie (i:Int) (j:Int) 1=j - i:=by
 unfold ie
 grind
def uv(p:rj v o)(h:Q o s):aA (aD prog w) A (Builtin.Slice.slicePartIndex v) Q E s:=by
 cases p with
 |none=>exact slicePart_none h
 |int i t=>exact slicePart_int h
def mK{sl:aF}{g j:ah}{lo hi:Option Int}{n:Nat}{Q:Int×Int×Nat->ai->Prop}(hs:s.heap.IsSliceOf sl g j .none)(pl:rj g lo)(k:rj j hi)
  (h:Q (((iD n 0 lo:Nat):Int),1,iD n n hi - iD n 0 lo) s):aA (aD prog w) A (Builtin.Slice.sliceApplied (.ref sl) (pure (n:Int))) Q E s:=by
 obtain⟨os,c,l,d⟩:=id hs;refine wb9 (wb9 (cQ c d (x:=g) rfl (wb9 (cQ c d (x:=j) rfl (wb9 (cQ c d rfl (wu9 ?_)))))));refine wb9 (slicePart_none ?_);refine wb9 (uv pl (wb9 (uv k (wb9 (wu9 ?_)))));show aA _ _ (match qR lo hi 1 (n)with|(lo,hi)=>pure (lo,(1:Int),ie lo hi 1)) _ _ s;rw[Dy lo hi n];show aA _ _ (pure (((iD n 0 lo):Int),(1),ie ((iD n 0 lo):Int) ((iD n n hi):Int) 1)) _ _ s;rw[Cy];exact wu9 h
def Ji(xs:Array ah)(i k:Nat):((aK k).filterMap λ(m:Nat)=>xs[((i:Int)+(m:Int) * 1).toNat]?).toArray=((xs.toList.drop i).take k).toArray:=by
 have e:(λ(m:Nat)=>xs[((i:Int)+(m) * 1).toNat]?)=λm=>xs[i+m]? :=by
  funext m
  grind
 rw[e];have:=pick_run xs i k;rw[HD]at this;have e2:((λx=>xs[x]?) ∘ λx=>i+x)=λm=>xs[i+m]? :=rfl
 simp_all
def qy{sl:aF}{lo:Option Int}(ht:y7 s.heap t items)(hs:s.heap.IsSliceOf sl vl vu .none)(pl:rj vl lo)(l:rj vu hi)
  (v:¬(iD items.size 0 lo=0/\iD items.size items.size hi=items.size))
  (h:Q (.ref s.heap.objs.size) { s with heap:=s.heap.push { cls:=.type "tuple",data:=.seq ((items.toList.drop (iD items.size 0 lo)).take (iD items.size items.size hi - iD items.size 0 lo)).toArray } })
  (hsz:items.size<=ax):aA (aD prog w) A (getItem (.ref t) (.ref sl)) Q E s:=by
 have c:sizeOk (.seq ((items.toList.drop (iD items.size 0 lo)).take (iD items.size items.size hi - iD items.size 0 lo)).toArray):=by
  show((items.toList.drop (iD items.size 0 lo)).take (iD items.size items.size hi - iD items.size 0 lo)).toArray.size<=ax;rw[bp,eK,dP,aY];omega
 have y:iD items.size items.size hi<=items.size:=RC _ _ (ao _) hi;obtain⟨os,d,g,q⟩:=id hs;have j:s.TypeIs (.ref sl) "slice":=⟨os,d,g⟩
 unfold getItem
 try with_reducible refine bR ?_
 first|grind|skip
 refine wb9 (wpAny_sequenceKey ht.typeIs (by decide) ?_)
 refine wb9 (cx ht.typeIs c8
  (bH c8 ht.typeIs entry_tuple_getitem ?_ (args_tuple_getitem _ _)))
 show aA _ _ (j8 (.ref t) >>= _) _ _ s;refine wb9 (tupleItemsOf_ ht ?_);refine wb9 (iw j ?_);refine wb9 (mK hs pl l ?_)
 have k:¬((((iD items.size 0 lo):Int) == 0 && (1:Int) == 1 && (iD items.size items.size hi - iD items.size 0 lo) == items.size)=c_):=by
  simp_all
 show aA _ _ (if(((iD items.size 0 lo):Int) == 0 && (1) == 1 && (iD items.size items.size hi - iD items.size 0 lo) == items.size)=c_ then _ else _) _ _ s;rw[if_neg k,Ji]
 first
  |exact wb9 (df (wu9 ⟨_,rfl,wu9 h⟩) c)
  |simp
  |simp
  |simp
end
end HT
namespace L2
open PySem PySem.Spec PyProof.Rows
abbrev TO:=St->Hp->(Option Int->Hp->Prop)->Prop
def PO(X:Cx)(e:Option aX)(t:TO):Prop:=
 ∀(h_:List (aF×kL))(s:ai)(σ:St)(H:Hp)(Q:Option Int->Hp->Prop),Inv X h_ σ H s->t σ H Q->
  aA (aD X.prog X.w) X.A (evalPart e X.env) (λu s'=>∃o H',Inv X h_ σ H' s'/\rj u o/\Q o H') X.xe s
def Mu:TO:=λ_ H Q=>Q b_ H
def Vr(t:TE):TO:=λσ H Q=>t σ H λx c=>∃i,x=.int i/\Q (a_ i) c
section
variable{X:Cx}{te:TE}{lo hi:Option aX}{tl th:TO}
def Nq:PO X b_ Mu:=by
 intro h_ s σ H Q I h;exact wu9 ⟨b_,H,I,.none,h⟩
def Np(h:PE X e te):PO X (a_ e) (Vr te):=by
 intro h_ s σ H Q I c;refine iL (h h_ s σ H _ I c) λu s1 ⟨x,d,g,j,k⟩=>?_;obtain⟨i,rfl,q⟩:=k;obtain⟨t,rfl⟩:=j;exact⟨a_ i,d,g,.int i t,q⟩
def XY(X:Cx)(r:V->Option Int->Option Int->Hp->VK->Prop):Prop:=
 ∀(h_:List (aF×kL))(s:ai)(σ:St)(H:Hp)(x:V)(v c d:ah)(lo hi:Option Int)(sl:aF)(Q:VK),Inv X h_ σ H s->RelV x v->s.heap.IsSliceOf sl c d .none->rj c lo->rj d hi->r x lo hi H Q->
  ∃T id,typeLookup (.type T) "__getitem__"=pure (a_ (.builtin id))/\s.TypeIs v T/\aA (aD X.prog X.w) X.A (getItem v (.ref sl)) (EP X h_ σ Q) X.xe s
def tSl(r:V->Option Int->Option Int->Hp->VK->Prop)(te:TE)(tl th:TO):TE:=λσ H Q=>te σ H λx c=>tl σ c λl H2=>th σ H2 λu d=>r x l u d Q
def Jq(j:XY X r)(k:PE X e te)(hl:PO X lo tl)(y:PO X hi th):PE X (.Subscript e (.Slice lo hi b_ p2) pos) (tSl r te tl th):=by
 intro h_ s σ H Q I h;refine Subscript_ (iL (k h_ s σ H _ I h) λv s1 ⟨x,z,B,D,J⟩=>?_);refine wpAny_Slice (iL (hl h_ s1 σ z _ B J) λc s2 ⟨l,H2,L,pl,M⟩=>iL (y h_ s2 σ H2 _ L M) λd s3 ⟨u,g,O,R,U⟩=>?_);refine wu9 ?_;have W:Inv X h_ σ g { s3 with heap:=s3.heap.push { cls:=.type "slice",data:=.fields #[c,d,.none] } }:=O.kept λb ob q=>hp9 _ q;obtain⟨T,id,Y,ht,Z⟩:=j h_ { s3 with heap:=s3.heap.push { cls:=.type "slice",data:=.fields #[c,d,.none] } } σ g x v c d l u s3.heap.objs.size Q W D (Heap.IsSliceOf.new ..) pl R U;exact Ma ht Y Z (by with_unfolding_all rfl)
def Dm(xs:List V)(lo hi:Option Int):List V:=(xs.drop (HT.iD xs.length 0 lo)).take (HT.iD xs.length xs.length hi - HT.iD xs.length 0 lo)
def sX(xs:List V)(lo hi:Option Int):(Dm xs lo hi).length<=xs.length:=by
 unfold Dm;rw[eK,dP];exact ab (kA _ _) (HU _ _)
def Yt(K:aJ):V->Option Int->Option Int->Hp->VK->Prop:=λx lo hi H Q=>∃a xs,x=.ref a/\sk K H a xs/\
 ¬(HT.iD xs.length 0 lo=0/\HT.iD xs.length xs.length hi=xs.length)/\∀p,H p=b_->Q (.ref p) (upd H p (.tup (Dm xs lo hi)))
def Q8:XY X (Yt X.K):=by
 intro h_ s σ H x v l y lo hi sl Q I d hs pl g h;obtain⟨a,xs,rfl,j,k,q⟩:=h;cases d;obtain⟨its,r,ht,c⟩:=I.tuple j;have hlen:its.toArray.size=xs.length:=by exact r.length.symm
 refine⟨"tuple",_,c8.lookup,ht.typeIs,?_⟩;refine HT.qy ht hs pl g (by rw[hlen];exact k) ?_ (by rw[hlen];exact c);rw[hlen];refine⟨.ref s.heap.objs.size,_,I.laid (λb z q=>hp9 _ q) (ao _) ?_,rfl,q _ (I.hok.fresh (ao _))⟩;exact⟨ab (sX xs lo hi) c,_,(r.drop (HT.iD xs.length 0 lo)).take (HT.iD xs.length xs.length hi - HT.iD xs.length 0 lo),HS _ _⟩
def V0(K:aJ):R2:=λx y H Q=>∃a b xs ys,x=.ref a/\y=.ref b/\sk K H a xs/\sk K H b ys/\xs≠[]/\xs.length+ys.length<=ax/\
 (ys=[]->Q (.ref a) H)/\(ys≠[]->∀p,H p=b_->Q (.ref p) (upd H p (.tup (xs++ys))))
def cF.yg(r:cF xs us):us=[]↔xs=[]:=by
 cases r with
 |nil=>simp
 |cons _ _=>simp
def NF:j7 X (binaryOp .Add) (V0 X.K):=by
 intro h_ s σ H x y v u Q I g j h;obtain⟨a,b,xs,ys,rfl,rfl,ha,hb,k,l,B,D⟩:=h;cases g;cases j;obtain⟨its,d,J,_⟩:=I.tuple ha;obtain⟨M,c,L,_⟩:=I.tuple hb;refine HT.OH J L (λz=>k (d.yg.mp z)) (λz=>⟨.ref a,H,I,rfl,B (c.yg.mp z)⟩) (λz=>?_) (by rw[<-d.length,<-c.length];exact l);refine⟨.ref s.heap.objs.size,_,I.laid (λb O q=>hp9 _ q) (ao _) ?_,rfl,D (λw=>z (c.yg.mpr w)) _ (I.hok.fresh (ao _))⟩;exact⟨by simp_all,_,d.append c,HS _ _⟩
end
noncomputable def zj(n:Nat)(i:Int):Option Nat:=if 0<=i then(if i<n then a_ i.toNat else b_)else if -(n:Int)<=i then a_ (i+n).toNat else b_
def qK{α:Type}(xs:List α)(i:Int):Option α:=(zj xs.length i).bind λj=>xs[j]?
def yu(h:zj n i=a_ j):seqIndex? i n=a_ j/\j<n/\-(n:Int)<=i/\i<n:=by
 unfold zj at h;by_cases h0:0<=i
 ·rw[if_pos h0]at h;by_cases h1:i<n
  ·rw[if_pos h1]at h;have e :=bx h;exact⟨by rw[L4 h0 h1,e],by omega,by omega,h1⟩
  simp_all
 ·rw[if_neg h0]at h;by_cases h1:-(n)<=i
  ·rw[if_pos h1]at h;have e :=bx h;exact⟨by rw[HM (rA.mp h0) h1,e],by omega,h1,fu (rA.mp h0) (jU _)⟩
  simp_all
def yR (h:qK xs i=a_ v):∃j,seqIndex? i xs.length=a_ j/\xs[j]?=a_ v/\j<xs.length/\-(xs.length:Int)<=i/\i<xs.length:=by
 unfold qK at h
 cases e:zj xs.length i with
 |none=>rw[e]at h;cases h
 |some j=>
   rw[e]at h;obtain⟨h1,h2,h3,c⟩:=yu e;exact⟨j,h1,h,h2,h3,c⟩
def j6{α:Type}{xs:List α}{j:Nat}{v:α}(h:xs[j]?=a_ v):qK xs (j:Int)=a_ v:=by
 have c :=(aN.mp h).1
 have e:zj xs.length (j)=a_ j:=by
  unfold zj
  simp_all
 unfold qK;rw[e];exact h
def yU(b:aX):Prop:=∀o i,subscripted b d_ o i=operate [o,i] (getItem o i)
def UL(X:Cx)(r:R2):Prop:=
 ∀(value slice:aX)(h_:List (aF×kL))(s:ai)(σ:St)(H:Hp)(x y:V)(v u:ah)(Q:VK),Inv X h_ σ H s->RelV x v->RelV y u->r x y H Q->
  subscripted slice d_ v u=operate [v,u] (getItem v u)->aA (aD X.prog X.w) X.A (subscriptTail value slice v u) (EP X h_ σ Q) X.xe s
def O4(X:Cx)(id:String)(r:V->List V->Hp->VK->Prop):Prop:=
 ∀(h_:List (aF×kL))(s:ai)(σ:St)(H:Hp)(x:V)(xs:List V)(v:ah)(us:List ah)(Q:VK),Inv X h_ σ H s->RelV x v->cF xs us->r x xs H Q->
  aA (aD X.prog X.w) X.A (call (.builtin id) (v::us)) (EP X h_ σ Q) X.xe s
section
variable{a:aX}{tb:TE}
def Em(c:UL X r)(ha:PE X a ta)(hb:PE X b tb)(hs:yU b):PE X (.Subscript a b pos) (Pr r ta tb):=by
 intro h_ s σ H Q I h;exact Subscript_ (Uv ha hb I h λv u s2 x y H2 d g j q=>c a b h_ s2 σ H2 x y v u Q d g j q (hs _ _))
def RQ(K:aJ):R2:=λx y H Q=>∃p xs i v,x=.ref p/\y=.int i/\mo K H p xs/\qK xs i=a_ v/\Q v H
def Yw(K:aJ):R2:=λx y H Q=>∃p xs i v,x=.ref p/\y=.int i/\sk K H p xs/\qK xs i=a_ v/\Q v H
def Yx:R2:=λx y H Q=>∃z i c,x=.str z/\y=.int i/\z.length<=ax/\qK z.cps.toList i=a_ c/\Q (.str ⟨#[c]⟩) H
def yt:UL X (RQ X.K):=by
 intro value slice h_ s σ H x y v u Q I k l h hs;obtain⟨p,xs,i,z,rfl,rfl,B,D,q⟩:=h;cases k;obtain⟨t,rfl⟩:=l;obtain⟨its,r,pl,J⟩:=I.list B;obtain⟨j,h1,h2,h3,L,h5⟩:=yR D;obtain⟨w,g,c⟩:=r.get h2;have hl:=r.length;have M:=rT;have fin:EP X h_ σ Q w s:=⟨z,H,I,c,q⟩
 by_cases h0:0<=i
 ·have d:i.toNat=j:=by
   rw[L4 h0 h5]at h1
   simp_all
  exact item_listR pl.isList h0 (fu h5 (fu (eP.mpr J) (by decide))) (by rw[d];simpa using g) fin hs
 ·have d:(i+(its.toArray.size)).toNat=j:=by
   rw[HM (rA.mp h0) L]at h1
   simp_all
  exact HR pl.isList.typeIs slot_list_getitem.lookup
   (wpAny_getItem_list_neg pl.isList (by omega) (by simp_all) (by omega) (by rw[d];simpa using g) ⟨rfl,fin⟩) hs
def Tt:UL X (Yw X.K):=by
 intro value slice h_ s σ H x y v u Q I d g h hs;obtain⟨p,xs,i,z,rfl,rfl,k,l,q⟩:=h;cases d;obtain⟨t,rfl⟩:=g;obtain⟨its,r,pl,B⟩:=I.tuple k;obtain⟨j,h1,h2,h3,J,h5⟩:=yR l;obtain⟨w,D,c⟩:=r.get h2;have hl:=r.length;have L:=rT;have fin:EP X h_ σ Q w s:=⟨z,H,I,c,q⟩
 exact HR pl.typeIs slot_tuple_getitem.lookup
  (qS pl (by omega) (fu h5 (fu (eP.mpr B) (by decide))) (by rw[bp,<-hl];exact h1) (by simpa using D) ⟨rfl,fin⟩) hs
def Tu:UL X Yx:=by
 intro value slice h_ s σ H x y v u Q I d g h hs;obtain⟨z,i,c,rfl,rfl,B,k,q⟩:=h;obtain⟨t,rfl⟩:=d;obtain⟨t',rfl⟩:=g;obtain⟨j,h1,h2,h3,l,h5⟩:=yR k;have hl:z.cps.toList.length=z.length:=by simp[Str.length]
 rw[hl]at h1 l h5;have D:=rT
 exact Ma (typeIs_str s z t) slot_str_getitem.lookup (getItem_str (by
  grind) (by rw[h1];simpa using h2) ⟨.str ⟨#[c]⟩,H,I.tok _,⟨_,rfl⟩,q⟩) hs
def CN(its:List ah)(n j:Nat)(u:ah):eL (·.setIfInBounds j u) { cls:=.type "list",data:=.seq its.toArray n }={ cls:=.type "list",data:=.seq (its.set j u).toArray n }:=by
 simp[eL]
def Inv.lst(I:Inv X h_ σ H s)(h:H p=a_ (.lst xs)) :
  ∃(its:List ah) (n:Nat),cF xs its/\s.heap.get? p=a_ { cls:=.type "list",data:=.seq its.toArray n }/\xs.length<=ax:=by
 obtain⟨z,its,n,r,e⟩:=I.hok p _ h;exact⟨its,n,r,e,z⟩
def Inv.Ta{its c:List ah}(I:Inv X h_ σ H s)(h:H p=a_ (.lst xs))
  (ho:s.heap.get? p=a_ { cls:=.type "list",data:=.seq its.toArray n })(hf:f { cls:=.type "list",data:=.seq its.toArray n }={ cls:=.type "list",data:=.seq c.toArray n' })(r:cF ys c)(d:ys.length<=ax)(t:Nat) :
  Inv X h_ σ (upd H p (.lst ys)) { s with heap:=s.heap.update p f,toks:=t }:=by
 have e:(s.heap.update p f).get? p=a_ { cls:=.type "list",data:=.seq c.toArray n' }:=by
  rw[eG f ho (by rw[hf]<;>rfl),hf]
 refine I.write (by rw[h];trivial) (.inl rfl) (λb u hb q=>(dk _ _ (eQ hb)).trans q) ⟨_,e⟩ ?_;exact⟨d,c,n',r,e⟩
def D8:V->V->V->Hp->(Hp->Prop)->Prop:=λo i v H Q=>∃p xs k j,o=.ref p/\i=.int k/\H p=a_ (.lst xs)/\zj xs.length k=a_ j/\Q (upd H p (.lst (xs.set j v)))
def set_list:UH X D8:=by
 intro h_ s σ H o i v D J u Q I g l y h;obtain⟨p,xs,k,j,rfl,rfl,hp,z,q⟩:=h;cases g;obtain⟨t,rfl⟩:=l;obtain⟨its,n,r,ho,B⟩:=I.lst hp;obtain⟨h1,h2,h3,d⟩:=yu z;have hl:=r.length;have L:=rT
 have I' :=
  I.Ta hp ho (CN its n j u) (r.set y j) (by simp_all) s.toks
 by_cases h0:0<=k
 ·have c:k.toNat=j:=by
   rw[L4 h0 d]at h1
   simp_all
  exact PySem.W.ki_setAt ho h0 (fu d (fu (eP.mpr B) (by decide))) (by simp_all) (by rw[c];exact⟨_,I',q⟩)
 ·have c:(k+(its.toArray.size)).toNat=j:=by
   rw[HM (rA.mp h0) h3]at h1
   simp_all
  exact PySem.W.ki_setBack ho (by omega) (by simp_all) (by omega) (by rw[c];exact⟨_,I',q⟩)
def xU(lo hi:Option Int)(n:Nat):(sliceBounds lo hi b_ n).1=((HT.iD n 0 lo:Nat):Int)/\(sliceBounds lo hi b_ n).2.1=((HT.iD n n hi:Nat):Int)/\(sliceBounds lo hi b_ n).2.2=1:=by
 refine⟨?_,?_,rfl⟩
 ·cases lo with
  |none=>simp[sliceBounds,HT.iD]
  |some i=>
    simp only[sliceBounds,HT.iD,Hz,show(1:Int) > 0 by decide,if_true];by_cases h:i<0
    ·simp only[h,if_true]<;>omega
    ·simp only[h,if_false]<;>omega
 ·cases hi with
  |none=>simp[sliceBounds,HT.iD]
  |some i=>
    simp only[sliceBounds,HT.iD,Hz,show(1:Int) > 0 by decide,if_true];by_cases h:i<0
    ·simp only[h,if_true]<;>omega
    ·simp only[h,if_false]<;>omega
def vO(its:List ah)(lo hi:Option Int):slicePick its.toArray lo hi b_=((its.drop (HT.iD its.length 0 lo)).take (HT.iD its.length its.length hi - HT.iD its.length 0 lo)).toArray:=by
 obtain⟨h1,h2,h3⟩:=xU lo hi its.toArray.size;unfold slicePick;rw[h1,h2,h3];simp only[sliceRange_one,pick_run,bp]<;>rfl
def Yu(K:aJ):V->Option Int->Option Int->Hp->VK->Prop:=λx lo hi H Q=>∃a xs,x=.ref a/\mo K H a xs/\∀p,H p=b_->Q (.ref p) (upd H p (.lst (Dm xs lo hi)))
def MQ:XY X (Yu X.K):=by
 intro h_ s σ H x v k l lo hi sl Q I c hs pl d h;obtain⟨a,xs,rfl,g,q⟩:=h;cases c;obtain⟨its,r,ht,j⟩:=I.list g;have hlen:=r.length;refine⟨"list",_,slot_list_getitem.lookup,ht.isList.typeIs,?_⟩;refine wpAny_getItem_list_slice ht.isList hs pl d .none (by simp) ?_ (by simp_all);rw[vO,<-hlen];refine⟨.ref s.heap.objs.size,_,I.laid (λb y q=>hp9 _ q) (ao _) ?_,rfl,q _ (I.hok.fresh (ao _))⟩;exact⟨ab (sX xs lo hi) j,_,0,(r.drop (HT.iD xs.length 0 lo)).take (HT.iD xs.length xs.length hi - HT.iD xs.length 0 lo),aG _ rfl⟩
def x9:j7 X (compareOp .NotIn) (λx y H Q=>∃i j,x=.str i/\y=.str j/\Q (.bl (!(!(iV j i 0 j.length 1).isEmpty))) H):=by
 intro h_ s σ H x y v u Q I c d h;obtain⟨i,j,rfl,rfl,q⟩:=h;obtain⟨t,rfl⟩:=c;obtain⟨t',rfl⟩:=d;exact notIn_str ⟨.bl _,H,I,rfl,q⟩
def qI:km X (.builtin "len") (λxs H Q=>∃p ys,xs=[.ref p]/\(mo X.K H p ys\/sk X.K H p ys)/\Q (.int ys.length) H):=by
 intro h_ s σ H xs us Q I r h;obtain⟨p,ys,rfl,c,q⟩:=h;obtain⟨u,rfl,g⟩:=vals1 r;cases g;have k:=rT
 rcases c with c|c
 ·obtain⟨its,d,pl,j⟩:=I.list c;have hlen:=d.length;exact Calls.call_len_list pl.isList (by simp only[bp]<;>omega) ⟨.int ys.length,H,I.tok _,⟨s.toks+1,by rw[bp,hlen]⟩,q⟩
 ·obtain⟨its,d,pl,j⟩:=I.tuple c;have hlen:=d.length;exact tJ pl (by simp only[bp]<;>omega) ⟨.int ys.length,H,I.tok _,⟨s.toks+1,by rw[bp,hlen]⟩,q⟩
def yP:km X (.builtin "len") (λxs H Q=>∃z,xs=[.str z]/\z.length<=ax/\Q (.int z.length) H):=by
 intro h_ s σ H xs us Q I r h;obtain⟨z,rfl,c,q⟩:=h;obtain⟨u,rfl,t,rfl⟩:=vals1 r;have d:=rT;exact len_str (by omega) ⟨.int z.length,H,I.tok _,⟨_,rfl⟩,q⟩
def qH:km X (.type "list") (λxs H Q=>∃p ys,xs=[.ref p]/\(mo X.K H p ys\/sk X.K H p ys)/\∀l,H l=b_->Q (.ref l) (upd H l (.lst ys))):=by
 intro h_ s σ H xs us Q I r h;obtain⟨p,ys,rfl,g,q⟩:=h;obtain⟨u,rfl,v⟩:=vals1 r;cases v
 have fin:∀(its:List ah),cF ys its->ys.length<=ax->∀(h':cc) (c:Nat),(∀b o',s.heap.get? b=a_ o'->h'.get? b=a_ o')->
   h'.get? s.heap.objs.size=a_ { cls:=.type "list",dict:=b_,data:=.seq its.toArray c,slots:=#[] }->EP X h_ σ Q (.ref s.heap.objs.size) { s with heap:=h' }:=λits d j h' c kp e=>
  ⟨.ref s.heap.objs.size,_,I.laid kp (ao _) (show jP X.prog X.w _ h' _ (.lst ys)from⟨j,its,c,d,e⟩),rfl,q _ (I.hok.fresh (ao _))⟩
 rcases g with g|g
 ·obtain⟨its,d,pl,j⟩:=I.list g;have hlen:=d.length;obtain⟨o,ho,k,n,hd⟩:=pl.isList;exact call_list_seq p (.inl rfl) ho k hd (λh' c kp e=>fin its d j h' c kp e) (by grind)
 ·obtain⟨its,d,pl,j⟩:=I.tuple g;have hlen:=d.length;obtain⟨o,ho,k,n,hd⟩:=pl;exact call_list_seq p (.inr rfl) ho k hd (λh' c kp e=>fin its d j h' c kp e) (by simp_all)
def pA:km X (.type "tuple") (λxs H Q=>∃p ys,xs=[.ref p]/\((mo X.K H p ys/\∀l,H l=b_->Q (.ref l) (upd H l (.tup ys)))\/(sk X.K H p ys/\Q (.ref p) H))):=by
 intro h_ s σ H xs us Q I r h;obtain⟨p,ys,rfl,h⟩:=h;obtain⟨u,rfl,k⟩:=vals1 r;cases k
 rcases h with⟨c,q⟩|⟨c,q⟩
 ·obtain⟨its,d,pl,g⟩:=I.list c;have hlen:=d.length;refine call_tuple_list pl.isList (λh' kp=>?_) (by grind);have j:Inv X h_ σ H { s with heap:=h' }:=I.kept kp
  have v:Inv X h_ σ (upd H h'.objs.size (.tup ys)) { s with heap:=h'.push { cls:=.type "tuple",data:=.seq its.toArray } }:=
   j.laid (λb o e=>hp9 _ e) (ao _) (⟨g,its,d,HS _ _⟩)
  exact⟨.ref h'.objs.size,_,v,rfl,q _ (j.hok.fresh (ao _))⟩
 ·obtain⟨its,d,pl,g⟩:=I.tuple c;exact call_tuple_same pl ⟨.ref p,H,I,rfl,q⟩
def Ya(K:aJ)(T:String)(x:V)(H:Hp):Prop:=match x with
 |.str _=>T="str"
 |.int _=>T="int"
 | .ref p=>(T="list"/\∃xs,mo K H p xs)\/(T="tuple"/\∃o,K.lookup p=a_ o/\o.cls=.type "tuple"/\o.dict=b_)\/
   (T="dict"/\((∃k_,H p=a_ (.dK k_))\/∃k_,H p=a_ (.dT k_)))\/(T="set"/\∃S n,H p=a_ (.set S n))
 |_=>False
def Ig{T:String}(I:Inv X h_ σ H s)(r:RelV x v)(ty:Ya X.K T x H) :
  s.TypeIs v T/\∀a,v=.ref a->∃g,s.heap.get? a=a_ g/\g.dict=b_:=by
 cases x with
 |str z=>
   obtain⟨t,rfl⟩:=r;cases(ty);exact⟨typeIs_str s z t,λ_ e=>nomatch e⟩
 |int i=>
   obtain⟨t,rfl⟩:=r;cases(ty);exact⟨typeIs_int s i t,λ_ e=>nomatch e⟩
 |ref p=>
   cases r
   rcases ty with⟨rfl,xs,j⟩|⟨rfl,o,d,k,hd⟩|⟨rfl,d⟩|⟨rfl,S,n,d⟩
   ·obtain⟨its,_,pl,_⟩:=I.list j;refine⟨pl.isList.typeIs,λa e=>?_⟩;cases e;obtain⟨o,n,e,c,hd,_⟩:=pl;exact⟨o,e,hd⟩
   ·refine⟨⟨o,I.CU p o d,k⟩,λa e=>?_⟩;cases e;exact⟨o,I.CU _ o d,hd⟩
   ·have z:∃o,s.heap.get? p=a_ o/\o.ExactDict:=by
     rcases d with⟨k_,d⟩|⟨k_,d⟩
     ·obtain⟨_,_,_,_,o,_,_,e,ex,_⟩:=I.hok p _ d;exact⟨o,e,ex⟩
     ·obtain⟨_,_,_,_,o,_,_,e,ex,_⟩:=I.hok p _ d;exact⟨o,e,ex⟩
    obtain⟨o,e,ex⟩:=z;refine⟨⟨o,e,ex.1⟩,λa e2=>?_⟩;cases e2;exact⟨o,e,ex.2.1⟩
   ·obtain⟨o,_,_,_,e,ex,_⟩:=I.hok p _ d;refine⟨⟨o,e,ex.1⟩,λa e2=>?_⟩;cases e2;exact⟨o,e,ex.2.1⟩
 |_=>exact iO ty
def Vv(K:aJ)(T:String)(r:V->List V->Hp->VK->Prop)(d:TE):TE:=λσ H Q=>d σ H λx c=>Ya K T x c/\r x [] c Q
def QD(K:aJ)(T:String)(r:V->List V->Hp->VK->Prop)(d:TE)(t:TA):TE:=λσ H Q=>d σ H λx c=>Ya K T x c/\t σ c λxs H2=>r x xs H2 Q
variable{apos cpos:xI}{T id:String}
def Se(l:PlainAttrs T)(slot:L7 T name id)(g:typeOf (.builtin id)=pure (.type "method_descriptor"))(q:O4 X id r)(ho:PE X o to)
  (c:attributeBase o name X.env (eval o X.env)=eval o X.env)(d:(apos.endLine == cpos.line)=c_):PE X (.Call (.Attribute o name apos) [] [] cpos) (Vv X.K T r to):=by
 intro h_ s σ H Q I h;refine wpAny_Call_method0_late c d (iL (ho h_ s σ H _ I h) λv s1 ⟨x,y,j,k,ty,z⟩=>?_);obtain⟨h1,h2⟩:=Ig j k ty;exact⟨T,id,l,slot,g,h1,h2,zr rfl (PySem.evalArgs_none (q h_ s1 σ y x [] v [] Q j k .nil z))⟩
def uH(z:PlainAttrs T)(slot:L7 T name id)(k:typeOf (.builtin id)=pure (.type "method_descriptor"))(B:O4 X id r)(ho:PE X o to)(ha:PA X (e::es) t)
  (d:attributeBase o name X.env (eval o X.env)=eval o X.env)
  (j:((backTo cpos (aO (e::es) X.env)).all (λx=>!x.1) && (backToKw cpos (keywordEach [] X.env)).all (λx=>x.1.isSome)
   && decide ((e::es).length+([]:List Keyword).length+(if([]:List Keyword).isEmpty then 0 else 1)<30))=c_:=by rfl)
  (g:(apos.endLine == cpos.line)=c_:=by rfl)(hs:aO (e::es) X.env=(d_,eval e X.env)::aO es X.env:=by rfl)(c:(backTo cpos (aO es X.env)).any (·.1)=d_:=by rfl) :
  PE X (.Call (.Attribute o name apos) (e::es) [] cpos) (QD X.K T r to t):=by
 intro h_ s σ H Q I h;refine wpAny_Call_method_late d j g rfl (iL (ho h_ s σ H _ I h) λv s1 ⟨x,D,l,q,ty,J⟩=>?_);obtain⟨h1,h2⟩:=Ig l q ty;refine⟨T,id,z,slot,k,h1,h2,?_⟩;have y:=ha cpos h_ s1 σ D _ l J;rw[hs]at y ⊢;refine zr (by show(d_ || (backTo cpos (aO es X.env)).any (·.1))=d_;rw[c]<;>rfl) (Calls.evalArgs_plain ?_);exact iL y λus s2 ⟨vs,H2,L,M,O⟩=>B h_ s2 σ H2 x vs v us Q L q M O
end
def Zz(X:Cx)(id:String)(r:V->List V->Hp->VK->Prop):Prop:=
 ∀(h_:List (aF×kL))(s:ai)(σ:St)(H:Hp)(x:V)(xs:List V)(v:ah)(us:List ah)(Q:VK),Inv X h_ σ H s->RelV x v->cF xs us->r x xs H Q->
  aA (aD X.prog X.w) X.A (call (.builtin id) (v::us)) (EP X h_ σ Q) X.xe s
def cF.one:∀{x:V}{us:List ah},cF [x] us->∃u,us=[u]/\RelV x u
 |_,_,.cons r .nil=>⟨_,rfl,r⟩
section
def Inv.Tc{its c:List ah}(I:Inv X h_ σ H s)(d:H l=a_ (.lst xs))
  (e:s.heap.get? l=a_ { cls:=.type "list",data:=.seq its.toArray n })(hf:f its.toArray=c.toArray)(g:cF ys c)(j:ys.length<=ax) :
  Inv X h_ σ (upd H l (.lst ys)) { s with heap:=s.heap.update l (eL f),toks:=t' }:=by
 have q:=PySem.IsL.update e f;rw[hf]at q;refine I.write (by rw[d];exact trivial) (.inl rfl) (λv u hb k=>(dk s.heap (eL f) (eQ hb)).trans k) ⟨_,q⟩ ?_;exact⟨j,c,_,g,q⟩
def Inv.Wv(I:Inv X h_ σ H s)(c:cF ys its)(d:ys.length<=ax) :
  Inv X h_ σ (upd H s.heap.objs.size (.lst ys)) { s with heap:=s.heap.push { cls:=.type "list",data:=.seq its.toArray },toks:=t' }:=
 I.laid (λ_ _ q=>hp9 _ q) (ao _) ⟨d,its,0,c,aG _ rfl⟩
def Inv.fresh(I:Inv X h_ σ H s):H s.heap.objs.size=b_:=I.hok.fresh (ao _)
def Inv.GS(I:Inv X h_ σ H s)(c:H l=a_ (.lst xs)):xs.length<=ax/\∃(its:List ah) (n:Nat),cF xs its/\xs.length=its.length/\s.heap.get? l=a_ { cls:=.type "list",data:=.seq its.toArray n }:=by
 obtain⟨z,its,n,r,e⟩:=I.hok l _ c;exact⟨z,its,n,r,r.length,e⟩
def Ae(h:n<=ax):fF n=d_:=by
 exact decide_eq_false (λz=>(bB z h))
end
section
def D9:V->List V->Hp->VK->Prop:=λx vs H Q=>∃l xs y,x=.ref l/\vs=[y]/\H l=a_ (.lst xs)/\xs.length<ax/\Q .non (upd H l (.lst (xs++[y])))
def rR:Zz X "list.append" D9:=by
 intro h_ s σ H x vs v us Q I d g h;obtain⟨l,xs,y,rfl,rfl,c,j,q⟩:=h;cases d;obtain⟨u,rfl,k⟩:=g.one;obtain⟨z,its,n,r,hl,e⟩:=I.GS c;refine t4 i5 ⟨_,e,rfl⟩ F.entry_list_append (F.args_list_append_2 _ _) (PySem.list_append l its.toArray n u (by simp_all)) ⟨e,?_⟩;refine⟨.non,_,I.Tc c e (by simp) (r.append (.cons k .nil)) ?_,rfl,q⟩;rw[ag];exact j
def Ng:V->List V->Hp->VK->Prop:=λx vs H Q=>∃l b xs c,x=.ref l/\vs=[.ref b]/\H l=a_ (.lst xs)/\H b=a_ (.lst c)/\xs.length+c.length<=ax/\Q .non (upd H l (.lst (xs++c)))
def U1:Zz X "list.extend" Ng:=by
 intro h_ s σ H x vs v us Q I j k h;obtain⟨l,b,xs,M,rfl,rfl,g,y,O,q⟩:=h;cases j;obtain⟨u,rfl,B⟩:=k.one;cases B;obtain⟨z,its,n,r,hl,e⟩:=I.GS g;obtain⟨R,d,D,J,L,e2⟩:=I.GS y;have hsz:its.toArray.size+d.toArray.size<=ax:=by simp_all
 have c:¬(!its.toArray.isEmpty && fF (its.toArray.size+d.toArray.size))=c_:=by
  rw[Ae hsz,Pn];simp
 refine t4 iZ ⟨_,e,rfl⟩ rk (p8 _ _)
  (AutoSeq1.list_extend_list_list_0 l its.toArray n b d.toArray D c (by simp_all) (cT hsz)) ⟨e,e2,?_⟩
 refine⟨.non,_,I.Tc g e (by simp) (r.append J) ?_,rfl,q⟩;rw[ag];omega
def Yz:R2:=λx y H Q=>∃l b xs c,x=.ref l/\y=.ref b/\H l=a_ (.lst xs)/\H b=a_ (.lst c)/\xs.length+c.length<=ax/\∀p,H p=b_->Q (.ref p) (upd H p (.lst (xs++c)))
def Su:j7 X (binaryOp .Add) Yz:=by
 intro h_ s σ H x y v u Q I d g h;obtain⟨l,b,xs,L,rfl,rfl,j,k,M,q⟩:=h;cases d;cases g;obtain⟨z,its,n,r,hl,e⟩:=I.GS j;obtain⟨O,c,R,B,D,e2⟩:=I.GS k;refine PySem.P.add_list e e2 ?_ (by simp_all);have J:its.toArray++c.toArray=(its++c).toArray:=by simp
 rw[J];exact⟨.ref _,_,I.Wv (r.append B) (by rw[ag];omega),rfl,q _ I.fresh⟩
end
section
end
section
end
end L2
namespace Att
open PySem PySem.W PySem.Calls PyProof.Rows
def tD:∀(ns:List Int)(vs:List ah),WellAll P h vs (ns.map WData.int)->Bz vs ns:=by
 intro ns
 induction ns with
 |nil=>
   intro vs w;cases w;exact .nil
 |cons n ns c=>
   intro vs w
   cases w with
   |cons a b=>
     cases a;exact .cons _ _ (c _ b)
def Gr{l:ja}(q:l.most=a_ n)
  (c:l.row.toRowW.claim.pre args=c_)(k:WellAll P h vals args) :
  ∃a vs ns,vals=[cW a]/\args=[WData.list (ns.map WData.int)]/\h.get? a=a_ { cls:=.type "list",data:=.seq vs.toArray }/\Bz vs ns/\ns.length<=n:=by
 have hsh :=(pre_splitW c).1;have v :=(pre_splitW c).2;obtain⟨d,r,rfl,h1,h2⟩:=hasAllW_cons hsh;obtain rfl:=hasAllW_nil h2;obtain⟨xs,rfl,h3⟩:=hasW_list h1;obtain⟨ns,rfl⟩:=items_int h3
 have hlen:ns.length<=n:=by
  have j:(WTm.not (.lt (.lit (.int (n))) (.len (.arg 0)))).holds [] { args:=[.list (ns.map .int)] }=c_:=by
   have j:=(holds_andW v).1;rw[q]at j;exact j
  have h5:=condW_of j (w_not (w_lt w_lit (w_len_list (w_arg rfl))))
  simp_all
 cases k with
 |cons y z=>
   cases z
   cases y with
   |list ho g=>exact⟨_,_,ns,rfl,rfl,ho,tD ns _ g,hlen⟩
def GI(l:ja)(args:List WData):l.row.toRowW.claim.post args (.bool c_) args=c_:=
 postW_of
  (by first|rfl|decide|simp)
  (w_eq_bool (w_res rfl) w_lit) rfl
def Bp{l:ja}{d:DefRec}
  (L:l.most=a_ n)(v:d.params.defaults=[])
  (call:∀(w:cZ)(s₀ s₁:ai)(mg mb:bc->Option ah)(c:aF)(o:kL)(pm k doc:ah)(a:aF)(vs:List ah)(ns:List Int),
   Ground q loose [] XP w s₀ mg mb s₁.heap->YP w s₁.heap->
   s₁.heap.get? c=a_ o->o.data=.func (docDef d.name d.params d.body d.scope pm k doc)->s₁.heap.CodeRec k d.name->mg d.name=a_ (.ref c)->
   s₁.heap.get? a=a_ { cls:=.type "list",data:=.seq vs.toArray }->Bz vs ns->ns.length<=n->s₁.gens=#[]->
   codeAny (aD l.prog w) callerA (.call (.ref c) ⟨[.ref a],[]⟩) (λr s'=>r=.ok (.ret (.bool c_))/\OldK s₁.heap s'.heap/\s'.os=s₁.os/\n4 s'.gens) s₁) :
  vG q loose XP YP l.row.toRowW d [] (λf vs=>FP f vs):=by
 intro w s₀ s₁ mg mb G Y c o pm k doc M kV ho hd y D z O args vals as g J R B U;obtain rfl:M=.none:=Dflts.none D v;obtain rfl:kV=.none:=Dflts.noKw D;obtain⟨a,vs,ns,rfl,rfl,j,hints,hlen⟩:=Gr L g B;refine enter_call (ko (call w s₀ s₁ mg mb c o pm k doc a vs ns G Y ho (fd_plain hd) y z j hints hlen O) λr s' W=>?_);obtain⟨rfl,h2,h3,Z⟩:=W;exact⟨.inl ⟨.bool c_,.bool c_,[],rfl,λ_=>rfl,.bool c_,GI l _,λ_=>⟨wj,λ_ hm=>(nomatch hm)⟩⟩,h2,h3,Z⟩
section
variable{K:aJ}
end
end Att
namespace L2
open PySem PySem.Spec PyProof.Rows
theorem wm:∀{vs:List ah}{ns:List Int},Bz vs ns->cF (ns.map V.int) vs
 |_,_,.nil=>.nil
 |_,_,.cons n t h=>.cons ⟨t,rfl⟩ (wm h)
def UI(H:Hp):Prop:=∀b,H b=b_\/∃o xs,H b=a_ (.mD o (.lst xs))
def J8{K:aJ}{s₁:ai}{vs:List ah}
  (Z:K.In s₁.heap)(l:s₁.heap.Ns mainGlobals mg)(hb:s₁.heap.Ns builtinsNs mb)(L:∀x:bc,x≠"__name__"->mb x=bootBuiltins x)(y:s₁.heap.NoLimit)(hg:s₁.gens=#[])
  (ha:s₁.heap.get? a=a_ { cls:=.type "list",data:=.seq vs.toArray })(hi:Bz vs ns)(hl:ns.length<=ax)(hr:mU k callerA)
  (F:∀base:cc,K.In base->base.Ns mainGlobals mg->nK P w K mg base CX k fa fd [x] sp)(j:∀(s:ai)(u:ah),By s fd ⟨[u],[]⟩ [(x,u)])
  (M:∀H:Hp,UI H->mo K H a (ns.map V.int)->sp [.ref a] H (λv _=>v=.bl c_) λ_ _ _=>False)
  (O:∀H e s',CX [] H s₁ (λ_ _ _=>False) e s'->False) :
  codeAny (aD P w) callerA (.call (.ref fa) ⟨[.ref a],[]⟩) (λr s'=>r=.ok (.ret (.bool c_))/\OldK s₁.heap s'.heap/\s'.os=s₁.os/\n4 s'.gens) s₁:=by
 have rv:=wm hi;have B:=hi.length
 have core:∀H:Hp,UI H->mo K H a (ns.map V.int)->qO P w H s₁.heap->(∀b,H b≠b_->b=a)->(H a≠b_->K.lookup a=b_)->
   codeAny (aD P w) callerA (.call (.ref fa) ⟨[.ref a],[]⟩) (λr s'=>r=.ok (.ret (.bool c_))/\OldK s₁.heap s'.heap/\s'.os=s₁.os/\n4 s'.gens) s₁:=by
  intro H hO hS hok hA hK;have c:∀{b:aF}{o:kL},s₁.heap.get? b=a_ o->H b=b_->(AF s₁.heap H).get? b=a_ o:=λe n=>Ku e n
  have R:∀{b:aF}{o:kL}{es:Array DictEntry}{ep:Nat},s₁.heap.get? b=a_ o->o.data=.dict es ep->H b=b_:=λ{b o es ep}e d=>by
   cases q:H b with
   |none=>rfl
   |some u=>
     have U :=hA b (by rw[q];simp);subst U;rw[ha]at e;cases e;have d' :=d;cases d'
  have g:∀{b:aF}{m:bc->Option ah},s₁.heap.Ns b m->(AF s₁.heap H).Ns b m:=λ{b m} ⟨o,es,ep,e,d,r⟩=>⟨o,es,ep,c e (R e d),d,r⟩
  have D :=λb o e=>c (Z b o e) (by
   cases q:H b with
   |none=>rfl
   |some u=>
     have U :=hA b (by rw[q];simp);subst U
     rw[hK (by rw[q];simp)]at e;cases e)
  have hM:Mod K mg (AF s₁.heap H):=⟨D,g l,⟨mb,g hb,L⟩,let ⟨mc,h1,h2⟩:=y;⟨mc,g h1,h2⟩⟩
  have e0:iJ P w K mg (AF s₁.heap H) callerA [] s₁ H:=⟨rfl,hM,λb o e=>NJ e,af (G8 _ _),trivial,λb hb=>absurd (show b∈([])from hb) (by simp),hok,.of_eq hg⟩
  refine ko ((F _ D (g l)).run callerA [] s₁ H ⟨[.ref a],[]⟩ [.ref a] [.ref a] _ _ hr e0 (j s₁ (.ref a)) (.cons rfl .nil) (M H hO hS)) λr s' h=>?_
  cases r with
  |error e=>exact(O H e s' h).elim
  |ok fl=>
    cases fl with
    |next=>exact iO h
    |brk=>exact iO h
    |cont=>exact iO h
    |ret u=>
      obtain⟨v,H',os,bare,un,J,r',q⟩:=h;have q' :=q;subst q';obtain rfl:u=Value.bool c_:=r';refine⟨rfl,OldK.of_keep λb o e=>?_,os,bare⟩
      cases q:H b with
      |none=>exact un.keep b o e q (by intro z;exact absurd (show b∈([])from z) (by simp)) (by simp)
      |some u=>
        rcases hO b with z|⟨ob,xs,z⟩
        ·rw[q]at z;cases z
        ·have z2:=un.frzs b ob _ z;obtain⟨e1,_⟩:=hok b _ z;obtain⟨e2,_⟩:=J b _ z2;rw[e]at e1;cases e1;exact e2
 cases W:K.lookup a with
 |some o=>
   have e:=Z a o W;rw[ha]at e;cases e;refine core (λ_=>b_) (λ_=>.inl rfl) (.inr ⟨_,vs.toArray,_,W,rfl,rfl,rfl,by rw[bp,B];exact hl,by simpa using rv⟩) (λb u z=>by have Y :=z;cases Y) (λb z=>absurd rfl z) λz=>absurd rfl z
 |none=>
   refine core (λb=>if b=a then a_ (.mD { cls:=.type "list",data:=.seq vs.toArray } (.lst (ns.map V.int)))else b_) (λb=>?_) (.inl (.inr ⟨{ cls:=.type "list",data:=.seq vs.toArray },if_pos rfl⟩)) (λb u z=>?_) (λb z=>?_) λ_=>W
   ·by_cases hb:b=a
    ·exact .inr ⟨_,_,if_pos hb⟩
    ·exact .inl (if_neg hb)
   ·by_cases hb:b=a
    ·have Y:=(if_pos hb).symm.trans z;cases Y;subst hb;exact⟨ha,by simp_all,vs,_,rv,ha⟩
    simp_all
   simp_all
noncomputable abbrev KOf{K:aJ}{h:cc}(_:K.In h):aJ:=K
def Mn{l:ja}{n k:Nat}{q:cg}{loose:List bc}{M:(bc->Option ah)->cc->Prop}{YP:cZ->cc->Prop}{d:DefRec}{K:Params->aJ}{CX:cZ->Vf}{sp:cZ->Sp}{x:bc}
  (O:l.most=a_ n)(y:n<=ax)(z:d.params.defaults=[])(R:mU k callerA)
  (U:∀(w:cZ)(h:cc),YP w h->(K w.params).In h)
  (F:∀(w:cZ)(mg:bc->Option ah)(j:aF)(h:cc),(K w.params).In h->h.Ns mainGlobals mg->mg d.name=a_ (.ref j)->
   ∃fd:jG,(∀(s:ai)(u:ah),By s fd ⟨[u],[]⟩ [(x,u)])/\
    ∀base:cc,(K w.params).In base->base.Ns mainGlobals mg->nK l.prog w (K w.params) mg base (CX w) k j fd [x] (sp w))
  (B:∀(w:cZ)(H:Hp)(a:aF)(ns:List Int),ns.length<=n->UI H->mo (K w.params) H a (ns.map V.int)->sp w [.ref a] H (λv _=>v=.bl c_) λ_ _ _=>False)
  (D:∀(w:cZ)(H:Hp)(s:ai)(e:ah)(s':ai),CX w [] H s (λ_ _ _=>False) e s'->False) :
  vG q loose M YP l.row.toRowW d [] (λf vs=>FP f vs):=by
 refine Att.Bp O z λw s₀ s₁ mg mb j o pm cd doc a vs ns G Y ho hd W J c hints hlen Z=>?_;have L:=U w _ Y;obtain⟨fd,hb,hF⟩:=F w mg j _ L G.T.g J;exact J8 L G.T.g G.T.b G.T.builtins G.T.nolimit Z c hints (ab hlen y) R hF hb (λH hO hS=>B w H a ns hlen hO hS) λH e s'=>D w H s₁ e s'
end L2
namespace L2
open PySem PySem.Spec PyProof.Rows
noncomputable def yH(s:kK):Arguments:=match s with
 |.FunctionDef _ a _ _ _ _ _ _ _ _=>a
 |_=>{ posonlyargs:=[],args:=[],vararg:=b_,kwonlyargs:=[],kw_defaults:=[],kwarg:=b_,defaults:=[] }
noncomputable def oS(s:kK):List kK:=match s with
 |.FunctionDef _ _ b _ _ _ _ _ _ _=>b
 |_=>[]
noncomputable def dG(s:kK):my:=match s with
 |.FunctionDef _ _ _ _ _ _ sc _ _ _=>sc
 |_=>{ kind:=.function,names:=[],isGenerator:=d_,isCoroutine:=d_ }
abbrev Hv:Vf:=λ_ _ _ _ _ _=>False
abbrev E0:XK:=λ_ _ _=>False
def PJ:yV Hv X E0:=λ_ _ _ _ _ _ _ h=>h.elim
structure X4(K:aJ)(x qual:bc)(st:kK)(f:aF)(fd:jG):Prop where
 ex:∃(oc:ah) (od:Option aF) (kV doc pm:ah) (an:Option aF) (cdv ct:ah) (osl:Array (Option ah)),
  fd=p7 x qual (yH st) (oS st) (dG st) .none kV doc pm an cdv ct/\K.lookup f=a_ ⟨oc,od,.func fd,osl⟩/\t5 K cdv qual=c_
 kp:f7 K (.ref f)=c_
section
variable{K:aJ}{base:cc}
def X4.ok{st:kK}(F:X4 K x qual st f fd)(S:qQ N ps (dG st))(len:∀vs H Q E,sp vs H Q E->vs.length=ps.length)
  (c:∀(cdv:ah)(A:bP)(outer:List Pe)(s:ai)(H:Hp)(vs:List V)(Q:VK)(E:XK),mU k (A.deeper (envOfC qual (dG st) s.heap.objs.size f cdv))->sp vs H Q E->
   ∃t,Bt (Bb Hv P w K mg base N qual (dG st) f cdv A outer s H E).UY (oS st) t/\t { nx:=λ_ H'=>Q .non H',rt:=Q } (start N vs) H):nK P w K mg base Hv (k+1) f fd ps sp:=by
 obtain⟨oc,od,kV,doc,pm,an,cdv,ct,osl,rfl,j,d⟩:=F.ex;refine WU j d S len λA outer s H vs Q E l g=>?_;obtain⟨t,h,q⟩:=c cdv A outer s H vs Q E l g;exact⟨t,h.UY,q⟩
end
section
end
def G1{A B:Prop}(h:B):if d_=c_ then A else B:=by
 exact h
def G0{A B:Prop}(h:A):if c_=c_ then A else B:=by
 exact h
def bT(H H':Hp):Prop:=∀b o,H b=a_ o->H' b=a_ o
def bT.refl(H:Hp):bT H H:=λ_ _ h=>h
def bT.trans(a:bT H H1)(b:bT H1 H2):bT H H2:=λc o h=>b c o (a c o h)
def bT.free(e:bT H H')(h:H' l=Option.none):H l=Option.none:=by
 cases q:H l with
 |none=>rfl
 |some o=>
   rw[e l o q]at h;cases h
def bT.seq{K:aJ}(e:bT H H')(h:mo K H a xs):mo K H' a xs:=by
 rcases h with(h|⟨o,h⟩)|h
 ·exact .inl (.inl (e _ _ h))
 ·exact .inl (.inr ⟨o,e _ _ h⟩)
 ·exact .inr h
section
variable{κ:Type}[DecidableEq κ]
noncomputable def oj(k_:List (κ×V))(k:κ):Option V:=(k_.find? λc=>decide (c.1=k)).map (·.2)
noncomputable def putK(k_:List (κ×V))(k:κ)(v:V):List (κ×V):=
 if(k_.any λc=>decide (c.1=k))=c_ then k_.map (λc=>if c.1=k then(c.1,v)else c)else k_++[(k,v)]
def qd{p:κ×V}{r:List (κ×V)}{k:κ}(e:p.1=k):oj (p::r) k=a_ p.2:=by simp[oj,e]
def qe{p:κ×V}{r:List (κ×V)}{k:κ}(e:¬p.1=k):oj (p::r) k=oj r k:=by simp[oj,e]
theorem zB(k:κ):∀k_:List (κ×V),(k_.any λc=>decide (c.1=k))=(oj k_ k).isSome
 |[]=>rfl
 |p::r=>by
   rw[mY];by_cases e:p.1=k
   ·simp only[qd e,decide_eq_true e,Bool.true_or,Option.isSome_some]
   ·rw[qe e,decide_eq_false e];exact zB k r
def sL(k_:List (κ×V))(k:κ)(v:V):(putK k_ k v).length<=k_.length+1:=by
 unfold putK;split
 ·simp
 simp
def v3.G3(r:v3 o u):o.isSome=u.isSome:=by
 cases o with
 | none=>cases u with
   |none=>rfl
   |some _=>exact(r).elim
 | some _=>cases u with
   |none=>exact(r).elim
   |some _=>rfl
def KV.val(r:KV k_ vs)(k:κ):v3 (oj k_ k) (valueAt vs k):=by
 induction r with
 |nil=>exact kn
 | @cons p q ps c h t g=>
   obtain⟨h1,h2⟩:=h;by_cases e:p.1=k
   ·have d :=h1.symm.trans e;have b:valueAt (q::c) k=a_ q.2:=by simp[valueAt,d]
    rw[qd e,b];exact h2
   ·have d:¬q.1=k:=λz=>e (h1.trans z);have b:valueAt (q::c) k=valueAt c k:=by simp[valueAt,d]
    rw[qe e,b];exact g
theorem KV.any(r:KV k_ vs)(k:κ):(k_.any λc=>decide (c.1=k))=vs.any λc=>decide (c.1=k):=by
 induction r with
 |nil=>rfl
 |cons h t d=>simp_all
def KV.RP(r:KV k_ vs)(k:κ)(g:RelV y u) :
  KV (k_.map λc=>if c.1=k then(c.1,y)else c) (vs.map λc=>if c.1=k then(c.1,u)else c):=by
 induction r with
 |nil=>exact .nil
 | @cons p q ps j h t d=>
   rw[aq,aq];refine .cons ?_ d;obtain⟨h1,h2⟩:=h;by_cases e:p.1=k
   ·simp_all
   simp_all
def KV.put(r:KV k_ vs)(k:κ)(c:RelV y u):KV (putK k_ k y) (stored vs k u):=by
 unfold putK stored;rw[r.any k];by_cases e:(vs.any λd=>decide (d.1=k))=c_
 ·rw[if_pos e,if_pos e];exact r.RP k c
 ·rw[if_neg e,if_neg e];exact Paired.snoc r ⟨rfl,c⟩
def KV.length{k_:List (κ×V)}{vs:List (κ×ah)}(r:KV k_ vs):k_.length=vs.length:=pG r
end
def wR(r:RelV (kV k) u):(cv P w).is k u=c_:=by
 cases k with
 |inl i=>obtain⟨t,e⟩:=(r);subst e;exact Al P w i t
 |inr x=>obtain⟨t,e⟩:=(r);subst e;exact Ak P w x t
theorem wV:∀{ks:List Key}{us:List ah},cF (ks.map kV) us->ItemsAre (cv P w) ks us
 |[],_,r=>by cases r;exact .nil
 |k::ks,_,r=>by
   cases r with
   |cons h t=>exact .cons (wR h) (wV t)
abbrev KT(H:Hp):List (List Key×V)->List (List Key×aF×ah)->Prop:=hJ λp q=>p.1=q.1/\H q.2.1=a_ (.tup (p.1.map kV))/\RelV p.2 q.2.2
def KT.val(r:KT H k_ xs)(k:List Key):v3 (oj k_ k) ((atKey xs k).map (·.2)):=by
 induction r with
 |nil=>exact kn
 | @cons p q ps c h t g=>
   obtain⟨h1,_,h2⟩:=h;by_cases e:p.1=k
   ·have d :=h1.symm.trans e;have b:atKey (q::c) k=a_ q.2:=by simp[atKey,d]
    rw[qd e,b];exact h2
   ·have d:¬q.1=k:=λz=>e (h1.trans z);have b:atKey (q::c) k=atKey c k:=by simp[atKey,d]
    rw[qe e,b];exact g
def KT.RP(r:KT H k_ xs)(k:List Key)(d:RelV y u) :
  KT H (k_.map λc=>if c.1=k then(c.1,y)else c) (xs.map (putAt k u)):=by
 induction r with
 |nil=>exact .nil
 | @cons p q ps j h t g=>
   rw[aq];refine .cons ?_ g;obtain⟨h1,h2,h3⟩:=h;unfold putAt;by_cases e:p.1=k
   ·rw[if_pos e,if_pos (h1.symm.trans e)];exact⟨h1,h2,d⟩
   ·rw[if_neg e,if_neg (λz=>e (h1.trans z))];exact⟨h1,h2,h3⟩
def KT.put(r:KT H k_ xs)(k:List Key)(hb:H b=a_ (.tup (k.map kV)))(c:RelV y u) :
  KT H (putK k_ k y) (storedH xs k b u):=by
 have e:(k_.any λd=>decide (d.1=k))=(atKey xs k).isSome:=by
  rw[zB,(r.val k).G3,Option.isSome_map]
 unfold putK storedH;rw[e];by_cases q:(atKey xs k).isSome=c_
 ·rw[if_pos q,if_pos q];exact r.RP k c
 ·rw[if_neg q,if_neg q];exact Paired.snoc r ⟨rfl,hb,c⟩
def KT.keeps(r:KT H k_ xs)(ht:∀b ys,H b=a_ (.tup ys)->H' b=a_ (.tup ys)):KT H' k_ xs:=
 Paired.S7 r λ_ _ z=>⟨z.1,ht _ _ z.2.1,z.2.2⟩
section
def PC(ok:qO P w H h)(e:Rd H a u):jP P w H h a u:=e.ok ok
def Fi(ok:qO P w H h)(e:Rd H a (.dK k_)):k_.length<=ax/\(a == sysModules)=d_/\∃vs,KV k_ vs/\h.DictOf (cv P w) a vs:=
 PC ok e
def W2(ok:qO P w H h)(e:H a=a_ (.dK k_)):k_.length<=ax/\(a == sysModules)=d_/\∃vs,KV k_ vs/\h.DictOf (cv P w) a vs:=Fi ok (.inl e)
def CT{ks:List Key}(ok:qO P w H h)(e:H a=a_ (.tup (ks.map kV))):(tupleKind (cv P w)).is h ks a:=by
 obtain⟨_,its,r,o,h1,h2,n,h3⟩:=(ok a _ e)
 exact⟨o,its.toArray,n,h1,h2,h3,by simpa using wV r⟩
def K0(ok:qO P w H h)(e:Rd H a (.dT k_)):k_.length<=ax/\(a == sysModules)=d_/\
  ∃xs,KT H k_ xs/\h.DictOfH (tupleKind (cv P w)) a xs:=by
 obtain⟨z,y,xs,r,o,es,ep,h1,h2,h3,d,h5⟩:=(PC ok e)
 refine⟨z,y,xs,r,o,es,ep,h1,h2,h3,d,λx c=>?_,h5⟩
 have all:∀{l:List (List Key×V)}{m:List (List Key×aF×ah)},KT H l m->∀x∈m,(tupleKind (cv P w)).is h x.1 x.2.1:=by
  intro l m q
  induction q with
  |nil=>simp
  | @cons p q ps j k t g=>
    intro x c
    rcases au.mp c with e|c
    ·subst e;exact CT ok (by simp_all)
    ·exact g x c
 exact all r x c
def W1(ok:qO P w H h)(e:H a=a_ (.dT k_)):k_.length<=ax/\(a == sysModules)=d_/\
  ∃xs,KT H k_ xs/\h.DictOfH (tupleKind (cv P w)) a xs:=K0 ok (.inl e)
end
def Bw(H:Hp)(a:aF)(y:V)(r:Option V):Prop:=
 (∃k_ k,Rd H a (.dK k_)/\y=kV k/\r=oj k_ k)\/∃k_ k b,Rd H a (.dT k_)/\y=.ref b/\H b=a_ (.tup (k.map kV))/\r=oj k_ k
def O8(H:Hp)(a:aF)(y v:V)(H':Hp):Prop:=
 (∃k_ k,H a=a_ (.dK k_)/\y=kV k/\k_.length<ax/\H'=upd H a (.dK (putK k_ k v)))\/
 ∃k_ k b,H a=a_ (.dT k_)/\y=.ref b/\H b=a_ (.tup (k.map kV))/\k_.length<ax/\H'=upd H a (.dT (putK k_ k v))
def Bw.k{H:Hp}{a:aF}{k_:List (Key×V)}{k:Key}(e:H a=a_ (.dK k_)):Bw H a (kV k) (oj k_ k):=.inl ⟨k_,k,.inl e,rfl,rfl⟩
def O8.k{H:Hp}{a:aF}{k_:List (Key×V)}{k:Key}{v:V}(e:H a=a_ (.dK k_))(hl:k_.length<ax):O8 H a (kV k) v (upd H a (.dK (putK k_ k v))):=.inl ⟨k_,k,e,rfl,hl,rfl⟩
section
variable{A:bP}
def Inv.big(I:Inv X h_ σ H s):sysModules<s.heap.objs.size:=by
 have h :=(I.mod.glob.keeps I.bk).lt;exact c5 (by decide) h
def xp(L:A.units+1<dh)(I:Inv X h_ σ H s)(g:Bw H a y (a_ v))(J:RelV y u)(h:∀d s',Inv X h_ σ H s'->RelV v d->Q d s') :
  aA (aD X.prog X.w) A (getItem (.ref a) u) Q E s:=by
 rcases g with⟨k_,k,e,j,l⟩|⟨k_,k,b,e,j,M,l⟩
 ·subst j;obtain⟨z,hd,vs,rel,q⟩:=Fi I.hok e;obtain⟨d,B,c⟩:=v3.some_of (by rw[l];exact rel.val k);exact wpAny_getItem_of (wR J) q.mapOf B (h d _ (I.tok _) c)
 ·subst j;cases(J);obtain⟨z,hd,xs,rel,q⟩:=K0 I.hok e;obtain⟨d,B,c⟩:=v3.some_of (by rw[l];exact rel.val k);obtain⟨p,hp,D⟩:=dZ B;refine wpAny_getItem_heap (tupleKind_room_in1 L) (CT I.hok M) q hp ?_;rw[D];exact h d _ (I.tok _) c
def Fn(I:Inv X h_ σ H s)(c:Xx (H a))(hs:cj a s.heap h')(d:∃q,h'.get? a=a_ q)(new:jP X.prog X.w (upd H a ob) h' a ob) :
  Inv X h_ σ (upd H a ob) { s with heap:=h',toks:=t' }:=
 I.write c (.inl rfl) (λb q hb z=>(hs.2 b hb).trans z) d new
def T4{h':cc}{k_:List (Key×V)}(z:k_.length<=ax)(hd:(a == sysModules)=d_)(rel:KV k_ vs)(c:h'.DictOf (cv P w) a vs) :
  jP P w H' h' a (.dK k_):=⟨z,hd,vs,rel,c⟩
def Hf(U:A.units+1<dh)(I:Inv X h_ σ H s)(g:O8 H a y v H')(L:RelV y u)(M:RelV v r)(h:∀s',Inv X h_ σ H' s'->Q () s') :
  aA (aD X.prog X.w) A (setItem (.ref a) u r) Q E s:=by
 rcases g with⟨k_,k,e,B,l,D⟩|⟨k_,k,b,e,B,O,l,D⟩
 ·subst B D;obtain⟨z,hd,vs,rel,J⟩:=W2 I.hok e;have W:vs.length<=ax:=by rw[<-rel.length];exact z
  have hl :=ab (sL k_ k v) l;refine wpAny_setItem_pairs (wR L) J λh' d hs=>h _ ?_;have Y:∃q,h'.get? a=a_ q:=let ⟨q,_,_,j,_⟩:=d;⟨q,j⟩;exact Fn I (by rw[e];exact kn) hs Y (T4 hl hd (rel.put k M) d)
 ·subst B D;cases(L);obtain⟨z,hd,xs,rel,J⟩:=W1 I.hok e;have W:xs.length<=ax:=by rw[<-pG rel];exact z
  have hl :=ab (sL k_ k v) l;refine wpAny_setItem_heap (tupleKind_room_in1 U) (CT I.hok O) J λh' d hs=>h _ ?_;obtain⟨q,es,ep,j,h2,h3,Z,_,h5⟩:=d;refine Fn I (by rw[e];exact kn) hs ⟨q,j⟩ ⟨hl,hd,_,(rel.put k O M).keeps λc ys R=>?_,q,es,ep,j,h2,h3,Z,h5⟩;rw[cD (Wm R e (λz=>nomatch z))];exact R
end
section
def W3(I:Inv X h_ σ H s)(e:Rd H a (.dK k_))(h:∀t s',Inv X h_ σ H s'->Q (.int k_.length t) s'):aA (aD X.prog X.w) A (call (.builtin "len") [.ref a]) Q E s:=by
 obtain⟨z,hd,vs,rel,c⟩:=Fi I.hok e;refine call_len_dict hd c (by rw[<-rel.length];exact hV (eP.mpr z) (by decide)) ?_;rw[<-rel.length];exact h _ _ (I.tok _)
end
def sW(I:Inv X h_ σ H s)(g:Bw H a y o):s.TypeIs (.ref a) "dict":=by
 rcases g with⟨k_,k,e,_,_⟩|⟨k_,k,b,e,_,_,_⟩
 ·obtain⟨_,_,vs,_,c⟩:=Fi I.hok e;exact c.typeIs
 ·obtain⟨_,_,xs,_,c⟩:=K0 I.hok e;exact c.typeIs
section
end
def K2(h:cc)(hb:sysModules<h.objs.size):jP P w H (h.push { cls:=.type "dict",data:=.dict #[] }) h.objs.size (.dK []):=
 ⟨aP _,beq_eq_false_iff_ne.mpr (eQ (bo hb)),[],.nil,Heap.DictOf.new h⟩
def QC:TE:=λ_ H Q=>∀p,H p=b_->Q (.ref p) (upd H p (.dK []))
section
def Js:PE X (.Dict [] [] pos) QC:=λh_ s σ H Q I h=>
 wpAny_Dict_empty ⟨.ref s.heap.objs.size,_,I.laid (λ_ _ q=>hp9 _ q) (ao _) (K2 s.heap I.big),rfl,h _ (I.hok.fresh (ao _))⟩
end
section
end
section
end
section
end
section
end
end L2
namespace M
open PySem PySem.Spec PyProof.Rows L2
set_option genInjectivity true in
inductive Dat where
 |non|bl (b:Bool)|int (i:Int)|str (x:bc)|tup (xs:List Dat)|lst (xs:List Dat)|dct (ks:List Key) (vs:List Dat)|dcn (ks:List (List NK))
 deriving Inhabited
abbrev Fg:=aJ
def Tq(K:Fg)(F:Hp)(a:aF)(vs:List V):Prop:=F a=a_ (.tup vs)\/∃(o:kL) (its:Array ah) (n:Nat),K.lookup a=a_ o/\o.cls=.type "tuple"/\o.data=.seq its n/\its.size<=ax/\cF vs its.toList
def Tq.sq{K:Fg}(h:Tq K F a vs):sk K F a vs:=by
 rcases h with h|h
 ·exact .inl (.inl h)
 ·exact .inr h
def Tq.mono{K:Fg}(s:bT F F')(h:Tq K F a vs):Tq K F' a vs:=by
 rcases h with h|h
 ·exact .inl (s _ _ h)
 ·exact .inr h
def L1(K:Fg)(F:Hp):List N2->List V->Prop
 |[],vs=>vs=[]
 |.inl k::ks,vs=>∃r,vs=kV k::r/\L1 K F ks r
 |.inr q::ks,vs=>∃b r,vs=.ref b::r/\Tq K F b (q.map kV)/\L1 K F ks r
def L0(K:Fg)(F:Hp):List NK->List V->Prop
 |[],vs=>vs=[]
 |.inl k::ks,vs=>∃r,vs=kV k::r/\L0 K F ks r
 |.inr q::ks,vs=>∃b r us,vs=.ref b::r/\Tq K F b us/\L1 K F q us/\L0 K F ks r
def XZ(K:Fg)(F:Hp)(k:List NK)(a:aF):Prop:=∃vs,Tq K F a vs/\L0 K F k vs
def LB(K:Fg)(F:Hp)(ks:List (List NK))(xs:List (List NK×aF)):Prop:=xs.map (·.1)=ks/\∀x∈xs,XZ K F x.1 x.2
theorem L1.imp{K:Fg}(f:∀b vs,Tq K F b vs->Tq K F' b vs):∀{ks:List N2}{vs:List V},L1 K F ks vs->L1 K F' ks vs
 |[],_,h=>h
 |.inl k::ks,_,h=>by obtain⟨r,e,h⟩:=h;exact⟨r,e,L1.imp f h⟩
 |.inr q::ks,_,h=>by obtain⟨b,r,e,t,h⟩:=h;exact⟨b,r,e,f _ _ t,L1.imp f h⟩
theorem L0.imp{K:Fg}(f:∀b vs,Tq K F b vs->Tq K F' b vs):∀{ks:List NK}{vs:List V},L0 K F ks vs->L0 K F' ks vs
 |[],_,h=>h
 |.inl k::ks,_,h=>by obtain⟨r,e,h⟩:=h;exact⟨r,e,L0.imp f h⟩
 |.inr q::ks,_,h=>by obtain⟨b,r,us,e,t,u,h⟩:=h;exact⟨b,r,us,e,f _ _ t,u.imp f,L0.imp f h⟩
def LB.imp{K:Fg}(f:∀b vs,Tq K F b vs->Tq K F' b vs)(h:LB K F ks xs):LB K F' ks xs:=
 ⟨h.1,λx c=>let ⟨vs,t,r⟩:=h.2 x c;⟨vs,f _ _ t,r.imp f⟩⟩
mutual
def Rep(K:Fg)(F:Hp):Dat->V->Prop
 |.non,v=>v=.non
 |.bl b,v=>v=.bl b
 |.int i,v=>v=.int i
 |.str x,v=>v=.str x
 |.tup ds,v=>∃a vs,v=.ref a/\Tq K F a vs/\cO K F ds vs
 |.lst ds,v=>∃a vs,v=.ref a/\mo K F a vs/\cO K F ds vs
 |.dct ks ds,v=>∃a k_,v=.ref a/\F a=a_ (.dK k_)/\k_.map (·.1)=ks/\cO K F ds (k_.map (·.2))
 |.dcn ks,v=>∃a xs,v=.ref a/\F a=a_ (.dN xs)/\LB K F ks xs
def cO(K:Fg)(F:Hp):List Dat->List V->Prop
 |[],vs=>vs=[]
 |d::ds,vs=>∃v r,vs=v::r/\Rep K F d v/\cO K F ds r
end
mutual
theorem Rep.mono{K:Fg}(s:bT F F'):∀(d:Dat){v:V},Rep K F d v->Rep K F' d v
 |.non,_,h=>h
 |.bl _,_,h=>h
 |.int _,_,h=>h
 |.str _,_,h=>h
 |.tup ds,_,⟨a,vs,e,t,r⟩=>⟨a,vs,e,t.mono s,cO.mono s ds r⟩
 |.lst ds,_,⟨a,vs,e,t,r⟩=>⟨a,vs,e,s.seq t,cO.mono s ds r⟩
 |.dct _ ds,_,⟨a,k_,e,t,k,r⟩=>⟨a,k_,e,s _ _ t,k,cO.mono s ds r⟩
 |.dcn _,_,⟨a,xs,e,t,r⟩=>⟨a,xs,e,s _ _ t,r.imp λ_ _ q=>q.mono s⟩
theorem cO.mono{K:Fg}(s:bT F F'):∀(ds:List Dat){vs:List V},cO K F ds vs->cO K F' ds vs
 |[],_,h=>h
 |d::ds,_,⟨v,r,e,h1,h2⟩=>⟨v,r,e,Rep.mono s d h1,cO.mono s ds h2⟩
end
theorem cO.length{K:Fg}:∀{ds:List Dat}{vs:List V},cO K F ds vs->vs.length=ds.length
 |[],_,h=>by rw[h];rfl
 |d::ds,_,c=>by obtain⟨v,r,e,_,h2⟩:=c;rw[e,ba,ba,cO.length h2]
theorem cO.get{K:Fg}:∀{ds:List Dat}{vs:List V}{i:Nat}{d:Dat},cO K F ds vs->ds[i]?=a_ d->∃v,vs[i]?=a_ v/\Rep K F d v
 |[],_,_,_,_,e=>by simp at e
 |d::ds,_,0,_,c,z=>by obtain⟨v,r,e,h1,_⟩:=c;simp at z;subst z;subst e;exact⟨v,rfl,h1⟩
 |d::ds,_,i+1,_,c,z=>by
   obtain⟨v,r,e,_,h2⟩:=c;subst e;obtain⟨w,g,j⟩:=cO.get h2 (by simpa using z);exact⟨w,by simpa using g,j⟩
theorem cO.append{K:Fg}:∀{ds es:List Dat}{vs us:List V},cO K F ds vs->cO K F es us->cO K F (ds++es) (vs++us)
 |[],_,_,_,h,h'=>by rw[h];exact h'
 |d::ds,_,_,_,c,h'=>by obtain⟨v,r,e,h1,h2⟩:=c;subst e;exact⟨v,r++_,rfl,h1,cO.append h2 h'⟩
def cO.one{K:Fg}(h:Rep K F d v):cO K F [d] [v]:=⟨v,[],rfl,h,rfl⟩
theorem cO.take{K:Fg}:∀(n:Nat){ds:List Dat}{vs:List V},cO K F ds vs->cO K F (ds.take n) (vs.take n)
 |0,_,_,_=>by simp[cO]
 |n+1,[],_,h=>by rw[h];exact rfl
 |n+1,d::ds,_,c=>by obtain⟨v,r,e,h1,h2⟩:=c;subst e;exact⟨v,r.take n,rfl,h1,cO.take n h2⟩
theorem cO.drop{K:Fg}:∀(n:Nat){ds:List Dat}{vs:List V},cO K F ds vs->cO K F (ds.drop n) (vs.drop n)
 |0,_,_,h=>h
 |n+1,[],_,h=>by rw[h];exact rfl
 |n+1,d::ds,_,c=>by obtain⟨v,r,e,h1,h2⟩:=c;subst e;exact cO.drop n h2
mutual
noncomputable def im:Dat->Bool
 |.lst _=>d_
 |.dct _ _=>d_
 |.dcn _=>d_
 |.tup ds=>jF ds
 |_=>c_
noncomputable def jF:List Dat->Bool
 |[]=>c_
 |d::ds=>im d && jF ds
end
structure Good(F H:Hp):Prop where
 sub:bT F H
 tup:∀a vs,H a=a_ (.tup vs)->F a=a_ (.tup vs)
structure Step(F H F' H':Hp):Prop where
 good:Good F' H'
 ff:bT F F'
 hh:bT H H'
 un:∀a o,H a=a_ o->F a=b_->F' a=b_
def Step.refl(g:Good F H):Step F H F H:=⟨g,bT.refl _,bT.refl _,λ_ _ _ n=>n⟩
def Step.trans{F1:Hp}(a:Step F H F1 H1)(b:Step F1 H1 F2 H2):Step F H F2 H2:=
 ⟨b.good,a.ff.trans b.ff,a.hh.trans b.hh,λx o h n=>b.un x o (a.hh x o h) (a.un x o h n)⟩
def bT.upd(hp:H p=b_):bT H (upd H p o):=λb u e=>by rw[cD (ee e hp)];exact e
def Step.alloc(g:Good F H)(hp:H p=b_):Step F H (upd F p o) (upd H p o):=by
 have c:F p=b_:=by
  cases q:F p with
  |none=>rfl
  |some u=>rw[g.sub p u q]at hp;cases hp
 refine⟨⟨λb u e=>?_,λa vs e=>?_⟩,bT.upd c,bT.upd hp,λa u h n=>?_⟩
 ·by_cases hb:b=p
  ·subst hb;rw[cu]at e ⊢;exact e
  ·rw[cD hb]at e ⊢;exact g.sub b u e
 ·by_cases hb:a=p
  ·subst hb;rw[cu]at e ⊢;exact e
  ·rw[cD hb]at e ⊢;exact g.tup a vs e
 ·rw[cD (ee h hp)];exact n
noncomputable def shr(F H F1:Hp):Hp:=λa=>match F a,H a with
 |none,a_ _=>b_
 |_,_=>F1 a
def Rg{F1:Hp}(h:shr F H F1 a=a_ o):F1 a=a_ o:=by
 unfold shr at h
 cases q:F a with
 |none=>
   cases c:H a with
   |none=>simp_all
   |some u=>simp_all
 |some u=>rw[q]at h;exact h
def Cg{F1:Hp}(h:F a≠b_\/H a=b_):shr F H F1 a=F1 a:=by
 unfold shr
 cases q:F a with
 |none=>
   simp_all
 |some u=>rfl
def Step.shrink{F1:Hp}(g:Good F H)(s:bT F Fp)(st:Step Fp H F1 H1):Step F H (shr F H F1) H1:=by
 refine⟨⟨λa o e=>st.good.sub a o (Rg e),λa vs e=>?_⟩,λa o e=>?_,st.hh,λa o h n=>?_⟩
 ·have e1:=st.good.tup a vs e;rw[Cg ?_]
  ·exact e1
  ·cases q:H a with
   |none=>exact .inr rfl
   |some u=>
     have:=st.hh a u q;rw[e]at this;cases this;exact .inl (by rw[g.tup a vs q];simp)
 ·rw[Cg (.inl (by rw[e];simp))];exact st.ff a o (s a o e)
 ·unfold shr;rw[n,h]
def Tq.shrink{K:Fg}{F1:Hp}(g:Good F H)(st:Step Fp H F1 H1)(h:Tq K F1 a vs):Tq K (shr F H F1) a vs:=by
 rcases h with h|h
 ·refine .inl ?_;rw[Cg ?_]
  ·exact h
  ·cases q:H a with
   |none=>exact .inr rfl
   |some u=>
     have:=st.hh a u q;rw[st.good.sub a _ h]at this;cases this;exact .inl (by rw[g.tup a vs q];simp)
 ·exact .inr h
mutual
theorem Rep.shrink{K:Fg}{F1:Hp}(g:Good F H)(st:Step Fp H F1 H1):∀(d:Dat){v:V},im d=c_->Rep K F1 d v->Rep K (shr F H F1) d v
 |.non,_,_,h=>h
 |.bl _,_,_,h=>h
 |.int _,_,_,h=>h
 |.str _,_,_,h=>h
 |.tup ds,_,m,⟨a,vs,e,t,r⟩=>⟨a,vs,e,t.shrink g st,cO.shrink g st ds m r⟩
 |.lst ds,_,m,_=>nomatch m
 |.dct _ _,_,m,_=>nomatch m
 |.dcn _,_,m,_=>nomatch m
theorem cO.shrink{K:Fg}{F1:Hp}(g:Good F H)(st:Step Fp H F1 H1):∀(ds:List Dat){vs:List V},jF ds=c_->cO K F1 ds vs->cO K (shr F H F1) ds vs
 |[],_,_,h=>h
 |d::ds,_,m,j=>by
   obtain⟨v,r,e,h1,h2⟩:=j;have c:im d=c_/\jF ds=c_:=by simpa [jF]using m
   exact⟨v,r,e,Rep.shrink g st d c.1 h1,cO.shrink g st ds c.2 h2⟩
end
mutual
def lK(K:Fg)(H:Hp):Dat->V->List aF->Prop
 |.non,v,S=>v=.non/\S=[]
 |.bl b,v,S=>v=.bl b/\S=[]
 |.int i,v,S=>v=.int i/\S=[]
 |.str x,v,S=>v=.str x/\S=[]
 |.tup ds,v,S=>∃a vs,v=.ref a/\Tq K H a vs/\cV K H ds vs S
 |.lst ds,v,S=>∃a vs S',v=.ref a/\H a=a_ (.lst vs)/\cV K H ds vs S'/\S=a::S'
 |.dct ks ds,v,S=>∃a k_ S',v=.ref a/\H a=a_ (.dK k_)/\k_.map (·.1)=ks/\cV K H ds (k_.map (·.2)) S'/\S=a::S'
 |.dcn ks,v,S=>∃a xs,v=.ref a/\H a=a_ (.dN xs)/\LB K H ks xs/\S=[a]
def cV(K:Fg)(H:Hp):List Dat->List V->List aF->Prop
 |[],vs,S=>vs=[]/\S=[]
 |d::ds,vs,S=>∃v r c g,vs=v::r/\lK K H d v c/\cV K H ds r g/\S=c++g
end
mutual
theorem lK.mono{K:Fg}(s:bT H H'):∀(d:Dat){v:V}{S:List aF},lK K H d v S->lK K H' d v S
 |.non,_,_,h=>h
 |.bl _,_,_,h=>h
 |.int _,_,_,h=>h
 |.str _,_,_,h=>h
 |.tup ds,_,_,⟨a,vs,e,t,r⟩=>⟨a,vs,e,t.mono s,cV.mono s ds r⟩
 |.lst ds,_,_,⟨a,vs,S',e,t,r,q⟩=>⟨a,vs,S',e,s _ _ t,cV.mono s ds r,q⟩
 |.dct _ ds,_,_,⟨a,k_,S',e,t,k,r,q⟩=>⟨a,k_,S',e,s _ _ t,k,cV.mono s ds r,q⟩
 |.dcn _,_,_,⟨a,xs,e,t,r,q⟩=>⟨a,xs,e,s _ _ t,r.imp λ_ _ z=>z.mono s,q⟩
theorem cV.mono{K:Fg}(s:bT H H'):∀(ds:List Dat){vs:List V}{S:List aF},cV K H ds vs S->cV K H' ds vs S
 |[],_,_,h=>h
 |d::ds,_,_,⟨v,r,c,g,e,h1,h2,q⟩=>⟨v,r,c,g,e,lK.mono s d h1,cV.mono s ds h2,q⟩
end
def Hu:HO->Prop
 |.lst _=>True
 |.dK _=>True
 |.dN _=>True
 |_=>False
mutual
theorem lK.vd{K:Fg}:∀(d:Dat){v:V}{S:List aF},lK K H d v S->∀a∈S,∃o,H a=a_ o/\Hu o
 |.non,_,_,h=>by rw[h.2];intro a m;cases m
 |.bl _,_,_,h=>by rw[h.2];intro a m;cases m
 |.int _,_,_,h=>by rw[h.2];intro a m;cases m
 |.str _,_,_,h=>by rw[h.2];intro a m;cases m
 |.tup ds,_,_,⟨a,vs,e,t,r⟩=>cV.vd ds r
 |.lst ds,_,_,c=>by
   obtain⟨a,vs,S',e,t,r,q⟩:=c;subst q;intro b m
   rcases au.mp m with rfl|m
   ·exact⟨_,t,trivial⟩
   ·exact cV.vd ds r b m
 |.dct _ ds,_,_,c=>by
   obtain⟨a,k_,S',e,t,k,r,q⟩:=c;subst q;intro b m
   rcases au.mp m with rfl|m
   ·exact⟨_,t,trivial⟩
   ·exact cV.vd ds r b m
 |.dcn _,_,_,c=>by
   obtain⟨a,xs,e,t,r,q⟩:=c;subst q;intro b m;rw[aL.mp m];exact⟨_,t,trivial⟩
theorem cV.vd{K:Fg}:∀(ds:List Dat){vs:List V}{S:List aF},cV K H ds vs S->∀a∈S,∃o,H a=a_ o/\Hu o
 |[],_,_,h=>by rw[h.2];intro a m;cases m
 |d::ds,_,_,c=>by
   obtain⟨v,r,g,j,e,h1,h2,q⟩:=c;subst q;intro b m
   rcases aE.mp m with m|m
   ·exact lK.vd d h1 b m
   ·exact cV.vd ds h2 b m
end
noncomputable def fz(F H:Hp)(S:List aF):Hp:=λa=>if a∈S then H a else F a
def AN(h:a∈S):fz F H S a=H a:=if_pos h
def rZ(h:a∉S):fz F H S a=F a:=if_neg h
def TM(g:bT F H):bT (fz F H S) H:=λa o e=>by
 by_cases m:a∈S
 ·rw[AN m]at e;exact e
 ·rw[rZ m]at e;exact g a o e
def rY(g:bT F H):bT F (fz F H S):=λa o e=>by
 by_cases m:a∈S
 ·rw[AN m];exact g a o e
 ·rw[rZ m];exact e
def yA(g:Good F H):Good (fz F H S) H:=⟨TM g.sub,λa vs e=>rY g.sub a _ (g.tup a vs e)⟩
mutual
theorem lK.mD{K:Fg}(g:Good F H):∀(d:Dat){v:V}{S T:List aF},lK K H d v S->(∀a∈S,a∈T)->Rep K (fz F H T) d v
 |.non,_,_,_,h,_=>h.1
 |.bl _,_,_,_,h,_=>h.1
 |.int _,_,_,_,h,_=>h.1
 |.str _,_,_,_,h,_=>h.1
 |.tup ds,_,_,_,c,m=>by
   obtain⟨a,vs,e,t,r⟩:=c;refine⟨a,vs,e,?_,cV.mD g ds r m⟩
   rcases t with t|t
   ·exact .inl (rY g.sub _ _ (g.tup _ _ t))
   ·exact .inr t
 |.lst ds,_,_,_,c,m=>by
   obtain⟨a,vs,S',e,t,r,q⟩:=c;subst q;refine⟨a,vs,e,.inl (.inl ?_),cV.mD g ds r λb hb=>m b (kD _ hb)⟩;rw[AN (m a jE)];exact t
 |.dct _ ds,_,_,_,c,m=>by
   obtain⟨a,k_,S',e,t,k,r,q⟩:=c;subst q;refine⟨a,k_,e,?_,k,cV.mD g ds r λb hb=>m b (kD _ hb)⟩;rw[AN (m a jE)];exact t
 |.dcn _,_,_,_,c,m=>by
   obtain⟨a,xs,e,t,r,q⟩:=c;subst q;refine⟨a,xs,e,?_,r.imp λb vs z=>?_⟩
   ·rw[AN (m a jE)];exact t
   ·rcases z with z|z
    ·exact .inl (rY g.sub _ _ (g.tup _ _ z))
    ·exact .inr z
theorem cV.mD{K:Fg}(g:Good F H):∀(ds:List Dat){vs:List V}{S T:List aF},cV K H ds vs S->(∀a∈S,a∈T)->cO K (fz F H T) ds vs
 |[],_,_,_,h,_=>h.1
 |d::ds,_,_,_,c,m=>by
   obtain⟨v,r,j,k,e,h1,h2,q⟩:=c;subst q;exact⟨v,r,e,lK.mD g d h1 λa ha=>m a (aH _ ha),cV.mD g ds h2 λa ha=>m a (ak _ ha)⟩
end
mutual
theorem lK.jO{K:Fg}(g:bT F H):∀(d:Dat){v:V},im d=c_->Rep K F d v->lK K H d v []
 |.non,_,_,h=>⟨h,rfl⟩
 |.bl _,_,_,h=>⟨h,rfl⟩
 |.int _,_,_,h=>⟨h,rfl⟩
 |.str _,_,_,h=>⟨h,rfl⟩
 |.tup ds,_,m,⟨a,vs,e,t,r⟩=>⟨a,vs,e,t.mono g,cV.jO g ds m r⟩
 |.lst ds,_,m,_=>nomatch m
 |.dct _ _,_,m,_=>nomatch m
 |.dcn _,_,m,_=>nomatch m
theorem cV.jO{K:Fg}(g:bT F H):∀(ds:List Dat){vs:List V},jF ds=c_->cO K F ds vs->cV K H ds vs []
 |[],_,_,h=>⟨h,rfl⟩
 |d::ds,_,m,j=>by
   obtain⟨v,r,e,h1,h2⟩:=j;have c:im d=c_/\jF ds=c_:=by simpa [jF]using m
   exact⟨v,r,[],[],e,lK.jO g d c.1 h1,cV.jO g ds c.2 h2,rfl⟩
end
mutual
theorem lK.upd{K:Fg}(hp:∀vs,H p≠a_ (.tup vs)):∀(d:Dat){v:V}{S:List aF},lK K H d v S->p∉S->lK K (upd H p o) d v S
 |.non,_,_,h,_=>h
 |.bl _,_,_,h,_=>h
 |.int _,_,_,h,_=>h
 |.str _,_,_,h,_=>h
 |.tup ds,_,_,g,n=>by
   obtain⟨a,vs,e,t,r⟩:=g;refine⟨a,vs,e,?_,cV.upd hp ds r n⟩
   rcases t with t|t
   ·refine .inl ?_;rw[cD (λz=>hp vs (by rw[<-z];exact t))];exact t
   ·exact .inr t
 |.lst ds,_,_,g,n=>by
   obtain⟨a,vs,S',e,t,r,q⟩:=g;subst q;have c:a≠p:=λz=>n (z▸jE);exact⟨a,vs,S',e,(cD c).trans t,cV.upd hp ds r (λm=>n (kD _ m)),rfl⟩
 |.dct _ ds,_,_,g,n=>by
   obtain⟨a,k_,S',e,t,k,r,q⟩:=g;subst q;have c:a≠p:=λz=>n (z▸jE);exact⟨a,k_,S',e,(cD c).trans t,k,cV.upd hp ds r (λm=>n (kD _ m)),rfl⟩
 |.dcn _,_,_,g,n=>by
   obtain⟨a,xs,e,t,r,q⟩:=g;subst q;have c:a≠p:=λz=>n (z▸jE);refine⟨a,xs,e,(cD c).trans t,r.imp λb vs z=>?_,rfl⟩
   rcases z with z|z
   ·refine .inl ?_;rw[cD (λy=>hp vs (by rw[<-y];exact z))];exact z
   ·exact .inr z
theorem cV.upd{K:Fg}(hp:∀vs,H p≠a_ (.tup vs)):∀(ds:List Dat){vs:List V}{S:List aF},cV K H ds vs S->p∉S->cV K (upd H p o) ds vs S
 |[],_,_,h,_=>h
 |d::ds,_,_,c,n=>by
   obtain⟨v,r,g,j,e,h1,h2,q⟩:=c;subst q;exact⟨v,r,g,j,e,lK.upd hp d h1 (λm=>n (aH _ m)),cV.upd hp ds h2 (λm=>n (ak _ m)),rfl⟩
end
theorem cV.length{K:Fg}:∀{ds:List Dat}{vs:List V}{S:List aF},cV K H ds vs S->vs.length=ds.length
 |[],_,_,h=>by rw[h.1];rfl
 |d::ds,_,_,c=>by obtain⟨v,r,g,j,e,_,h2,_⟩:=c;rw[e,ba,ba,cV.length h2]
theorem cV.append{K:Fg}:∀{ds es:List Dat}{vs us:List V}{S T:List aF},cV K H ds vs S->cV K H es us T->cV K H (ds++es) (vs++us) (S++T)
 |[],_,_,_,_,_,h,h'=>by rw[h.1,h.2];exact h'
 |d::ds,_,_,_,_,_,c,h'=>by obtain⟨v,r,g,j,e,h1,h2,q⟩:=c;subst e q;exact⟨v,r++_,g,j++_,rfl,h1,cV.append h2 h',by rw[aC]⟩
def cV.one{K:Fg}(h:lK K H d v S):cV K H [d] [v] S:=⟨v,[],S,[],rfl,h,⟨rfl,rfl⟩,by simp⟩
abbrev St:=L2.St
abbrev iJ:=List (Option Dat)
def mV(K:Fg)(F:Hp)(σ:St)(ρ:iJ):Prop:=∀(i:Nat)d,ρ[i]?=a_ (a_ d)->∃v,σ[i]?=a_ (a_ v)/\Rep K F d v
def mV.mono{K:Fg}(s:bT F F')(h:mV K F σ ρ):mV K F' σ ρ:=λi d e=>let ⟨v,q1,q2⟩:=h i d e;⟨v,q1,q2.mono s⟩
def fX(K:Fg)(H H':Hp)(d:Dat)(v:V):Prop:=∃S:List aF,S.Nodup/\(∀a∈S,H a=b_)/\lK K H' d v S
def e8(K:Fg)(H H':Hp)(ds:List Dat)(vs:List V):Prop:=∃S:List aF,S.Nodup/\(∀a∈S,H a=b_)/\cV K H' ds vs S
def fX.back{K:Fg}{F:Hp}(s:bT H0 H)(h:fX K H H' d v):fX K H0 H' d v:=by
 obtain⟨S,n,e,r⟩:=h;exact⟨S,n,λa m=>s.free (e a m),r⟩
def e8.back{K:Fg}{F:Hp}(s:bT H0 H)(h:e8 K H H' ds vs):e8 K H0 H' ds vs:=by
 obtain⟨S,n,e,r⟩:=h;exact⟨S,n,λa m=>s.free (e a m),r⟩
def fX.jO{K:Fg}(g:Good F H')(m:im d=c_)(r:Rep K F d v):fX K H H' d v:=⟨[],eR,(λa z=>by cases z),lK.jO g.sub d m r⟩
def e8.jO{K:Fg}(g:Good F H')(m:jF ds=c_)(r:cO K F ds vs):e8 K H H' ds vs:=⟨[],eR,(λa z=>by cases z),cV.jO g.sub ds m r⟩
def e8.cons{K:Fg}{H c H2:Hp}{d:Dat}{ds:List Dat}{v:V}{vs:List V}(s:bT H c)(s':bT c H2)(h:fX K H c d v)(hs:e8 K c H2 ds vs):e8 K H H2 (d::ds) (v::vs):=by
 obtain⟨S,n,e,r⟩:=h;obtain⟨T,g,j,k⟩:=hs;refine⟨S++T,bW.mpr ⟨n,g,λa ha b hb z=>?_⟩,λa m=>?_,v,vs,S,T,rfl,r.mono s',k,rfl⟩
 ·subst z;obtain⟨o,ho,_⟩:=r.vd _ a ha
  grind
 ·rcases aE.mp m with m|m
  ·exact e a m
  ·exact s.free (j a m)
def e8.snoc{K:Fg}(s:bT H H1)(s':bT H1 H2)(hs:e8 K H H1 ds vs)(h:fX K H1 H2 d v):e8 K H H2 (ds++[d]) (vs++[v]):=by
 obtain⟨S,n,e,r⟩:=hs;obtain⟨T,c,g,j⟩:=h;refine⟨S++T,bW.mpr ⟨n,c,λa ha b hb z=>?_⟩,λa m=>?_,(r.mono s').append (.one j)⟩
 ·subst z;obtain⟨o,ho,_⟩:=r.vd _ a ha
  grind
 ·rcases aE.mp m with m|m
  ·exact e a m
  ·exact s.free (g a m)
def e8.mono{K:Fg}(s:bT H1 H')(h:e8 K H H1 ds vs):e8 K H H' ds vs:=by
 obtain⟨S,n,e,r⟩:=h;exact⟨S,n,e,r.mono s⟩
def e8.nil{K:Fg}:e8 K H H1 [] []:=⟨[],eR,(λa z=>by cases z),rfl,rfl⟩
def fX.lst{K:Fg}(s:bT H H1)(hp:H1 p=b_)(h:e8 K H H1 ds vs):fX K H (L2.upd H1 p (.lst vs)) (.lst ds) (.ref p):=by
 obtain⟨S,n,e,r⟩:=h;refine⟨p::S,aT.mpr ⟨λm=>?_,n⟩,λa m=>?_,p,vs,S,rfl,cu,r.mono (bT.upd hp),rfl⟩
 ·obtain⟨o,ho,_⟩:=r.vd _ p m;rw[hp]at ho;cases ho
 ·rcases au.mp m with rfl|m
  ·exact s.free hp
  ·exact e a m
def fX.tup{K:Fg}(hp:H1 p=b_)(h:e8 K H H1 ds vs):fX K H (L2.upd H1 p (.tup vs)) (.tup ds) (.ref p):=by
 obtain⟨S,n,e,r⟩:=h;exact⟨S,n,e,p,vs,rfl,.inl cu,r.mono (bT.upd hp)⟩
def tE(K:Fg)(ρ:iJ)(d:Dat)(fr:Bool):TE:=λσ H Q=>∃F,Good F H/\mV K F σ ρ/\∀v F' H',Step F H F' H'->Rep K F' d v->(fr=c_->fX K H H' d v)->Q v H'
def tEs(K:Fg)(ρ:iJ)(ds:List Dat):TA:=λσ H Q=>∃F,Good F H/\mV K F σ ρ/\∀vs F' H',Step F H F' H'->cO K F' ds vs->Q vs H'
def tT(K:Fg)(ρ:iJ)(b:Bool):TT:=λσ H Q=>∃F,Good F H/\mV K F σ ρ/\∀F' H',Step F H F' H'->Q b H'
def tFs(K:Fg)(ρ:iJ)(ds:List Dat)(al:Bool):TA:=λσ H Q=>∃F,Good F H/\mV K F σ ρ/\∀vs F' H',Step F H F' H'->cO K F' ds vs->(al=c_->e8 K H H' ds vs)->Q vs H'
def rD(K:Fg)(da c:Dat)(d:Dat)(fr:Bool):R2:=λx y H Q=>∃F,Good F H/\Rep K F da x/\Rep K F c y/\∀v F' H',Step F H F' H'->Rep K F' d v->(fr=c_->fX K H H' d v)->Q v H'
def rDs(K:Fg)(ds:List Dat)(d:Dat)(fr:Bool):List V->Hp->VK->Prop:=λxs H Q=>∃F,Good F H/\cO K F ds xs/\∀v F' H',Step F H F' H'->Rep K F' d v->(fr=c_->fX K H H' d v)->Q v H'
section
def PE.imp(h:PE X e t)(f:∀σ H Q,t' σ H Q->t σ H Q):PE X e t':=λh_ s σ H Q I q=>h h_ s σ H Q I (f _ _ _ q)
def PT.imp(h:PT X e t)(f:∀σ H Q,t' σ H Q->t σ H Q):PT X e t':=λh_ s σ H Q I q=>h h_ s σ H Q I (f _ _ _ q)
def PA.imp(h:PA X e t)(f:∀σ H Q,t' σ H Q->t σ H Q):PA X e t':=λp h_ s σ H Q I q=>h p h_ s σ H Q I (f _ _ _ q)
def PS.imp(h:PS X e t)(f:∀D σ H,t' D σ H->t D σ H):PS X e t':=λh_ s σ H D I q=>h h_ s σ H D I (f _ _ _ q)
def Bt.imp(h:Bt X e t)(f:∀D σ H,t' D σ H->t D σ H):Bt X e t':=λh_ s σ H D I q=>h h_ s σ H D I (f _ _ _ q)
def j7.imp(h:j7 X f r)(g:∀x y H Q,r' x y H Q->r x y H Q):j7 X f r':=λh_ s σ H x y v u Q I c d q=>h h_ s σ H x y v u Q I c d (g _ _ _ _ q)
end
end M
namespace L2
open PySem PySem.Spec PyProof.Rows
def Bs(xs:Array Nat):Prop:=xs.toList.Pairwise (·< ·)
def Bs.get(h:Bs xs)(d:j<xs.size)(c:i<j):xs[i]'(by omega)<xs[j]:=by
 have:=(eE.mp h) i j (by simpa using(by omega:i<xs.size)) (by simpa using d) c;simpa using this
theorem Dv(hs:Bs xs):∀(fuel lo hi:Nat),lo<=hi->hi<=xs.size->hi - lo<=fuel->(∀i (h:i<xs.size),i<lo->xs[i]<j)->(∀i (h:i<xs.size),hi<=i->j<=xs[i])->
  kr xs j fuel lo hi<=xs.size/\(∀i(h:i<xs.size),i<kr xs j fuel lo hi->xs[i]<j)/\∀i(h:i<xs.size),kr xs j fuel lo hi<=i->j<=xs[i]
 |0,lo,hi,h1,h2,h3,g,h5=>by
   have e:lo=hi:=by omega
   subst e;exact⟨h2,g,h5⟩
 |fuel+1,lo,hi,h1,h2,h3,g,h5=>by
   simp only[kr];by_cases hl:lo<hi
   ·rw[if_pos hl];have k:(lo+hi) / 2<xs.size:=by omega
    have l:xs.getD ((lo+hi) / 2) j=xs[(lo+hi) / 2]:=by simp_all
    rw[l];by_cases d:xs[(lo+hi) / 2]<j
    ·rw[if_pos d];refine Dv hs fuel _ hi (by omega) h2 (by omega) (λi h q=>?_) h5;by_cases c:i=(lo+hi) / 2
     ·subst c;exact d
     ·exact c5 (hs.get k (by omega)) d
    ·rw[if_neg d];refine Dv hs fuel lo _ (by omega) (be k) (by omega) g (λi h q=>?_);by_cases c:(lo+hi) / 2=i
     ·subst c;simp_all
     ·have:=hs.get h ((dI q c));exact be (ab (nW d) this)
   ·rw[if_neg hl];have e :=bI h1 (cy hl);subst e;exact⟨h2,g,h5⟩
def Lq(hs:Bs xs)(j:Nat):aI xs j<=xs.size/\(∀i(h:i<xs.size),i<aI xs j->xs[i]<j)/\∀i(h:i<xs.size),aI xs j<=i->j<=xs[i]:=
 Dv hs xs.size 0 xs.size (aP _) (ao _) (by simp) (λi _ q=>absurd q (vK _)) (λi h q=>((bB h q)).elim)
def Lo(hs:Bs xs):aI xs 0=0:=by
 obtain⟨h1,h2,_⟩:=Lq hs 0
 cases q:aI xs 0 with
 |zero=>rfl
 |succ n=>exact absurd (h2 0 (ab (aB (aP _) (af q.symm)) h1) (aB (aP _) (af q.symm))) (vK _)
def Lp(hs:Bs xs)(hi:i<xs.size):aI xs (xs[i]+1)=i+1:=by
 obtain⟨h1,h2,h3⟩:=Lq hs (xs[i]+1)
 rcases mX (aI xs (xs[i]+1)) (i+1)with h|h|h
 ·have:=h3 i hi (bF h);omega
 ·exact h
 ·have a:=h2 (i+1) (ab h h1) h;have b:=hs.get (j:=i+1) (by omega) (ao _);omega
def Nb(hs:Bs xs)(D:xs[aI xs j]?≠a_ j):Bs (cM xs (aI xs j) j):=by
 obtain⟨h1,h2,h3⟩:=Lq hs j;unfold Bs;rw[eF];have g :=hs;refine dM.mpr ⟨g.sublist (iy _ _),bZ.mpr ⟨λy l=>?_,g.sublist (eX _ _)⟩,λx J y l=>?_⟩
 ·obtain⟨k,z,rfl⟩:=cA.mp l;have d:aI xs j+k<xs.size:=by grind
  have a:=h3 (aI xs j+k) d (bb _ _)
  have L:xs[aI xs j+k]≠j:=by
   intro e
   cases k with
   |zero=>exact D (by rw[aS (by simpa using d)];simpa using e)
   |succ k=>
     have b:=hs.get d ((bD (bb _ _)));have c:=h3 (aI xs j) (aB (bb _ _) d) (ao _);exact bB b (ab (af e) c)
  have:j<xs[aI xs j+k]:=by omega
  simpa using this
 ·obtain⟨k,z,rfl⟩:=cA.mp J;rw[List.getElem_take];have q:k<aI xs j:=by simp at z;simp_all
  have a:=h2 k (ab q h1) q;have B:xs.toList[k]'(by simp;omega)<j:=by simpa using a
  rcases au.mp l with rfl|l
  ·exact B
  ·obtain⟨m,M,rfl⟩:=cA.mp l;rw[List.getElem_drop];have v:aI xs j+m<xs.size:=by simp at M;omega
   have b:=h3 (aI xs j+m) v (bb _ _);have O:j<=xs.toList[aI xs j+m]'(by omega):=by simpa using b
   exact ab B O
structure pD(led:Bool)(t:bq):Prop where
 d:t.dummies=#[]
 r:Bs t.place
 l:t.led=led
def GD(n:Nat):Bs (Array.range n):=by
 unfold Bs;rw[Array.toList_range];exact n5
def pD.fresh(led:Bool):pD led (.fresh 0 0 led):=⟨rfl,by exact wj,rfl⟩
def pD.qf(h:pD led t)(n:Nat):pD led (t.standIn n):=⟨rfl,GD n,h.l⟩
def pD.off(h:pD led t):pD led { t with plain:=d_ }:=⟨h.d,h.r,h.l⟩
def E2(j:Nat):v5 #[] j=d_:=by simp[v5]
def uu{t:bq}(hd:t.dummies=#[])(h:t.slot j=.empty):t.place[aI t.place j]?≠a_ j:=by
 intro e;unfold lL at h
 simp_all
def kU{t:bq}(hd:t.dummies=#[])(h:t.slot j=.dummy):False:=by
 unfold lL at h;rw[hd,E2]at h
 grind
def si{t:bq}{p:bE}(h:p.dummy=b_):(t.advance p).dummy=b_:=by
 unfold dE;split
 ·exact h
 ·exact h
theorem uE{t:bq}(hd:t.dummies=#[]):∀(fuel:Nat) (p:bE) {j:Nat} {d:Option Nat},p.dummy=b_->bN t ha hh fuel p=a_ (.empty j d)->
  d=b_/\t.place[aI t.place j]?≠a_ j
 |0,_,_,_,_,h=>by cases h
 |fuel+1,p,j,d,hp,h=>by
   simp only[bN]at h
   cases q:t.slot p.j with
   |empty=>
     rw[q]at h
     injection h with h
     injection h with h1 h2
     subst h1;subst h2;exact⟨hp,uu hd q⟩
   |dummy=>exact(kU hd q).elim
   |live i=>
     rw[q]at h;dsimp only at h;split at h
     ·grind
     ·exact uE hd fuel _ (si hp) h
set_option tactic.hygienic true
def Om{t:bq}(hd:t.dummies=#[])(h:t.freeSlot hh=a_ (j,b)):t.place[aI t.place j]?≠a_ j:=by
 unfold SetTable.freeSlot at h;split at h
 ·rename_i j' d c;have:=uE hd _ _ (by rfl) c
  grind
 ·cases h
def pD.put(h:pD led t)(c:t.place[aI t.place j]?≠a_ j):pD led (t.put j).1:=by
 refine⟨?_,Nb h.r c,h.l⟩;show(if v5 t.dummies j then _ else t.dummies)=_;rw[h.d];rfl
def pD.or(h:pD led t)(n:Nat):pD led (t.orStandIn n):=by
 unfold SetTable.orStandIn;split
 ·exact h
 ·exact h.qf n
def pD.lay(h:pD led t)(es:Array (Int×ah))(hh:Int)(x:ah):pD led (layNew t es hh x).2.1:=by
 unfold layNew;split
 ·rename_i j b c;exact(h.put (Om h.d c)).or _
 ·exact h.qf _
def pD.laid(h:lM mask f m led pl hs=a_ (t,o)):pD led t:=by
 unfold lM at h;simp only[Option.bind_eq_bind,xO]at h;obtain⟨ow,h1,h⟩:=h
 injection h with h
 injection h with h2 h3
 subst h2;refine⟨rfl,?_,rfl⟩;show(Pg _ _).toArray.toList.Pairwise _;rw[eV,zt];refine og ?_ n5
 simp_all
def pD.VS(h:pD led t)(es:Array (Int×ah))(n:Nat):pD led (relayAll t es n).2.1:=by
 unfold relayAll;split
 ·rename_i t' o c;dsimp only;split
  ·unfold FQ at c;rw[h.l]at c;exact pD.laid c
  ·exact h.qf _
 ·exact h.qf _
set_option tactic.hygienic false
end L2
namespace L2
open PySem
noncomputable def tw(mask:Nat):Nat->Nat->Nat->Nat×Nat
 |0,i,p=>(i,p)
 |n+1,i,p=>tw mask n (gR mask i p).1 (gR mask i p).2
theorem tV(mask:Nat):∀(a b i p:Nat),tw mask (a+b) i p=tw mask b (tw mask a i p).1 (tw mask a i p).2
 |0,b,i,p=>by rw[jS];rfl
 |a+1,b,i,p=>by rw[(rp _ _ _)];exact tV mask a b _ _
theorem uV(mask:Nat):∀(n i p:Nat),(tw mask n i p).2=p / 32 ^ n
 |0,i,p=>by simp[tw]
 |n+1,i,p=>by
   rw[tw,uV mask n,gR,Nat.div_div_eq_div_mul,Nat.pow_succ,Nat.mul_comm]
theorem J0(mask:Nat):∀(n i p:Nat),i<mask+1->(tw mask n i p).1<mask+1
 |0,i,p,h=>h
 |n+1,i,p,h=>J0 mask n _ _ (jq _ (by simp))
noncomputable def XH(mask:Nat):Nat->Nat->List Nat
 |0,i=>[i]
 |n+1,i=>i::XH mask n ((i * 5+1) % (mask+1))
theorem Eo(mask:Nat):∀(n i j:Nat),j∈XH mask n i->∃m,m<=n/\(tw mask m i 0).1=j
 |0,i,j,h=>by
   simp[XH]at h;exact⟨0,by simp,h.symm⟩
 |n+1,i,j,h=>by
   rcases au.mp h with h|h
   ·exact⟨0,aP _,h.symm⟩
   ·obtain⟨m,c,e⟩:=Eo mask n _ j h;refine⟨m+1,bD c,?_⟩;rw[tw];simpa [gR]using e
def K4(mask:Nat):Bool:=(aK (mask+1)).all λj=>(XH mask mask 0).any λx=>Nat.beq x j
def Zm:K4 7=c_:=by decide +kernel
def W8:K4 31=c_:=by decide +kernel
def T8:K4 127=c_:=by decide +kernel
def T7:K4 511=c_:=by decide +kernel
def YB:(tw 7 8 0 0).1=0:=by decide +kernel
def V7:(tw 31 32 0 0).1=0:=by decide +kernel
def R3:(tw 127 128 0 0).1=0:=by decide +kernel
def R0:(tw 511 512 0 0).1=0:=by decide +kernel
def K3(h:mask=7\/mask=31\/mask=127\/mask=511):K4 mask=c_/\(tw mask (mask+1) 0 0).1=0:=by
 rcases h with rfl|rfl|rfl|rfl
 ·exact⟨Zm,YB⟩
 ·exact⟨W8,V7⟩
 ·exact⟨T8,R3⟩
 ·exact⟨T7,R0⟩
def F6(mask n i:Nat):(tw mask n i 0).2=0:=by rw[uV,Nat.zero_div]
def uU(mask a b i:Nat):(tw mask (a+b) i 0).1=(tw mask b (tw mask a i 0).1 0).1:=by rw[tV,F6]
def Qa(h:mask=7\/mask=31\/mask=127\/mask=511)(c:j<mask+1):∃n,n<=mask/\(tw mask n 0 0).1=j:=by
 have:=br.mp (K3 h).1 j (a9.mpr c);obtain⟨x,d,e⟩:=tM.mp this;have e:=Nat.eq_of_beq_eq_true e;subst e;exact Eo mask mask 0 x d
def EL(h:mask=7\/mask=31\/mask=127\/mask=511)(hi:i<mask+1)(hp:p<2 ^ 64)(q:j<mask+1):∃n,n<=mask+13/\(tw mask n i p).1=j:=by
 have c:(tw mask 13 i p).2=0:=by
  rw[uV];exact Nat.div_eq_of_lt (ab hp (by decide))
 have hl:=J0 mask 13 i p hi;obtain⟨a,ha,k⟩:=Qa h hl;obtain⟨b,hb,l⟩:=Qa h q;have d:=(K3 h).2;by_cases g:a<=b
 ·refine⟨13+(b - a),by omega,?_⟩;rw[tV,c,<-k,<-uU,(fY g)];exact l
 ·refine⟨13+(mask+1 - a+b),by omega,?_⟩;rw[tV,c,<-k,<-uU,show a+(mask+1 - a+b)=(mask+1)+b by omega,uU,d];exact l
structure xD(t:bq)(p:bE):Prop where
 j:p.j=p.i
 m:p.more=dz t.mask p.i - p.i
 d:p.dummy=b_
def uB(h:xD t p):p.more<=9:=by
 rw[h.m];unfold dz;split<;>simp
set_option tactic.hygienic true
theorem yv{t:bq}(hd:t.dummies=#[]):∀(k f:Nat) (p:bE),p.more=k->p.dummy=b_->bN t ha hh (k+1+f) p=b_->
  t.slot p.j≠.empty/\∃q:bE,bN t ha hh f q=b_/\xD t q/\q.i=(gR t.mask p.i p.perturb).1/\q.perturb=(gR t.mask p.i p.perturb).2
 |0,f,p,d,hp,h=>by
   rw[(Nat.add_comm _ _),bN]at h
   cases hs:t.slot p.j with
   |empty=>rw[hs]at h;cases h
   |dummy=>exact(kU hd hs).elim
   |live i=>
     rw[hs]at h;dsimp only at h;split at h
     ·cases h
     rename_i c;refine⟨by simp,_,h,?_,?_,?_⟩
     ·unfold dE;rw[if_neg (λz=>(bB z (af d)))];exact⟨rfl,rfl,hp⟩
     ·unfold dE;rw[if_neg (by omega)]
     ·unfold dE;rw[if_neg (by omega)]
 |k+1,f,p,d,hp,h=>by
   rw[(rp _ _ _),bN]at h
   cases hs:t.slot p.j with
   |empty=>rw[hs]at h;cases h
   |dummy=>exact(kU hd hs).elim
   |live i=>
     rw[hs]at h;dsimp only at h;split at h
     ·cases h
     rename_i c;have e:t.advance p={ p with j:=p.j+1,more:=p.more - 1 }:=by unfold dE;simp_all
     rw[e]at h;obtain⟨_,q,h1,h2,h3,g⟩:=yv hd k f { p with j:=p.j+1,more:=p.more - 1 } (by grind) hp h;exact⟨by simp,q,h1,h2,h3,g⟩
theorem tY:∀(f g:Nat)(p:bE),bN t ha hh (f+g) p=b_->bN t ha hh f p=b_
 |0,g,p,h=>rfl
 |f+1,g,p,h=>by
   rw[show f+1+g=(f+g)+1 by omega,bN]at h;rw[bN]
   cases hs:t.slot p.j with
   |empty=>rw[hs]at h;cases h
   |dummy=>rw[hs]at h;exact tY f g _ h
   |live i=>
     rw[hs]at h;simp only at h ⊢;split
     ·grind
     ·rename_i q;rw[if_neg q]at h;exact tY f g _ h
set_option tactic.hygienic false
theorem AI{t:bq}(hd:t.dummies=#[]):∀(m:Nat)(p:bE),xD t p->bN t ha hh (10 * (m+1)) p=b_->∀n≤m,t.slot (tw t.mask n p.i p.perturb).1≠.empty
 |m,p,hp,h,0,_=>by
   have g:=uB hp;obtain⟨h1,_⟩:=yv hd p.more (10 * (m+1) - (p.more+1)) p rfl hp.d (by rw[show p.more+1+(10 * (m+1) - (p.more+1))=10 * (m+1)from(fY (bD (Nat.le_add_left_of_le g)))];exact h);rw[hp.j]at h1;exact h1
 |0,p,hp,h,n+1,c=>(λz=>(bB c (aP _)))
 |m+1,p,hp,h,n+1,c=>by
   have g:=uB hp;obtain⟨_,q,h1,h2,h3,k⟩:=yv hd p.more (10 * (m+1+1) - (p.more+1)) p rfl hp.d (by rw[show p.more+1+(10 * (m+1+1) - (p.more+1))=10 * (m+1+1) by omega];exact h);have h5:=tY (10 * (m+1)) (9 - p.more) q (by rw[show 10 * (m+1)+(9 - p.more)=10 * (m+1+1) - (p.more+1) by omega];exact h1);have:=AI hd m q h2 h5 n (bF c);rw[h3,k]at this;exact this
def wB(t:bq)(h:Int):xD t (t.probeStart h):=⟨rfl,rfl,rfl⟩
structure vm(t:bq)(p:bE):Prop where
 m:p.more<=9
 i:p.i<t.mask+1
 q:p.perturb<2 ^ 64
 d:p.dummy=b_
def wA(t:bq)(h:Int):vm t (t.probeStart h):=
 ⟨uB (wB t h),jq _ (by simp),by show dU h<_;unfold dU;omega,rfl⟩
def vm.Zu(h:vm t p):vm t (t.advance p):=by
 have c:=h.m;have g:=h.q;unfold dE;split
 ·exact⟨by exact ab (HU _ _) c,h.i,h.q,h.d⟩
 ·refine⟨?_,jq _ (by simp),?_,h.d⟩
  ·show dz t.mask _ - _<=9;unfold dz;split<;>simp
  ·exact aB (Nat.div_le_self _ _) g
def sG{t:bq}(c:t.mask=7\/t.mask=31\/t.mask=127\/t.mask=511)(hd:t.dummies=#[])(hp:vm t p)(g:j<t.mask+1)(k:t.slot j=.empty) :
  ∃m,t.probe ha hh p=a_ m:=by
 cases q:t.probe ha hh p with
 |some m=>exact⟨m,rfl⟩
 |none=>
   exfalso;have v:=hp.m;have y:=hp.q;obtain⟨_,r,h1,h2,h3,l⟩:=yv hd p.more (10 * (t.mask+15) - (p.more+1)) p rfl hp.d (by rw[show p.more+1+(10 * (t.mask+15) - (p.more+1))=10 * (t.mask+15) by omega];exact q);have h5:=tY (10 * (t.mask+14)) (9 - p.more) r (by rw[show 10 * (t.mask+14)+(9 - p.more)=10 * (t.mask+15) - (p.more+1) by omega];exact h1);obtain⟨n,e1,e2⟩:=EL c (i:=r.i) (p:=r.perturb) (by rw[h3];exact jq _ (by simp)) (by rw[l];show p.perturb / 32<2 ^ 64;omega) g;have:=AI hd (t.mask+13) r h2 h5 n e1;rw[e2]at this;exact this k
noncomputable def way(t:bq):Nat->bE->bE
 |0,p=>p
 |n+1,p=>way t n (t.advance p)
theorem kM(t:bq):∀(a b:Nat)(p:bE),way t (a+b) p=way t b (way t a p)
 |0,b,p=>by rw[jS];rfl
 |a+1,b,p=>by rw[show a+1+b=(a+b)+1 by omega];exact kM t a b _
theorem HZ:∀(n:Nat){p:bE},vm t p->vm t (way t n p)
 |0,p,h=>h
 |n+1,p,h=>HZ n h.Zu
set_option tactic.hygienic true
theorem wG{t:bq}(hd:t.dummies=#[]):∀(fuel:Nat) (p:bE) {m:LF},p.dummy=b_->bN t ha hh fuel p=a_ m->
  ∃n,(∀k<n,∃i,t.slot (way t k p).j=.live i/\ha i≠hh)/\((m=.empty (way t n p).j b_/\t.slot (way t n p).j=.empty)\/∃i,m=.candidate (way t n p).j i (way t (n+1) p)/\t.slot (way t n p).j=.live i/\ha i=hh)
 |0,p,m,_,h=>by cases h
 |fuel+1,p,m,hp,h=>by
   rw[bN]at h
   cases hs:t.slot p.j with
   |empty=>
     rw[hs]at h
     injection h with h
     exact⟨0,λk c=>((bB c (aP _))).elim,.inl ⟨by rw[<-h,hp];rfl,hs⟩⟩
   |dummy=>exact(kU hd hs).elim
   |live i=>
     rw[hs]at h;dsimp only at h;split at h
     ·rename_i e
      injection h with h
      exact⟨0,λk c=>by omega,.inr ⟨i,h.symm,hs,by simpa using e⟩⟩
     ·rename_i e;obtain⟨n,h1,h2⟩:=wG hd fuel _ (si hp) h;refine⟨n+1,λk c=>?_,h2⟩
      cases k with
      |zero=>exact⟨i,hs,by simpa using e⟩
      |succ k=>exact h1 k (bF c)
def NL(hs:Bs xs)(h:j∈xs.toList):xs[aI xs j]?=a_ j:=by
 obtain⟨i,hi,e⟩:=cA.mp h;have c:i<xs.size:=by simpa using hi
 have d:xs[i]=j:=by simpa using e
 obtain⟨h1,h2,h3⟩:=Lq hs j
 have hb:aI xs j<=i:=by
  rcases i7 i (aI xs j)with hl|hl
  ·have:=h2 i c hl;simp_all
  ·exact hl
 have g:aI xs j=i:=by
  rcases i7 (aI xs j) i with hl|hl
  ·have a:=hs.get c hl;have b:=h3 (aI xs j) (aB hb c) (ao _);exact((bB a (ab (af d) b))).elim
  ·exact bI hb hl
 simp_all
def zH{t:bq}(c:Bs t.place)(h:j∈t.place.toList):t.slot j=.live (aI t.place j):=by
 unfold lL;simp only[NL c h,beq_self_eq_true,if_true]
def JA{t:bq}(hd:t.dummies=#[])(h:t.slot j≠.empty):j∈t.place.toList:=by
 unfold lL at h;dsimp only at h;split at h
 ·rename_i e;have e:t.place[aI t.place j]?=a_ j:=by simpa using e
  obtain⟨hi,e2⟩:=bO.mp e;exact cA.mpr ⟨_,by simpa using hi,by simpa using e2⟩
 ·rw[hd,E2]at h;simp at h
set_option tactic.hygienic false
def N7{t:bq}(h:t.slot j=.live i):t.place[i]?=a_ j:=by
 unfold lL at h;dsimp only at h;split at h
 ·simp_all
 grind
def Lx{t t':bq}(h:t.mask=t'.mask)(p:bE):t.advance p=t'.advance p:=by
 unfold dE;rw[h]
theorem oi{t t':bq}(h:t.mask=t'.mask):∀(n:Nat)(p:bE),way t n p=way t' n p
 |0,p=>rfl
 |n+1,p=>by rw[way,way,Lx h,oi h n]
def uo{t t':bq}(h:t.mask=t'.mask)(x:Int):t.probeStart x=t'.probeStart x:=by
 unfold SetTable.probeStart;rw[h]
def mT(t:bq)(x:Int)(j:Nat):Prop:=∃n,(way t n (t.probeStart x)).j=j/\∀k<n,(way t k (t.probeStart x)).j∈t.place.toList
def mT.mono{t t':bq}(h:t.mask=t'.mask)(hs:∀j∈t.place.toList,j∈t'.place.toList)(y:mT t x j):mT t' x j:=by
 obtain⟨n,h1,h2⟩:=y;refine⟨n,?_,λk c=>?_⟩
 ·rw[<-uo h,<-oi h];exact h1
 ·rw[<-uo h,<-oi h];exact hs _ (h2 k c)
def EF{t:bq}:a∈(t.put j).1.place.toList↔a=j\/a∈t.place.toList:=by
 show a∈(cM t.place _ j).toList↔_;rw[eF];have e:=aZ (aI t.place j) t.place.toList;constructor
 ·grind
 grind
def mT.new(h:∀k<n,(way t k (t.probeStart x)).j∈t.place.toList):mT (t.put (way t n (t.probeStart x)).j).1 x (way t n (t.probeStart x)).j:=by
 have y:mT t x (way t n (t.probeStart x)).j:=⟨n,rfl,h⟩
 exact mT.mono (t:=t) (t':=(t.put (way t n (t.probeStart x)).j).1) rfl (λj c=>EF.mpr (.inr c)) y
def O7(t:bq)(p:bE):Prop:=p.j+p.more<=t.mask
def IS(h:i<mask+1):i+(dz mask i - i)<=mask:=by
 unfold dz;split<;>omega
def O7.start(t:bq)(x:Int):O7 t (t.probeStart x):=IS (jq _ (by omega))
def O7.Zu(h:O7 t p):O7 t (t.advance p):=by
 unfold O7 at h ⊢;unfold dE;split
 ·grind
 ·exact IS (jq _ (by omega))
theorem Ia:∀(n:Nat){p:bE},O7 t p->O7 t (way t n p)
 |0,p,h=>h
 |n+1,p,h=>Ia n h.Zu
def BY(n:Nat)(x:Int):(way t n (t.probeStart x)).j<=t.mask:=by
 have:=Ia n (O7.start t x);exact ab (bb _ _) this
theorem qc:∀(k:Nat)(p:bE),k<=p.more->way t k p={ p with j:=p.j+k,more:=p.more - k }
 |0,p,h=>rfl
 |k+1,p,h=>by
   rw[way];have e:t.advance p={ p with j:=p.j+1,more:=p.more - 1 }:=by unfold dE;rw[if_pos (aB (aP _) h)]
   rw[e,qc k _ (by exact FW h)]
   grind
noncomputable abbrev BG(ow:Array (Option Nat))(j:Nat):Bool:=(ow.getD j (a_ 0)).isSome
set_option tactic.hygienic true
theorem AQ{ow:Array (Option Nat)}:∀(fuel:Nat) (p:bE) {j:Nat},xD t p->c7 t.mask ow fuel p.i p.perturb=a_ j->
  ∃n,(way t n p).j=j/\(∀k<n,BG ow (way t k p).j=c_)/\ow.getD j (a_ 0)=b_
 |0,p,j,_,h=>by cases h
 |fuel+1,p,j,hp,h=>by
   have g:p.i<=dz t.mask p.i:=by unfold dz;split<;>simp
   have l:dz t.mask p.i+1 - p.i=p.more+1:=by rw[hp.m];exact Nat.sub_add_comm g
   rw[c7,l]at h;split at h
   ·rename_i k c
    injection h with h
    subst h;obtain⟨h1,h2,h3⟩:=List.find?_range_eq_some.mp c;have h2 :=a9.mp h2;refine⟨k,?_,λm q=>?_,by simpa using h1⟩
    ·rw[qc k p (bF h2)];rw[hp.j]
    ·rw[qc m p (bF (c5 q h2))];have:=h3 m q;rw[hp.j];simpa [BG,eD]using this
   ·rename_i c;have c:=zg.mp c;have v:way t (p.more+1) p=t.advance (way t p.more p):=by rw[kM];rfl
    have y:=qc (t:=t) p.more p (ao _)
    have z:xD t (way t (p.more+1) p)/\(way t (p.more+1) p).i=(gR t.mask p.i p.perturb).1/\(way t (p.more+1) p).perturb=(gR t.mask p.i p.perturb).2:=by
     rw[v,y];unfold dE;rw[if_neg (by simp)];exact⟨⟨rfl,rfl,hp.d⟩,rfl,rfl⟩
    obtain⟨B,D,J⟩:=z;dsimp only at h;rw[<-D,<-J]at h;obtain⟨n,L,M,O⟩:=AQ fuel _ B h;refine⟨p.more+1+n,by rw[kM];exact L,λk R=>?_,O⟩
    rcases i7 k (p.more+1)with hl|hl
    ·rw[qc k p (bF hl)];have:=c k hl;rw[hp.j];simpa [BG,eD]using this
    ·have:=M (k - (p.more+1)) (by omega);rw[<-kM,(fY hl)]at this;exact this
def LA(t:bq)(ow:Array (Option Nat))(x:Int)(j:Nat):Prop:=∃n,(way t n (t.probeStart x)).j=j/\∀k<n,BG ow (way t k (t.probeStart x)).j=c_
structure Lay(t:bq)(hs:List Int)(ow:Array (Option Nat))(c:Nat):Prop where
 sz:ow.size=t.mask+1
 st:∀j k:Nat,ow[j]?=a_ (a_ k)->k<c/\LA t ow (hs.getD k 0) j
 ex:∀k<c,∃j:Nat,ow[j]?=a_ (a_ k)
 un:∀j j' k:Nat,ow[j]?=a_ (a_ k)->ow[j']?=a_ (a_ k)->j=j'
def getD_none{ow:Array (Option Nat)}(h:ow.getD j (a_ 0)=b_):ow[j]?=a_ b_:=by
 unfold FY at h;split at h
 ·simp_all
 ·cases h
def SD{ow:Array (Option Nat)}(h:BG ow a=c_):BG (ow.setIfInBounds j (a_ c)) a=c_:=by
 unfold BG FY at h ⊢;by_cases ha:a<ow.size
 ·rw[dif_pos ha]at h;rw[dif_pos (by simpa using ha)];by_cases e:j=a
  ·subst e;simp
  simp_all
 ·rw[dif_neg (by simpa using ha)];rfl
def LA.set{ow:Array (Option Nat)}(h:LA t ow x a):LA t (ow.setIfInBounds j (a_ c)) x a:=
 let ⟨n,h1,h2⟩:=h
 ⟨n,h1,λk d=>SD (h2 k d)⟩
def get_set{ow:Array (Option Nat)}(d:j<ow.size):(ow.setIfInBounds j (a_ c))[a]?=if j=a then a_ (a_ c)else ow[a]? :=by
 rw[Array.getElem?_setIfInBounds];split
 ·simp
 ·rfl
def Lay.step{ow:Array (Option Nat)}(y:Lay t hs ow c)(h:c7 t.mask ow (kP t.mask) (dU (hs.getD c 0) % (t.mask+1)) (dU (hs.getD c 0))=a_ j):Lay t hs (ow.setIfInBounds j (a_ c)) (c+1):=by
 obtain⟨n,h1,h2,h3⟩:=AQ _ (t.probeStart (hs.getD c 0)) (wB t _) h;have h3:=getD_none h3;have g :=(bO.mp h3).1;refine⟨by simpa using y.sz,λa k ha=>?_,λk q=>?_,λa l k ha d=>?_⟩
 ·rw[get_set g]at ha;split at ha
  ·rename_i e;subst e
   injection ha with ha
   injection ha with ha
   subst ha;exact⟨ao _,LA.set ⟨n,h1,h2⟩⟩
  ·obtain⟨v,z⟩:=y.st a k ha;exact⟨cT v,z.set⟩
 ·rcases i7 k c with hl|hl
  ·obtain⟨a,ha⟩:=y.ex k hl;refine⟨a,?_⟩;rw[get_set g,if_neg (λe=>by grind)];exact ha
  ·refine⟨j,?_⟩;rw[get_set g,if_pos rfl,(bI (bF q) hl)]
 ·rw[get_set g]at ha d;split at ha<;>split at d
  ·grind
  ·injection ha with ha
   injection ha with ha
   have:=(y.st l k d).1
   simp_all
  ·injection d with d
   injection d with d
   have:=(y.st a k ha).1;omega
  ·exact y.un a l k ha d
theorem w6{ow:Array (Option Nat)}:∀(fuel i p:Nat),c7 mask ow fuel i p=b_->∀n<fuel,BG ow (tw mask n i p).1=c_
 |0,i,p,h,n,d=>by omega
 |fuel+1,i,p,h,n,d=>by
   have g:i<=dz mask i:=by unfold dz;split<;>simp
   rw[c7]at h;split at h
   ·cases h
   ·rename_i c;have c:=zg.mp c
    cases n with
    |zero=>
      have:=c 0 (by omega);show BG ow i=c_;simpa [BG,eD]using this
    |succ n=>exact w6 fuel _ _ h n (bF d)
set_option tactic.hygienic false
def Oo(c:mask=7\/mask=31\/mask=127\/mask=511){ow:Array (Option Nat)}(d:j<mask+1)(g:BG ow j=d_):∃a,c7 mask ow (kP mask) (dU x % (mask+1)) (dU x)=a_ a:=by
 cases q:c7 mask ow (kP mask) (dU x % (mask+1)) (dU x)with
 |some a=>exact⟨a,rfl⟩
 |none=>
   exfalso;obtain⟨n,h1,h2⟩:=EL c (p:=dU x) (jq _ (by omega)) (by unfold dU;omega) d;have:=w6 _ _ _ q n (by exact cT (bD h1));rw[h2,g]at this;cases this
def JD{l:List Nat}(d:l.Nodup)(h:∀x∈l,x<c):l.length<=c:=by
 have hl:((aK c).filter λx=>decide (x∈l)).Nodup:=zh FX fB
 have hp:l.Perm ((aK c).filter λx=>decide (x∈l)):=by
  rw[fG d hl]
  simp_all
 rw[hp.length_eq];exact ab (fL _ _) (by simp)
def Er{ow:Array (Option Nat)}(c:j<ow.size)(h:BG ow j=c_):∃k,ow[j]?=a_ (a_ k):=by
 unfold BG FY at h;rw[dif_pos c]at h;obtain⟨k,d⟩:=mz.mp h
 simp_all
def Lay.room{ow:Array (Option Nat)}(y:Lay t hs ow c)(B:c<t.mask+1):∃j,j<t.mask+1/\BG ow j=d_:=by
 rcases HX (∃j,j<t.mask+1/\BG ow j=d_)with h|h
 ·exact h
 ·exfalso
  have l:∀j,j<t.mask+1->∃k:Nat,ow[j]?=a_ (a_ k):=λj g=>Er (by rw[y.sz];exact g) (by
   cases q:BG ow j with
   |true=>rfl
   |false=>exact absurd ⟨j,g,q⟩ h)
  have v:∀j,j<t.mask+1->ow[j]?=a_ (a_ ((ow.getD j b_).getD 0)):=λj g=>by
   obtain⟨k,e⟩:=l j g
   simp_all
  have D:((aK (t.mask+1)).map λj=>(ow.getD j b_).getD 0).Nodup:=by
   refine List.Pairwise.map _ (R:=λa b=>a∈aK (t.mask+1)/\b∈aK (t.mask+1)/\a≠b) ?_ ?_
   ·rintro a b ⟨ha,hb,d⟩ e;have z:=v a (a9.mp ha);have J:=v b (a9.mp hb);rw[e]at z;exact d (y.un _ _ _ z J)
   ·exact iA (λha hb d=>⟨ha,hb,d⟩) fB
  have:=JD D (λx L=>by
   obtain⟨j,g,rfl⟩:=bQ.mp L
   exact(y.st j _ (v j (a9.mp g))).1)
  rw[aw,aW]at this;exact bB B this
noncomputable def EK(mask:Nat)(c:Option (Array (Option Nat)×Nat))(h:Int):Option (Array (Option Nat)×Nat):=do
 let (owner,k) <-c;let j <-c7 mask owner (kP mask) (dU h % (mask+1)) (dU h)
 pure (owner.setIfInBounds j (a_ k),k+1)
theorem As{t:bq}(g:t.mask=7\/t.mask=31\/t.mask=127\/t.mask=511){hs:List Int}(hl:hs.length<=t.mask):∀(rest pre:List Int)(ow:Array (Option Nat)),hs=pre++rest->Lay t hs ow pre.length->∃c,rest.foldl (EK t.mask) (a_ (ow,pre.length))=a_ (c,hs.length)/\Lay t hs c hs.length
 |[],pre,ow,e,y=>⟨ow,by simp_all,by grind⟩
 |x::rest,pre,ow,e,y=>by
   have hlen:pre.length<hs.length:=by rw[e];simp
   obtain⟨q,h1,h2⟩:=y.room (cT (ab hlen hl));have j:hs.getD pre.length 0=x:=by rw[e];simp
   obtain⟨a,ha⟩:=Oo g h1 h2;have d:=y.step (by rw[j];exact ha);obtain⟨c,k,l⟩:=As g hl rest (pre++[x]) _ (by simp_all) (by rw[ag];exact d);refine⟨c,?_,l⟩;rw[Mi]
   have:EK t.mask (a_ (ow,pre.length)) x=a_ (ow.setIfInBounds a (a_ pre.length),(pre++[x]).length):=by
    unfold EK
    simp_all
   rw[this];exact k
def IY{n j k:Nat}(h:(ud n (b_:Option Nat))[j]?=a_ (a_ k)):False:=by
 rw[Array.getElem?_replicate]at h
 simp_all
def Lay.nil(t:bq)(hs:List Int):Lay t hs (ud (t.mask+1) b_) 0:=
 ⟨by simp,λj k h=>(IY h).elim,λk c=>by omega,λj j' k h _=>(IY h).elim⟩
def N8{t:bq}(c:t.mask=7\/t.mask=31\/t.mask=127\/t.mask=511){hs:Array Int}(hl:hs.size<=t.mask):∃ow,BO t.mask hs=a_ ow/\Lay t hs.toList ow hs.size:=by
 obtain⟨ow,h1,h2⟩:=As c (by simpa using hl) hs.toList [] _ rfl (Lay.nil t _);refine⟨ow,?_,by simpa using h2⟩;unfold BO;rw[<-Array.foldl_toList]
 have e:(hs.toList.foldl (EK t.mask) (a_ (ud (t.mask+1) b_,0))).map (·.1)=a_ ow:=by
  simp_all
 exact e
def N9{hs:Array Int}(M:mask=7\/mask=31\/mask=127\/mask=511)(hl:hs.size<=mask) :
  ∃t o,lM mask f m led pl hs=a_ (t,o)/\t.mask=mask/\t.led=led/\o.toList.Perm (aK hs.size)/\t.place.size=o.size/\(∀j∈t.place.toList,j<=mask)/\∀(i:Nat)(h:i<o.size)(h':i<t.place.size),mT t (hs.toList.getD o[i] 0) t.place[i]:=by
 let d:bq:={ mask,place:=#[],dummies:=#[],finger:=f,led,moves:=m,plain:=pl }
 obtain⟨ow,h1,y⟩:=N8 (t:=d) M hl;have hsz :=y.sz;let live:=(aK (mask+1)).filterMap λj=>(ow.getD j b_).map (j,·)
 have c:∀j k,(j,k)∈live↔ow[j]?=a_ (a_ k):=λj k=>by
  simp only[live,lQ,a9,y8,vJ];constructor
  ·rintro⟨a,ha,b,hb,rfl,rfl⟩;rw[vz]at hb;rw[aS (ab ha (af hsz.symm))]at hb ⊢;exact congrArg a_ hb
  ·intro h;have g :=(bO.mp h).1;exact⟨j,ab g (af hsz),k,by rw[vz,h];rfl,rfl,rfl⟩
 let t:bq:={ mask,place:=(live.map (·.1)).toArray,dummies:=#[],finger:=f,led,moves:=m,plain:=pl }
 refine⟨t,(live.map (·.2)).toArray,?_,rfl,rfl,?_,by simp[t],λj g=>?_,λi hi O=>?_⟩
 ·unfold lM;rw[h1];rfl
 ·have l:(live.map (·.2)).Nodup:=by
   have hp:live.Pairwise λa b=>a.1≠b.1:=by
    refine zt.mpr (og ?_ n5);intro a b q x R z U;obtain⟨_,_,rfl⟩:=dZ R;obtain⟨_,_,rfl⟩:=dZ U;exact bo q
   refine eV.mpr (iA ?_ hp);intro a b ha hb v e;have L:=(c a.1 a.2).mp ha;have W:=(c b.1 b.2).mp hb;rw[e]at L;exact v (y.un _ _ _ L W)
  rw[fG l fB];intro k;rw[bQ,a9];constructor
  ·rintro⟨a,ha,rfl⟩;exact(y.st _ _ ((c a.1 a.2).mp ha)).1
  ·intro B;obtain⟨j,g⟩:=y.ex k B;exact⟨(j,k),(c j k).mpr g,rfl⟩
 ·obtain⟨a,ha,rfl⟩:=bQ.mp g;have:=(bO.mp ((c a.1 a.2).mp ha)).1;exact bF (ab this (af hsz))
 ·have D:i<live.length:=by simpa using hi
  have e1:(live.map (·.2)).toArray[i]=live[i].2:=by simp
  have e2:t.place[i]=live[i].1:=by simp[t]
  rw[e1,e2];obtain⟨_,n,Y,Z⟩:=y.st _ _ ((c live[i].1 live[i].2).mp (bA D));refine⟨n,?_,λk B=>?_⟩
  ·rw[oi (t:=t) (t':=d) rfl];exact Y
  ·rw[oi (t:=t) (t':=d) rfl];have J:(way d k (d.probeStart (hs.toList.getD live[i].2 0))).j<=mask:=BY k _;obtain⟨b,hb⟩:=Er (aB J (af hsz.symm)) (Z k B);exact bQ.mpr ⟨(_,b),(c _ b).mpr hb,rfl⟩
theorem AK{t:bq}(hd:t.dummies=#[])(c:∀i,ha i≠hh):∀(fuel:Nat)(p:bE){m:LF},p.dummy=b_->bN t ha hh fuel p=a_ m->∃n,n<fuel/\t.slot (way t n p).j=.empty/\∀k<n,t.slot (way t k p).j≠.empty
 |0,p,m,_,h=>by cases h
 |fuel+1,p,m,hp,h=>by
   rw[bN]at h
   cases hs:t.slot p.j with
   |empty=>exact⟨0,by simp,hs,λk d=>by omega⟩
   |dummy=>exact(kU hd hs).elim
   |live i=>
     rw[hs]at h;dsimp only at h;rw[if_neg (by simpa using c i)]at h;obtain⟨n,h1,h2,h3⟩:=AK hd c fuel _ (si hp) h;refine⟨n+1,bD h1,h2,λk d=>?_⟩
     cases k with
     |zero=>show t.slot p.j≠_;rw[hs];simp
     |succ k=>exact h3 k (bF d)
def C8{t:bq}(c:t.mask=7\/t.mask=31\/t.mask=127\/t.mask=511)(hd:t.dummies=#[])(x:Int)(d:j<t.mask+1)(g:t.slot j=.empty) :
  ∃N,N<6000/\t.slot (way t N (t.probeStart x)).j=.empty/\∀k<N,t.slot (way t k (t.probeStart x)).j≠.empty:=by
 obtain⟨m,h⟩:=sG c hd (ha:=λ_=>x+1) (wA t x) d g;obtain⟨n,h1,h2,h3⟩:=AK hd (λ_=>(λz=>(uc (Int.le_of_eq z) (Int.le_refl _)))) _ _ rfl h;refine⟨n,?_,h2,h3⟩;unfold kP at h1;omega
def Cj{t:bq}(O:t.mask=7\/t.mask=31\/t.mask=127\/t.mask=511)(hd:t.dummies=#[])(h1:t.slot (way t N (t.probeStart x)).j=.empty)(h2:∀k<N,t.slot (way t k (t.probeStart x)).j≠.empty)(z:a<=N) :
  (t.probe ha x (way t a (t.probeStart x))=a_ (.empty (way t N (t.probeStart x)).j b_)/\∀k,a<=k->k<N->∃i,t.slot (way t k (t.probeStart x)).j=.live i/\ha i≠x)\/
  ∃b i,a<=b/\b<N/\t.probe ha x (way t a (t.probeStart x))=a_ (.candidate (way t b (t.probeStart x)).j i (way t (b+1) (t.probeStart x)))/\t.slot (way t b (t.probeStart x)).j=.live i/\ha i=x/\∀k,a<=k->k<b->∃i,t.slot (way t k (t.probeStart x)).j=.live i/\ha i≠x:=by
 have l :=HZ a (wA t x);have B:=BY (t:=t) N x;obtain⟨m,q⟩:=sG O hd l (bD B) h1;obtain⟨c,R,v⟩:=wG hd _ _ l.d q
 have g:∀k,a<=k->k<a+c->∃i,t.slot (way t k (t.probeStart x)).j=.live i/\ha i≠x:=λk D M=>by
  have:=R (k - a) (by omega);rw[<-kM,(fY D)]at this;exact this
 have J:a+c<=N:=by
  rcases i7 N (a+c)with hl|hl
  ·obtain⟨i,e,_⟩:=g N z hl
   grind
  ·exact hl
 rcases v with⟨v,y⟩|⟨i,v,y,U⟩
 ·rw[<-kM]at v y
  have:a+c=N:=by
   rcases i7 (a+c) N with hl|hl
   ·simp_all
   ·exact bI J hl
  refine .inl ⟨by rw[q,v,this],λk D M=>g k D (ab M (af this.symm))⟩
 ·rw[<-kM]at y
  have L:a+c<N:=by
   grind
  refine .inr ⟨a+c,i,bb _ _,L,?_,y,U,g⟩;rw[q,v,<-kM,<-kM];rfl
end L2
namespace L2
open PySem PySem.Spec PyProof.Rows
structure jZ(led:Bool)(h:cc)(S:aF)(es:Array (Int×ah))(ep:Nat)(t:bq):Prop where
 obj:h.get? S=a_ { cls:=.type "set",dict:=b_,data:=.set es ep t }
 fits:t.fits es.size=c_
 ok:pD led t
def jZ.keep{h':cc}(y:jZ led h S es ep t)(k:∀o,h.get? S=a_ o->h'.get? S=a_ o):jZ led h' S es ep t:=⟨k _ y.obj,y.fits,y.ok⟩
noncomputable abbrev nZ(w:cZ):Bool:=!w.params.followText "set-order"
def lS{α β:Type}{R:α->β->Prop}{l l':List α}(p:l'.Perm l):∀{ks:List β},hJ R l ks->∃g,hJ R l' g/\g.Perm ks:=by
 induction p with
 |nil=>intro ks h;cases h;exact⟨[],.nil,.nil⟩
 | cons x p v=>intro ks h;cases h with
   |cons a b=>obtain⟨g,c,d⟩:=v b;exact⟨_::g,.cons a c,d.cons _⟩
 | swap x y l=>intro ks h;cases h with
   | cons a b=>cases b with
     |cons c d=>exact⟨_,.cons c (.cons a d),.swap _ _ _⟩
 |trans p q j k=>
   intro ks h;obtain⟨B,a,b⟩:=k h;obtain⟨z,c,d⟩:=j a;exact⟨z,c,d.trans b⟩
theorem oy{α β:Type}{R:α->β->Prop}{x:α}{y:β}(h:R x y):∀{l:List α}{ks:List β},hJ R l ks->hJ R (l++[x]) (ks++[y])
 |_,_,.nil=>.cons h .nil
 |_,_,.cons a b=>.cons a (oy h b)
theorem kY{α β:Type}{R:α->β->Prop}:∀{l:List α}{ks:List β},hJ R l ks->l.length=ks.length
 |_,_,.nil=>rfl
 |_,_,.cons a b=>by rw[ba,ba,kY b]
theorem lT{α β:Type}{R:α->β->Prop}{x:α}:∀{l:List α}{ks:List β},hJ R l ks->x∈l->∃y∈ks,R x y
 |_,_,.nil,h=>by cases h
 |_,_,.cons a b,h=>by
   rcases au.mp h with rfl|h
   ·exact⟨_,.head _,a⟩
   ·obtain⟨y,c,d⟩:=lT b h;exact⟨y,.tail _ c,d⟩
theorem ni{α β:Type}{R:α->β->Prop}{y:β}:∀{l:List α}{ks:List β},hJ R l ks->y∈ks->∃x∈l,R x y
 |_,_,.nil,h=>by cases h
 |_,_,.cons a b,h=>by
   rcases au.mp h with rfl|h
   ·exact⟨_,.head _,a⟩
   ·obtain⟨x,c,d⟩:=ni b h;exact⟨x,.tail _ c,d⟩
section
variable{prog:cg}{w:cZ}{K:Type}[DecidableEq K]{knd:mE prog w K}{s:ai}
def qg{es':Array (Int×ah)}{t':bq}(y:jZ led s.heap S es ep t)(f:t'.fits es'.size=c_)(o:pD led t')(c:es'.size<=ax)
  (k:∀h',cj S s.heap h'->jZ led h' S es' (ep+1) t'->Q () { s with heap:=h' }):aA (aD prog w) A (storeSet S es' t') Q E s:=by
 refine wpAny_storeSet_of y.obj rfl (k _ (nL ..) ⟨?_,f,o⟩) c;have e:=eG (Obj.putSet es' t') y.obj (by rfl);exact e
def DP{g:Bool->zp Unit}(D:∀(c:Bool) (s1:ai) (R:Unit->ai->Prop),R () s1->aA (aD prog w) A (g c) R E s1){j:Array (Int×ah)}{l:bq}{d:Bool}{R:Option Bool->ai->Prop}
  (y:jZ led s.heap S es ep t)(f:l.fits j.size=c_)(o:pD led l)(v:j.size<xF)
  (k:∀h' es' q t',cj S s.heap h'->jZ led h' S es' q t'->es'.toList.Perm j.toList->R (a_ c_) { s with heap:=h' }) :
  aA (aD prog w) A (do
      storeSet S j l
      if(!d && l.tooFull)=c_ then do
         g (relayAll l j (dm j.size)).2.2
         storeSet S (relayAll l j (dm j.size)).1 (relayAll l j (dm j.size)).2.1
         pure (a_ c_)
       else pure (a_ c_)) R E s:=by
 refine wb9 (qg y f o (fits_of_scanBound v) λh1 z B=>?_);split
 ·have hp:=relayAll_perm l j (dm j.size);have sz:(relayAll l j (dm j.size)).1.size=j.size:=by rw[<-aY,hp.length_eq,aY]
  refine wb9 (D _ _ _ (wb9 (qg B (relayAll_fits ..) (o.VS ..) (by rw[sz];exact fits_of_scanBound v) λh2 BF J=>?_)));exact wu9 (k h2 _ _ _ (z.trans BF) J hp)
 ·exact wu9 (k h1 _ _ _ z B (.refl _))
def QP(O:knd.is k x=c_)(M:x.scannable=c_)(y:jZ led s.heap S es ep t)(el:Pf knd es.toList)(room:es.size+1<xF)
  (D:∀b,(∃e∈es.toList,knd.is k e.2=c_)->Q b s)
  (new:∀b h' es' g t',(¬ ∃e∈es.toList,knd.is k e.2=c_)->cj S s.heap h'->jZ led h' S es' g t'->es'.toList.Perm (es.toList++[(knd.hash k,x)])->Q b { s with heap:=h' }) :
  aA (aD prog w) A (setAddHashed S x (knd.hash k)) Q E s:=by
 refine bR (wb9 (de y.obj rfl y.fits ?_));dsimp only;rw[byScan_of M (tv room) el];refine wb9 (wb9 (fS (wb9 (wpAny_setScan_of O y.obj rfl y.fits el ?_))))
 cases q:List.findIdx? (λe=>knd.is k e.2) es.toList with
 |some j=>
   obtain⟨U,hp,_⟩:=rz.mp q;exact wu9 (wu9 (D _ ⟨es.toList[j],bA U,hp⟩))
 |none=>
   have W:¬ ∃e∈es.toList,knd.is k e.2=c_:=by
    rintro⟨e,he,hp⟩;have:=List.findIdx?_eq_none_iff.mp q e he
    simp_all
   have J:∀(c:Bool)(s1:ai)(R:Unit->ai->Prop),R () s1->aA (aD prog w) A (match c with|true=>rule "set.scan.the-table-gave-way"|false=>pure ()) R E s1:=by
    intro c s1 R h;cases c
    ·exact wu9 h
    ·exact fS h
   have l:=layNew_perm t es (knd.hash k) x;have v:=layNew_fits t es (knd.hash k) x;have z:=y.ok.lay es (knd.hash k) x;generalize layNew t es (knd.hash k) x=L at l v z ⊢;obtain⟨B,Z,d,gv⟩:=L;dsimp only at l v z ⊢;rw[HF]at l;have Y:B.size=es.size+1:=by rw[<-aY,l.length_eq,ag];rfl
   refine wb9 (J _ _ _ ?_);have fin:∀h' es' g t',cj S s.heap h'->jZ led h' S es' g t'->es'.toList.Perm B.toList->Q c_ { s with heap:=h' }:=λh' es' g t' a b c=>new _ h' es' g t' W a b (c.trans l);split
   ·refine wb9 ?_;rw[hashByValue_scannable 8 M];refine wu9 ?_;refine DP J y ?_ ?_ (aB (af Y) room) λh' es' g t' a b c=>wu9 (fin h' es' g t' a b c)
    ·split
     ·exact v
     ·exact SetTable.fits_plain_off v
    ·split
     ·exact z
     ·exact z.off
   ·refine wb9 (wu9 ?_);exact DP J y v z (by omega) λh' es' g t' a b c=>wu9 (fin h' es' g t' a b c)
end
def nJ{prog:cg}{w:cZ}{K:Type}[DecidableEq K](knd:mE prog w K)(led:Bool)(h:cc)(S:aF)(n:Nat)(M:K->Prop):Prop:=
 ∃es ep t ks,jZ led h S es ep t/\Pf knd es.toList/\hJ (λ(e:Int×ah)k=>knd.is k e.2=c_) es.toList ks/\ks.Nodup/\ks.length<=n/\∀q,q∈ks↔M q
section
variable{prog:cg}{w:cZ}{K:Type}[DecidableEq K]{knd:mE prog w K}{A:bP}{G:Array BS->Array BS->Prop}{St:Nat->ai->Prop}
def nJ.keep{h':cc}(y:nJ knd led h S n M)(k:∀o,h.get? S=a_ o->h'.get? S=a_ o):nJ knd led h' S n M:=
 let ⟨es,ep,t,ks,a,r⟩:=y
 ⟨es,ep,t,ks,a.keep k,r⟩
def uS{val:Nat->K}{i:Nat}{q:K}:(∃j,j<i+1/\val j=q)↔(∃j,j<i/\val j=q)\/val i=q:=by
 constructor
 ·rintro⟨j,h,e⟩;by_cases c:j=i
  ·subst c;exact .inr e
  ·exact .inl ⟨j,dI (bF h) c,e⟩
 ·rintro(⟨j,h,e⟩|e)
  ·exact⟨j,cT h,e⟩
  ·exact⟨i,ao _,e⟩
def Ic(W:WalksS prog w A.in1 I fp wr G n P St)(S:aF)(hS:S∉fp)(val:Nat->K)(hv:∀i v,P i v->knd.is (val i) v=c_/\v.scannable=c_)(hb:n+1<xF) :
  ∀(k i:Nat)(s:ai),n - i=k->i<=n->St i s->nJ knd led s.heap S i (λq=>∃j,j<i/\val j=q)->
   (∀s',Moved (S::wr) G s s'->nJ knd led s'.heap S n (λq=>∃j,j<n/\val j=q)->R (.ok (.ret .none)) s')->
   codeAny (aD prog w) A (.builtin "set.update.loop" ⟨[.ref S,.ref I],[]⟩) R s:=by
 have g :=λh=>hS (W.sub _ h);have sub:∀b∈wr,b∈S::wr:=λb m=>kD _ m;intro k
 induction k with
 |zero=>
   intro i s hk hi d y M;obtain rfl:i=n:=by omega
   refine dS eJ ?_;refine wb9 (W.done s _ _ d λs' m=>?_);exact wu9 (M s' (m.mono sub) (y.keep λo e=>m.heap S o g e))
 |succ k ih=>
   intro i s hk hi d y M;refine dS eJ ?_;refine wb9 (W.item i s _ _ (by omega) d λv s' hP l m=>?_);obtain⟨J,v2⟩:=hv i v hP;obtain⟨es,ep,t,ks,ya,O,B,yd,ye,yf⟩:=y.keep λo e=>m.heap S o g e;refine wb9 (bR ?_);refine bR (wb9 (knd.pyHash J ?_));have len:=kY B;rw[aY]at len
   have has:(∃e∈es.toList,knd.is (val i) e.2=c_)↔val i∈ks:=by
    constructor
    ·rintro⟨e,e1,e2⟩;obtain⟨q,q1,q2⟩:=lT B e1;rw[knd.inj _ _ _ e2 q2];exact q1
    ·intro q;obtain⟨e,e1,e2⟩:=ni B q;exact⟨e,e1,e2⟩
   have go:∀h',cj S s'.heap h'->nJ knd led h' S (i+1) (λq=>∃j,j<i+1/\val j=q)->
     aA (aD prog w) A.in1 (again (.builtin "set.update.loop" ⟨[.ref S,.ref I],[]⟩)) (λfin c=>match fin with | .done f=>R (.ok f) c | .again c'=>c'.quiet=c_/\codeAny (aD prog w) A c' R c) (λe c=>R (.error e) c) { s' with heap:=h',toks:=s'.toks+1 }:=by
    intro h' L U;refine wu9 ⟨fM ig _,ih (i+1) _ (by omega) (by omega) (W.frame _ s' _ _ l (vt _) λb hb o e=>?_) U λs2 m2 y2=>?_⟩
    ·rw[L.2 b λz=>hS (z▸hb)];exact e
    ·refine M s2 (Moved.trans W.gtrans ((m.mono sub).then_heap (vt _) λb o hb e=>?_) m2) y2;rw[L.2 b λz=>hb (z▸jE)];exact e
   refine QP J v2 ya O (by omega) (λb Y=>?_) (λb h' es' Z t' Y L U p=>?_)
   ·refine go s'.heap (xJ ..) ⟨es,ep,t,ks,ya,O,B,yd,cT ye,λq=>?_⟩;show q∈ks↔∃j,j<i+1/\val j=q;rw[uS,show(∃j,j<i/\val j=q)↔q∈ks from(yf q).symm];refine⟨.inl,λz=>z.elim id λe=>?_⟩;rw[<-e];exact has.mp Y
   ·obtain⟨D,c1,c2⟩:=lS p (oy (R:=λ(e)k=>knd.is k e.2=c_) J B);have nk :=λz=>Y (has.mpr z);refine go h' L ⟨es',Z,t',D,U,(O.push J v2).perm p,c1,?_,?_,λq=>?_⟩
    ·refine c2.nodup_iff.mpr (bW.mpr ⟨yd,aT.mpr ⟨by simp,eR⟩,λa ha b hb=>?_⟩)
     grind
    ·rw[c2.length_eq,ag];exact bD ye
    ·show q∈D↔∃j,j<i+1/\val j=q;rw[c2.mem_iff,aE,aL,uS,show(∃j,j<i/\val j=q)↔q∈ks from(yf q).symm];exact⟨λz=>z.imp id oJ,λz=>z.imp id oJ⟩
end
section
variable{z0:ai}
def K5{st:List ah}(j:p4 P w z0.heap ks p)(hs:∀v∈st,∃l b,v=.ref b/\p4 P w z0.heap l b)(h:Q d_ z0):aA (aD P w) A (searchCouldBeSeen (.ref p) st) Q E z0:=by
 refine wb9 ?_;refine g9 _ (λtl r g=>r.1=b_/\g=z0/\∀v∈tl,∃l b,v=.ref b/\p4 P w z0.heap l b) _ ?_ ?_ _ _ ⟨rfl,rfl,hs⟩
 ·rintro v tl r g ⟨ge,rfl,c⟩;obtain⟨l,b,rfl,k⟩:=c v jE;dsimp only;split
  ·exact wu9 ⟨rfl,rfl,λu d=>c u (kD _ d)⟩
  ·refine wb9 (tR F8 j ?_);refine wb9 (tR F8 k ?_);refine wb9 (yM F8 j ?_);refine wb9 (yM F8 k ?_);exact wu9 ⟨rfl,rfl,λu d=>c u (kD _ d)⟩
 ·rintro⟨r1,r2⟩ g ⟨ge,rfl,_⟩;subst ge;exact wu9 h
end
def below_at(hs:Bs xs)(hi:i<xs.size):aI xs xs[i]=i:=by
 obtain⟨h1,h2,h3⟩:=Lq hs xs[i]
 rcases mX (aI xs xs[i]) i with hl|hl|hl
 ·have a:=hs.get hi hl;have b:=h3 (aI xs xs[i]) (c5 hl hi) (ao _);exact((bB a b)).elim
 ·exact hl
 ·have:=h2 i hi hl;exact((bB this (ao _))).elim
def MO{t:bq}(c:Bs t.place)(hi:i<t.place.size):t.slot t.place[i]=.live i:=by
 rw[zH c (by simp),below_at c hi]
noncomputable abbrev Ze(es:Array (Int×ah))(i:Nat):Int:=(es[i]?.map (·.1)).getD 0
section
variable{P:cg}{w:cZ}{A:bP}{s:ai}{es:Array (Int×ah)}{t:bq}
structure Xw(P:cg)(w:cZ)(h:cc)(es:Array (Int×ah))(t:bq)(kf:Nat->List NK):Prop where
 mask:t.mask=7\/t.mask=31\/t.mask=127\/t.mask=511
 el:∀(i:Nat)(hi:i<es.size),∃b,es[i].2=.ref b/\p4 P w h (kf i) b/\es[i].1=dJ P w (kf i)
 std:∀(i:Nat)(hi:i<es.size)(hp:i<t.place.size),mT t es[i].1 t.place[i]
 le:∀j∈t.place.toList,j<=t.mask
theorem zO(i_:A.units+3<=dh)(y:jZ led s.heap S es ep t)(z:Xw P w s.heap es t kf)(Y:p4 P w s.heap ks p)
  (h1:t.slot (way t N (t.probeStart (dJ P w ks))).j=.empty)(h2:∀k<N,t.slot (way t k (t.probeStart (dJ P w ks))).j≠.empty)
  (L:∀i,i<es.size->kf i=ks->Q (.there b_) s)(new:(∀i,i<es.size->kf i≠ks)->Q (.free (way t N (t.probeStart (dJ P w ks))).j d_) s) :
  ∀(fuel a:Nat)(qf:Option bE),a<=N->N - a<fuel->qf.getD (t.probeStart (dJ P w ks))=way t a (t.probeStart (dJ P w ks))->(∀k<a,∀i,t.slot (way t k (t.probeStart (dJ P w ks))).j=.live i->kf i≠ks)->
   aA (aD P w) A (setSearchFrom S (.ref p) (dJ P w ks) c_ fuel qf) Q E s
 |0,a,qf,ha,hf,_,_=>((bB hf (aP _))).elim
 |fuel+1,a,qf,ha,hf,Z,M=>by
   have hsz:t.place.size=es.size:=by
    have:=y.fits;simp only[lN,aj,beq_iff_eq]at this;exact this.1
   have l:=z.mask
   have hg:t.gaveWay=d_:=by
    unfold SetTable.gaveWay
    rcases l with e|e|e|e<;>rw[e]<;>rfl
   have D:∀{j i:Nat},t.slot j=.live i->∃hi:i<es.size,Ze es i=es[i].1:=λ{j i}e=>by
    have:=N7 e;have hi:=(bO.mp this).1;refine⟨ab hi (af hsz),?_⟩;unfold Ze;simp[aS (show i<es.size by omega)]
   refine wb9 (de y.obj rfl y.fits ?_);dsimp only;rw[hg];simp only[if_false,bM];rw[Z]
   rcases Cj l y.ok.d (ha:=Ze es) h1 h2 ha with⟨g1,U⟩|⟨b,i,b1,b2,g1,U,g3,g4⟩
   ·erw [g1]
    refine wu9 (new λi hi e=>?_);obtain⟨n,n1,n2⟩:=z.std i hi (ab hi (af hsz.symm));have hh:es[i].1=dJ P w ks:=by obtain⟨_,_,_,q⟩:=z.el i hi;rw[q,e]
    rw[hh]at n1 n2;have g:t.slot (way t n (t.probeStart (dJ P w ks))).j=.live i:=by rw[n1];exact MO y.ok.r (ab hi (af hsz.symm))
    have hnN:n<N:=by
     rcases mX n N with hl|hl|hl
     ·exact hl
     ·simp_all
     ·have:=n2 N hl;rw[zH y.ok.r this]at h1;cases h1
    rcases i7 n a with hl|hl
    ·exact M n hl i g e
    ·obtain⟨B,e1,e2⟩:=U n hl hnN;rw[g]at e1
     injection e1 with e1
     subst e1;obtain⟨_,e3⟩:=D g
     simp_all
   ·erw [g1]
    dsimp only;obtain⟨hi,e3⟩:=D U;obtain⟨c,c1,c2,c3⟩:=z.el i hi
    have O:es[i]?=a_ (es[i].1,.ref c):=by
     rw[aS hi,<-c1]
    have next:aA (aD P w) A (do
      let a_ (_,v):=es[i]? | unsupported "internal:set-entry"
      let equal <-holding [v] (eqBool v (.ref p));let (es',_,t') <-setState S
      if(c_ && equal)=c_ then return .there b_
      let a_ same:=t'.sameMemory t.moves t.mask|unsupported "set.changed-during-lookup:is-the-new-block-at-the-old-address"
      let still <-match(if same=c_ then t'.slot (way t b (t.probeStart (dJ P w ks))).j else .empty)with
       | .live B=>match es'[B]? with
         |some (_,y')=>do pure (if(<-isSame y' v)=c_ then a_ B else b_)
         |none=>pure b_
       |_=>pure b_
      match still with
      |none=>rule "set.search.anew";setSearchFrom S (.ref p) (dJ P w ks) c_ fuel b_
      |some B=>if equal=c_ then return .there (a_ B)else setSearchFrom S (.ref p) (dJ P w ks) c_ fuel (a_ (way t (b+1) (t.probeStart (dJ P w ks))))) Q E s:=by
     rw[O];dsimp only;refine wb9 (bR (WZ i_ c2 Y ?_));refine wb9 (de y.obj rfl y.fits ?_);by_cases e:kf i=ks
     ·rw[decide_eq_true e];exact wu9 (L i hi e)
     ·rw[decide_eq_false e];have hsm:t.sameMemory t.moves t.mask=a_ c_:=by unfold SetTable.sameMemory;simp
      rw[hsm];simp only[if_true];rw[U];dsimp only;rw[O];refine wb9 (wpAny_isSame_ref_self (wb9 (wu9 ?_)));refine zO i_ y z Y h1 h2 L new fuel (b+1) _ (b2) (by omega) rfl λk hk B e' e''=>?_
      rcases mX k b with hl|hl|hl
      ·rcases i7 k a with J|J
       ·exact M k J B e' e''
       ·obtain⟨i2,W,q2⟩:=g4 k J hl;rw[e']at W
        injection W with W
        subst W;obtain⟨hi',q3⟩:=D e';obtain⟨_,_,_,q4⟩:=z.el B hi'
        simp_all
      ·simp_all
      ·exact bB hk hl
    split
    ·refine wb9 (K5 Y (λv hv=>?_) ?_)
     ·obtain⟨x,R,rfl⟩:=bQ.mp hv;have R:=Array.mem_toList_iff.mp R;obtain⟨R,_⟩:=Array.mem_filter.mp R;obtain⟨k,hk,rfl⟩:=BD.mp R;obtain⟨c',d1,d2,_⟩:=z.el k hk;exact⟨_,c',d1,d2⟩
     ·exact next
    ·exact next
end
section
variable{z0:ai}
def WR(c:p4 P w z0.heap ks p)(h:∀b,Q b z0):aA (aD P w) A (hashByValue 8 (.ref p)) Q E z0:=P4 F8 c h
end
section
variable{P:cg}{w:cZ}{A:bP}{s:ai}{es:Array (Int×ah)}{t:bq}
def _root_.L2.qZ.keepsC(x:qZ I h ks p)(go:h.get? d=a_ o)(c:o.cls≠.type "tuple")(g:cj d h h'):qZ I h' ks p:=
 x.nX (Xj go c λb o n e=>(g.2 b n).trans e)
structure DA(P:cg)(w:cZ)(h:cc)(es:Array (Int×ah))(t:bq):Prop where
 mask:t.mask=7\/t.mask=31\/t.mask=127\/t.mask=511
 el:∀e∈es.toList,∃l b,e.2=.ref b/\p4 P w h l b/\e.1=dJ P w l
 std:∀q∈es.toList.zip t.place.toList,mT t q.1.1 q.2
 le:∀j∈t.place.toList,j<=t.mask
 nf:t.place.size * 5<t.mask * 3
def DA.toN(z:DA P w h es t):∃kf,Xw P w h es t kf:=by
 refine⟨λi=>if hi:i<es.size then(z.el es[i] (by simp)).choose else [],z.mask,λi hi=>?_,λi hi hp=>?_,z.le⟩
 ·obtain⟨b,h1,h2,h3⟩:=(z.el es[i] (by simp)).choose_spec;refine⟨b,h1,?_,?_⟩
  ·rw[dif_pos hi];exact h2
  ·rw[dif_pos hi];exact h3
 ·refine z.std (es[i],t.place[i]) ?_;refine cA.mpr ⟨i,by simp;omega,by simp⟩
def rP{l l':List Nat}(d:l.Nodup)(c:l'.Nodup)(h:∀x∈l,x∈l'):l.length<=l'.length:=by
 have hl:(l'.filter λx=>decide (x∈l)).Nodup:=zh FX c
 have hp:l.Perm (l'.filter λx=>decide (x∈l)):=by
  rw[fG d hl]
  simp_all
 rw[hp.length_eq];exact fL _ _
def TN(c:Bs t.place)(hf:t.place.size<t.mask+1)(hd:t.dummies=#[]):∃j,j<t.mask+1/\t.slot j=.empty:=by
 rcases HX (∃j,j<t.mask+1/\t.slot j=.empty)with h|h
 ·exact h
 ·exfalso;have d :=og (λh=>(bo h)) c;have:=rP fB d λj(g)=>JA hd λe=>h ⟨j,a9.mp g,e⟩;rw[aW]at this;exact bB hf this
def Ck(L:A.units+3<=dh)(y:jZ led s.heap S es ep t)(z:DA P w s.heap es t)(M:p4 P w s.heap ks p)
  (l:(∃e∈es.toList,∃b,e.2=.ref b/\p4 P w s.heap ks b)->Q (.there b_) s)
  (new:∀j,(¬ ∃e∈es.toList,∃b,e.2=.ref b/\p4 P w s.heap ks b)->t.slot j=.empty->j<=t.mask->mT (t.put j).1 (dJ P w ks) j->Q (.free j d_) s) :
  aA (aD P w) A (setSearch S (.ref p) (dJ P w ks) c_) Q E s:=by
 obtain⟨kf,n⟩:=z.toN;have q:=z.nf;obtain⟨j,O,v⟩:=TN y.ok.r (by rcases z.mask with e|e|e|e<;>rw[e]at q ⊢<;>omega) y.ok.d;obtain⟨N,R,h1,h2⟩:=C8 z.mask y.ok.d (dJ P w ks) O v;refine zO L y n M h1 h2 (λi hi e=>l ?_) (λB=>new _ ?_ h1 (BY N _) ?_) 100000 0 b_ (aP _) (ab R (by decide)) rfl λk D=>((bB D (aP _))).elim
 ·obtain⟨b,c,J,_⟩:=n.el i hi;exact⟨es[i],by simp,b,c,e▸J⟩
 ·rintro⟨e,v,b,c,J⟩;obtain⟨i,hi,rfl⟩:=cA.mp v;have g:i<es.size:=by simpa using hi
  obtain⟨Y,U,W,_⟩:=n.el i g;rw[oZ]at c;rw[U]at c;cases c;exact B i g (W.inj J)
 ·exact mT.new λk D=>JA y.ok.d (h2 k D)
end
section
variable{s:ai}
def Nd(y:jZ led s.heap S es ep t)(c:fh wanted<=ax)(hl:t.relaid (es.map (·.1)) wanted=a_ (t',o))(hs:(o.filterMap (es[·]?)).size=es.size)
  (f:t'.fits (o.filterMap (es[·]?)).size=c_)(ok:pD led t')(d:es.size<=ax)(k:∀h',cj S s.heap h'->jZ led h' S (o.filterMap (es[·]?)) (ep+1) t'->Q () { s with heap:=h' }) :
  aA (aD P w) A (setRelay S wanted) Q E s:=by
 refine wb9 (de y.obj rfl y.fits ?_);dsimp only;rw[if_neg (λz=>(bB z c)),hl];refine wb9 ?_;change aA _ _ (if((o.filterMap (es[·]?)).size != es.size)=c_ then(unsupported "internal:set-table-lost-an-element" >>= λ_=>pure (o.filterMap (es[·]?),t'))else pure (o.filterMap (es[·]?),t')) _ _ _;rw[if_neg (by simp[hs])];refine wu9 ?_;exact qg y f ok (by rw[hs];exact d) k
end
theorem filterMap_map{α β:Type}{f:α->Option β}{g:α->β}:∀{l:List α},(∀k∈l,f k=a_ (g k))->l.filterMap f=l.map g
 |[],_=>rfl
 |a::l,h=>by rw[jb,h a jE,aq,filterMap_map λk c=>h k (kD _ c)]
def GG(es:Array (Int×ah)):(aK es.size).map (λk=>(es[k]?).getD (0,.none))=es.toList:=by
 apply iX
 ·simp
 simp_all
section
variable{es:Array (Int×ah)}
def Ab{o:Array Nat}(hp:o.toList.Perm (aK es.size)):(o.filterMap (es[·]?)).toList=o.toList.map (λk=>(es[k]?).getD (0,.none)):=by
 rw[Array.toList_filterMap];refine filterMap_map λk c=>?_;have :=a9.mp (hp.mem_iff.mp c)
 simp_all
def uJ{o:Array Nat}(hp:o.toList.Perm (aK es.size)):(o.filterMap (es[·]?)).toList.Perm es.toList:=by
 rw[Ab hp];have:=hp.map (λk=>(es[k]?).getD (0,eU));rw[GG]at this;exact this
def Nf{h:cc}(v:mask=7\/mask=31\/mask=127\/mask=511)(y:es.size<=mask)(z:es.size * 5<mask * 3)(el:∀e∈es.toList,∃l b,e.2=.ref b/\p4 P w h' l b/\e.1=dJ P w l) :
  ∃t' o,lM mask f m led pl (es.map (·.1))=a_ (t',o)/\(o.filterMap (es[·]?)).size=es.size/\t'.fits (o.filterMap (es[·]?)).size=c_/\pD led t'/\(o.filterMap (es[·]?)).toList.Perm es.toList/\DA P w h' (o.filterMap (es[·]?)) t':=by
 obtain⟨t',o,h1,h2,h3,c,h5,B,D⟩:=N9 (hs:=es.map (·.1)) v (by simpa using y);have c:o.toList.Perm (aK es.size):=by simpa using c
 have hp:=uJ c;have hsz:(o.filterMap (es[·]?)).size=es.size:=by rw[<-aY,hp.length_eq,aY]
 have J:o.size=es.size:=by rw[<-aY,c.length_eq,aW]
 have ok:=pD.laid h1;refine⟨t',o,h1,hsz,?_,ok,hp,?_⟩
 ·have hd:=ok.d;simp only[lN,oX,aj,beq_iff_eq,decide_eq_true_eq,hd]
  simp_all
 ·refine⟨by rw[h2];exact v,λe L=>el e (hp.mem_iff.mp L),λq M=>?_,λj O=>by rw[h2];exact B j O,by omega⟩;obtain⟨i,hi,rfl⟩:=cA.mp M;rw[vv]at hi;have g:i<o.size:=by simp at hi;omega
  have k :=ab g (af h5.symm);have R:o[i]<es.size:=a9.mp (c.mem_iff.mp (by simp))
  have e1:(o.filterMap (es[·]?)).toList[i]'(by exact ab hi (jl _ _))=es[o[i]]:=by
   simp only[Ab c,tL,oZ,aS R,sv]
  have h8:=D i g k
  simp_all
end
def ES{α:Type}(xs:Array α)(hp:p<=xs.size)(x:α):(cM xs p x).size=xs.size+1:=by
 rw[<-aY,eF,ag,ba,eK,dP,aY];omega
def AB{α:Type}(xs:Array α)(p:Nat)(x:α):(cM xs p x).toList.Perm (xs.toList++[x]):=by
 rw[eF];refine LK.trans ?_;rw[aZ];exact dA (l₁:=[x])
def Od{α β:Type}(xs:Array α)(ys:Array β)(h:xs.size=ys.size){p:Nat}(hp:p<=xs.size)(x:α)(y:β){q:α×β}(c:q∈(cM xs p x).toList.zip (cM ys p y).toList):q=(x,y)\/q∈xs.toList.zip ys.toList:=by
 rw[eF,eF,Mf (by simp;omega)]at c
 have d:xs.toList.zip ys.toList=(xs.toList.take p).zip (ys.toList.take p)++(xs.toList.drop p).zip (ys.toList.drop p):=by
  rw[<-Mf (by simp;omega),aZ,aZ]
 rw[d]
 rcases aE.mp c with c|c
 ·simp_all
 ·rcases au.mp c with c|c
  ·exact .inl c
  ·exact .inr (aE.mpr (.inr c))
section
def zx{c:Prop}[Decidable c]{m g:zp Bool}{k:Bool->zp Bool}{Q:Bool->ai->Prop}(h:∀b,aA (aD P w) A (k b) Q E s)(j:∀{Q':Bool->ai->Prop},(∀b,Q' b s)->aA (aD P w) A m Q' E s)(d:∀{Q':Bool->ai->Prop},(∀b,Q' b s)->aA (aD P w) A g Q' E s) :
  aA (aD P w) A (if c then m >>= k else g >>= k) Q E s:=by
 split
 ·exact wb9 (j h)
 ·exact wb9 (d h)
def mT.plain(h:mT t x j):mT { t with plain:=b } x j:=
 mT.mono (t:=t) (t':={ t with plain:=b }) rfl (λ_ h=>h) h
def Og(c:mask=7\/mask=31\/mask=127\/mask=511)(h0:n * 5<mask * 3)(h1:(n+1) * 5>=mask * 3)(d:n<300):(fh (dm (n+1)) - 1=31\/fh (dm (n+1)) - 1=127\/fh (dm (n+1)) - 1=511)/\n+1<=fh (dm (n+1)) - 1/\(n+1) * 5<(fh (dm (n+1)) - 1) * 3/\fh (dm (n+1))<=512:=by
 rcases c with rfl|rfl|rfl|rfl
 ·obtain rfl:n=4:=by omega
  decide +kernel
 ·obtain rfl:n=18:=by omega
  decide +kernel
 ·obtain rfl:n=76:=by omega
  decide +kernel
 ·omega
end
section
variable{s:ai}{A:bP}
set_option tactic.hygienic true in
def add_n(i_:A.units+3<=dh)(y:jZ led s.heap S es ep t)(z:DA P w s.heap es t)(gk:p4 P w s.heap ks p)(room:es.size<300)
  (old:∀b,(∃e∈es.toList,∃b,e.2=.ref b/\p4 P w s.heap ks b)->Q b s)
  (new:∀b h' es' ep' t',(¬ ∃e∈es.toList,∃b,e.2=.ref b/\p4 P w s.heap ks b)->cj S s.heap h'->jZ led h' S es' ep' t'->DA P w h' es' t'->es'.toList.Perm (es.toList++[(dJ P w ks,.ref p)])->Q b { s with heap:=h' }) :
  aA (aD P w) A (setAddHashed S (.ref p) (dJ P w ks)) Q E s:=by
 have hsz:t.place.size=es.size:=by
  have:=y.fits;simp only[lN,aj,beq_iff_eq]at this;exact this.1
 refine bR ?_;refine wb9 (de y.obj rfl y.fits ?_);dsimp only;refine wb9 (Ck i_ y z gk (λh=>?_) (λj W hs hle hst=>?_))
 ·exact wu9 (old _ h)
 ·refine wb9 (de y.obj rfl y.fits ?_);refine zx (λb=>?_) (λq=>WR gk q) (λq=>wu9 (q _));have v :=(Lq y.ok.r j).1
  have J:({ cls:=.type "set",dict:=b_,data:=.set es ep t }:kL).cls≠.type "tuple":=by
   simp
  generalize D:(if b=c_ then(t.put j).1 else { (t.put j).1 with plain:=d_ })=t1;have q1:t1.place=cM t.place (aI t.place j) j:=by rw[<-D];split<;>rfl
  have q2:t1.mask=t.mask:=by rw[<-D];split<;>rfl
  have Y:pD led t1:=by
   have:=y.ok.put (uu y.ok.d hs);rw[<-D];split
   ·exact this
   ·exact this.off
  have q4:∀x a,mT (t.put j).1 x a->mT t1 x a:=λx a h=>by
   rw[<-D];split
   ·exact h
   ·exact h.plain
  have R:t1.place.size=es.size+1:=by rw[q1,ES _ v,hsz]
  have k:(cM es (aI t.place j) (dJ P w ks,cW p)).size=es.size+1:=ES _ (ab v (af hsz)) _;have c:=AB es (aI t.place j) (dJ P w ks,cW p)
  have L:∀e,e∈(cM es (aI t.place j) (dJ P w ks,cW p)).toList->e∈es.toList\/e=(dJ P w ks,cW p):=λe Z=>by
   rcases aE.mp (c.mem_iff.mp Z)with h|h
   ·exact .inl h
   ·exact .inr (aL.mp h)
  have hnf:=z.nf
  have M:t1.fits (cM es (aI t.place j) (dJ P w ks,cW p)).size=c_:=by
   simp only[lN,oX,aj,beq_iff_eq,decide_eq_true_eq,Y.d];refine⟨bI (ab (af R) (af k.symm)) (ab (af k) (af R.symm)),?_⟩;show t1.place.size+0<=t1.mask;rw[q2]
   rcases z.mask with e|e|e|e<;>rw[e]at hnf ⊢<;>omega
  have hle1:∀a∈t1.place.toList,a<=t1.mask:=λa ha=>by
   rw[q1]at ha;rw[q2]
   rcases aE.mp ((AB t.place (aI t.place j) j).mem_iff.mp ha)with h|h
   ·exact z.le a h
   ·rw[aL.mp h];exact hle
  have B:∀q∈(cM es (aI t.place j) (dJ P w ks,cW p)).toList.zip t1.place.toList,mT t1 q.1.1 q.2:=λq hq=>by
   rw[q1]at hq
   rcases Od es t.place hsz.symm (ab v (af hsz)) _ _ hq with h|h
   ·rw[h];exact q4 _ _ hst
   ·exact q4 _ _ (mT.mono (t:=t) (t':=(t.put j).1) rfl (λa ha=>EF.mpr (.inr ha)) (z.std q h))
  rw[show(t.put j).2=aI t.place j from rfl];generalize cM es (aI t.place j) (dJ P w ks,cW p)=es1 at k c L M B ⊢;refine wb9 (qg y M Y (by rw[k];exact ab room (by decide)) λh1 sb y1=>?_)
  have O:∀h',cj S s.heap h'->∀e∈es1.toList,∃l b,e.2=.ref b/\p4 P w h' l b/\e.1=dJ P w l:=λh' sb' e Z=>by
   rcases L e Z with h|h
   ·obtain⟨l,b,r1,r2,r3⟩:=z.el e h;exact⟨l,b,r1,r2.keepsC y.obj J sb',r3⟩
   ·rw[h];exact⟨ks,p,rfl,gk.keepsC y.obj J sb',rfl⟩
  split
  ·rename_i g
   have g:(es.size+1) * 5>=t.mask * 3:=by
    simp only[Pl,Bool.true_and,DF,oX,Y.d,decide_eq_true_eq]at g;have:(#[]:Array Nat).size=0:=rfl;omega
   obtain⟨m1,m2,m3,m4⟩:=Og z.mask (by rw[<-hsz];exact hnf) g room;obtain⟨t',o,r1,r2,r3,r4,r5,r6⟩:=Nf (h:=s.heap) (.inr m1) (ab (af k) m2) (by omega) (O h1 sb)
   have hrl:t1.relaid (es1.map (·.1)) (dm (es.size+1))=a_ (t',o):=by
    unfold FQ;rw[Y.l];exact r1
   refine wb9 (Nd y1 (by exact ab m4 (by decide)) hrl r2 r3 r4 (by rw[k];exact ab room (by decide)) λh2 BF y2=>?_)
   have U:({ cls:=.type "set",dict:=b_,data:=.set es1 (ep+1) t1 }:kL).cls≠.type "tuple":=by
    simp
   refine wu9 (new _ h2 _ _ _ W (sb.trans BF) y2 ⟨r6.mask,λe Z=>?_,r6.std,r6.le,r6.nf⟩ (r5.trans c));obtain⟨l,b,s1,s2,s3⟩:=r6.el e Z;exact⟨l,b,s1,s2.keepsC y1.obj U BF,s3⟩
  ·rename_i g
   have g:(es.size+1) * 5<t.mask * 3:=by
    simp only[Pl,Bool.true_and,DF,oX,Y.d,decide_eq_true_eq]at g;omega
   exact wu9 (new _ h1 _ _ _ W sb y1 ⟨by rw[q2];exact z.mask,O h1 sb,B,hle1,by rw[q2,R];exact g⟩ c)
end
section
variable{prog:cg}{w:cZ}{A:bP}{s:ai}
abbrev qh(w:cZ):kL:={ cls:=.type "set",dict:=b_,data:=.set #[] 0 (.fresh 0 0 (nZ w)) }
def DY(a:ah)(k:Q (.ref s.heap.objs.size) { s with heap:=s.heap.push (qh w) }):codeAny (aD prog w) A (.call (.builtin "set.__new__") ⟨[.type "set",a],[]⟩) (wants Q E) s:=by
 refine lE PySem.F.plain_set_new PySem.F.entry_set_new (j3 (PySem.F.newCall_set_1 a) ?_);have ss:=sub_set_self;obtain⟨hp,g,d,c,os⟩:=s
 wp_walk
 refine xE ?_;refine wu9 ?_;exact wb9 (wpAny_alloc (wu9 (wu9 k)))
def qJ{T:String}(d:TypeCalled T nI iI)(ct:checkTypeCall T ⟨args,[]⟩=pure ())(D:entryFor table iI=a_ B)
  (q:codeAny (aD prog w) A.in1 (.call (.builtin nI) ⟨.type T::args,[]⟩) (wants Q1 E) s)
  (v:∀j s1,Q1 j s1->s1.TypeIs j T/\codeAny (aD prog w) A.in1 (.call (.builtin iI) ⟨j::args,[]⟩) (wants (λr s2=>r=.none/\Q j s2) E) s1) :
  aA (aD prog w) A (call (.type T) args) Q E s:=by
 obtain⟨c,tl,e1⟩:=d.mro;have e2:=d.made;have e3:=d.sub;refine wpAny_call (codeAny_of_tree ?_);refine wu9 (ue (Code.quiet_builtin _ (by decide +kernel)) (dS PySem.F.entry_type_call ?_));have J:=d.notType;have e5:=d.canCreate
 repeat any_goals first|assumption|wp_step
 refine ko q λr s1 k=>?_
 cases r with
 |error e=>exact k
 |ok fl=>
   cases fl with
   |ret j=>
     obtain⟨L,y⟩:=v _ _ k;have M:=d.init.lookup;have O:=d.init.bind j
     repeat any_goals first|assumption|wp_step
     refine ko y λz s2 g=>?_
     cases z with
     |error e=>exact g
     |ok l=>
       cases l with
       |ret r=>
         obtain⟨rfl,R⟩:=g
         repeat any_goals first|assumption|wp_step
       |_=>exact g.elim
   |_=>exact k.elim
def xC{T:String}(ty:s.TypeIs v T)(a:isSubtype (.type T) (.type "set")=pure d_)(b:isSubtype (.type T) (.type "frozenset")=pure d_)(k:Q d_ s):aA M A (L9 v) Q E s:=by
 refine wb9 (dq ty a ?_);exact dq ty b k
variable{K:Type}[DecidableEq K]{knd:mE prog w K}
def FI(prog:cg)(w:cZ)(h:cc)(v:ah)(n:Nat)(P:Nat->ah->Prop):Prop:=
 ∀(d:bP)(g:ah->ai->Prop)(s1:ai)(Q1:ah->ai->Prop),h.objs.size<s1.heap.objs.size->(∀b o,h.get? b=a_ o->s1.heap.get? b=a_ o)->
  (∀(o:kL)(fp:List aF)(St:Nat->cc->Prop),(∀c,c.handled=b_->Walks prog w c s1.heap.objs.size fp [s1.heap.objs.size] n P St)->(∀b∈fp,b=s1.heap.objs.size\/b<h.objs.size)->St 0 (s1.heap.push o)->
   Q1 (.ref s1.heap.objs.size) { s1 with heap:=s1.heap.push o })->aA (aD prog w) d (HN v) Q1 g s1
def IJ{T:String}(hh:A.handled=b_)(ty:∀s1:ai,(∀b o,s.heap.get? b=a_ o->s1.heap.get? b=a_ o)->s1.TypeIs v T)
  (a:isSubtype (.type T) (.type "set")=pure d_)(b:isSubtype (.type T) (.type "frozenset")=pure d_)(nd:(iN T == iN "dict")=d_)(c:FI prog w s.heap v n P)
  (val:Nat->K)(L:∀i v,P i v->knd.is (val i) v=c_/\v.scannable=c_)(hb:n+1<xF)
  (k:∀h' M,nJ knd (nZ w) h' s.heap.objs.size n (λq=>∃j,j<n/\val j=q)->(∀b o,s.heap.get? b=a_ o->h'.get? b=a_ o)->Q (.ref s.heap.objs.size) { s with heap:=h',toks:=M }) :
  aA (aD prog w) A (call (.type "set") [v]) Q E s:=by
 refine qJ (Q1:=λB s1=>B=.ref s.heap.objs.size/\s1={ s with heap:=s.heap.push (qh w) }) kR (xK v) jo (DY v ⟨rfl,rfl⟩) ?_;rintro B s1 ⟨rfl,rfl⟩;have gS:(s.heap.push (qh w)).get? s.heap.objs.size=a_ (qh w):=aG _ rfl;have D:pE { s with heap:=s.heap.push (qh w) } (.ref s.heap.objs.size) "set":=⟨_,gS,rfl⟩
 refine⟨D,lE kR.init.plain jo (check_set_init_1 D ?_)⟩;have e1:∀b o,s.heap.get? b=a_ o->(s.heap.push (qh w)).get? b=a_ o:=λb o e=>hp9 _ e;unfold fI.«set.__init__» noKeywords;generalize O:n9=U
 wp_walk
 subst O;refine wb9 (xC (ty _ e1) a b ?_);refine wb9 (iw (ty _ e1) ?_);rw[nd];have sz:(s.heap.push (qh w)).objs.size=s.heap.objs.size+1:=eh ..;refine wb9 (c _ _ _ _ (by simp) e1 λo fp St W d st=>?_);have h3:A.in1.in1.in1.handled=b_:=by simp[hh]
 refine wb9 (rf ?_);refine Ic (led:=nZ w) (W _ h3).toS s.heap.objs.size (λm=>?_) val L hb n 0 _ rfl (aP _) st ?_ ?_
 ·rcases d _ m with q|q
  ·have J :=q;rw[sz]at J;exact absurd J (bo (i6 _))
  ·exact absurd q (bC _)
 ·refine⟨#[],0,_,[],⟨hp9 _ gS,by rfl,pD.fresh _⟩,λe R=>by simp at R,.nil,eR,ao _,λq=>?_⟩;simp
 ·intro s' m y;refine wu9 ?_;obtain⟨h',g',d',g,l⟩:=s';obtain rfl:g'=s.gens:=m.gens;obtain rfl:d'=s.drawn:=m.drawn;obtain rfl:l=s.os:=m.os;refine wu9 ⟨rfl,k h' g y λb o e=>m.heap b o (λz=>?_) (hp9 _ (hp9 _ e))⟩;have lt:=hl9 e;simp only[au,bf,or_false]at z
  rcases z with z|z
  ·rw[z]at lt;exact absurd lt (bC _)
  ·have Y :=z;rw[Y,sz]at lt;exact absurd (tv lt) (bC _)
end
section
variable{P:cg}{w:cZ}
def _root_.L2.qZ.mono{h':cc}(x:qZ I h ks p)(k:∀b o,h.get? b=a_ o->h'.get? b=a_ o):qZ I h' ks p:=x.nX λb o e _ _=>k b o e
def Bv(P:cg)(w:cZ)(led:Bool)(h:cc)(S:aF)(kf:Nat->List NK)(av:Nat->aF)(i:Nat):Prop:=
 ∃es ep t js,jZ led h S es ep t/\DA P w h es t/\hJ (λ(e:Int×ah)j=>e.2=.ref (av j)) es.toList js/\(js.map kf).Nodup/\(∀j∈js,j<i)/\∀j,j<i->kf j∈js.map kf
variable{kf:Nat->List NK}{av:Nat->aF}
def Bv.keep{h':cc}(y:Bv P w led h S kf av i)(k:∀o,h.get? S=a_ o->h'.get? S=a_ o)(a:∀j,j<i->p4 P w h (kf j) (av j))(b:∀j,j<i->p4 P w h' (kf j) (av j)):Bv P w led h' S kf av i:=by
 obtain⟨es,ep,t,js,B,c,g,D,d,J⟩:=y;refine⟨es,ep,t,js,B.keep k,⟨c.mask,λe q=>?_,c.std,c.le,c.nf⟩,g,D,d,J⟩;obtain⟨l,b0,e1,e2,e3⟩:=c.el e q;obtain⟨j,v,z⟩:=lT g q;rw[z]at e1;cases e1;rw[e2.inj (a j (d j v))]at e3;exact⟨kf j,av j,z,b j (d j v),e3⟩
variable{A:bP}{G:Array BS->Array BS->Prop}{St:Nat->ai->Prop}
def Of{h:cc}{es:Array (Int×ah)}{js:List Nat}{i m:Nat}(k:hJ (λ(e:Int×ah) j=>e.2=.ref (av j)) es.toList js)(l:∀j∈js,j<i)(a:∀j,j<m->p4 P w h (kf j) (av j))(hi:i<m) :
  (∃e∈es.toList,∃b,e.2=.ref b/\p4 P w h (kf i) b)↔kf i∈js.map kf:=by
 constructor
 ·rintro⟨e,he,b,e1,e2⟩;obtain⟨j,c,g⟩:=lT k he;rw[g]at e1;cases e1;have d:=l j c;rw[e2.inj (a j (c5 d hi))];exact cH c
 ·intro q;obtain⟨j,c,e⟩:=bQ.mp q;obtain⟨x,v,g⟩:=ni k c;have d:=l j c;exact⟨x,v,av j,g,e▸a j (by omega)⟩
def F7(W:WalksS P w A.in1 I fp wr G n Pv St)(S:aF)(hS:S∉fp)(hv:∀i v,Pv i v->v=.ref (av i))(h0:cc)(hk:∀j,j<n->p4 P w h0 (kf j) (av j))(h0S:h0.get? S=b_)(h0w:∀b∈wr,h0.get? b=b_)
  (hb:n<=300)(i_:A.in1.units+3<=dh) :
  ∀(k i:Nat)(s:ai),n - i=k->i<=n->St i s->(∀b o,h0.get? b=a_ o->s.heap.get? b=a_ o)->Bv P w led s.heap S kf av i->
   (∀s',Moved (S::wr) G s s'->Bv P w led s'.heap S kf av n->R (.ok (.ret .none)) s')->
   codeAny (aD P w) A (.builtin "set.update.loop" ⟨[.ref S,.ref I],[]⟩) R s:=by
 have D :=λh=>hS (W.sub _ h);have sub:∀b∈wr,b∈S::wr:=λb m=>kD _ m;have kin:∀(h:cc),(∀b o,h0.get? b=a_ o->h.get? b=a_ o)->∀j,j<n->p4 P w h (kf j) (av j):=λh q j c=>(hk j c).mono q;intro k
 induction k with
 |zero=>
   intro i s hk' hi l J y hR;obtain rfl:i=n:=by omega
   refine dS eJ ?_;refine wb9 (W.done s _ _ l λs' m=>?_);have B :=λb o e=>m.heap b o (λz=>by simp_all) (J b o e);exact wu9 (hR s' (m.mono sub) (y.keep (λo e=>m.heap S o D e) (kin _ J) (kin _ B)))
 |succ k ih=>
   intro i s hk' hi l J y hR;refine dS eJ ?_;rw[Around.under_plainId ig];refine wb9 (W.item i s _ _ (by omega) l λv s' hP L m=>?_);have B :=λb o e=>m.heap b o (λz=>by rw[h0w b z]at e;cases e) (J b o e);obtain rfl:=hv i v hP;have d:i<n:=by omega
   obtain⟨es,ep,t,js,ya,yb,Y,yd,Z,yf⟩:=y.keep (λo e=>m.heap S o D e) (λj c=>kin _ J j (ab c hi)) (λj c=>kin _ B j (ab c hi));refine wb9 (bR ?_);refine bR (wb9 (C3 i_ (kin _ B i d) ?_));have len:=kY Y;rw[aY]at len
   have hjl:js.length<=i:=by
    have hn :=(eV.mp yd).imp λh e=>h (congrArg kf e);have:=rP hn fB λj c=>a9.mpr (Z j c)
    simp_all
   have has:=Of Y Z (kin _ B) d
   have go:∀h' tk,cj S s'.heap h'->s'.toks<=tk->Bv P w led h' S kf av (i+1)->
     aA (aD P w) A.in1 (again (.builtin "set.update.loop" ⟨[.ref S,.ref I],[]⟩)) (λfin g=>match fin with | .done f=>R (.ok f) g | .again c'=>c'.quiet=c_/\codeAny (aD P w) A c' R g) (λe g=>R (.error e) g) { s' with heap:=h',toks:=tk }:=by
    intro h' tk M O y';refine wu9 ⟨fM ig _,ih (i+1) _ (by omega) (d) (W.frame _ s' _ _ L O λb hb o e=>?_) (λb o e=>?_) y' λs2 m2 y2=>?_⟩
    ·rw[M.2 b λz=>hS (z▸hb)];exact e
    ·rw[M.2 b λz=>by rw[z,h0S]at e;cases e];exact B b o e
    ·refine hR s2 (Moved.trans W.gtrans ((m.mono sub).then_heap O λb o hb e=>?_) m2) y2;rw[M.2 b λz=>hb (z▸jE)];exact e
   refine add_n i_ ya yb (kin _ B i d) (by omega) (λb hq=>?_) (λb h' es' ep' t' hq M y' z' p=>?_)
   ·refine go s'.heap _ (xJ ..) (bb _ _) ⟨es,ep,t,js,ya,yb,Y,yd,λj c=>jT (Z j c),λj c=>?_⟩;by_cases e:j=i
    ·subst e;exact has.mp hq
    ·exact yf j (by omega)
   ·obtain⟨U,c1,c2⟩:=lS p (oy (R:=λ(e)j=>e.2=.ref (av j)) rfl Y);have nk :=λz=>hq (has.mpr z)
    have c3:(U.map kf).Perm (js.map kf++[kf i]):=by
     have:=c2.map kf
     rwa [fT]at this
    refine go h' _ M (bb _ _) ⟨es',ep',t',U,y',z',c1,?_,λj c=>?_,λj c=>?_⟩
    ·refine c3.nodup_iff.mpr (bW.mpr ⟨yd,aT.mpr ⟨by simp,eR⟩,λa ha b hb=>?_⟩);rw[aL]at hb;subst hb;exact λz=>nk (z▸ha)
    ·rcases aE.mp (c2.mem_iff.mp c)with h|h
     ·exact jT (Z j h)
     ·rw[aL.mp h];simp
    ·rw[c3.mem_iff];by_cases e:j=i
     ·grind
     ·exact aH _ (yf j (by omega))
end
section
variable{A:bP}{s:ai}
def Gq{T:String}(hh:A.handled=b_)(ty:∀s1:ai,(∀b o,s.heap.get? b=a_ o->s1.heap.get? b=a_ o)->s1.TypeIs v T)
  (a:isSubtype (.type T) (.type "set")=pure d_)(b:isSubtype (.type T) (.type "frozenset")=pure d_)(nd:(iN T == iN "dict")=d_)(d:FI P w s.heap v n Pv)
  (O:∀i v,Pv i v->v=.ref (av i))(R:∀j,j<n->p4 P w s.heap (kf j) (av j))(hb:n<=300)(Y:A.in1.in1.in1.units+3<=dh)
  (k:∀h' Z,Bv P w (nZ w) h' s.heap.objs.size kf av n->(∀b o,s.heap.get? b=a_ o->h'.get? b=a_ o)->Q (.ref s.heap.objs.size) { s with heap:=h',toks:=Z }) :
  aA (aD P w) A (call (.type "set") [v]) Q E s:=by
 refine qJ (Q1:=λJ s1=>J=.ref s.heap.objs.size/\s1={ s with heap:=s.heap.push (qh w) }) kR (xK v) jo (DY v ⟨rfl,rfl⟩) ?_;rintro J s1 ⟨rfl,rfl⟩;have gS:(s.heap.push (qh w)).get? s.heap.objs.size=a_ (qh w):=aG _ rfl;have L:pE { s with heap:=s.heap.push (qh w) } (.ref s.heap.objs.size) "set":=⟨_,gS,rfl⟩
 refine⟨L,lE kR.init.plain jo (check_set_init_1 L ?_)⟩;have e1:∀b o,s.heap.get? b=a_ o->(s.heap.push (qh w)).get? b=a_ o:=λb o e=>hp9 _ e;unfold fI.«set.__init__» noKeywords;generalize hU:n9=U
 wp_walk
 subst hU;refine wb9 (xC (ty _ e1) a b ?_);refine wb9 (iw (ty _ e1) ?_);rw[nd];have sz:(s.heap.push (qh w)).objs.size=s.heap.objs.size+1:=eh ..;refine wb9 (d _ _ _ _ (by simp) e1 λo fp St W g st=>?_);have h3:A.in1.in1.in1.handled=b_:=by simp[hh]
 refine wb9 (rf ?_);refine F7 (led:=nZ w) (W _ h3).toS s.heap.objs.size (λm=>?_) O s.heap R (o7 (ao _)) (λb hb=>?_) hb Y n 0 _ rfl (aP _) st (λb o e=>hp9 _ (e1 b o e)) ?_ ?_
 ·rcases g _ m with q|q
  ·have M :=q;rw[sz]at M;exact absurd M (bo (i6 _))
  ·exact absurd q (bC _)
 ·have l:b=(s.heap.push (qh w)).objs.size:=by simpa using hb
  rw[l,sz];exact o7 (vt _)
 ·refine⟨#[],0,_,[],⟨hp9 _ gS,by rfl,pD.fresh _⟩,⟨.inl rfl,λe he=>by simp at he,λq hq=>by simp at hq,λj c=>?_,by show 0 * 5<7 * 3;decide⟩,.nil,eR,λj c=>by simp at c,λj c=>((bB c (aP _))).elim⟩;simp[SetTable.fresh]at c
 ·intro s' m y;refine wu9 ?_;obtain⟨h',g',d',B,D⟩:=s';obtain rfl:g'=s.gens:=m.gens;obtain rfl:d'=s.drawn:=m.drawn;obtain rfl:D=s.os:=m.os;refine wu9 ⟨rfl,k h' B y λb o e=>m.heap b o (λz=>?_) (hp9 _ (hp9 _ e))⟩;have lt:=hl9 e;simp only[au,bf,or_false]at z
  rcases z with z|z
  ·rw[z]at lt;exact absurd lt (bC _)
  ·have z' :=z;rw[z',sz]at lt;exact absurd (tv lt) (bC _)
end
end L2
local macro_rules | `(tactic| walk_at $s:str) => if s.getString.startsWith "u " then do let n := Lean.mkIdent (Lean.mkPrivateNameCore `PySem.Builtin.List.W1All (`PySem.Builtin ++ (s.getString.drop 2).toString.toName)); `(tactic| delta $n:ident) else Lean.Macro.throwUnsupported
namespace L2
open PySem PySem.W PySem.Spec PyProof.Rows
structure Lt(lt:Nat->Nat->Bool):Prop where
 tr:∀i j k,lt i j=c_->lt j k=c_->lt i k=c_
 co:∀i j,i≠j->lt i j=d_->lt j i=c_
 as:∀i j,lt i j=c_->lt j i=d_
noncomputable def yz:Bool->jk->Array jk->Nat->Nat->Nat->StateT bJ zp (Option Nat):=sortPriv% PySem.Builtin.gallop
noncomputable def An:Array jk->Array jk->StateT bJ zp (Array jk):=sortPriv% PySem.Builtin.mergeLo
noncomputable def Ao:Array jk->Array jk->StateT bJ zp (Array jk):=sortPriv% PySem.Builtin.mergeHi
section
variable{P:cg}{w:cZ}{A:bP}{E:ah->ai->Prop}{s:ai}{κ:oY}{it:Nat->jk}{lt:Nat->Nat->Bool}{N:Nat}
def Wt(P:cg)(w:cZ)(A:bP)(E:ah->ai->Prop)(s:ai){α:Type}(m:StateT bJ zp α)(G:α->bJ->Prop)(st:bJ):Prop:=
 kasC (aD P w) A E m (λr c s'=>G r c/\s'=s) st s
variable{α β:Type}{G:β->bJ->Prop}{st:bJ}
def Wt.pure(h:G b st):Wt P w A E s (pure b) G st:=kasC_pure ⟨h,rfl⟩
def Wt.bind(h:Wt P w A E s m (λa c=>Wt P w A E s (f a) G c) st):Wt P w A E s (m >>= f) G st:=
 kasC_bind (c9 h (λ_ _ z=>by obtain⟨z,rfl⟩:=z;exact z) λ_ _ e=>e)
def Wt.mono(h:Wt P w A E s m G' st)(f:∀b c,G' b c->G b c):Wt P w A E s m G st:=
 c9 h (λ_ _ z=>⟨f _ _ z.1,z.2⟩) λ_ _ e=>e
def Wt.get{G:bJ->bJ->Prop}(h:G st st):Wt P w A E s (get:StateT bJ zp bJ) G st:=kasC_get ⟨h,rfl⟩
def Wt.modify{G:PUnit->bJ->Prop}(h:G ⟨⟩ (f st)):Wt P w A E s (modify f:StateT bJ zp PUnit) G st:=kasC_modify ⟨h,rfl⟩
def Wt.set{G:PUnit->bJ->Prop}(h:G ⟨⟩ st'):Wt P w A E s (MonadStateOf.set st':StateT bJ zp PUnit) G st:=by
 exact wu9 ⟨h,rfl⟩
def Wt.rule{G:Unit->bJ->Prop}(h:G () st):Wt P w A E s (liftM (rule n):StateT bJ zp Unit) G st:=kasC_lift (fS ⟨h,rfl⟩)
abbrev Xv(G I:β->bJ->Prop):ForInStep β->bJ->Prop
 |.done b,st=>G b st
 |.yield b,st=>I b st
def Wt.loop{l:List Nat}{b:β}{f:Nat->β->StateT bJ zp (ForInStep β)}(I:Nat->β->bJ->Prop)(h0:I 0 b st)
  (hb:∀j x b st,l[j]?=a_ x->I j b st->Wt P w A E s (f x b) (Xv G (I (j+1))) st)(y:∀b st,I l.length b st->G b st):Wt P w A E s (forIn l b f) G st:=by
 have go:∀(r:List Nat)(j:Nat)(b:β)(st:bJ),j+r.length=l.length->(∀k,r[k]?=l[j+k]?)->I j b st->Wt P w A E s (forIn r b f) G st:=by
  intro r
  induction r with
  |nil=>
    intro j b st c _ hi;exact kasC_nil ⟨y b st (by rw[<-c];exact hi),rfl⟩
  |cons x r B=>
    intro j b st c q hi;have D :=(q 0).symm;refine kasC_cons (c9 (hb j x b st D hi) (λd s' z=>?_) λ_ _ e=>e);obtain⟨d,g⟩:=d;obtain⟨z,rfl⟩:=z
    cases d with
    |done v=>exact⟨z,rfl⟩
    |yield v=>
      exact B (j+1) v g (by simp at c;omega) (λk=>by have:=q (k+1);grind) z
 simp_all
def Wt.range(I:Nat->β->bJ->Prop)(h0:I 0 c st)
  (hb:∀j d st,j<b - a->I j d st->Wt P w A E s (f (a+j) d) (Xv G (I (j+1))) st)(k:∀d st,I (b - a) d st->G d st):Wt P w A E s (forIn [a:b] c f) G st:=
 kasC_range (Wt.loop I h0 (λj x d st g hi=>by
  have l:j<b - a:=by have:=(aN.mp g).1;simpa using this
  rw[List.getElem?_range' l]at g;cases g
  simp_all) λd st hi=>k d st (by simp_all))
def tF(P:cg)(w:cZ)(A:bP)(s:ai)(κ:oY)(it:Nat->jk)(lt:Nat->Nat->Bool)(N:Nat):Prop:=
 ∀i j,i<N->j<N->∀C:Bool->ai->Prop,C (lt i j) s->aA (aD P w) A (keyLt' κ (it i).1 (it j).1) C (λ_ _=>False) s
def Wt.ask{G:Option Bool->bJ->Prop}(h:tF P w A s κ it lt N)(d:kindOf st=κ)(hi:i<N)(k:j<N)(g:G (a_ (lt i j)) st):Wt P w A E s (lt' (it i) (it j)) G st:=by
 rw[lt'_eq];refine kasC_bind (kasC_get ?_);refine kasC_bind (kasC_lift (iR ?_));rw[d];exact c9 (h i j hi k (λc s'=>c=lt i j/\s'=s) ⟨rfl,rfl⟩) (λc s' ⟨e1,e2⟩=>by subst e1 e2;exact kasC_pure ⟨g,rfl⟩) λ_ _ z=>z.elim
noncomputable abbrev Ar(it:Nat->jk)(l:List Nat):Array jk:=(l.map it).toArray
def Wt.elem{G:jk->bJ->Prop}(h:l[i]?=a_ x)(g:G (it x) st):Wt P w A E s (elem' (Ar it l) i) G st:=by
 rw[elem'_eq];have:(Ar it l)[i]?=a_ (it x):=by simp[h]
 rw[this];exact .pure g
end
section
variable{st:bJ}
abbrev GSt:=Option (Option Nat)×Nat×Nat
def E3{lo:Nat}(h1:lo<=k)(h2:k<=hi)(h3:hi<=n)
  (hf:∀x lo hi(G':ForInStep GSt->bJ->Prop),lo<=k->k<=hi->hi<=n->(lo>=hi->G' (.done (b_,lo,hi)) st)->(lo<hi->lo+(hi - lo) / 2<k->G' (.yield (b_,lo+(hi - lo) / 2+1,hi)) st)->
   (lo<hi->¬lo+(hi - lo) / 2<k->G' (.yield (b_,lo,lo+(hi - lo) / 2)) st)->Wt P w A E s (f x (b_,lo,hi)) G' st) :
  Wt P w A E s (forIn [0:n] ((b_,lo,hi):GSt) f) (λb c=>c=st/\∃lo,b=(b_,lo,k)) st:=by
 refine Wt.range (λj b c=>c=st/\∃lo hi,b=(b_,lo,hi)/\lo<=k/\k<=hi/\hi<=n/\hi - lo<=n - j) ⟨rfl,lo,hi,rfl,h1,h2,h3,ab (HU _ _) h3⟩ (λj b c B z=>?_) λb c z=>by grind
 obtain⟨e,lo,hi,e1,d,g,v,D⟩:=z;subst e e1;refine hf _ lo hi _ d g v (λq=>?_) (λy l=>?_) λy l=>?_
 ·exact⟨rfl,lo,by congr;exact bI (ab q d) g⟩
 ·exact⟨rfl,_,_,rfl,l,g,v,by omega⟩
 ·exact⟨rfl,_,_,rfl,d,cy l,by omega,by omega⟩
def G9{left:Bool}{x:Nat}{l:List Nat}{base n hint k:Nat}{g:Nat->Nat}{G:Option Nat->bJ->Prop}(as:tF P w A s κ it lt N)(U:kindOf st=κ)(W:x<N)(hl:∀i,i<n->l[base+i]?=a_ (g i)/\g i<N)
  (th:∀i,i<n->(if left=c_ then lt (g i) x else !(lt x (g i)))=decide (i<k))(Y:k<=n)(hh:hint<n)(q:G (a_ k) st):Wt P w A E s (yz left (it x) (Ar it l) base n hint) G st:=by
 have hb:∀i,i<n->∀{G':Option Bool->bJ->Prop},G' (a_ (decide (i<k))) st->Wt P w A E s (do
   let y <-elem' (Ar it l) (base+i)
   if left=c_ then lt' y (it x)else do
    let b <-lt' (it x) y
    pure (b.map λz=>!z)) G' st:=by
  intro i hi G' hG;obtain⟨e1,e2⟩:=hl i hi;have t:=th i hi;refine .bind (.elem e1 ?_)
  cases left with
  |true=>
    refine Wt.ask as U e2 W ?_
    simp_all
  |false=>
    refine .bind (Wt.ask as U W e2 (.pure ?_))
    simp_all
 unfold yz;walk_at "u gallop";refine .bind (hb hint hh ?_);by_cases c:hint<k
 ·rw[decide_eq_true c]
  refine .bind (Wt.mono (Wt.range (G:=λb v=>v=st/\∃lo of:Nat,b=((b_,lo,of))/\hint+lo<k/\lo<of/\(k<=hint+of\/n - hint<=of)) (λj b v=>v=st/\∃lo of:Nat,b=((b_,lo,of))/\hint+lo<k/\lo<of/\j+1<=of)
   ⟨rfl,0,1,rfl,by omega,by simp,by decide⟩ (λj b v Z z=>?_) λb v z=>by obtain⟨e,lo,of,e1,B,D,J⟩:=z;exact⟨e,lo,of,e1,B,D,by omega⟩) λb v z=>?_)
  ·obtain⟨e,lo,of,e1,B,D,J⟩:=z;subst e e1;by_cases d:of>=n - hint
   ·rw[if_pos d];exact .pure ⟨rfl,lo,of,rfl,B,D,.inr d⟩
   ·rw[if_neg d];refine .bind (hb (hint+of) (by omega) ?_);by_cases d':hint+of<k
    ·rw[decide_eq_true d'];exact .pure ⟨rfl,of,2 * of+1,rfl,d',by omega,by omega⟩
    ·rw[decide_eq_false d'];exact .pure ⟨rfl,lo,of,rfl,B,D,.inl (cy d')⟩
  ·obtain⟨e,lo,of,e1,B,D,J⟩:=z;subst e e1;refine .bind (Wt.mono (E3 (hi:=hint+min of (n - hint)) (B) (by omega) (by omega) λy lo hi G' B D J M O R=>?_) λb v z=>by obtain⟨e,lo,e1⟩:=z;subst e e1;exact .pure q);by_cases c:lo>=hi
   ·rw[if_pos c];exact .pure (M c)
   ·rw[if_neg c];refine .bind (hb (lo+(hi - lo) / 2) (by omega) ?_);by_cases d:lo+(hi - lo) / 2<k
    ·rw[decide_eq_true d];exact .pure (O (nW c) d)
    ·rw[decide_eq_false d];exact .pure (R (by omega) d)
 ·rw[decide_eq_false c]
  refine .bind (Wt.mono (Wt.range (G:=λb v=>v=st/\∃lo of:Nat,b=((b_,lo,of))/\k<=hint - lo/\lo<=hint/\lo<of/\(hint - of<k/\of<=hint\/hint+1<=of)) (λj b v=>v=st/\∃lo of:Nat,b=((b_,lo,of))/\k<=hint - lo/\lo<=hint/\lo<of/\j+1<=of)
   ⟨rfl,0,1,rfl,cy c,aP _,by omega,by omega⟩ (λj b v Z z=>?_) λb v z=>by obtain⟨e,lo,of,e1,L,B,D,J⟩:=z;exact⟨e,lo,of,e1,L,B,D,.inr (c5 hh J)⟩) λb v z=>?_)
  ·obtain⟨e,lo,of,e1,L,B,D,J⟩:=z;subst e e1;by_cases d:of>=hint+1
   ·rw[if_pos d];exact .pure ⟨rfl,lo,of,rfl,L,B,D,.inr d⟩
   ·rw[if_neg d];refine .bind (hb (hint - of) (Md hh) ?_);by_cases d':hint - of<k
    ·rw[decide_eq_true d'];exact .pure ⟨rfl,lo,of,rfl,L,B,D,.inl ⟨d',cy d⟩⟩
    ·rw[decide_eq_false d'];exact .pure ⟨rfl,of,2 * of+1,rfl,cy d',by omega,by omega,by omega⟩
  ·obtain⟨e,lo,of,e1,L,B,D,J⟩:=z;subst e e1;refine .bind (Wt.mono (E3 (k:=k) (lo:=hint+1 - min of (hint+1)) (by omega) (by omega) (be (Md hh)) λy lo hi G' B D J M O R=>?_) λb v z=>by obtain⟨e,lo,e1⟩:=z;subst e e1;exact .pure q);by_cases c:lo>=hi
   ·rw[if_pos c];exact .pure (M c)
   ·rw[if_neg c];refine .bind (hb (lo+(hi - lo) / 2) (by omega) ?_);by_cases d:lo+(hi - lo) / 2<k
    ·rw[decide_eq_true d];exact .pure (O (by omega) d)
    ·rw[decide_eq_false d];exact .pure (R (by omega) d)
end
noncomputable def Py:Nat->StateT bJ zp Unit:=sortPriv% PySem.Builtin.setMinGallop
section
variable{st:bJ}{β:Type}{G:β->bJ->Prop}
def Wt.MV{G:Unit->bJ->Prop}(h:G () (lA (kindOf st) (arrOf st) (pendingOf st) g (failedOf st))):Wt P w A E s (Py g) G st:=by
 unfold Py;walk_at "u setMinGallop";exact .modify h
def Wt.wy(Q:(StateT bJ zp β->Prop)->Prop)(h1:Q λm=>Wt P w A E s m G st)(h2:(Q λm=>Wt P w A E s m G st)->Wt P w A E s m G st):Wt P w A E s m G st:=h2 h1
def Wt.WH{c:Prop}[Decidable c](h:c)(x:Wt P w A E s m G st):Wt P w A E s (if c then m else m') G st:=by rw[if_pos h];exact x
def Wt.ER{c:Prop}[Decidable c](h:¬c)(x:Wt P w A E s m' G st):Wt P w A E s (if c then m else m') G st:=by rw[if_neg h];exact x
def Wt.ite{c:Prop}[Decidable c](x:c->Wt P w A E s m G st)(y:¬c->Wt P w A E s m' G st):Wt P w A E s (if c then m else m') G st:=by
 by_cases h:c
 ·exact .WH h (x h)
 ·exact .ER h (y h)
end
abbrev eC(lt:Nat->Nat->Bool)(l:List Nat):Prop:=l.Pairwise λx y=>lt x y=c_
section
variable{lt:Nat->Nat->Bool}{a b out:List Nat}{ia ib:Nat}
structure ML(lt:Nat->Nat->Bool)(a b out:List Nat)(ia ib:Nat):Prop where
 so:eC lt out
 Lq:∀x∈out,∀y,y∈a.drop ia\/y∈b.drop ib->lt x y=c_
 pm:(out++(a.drop ia++b.drop ib)).Perm (a++b)
def ML.swap(h:ML lt a b out ia ib):ML lt b a out ib ia:=
 ⟨h.so,λx c y d=>h.Lq x c y d.symm,((jC _ dA).trans h.pm).trans dA⟩
def ML.start:ML lt a b [] 0 0:=⟨.nil,λx c=>by simp at c,by simp⟩
def ML.pe(h:ML lt a b out ia ib)(j:eC lt b)(k:Nat)(l:∀y∈(b.drop ib).take k,∀x∈a.drop ia,lt y x=c_):ML lt a b (out++(b.drop ib).take k) ia (ib+k):=by
 have e:b.drop ib=(b.drop ib).take k++b.drop (ib+k):=by rw[<-jN];exact(aZ k _).symm
 have g:eC lt (b.drop ib):=j.sublist (eX _ _);rw[e]at g;obtain⟨s1,s2,s3⟩:=dM.mp g;refine⟨dM.mpr ⟨h.so,s1,λx d y c=>h.Lq x d y (.inr (cz c))⟩,λx d y c=>?_,?_⟩
 ·rcases aE.mp d with d|d
  ·refine h.Lq x d y (c.imp id λc=>?_);rw[e];exact ak _ c
  ·rcases c with c|c
   ·exact l x d y c
   ·exact s3 x d y c
 ·refine DI ?_ h.pm
  conv=>rhs;rw[e]
  rw[aC];refine jC _ ?_;rw[<-aC,<-aC];exact List.Perm.append_right _ dA
def ML.wu(h:ML lt a b out ia ib)(sa:eC lt a)(k:Nat)(c:∀y∈(a.drop ia).take k,∀x∈b.drop ib,lt y x=c_):ML lt a b (out++(a.drop ia).take k) (ia+k) ib:=
 (h.swap.pe sa k c).swap
def ML.fin(h:ML lt a b out ia ib)(sa:eC lt a)(hb:b.length<=ib):eC lt (out++a.drop ia++b.drop ib)/\(out++a.drop ia++b.drop ib).Perm (a++b):=by
 have e :=jM hb;refine⟨?_,by rw[aC];exact h.pm⟩;rw[e,az];exact dM.mpr ⟨h.so,sa.sublist (eX _ _),λx c y d=>h.Lq x c y (.inl d)⟩
def jA{l:List Nat}{i x:Nat}(h:l[i]?=a_ x):l.drop i=x::l.drop (i+1):=by
 obtain⟨hi,e⟩:=aN.mp h;rw[fR hi,e]
def take_one{l:List Nat}{i x:Nat}(h:l[i]?=a_ x):(l.drop i).take 1=[x]:=by rw[jA h];rfl
def qA(o:Lt lt)(sl:eC lt l)(h:l[i]?=a_ x)(c:lt y x=c_):∀z∈l.drop i,lt y z=c_:=λz d=>by
 rw[jA h]at d;have g:=sl.sublist (eX i _);rw[jA h]at g
 rcases au.mp d with rfl|d
 ·exact c
 ·exact o.tr _ _ _ c ((bZ.mp g).1 z d)
def ML.qB(h:ML lt a b out ia ib)(sa:eC lt a)(c:eC lt b)(d:∀y∈b.drop ib,∀x∈a.drop ia,lt y x=c_):eC lt (out++b.drop ib++a.drop ia)/\(out++b.drop ib++a.drop ia).Perm (a++b):=by
 have q:=(h.pe c b.length (λy g=>d y (cz g))).fin sa (vL _ _);rw[eo (by simp)]at q;have e:b.drop (ib+b.length)=[]:=jM (by omega);rw[e,az]at q;exact q
def lV:(Ar it l).push (it x)=Ar it (l++[x]):=by simp
def mm:Ar it l++(Ar it b).extract i j=Ar it (l++(b.drop i).take (j - i)):=by
 simp
def bY:(Ar it l).size=l.length:=by simp
def g7{l:List Nat}:(l.drop i).take (l.length - i)=l.drop i:=eo (by simp)
def En(o:Lt lt)(sl:eC lt l)(y:Nat):∃k,k<=l.length/\∀i x,l[i]?=a_ x->lt x y=decide (i<k):=by
 induction l with
 |nil=>simp
 |cons a l g=>
   obtain⟨s1,s2⟩:=bZ.mp sl;obtain⟨k,h1,h2⟩:=g s2
   cases c:lt a y with
   |true=>
     refine⟨k+1,by simpa using h1,λi x h=>?_⟩
     cases i with
     |zero=>cases h;rw[c];simp
     |succ i=>rw[h2 i x (by simpa using h)];simp
   |false=>
     refine⟨0,by simp,λi x h=>?_⟩
     cases i with
     |zero=>cases h;rw[c];simp
     |succ i=>
       have m :=aR (by simpa using h)
       cases d:lt x y with
       |false=>simp
       |true=>rw[o.tr _ _ _ (s1 x m) d]at c;cases c
section
def rW(o:Lt lt)(as:tF P w A s κ it lt N){l:List Nat}{base:Nat}(U:base+n<=l.length)(sl:eC lt ((l.drop base).take n))(v:∀x∈(l.drop base).take n,x<N/\x≠y)(O:y<N) :
  ∃k,k<=n/\(∀z∈((l.drop base).take n).take k,lt z y=c_)/\(∀z∈((l.drop base).take n).drop k,lt y z=c_)/\
   ∀{E:ah->ai->Prop}(left:Bool)(hint:Nat){G:Option Nat->bJ->Prop}{st:bJ},kindOf st=κ->hint<n->G (a_ k) st->Wt P w A E s (yz left (it y) (Ar it l) base n hint) G st:=by
 generalize W:(l.drop base).take n=L at sl v;have d:L.length=n:=by grind
 have j:∀i,i<n->L[i]?=l[base+i]? :=λi hi=>by grind
 obtain⟨k,J,M⟩:=En o sl y;refine⟨k,ab J (af d),λz B=>?_,λz B=>?_,λleft hint G st R hh q=>?_⟩
 ·obtain⟨i,hi⟩:=fW B;rw[dH]at hi
  grind
 ·obtain⟨i,hi⟩:=fW B;rw[qU]at hi;refine o.co _ _ (v z (aR hi)).2 ?_;rw[M _ z hi,decide_eq_false (by simp)]
 ·refine G9 (g:=λi=>L.getD i 0) as R O (λi hi=>?_) (λi hi=>?_) (ab J (af d)) hh q
  ·have e:=ae ((ab hi (af d.symm)));refine⟨by rw[<-j i hi];simp[e],?_⟩;have:=(v _ (aR e)).1;simpa [e]using this
  ·have e:=ae (show i<L.length by omega);have e2:=M i _ e;have D:=(v _ (aR e)).2;have e3:L.getD i 0=L[i]:=by simp[e]
   rw[e3]
   cases left with
   |true=>exact e2
   |false=>
     rw[<-e2]
     cases c:lt L[i] y with
     |true=>rw[o.as _ _ c];rfl
     |false=>rw[o.co _ _ D c];rfl
end
end
section
variable{it:Nat->jk}{lt:Nat->Nat->Bool}
noncomputable abbrev DQ(st:bJ)(g:Nat):bJ:=lA (kindOf st) (arrOf st) (pendingOf st) g (failedOf st)
def Res(it:Nat->jk)(lt:Nat->Nat->Bool)(l:List Nat)(r:Array jk):Prop:=∃R,r=Ar it R/\eC lt R/\R.Perm l
structure X1(lt:Nat->Nat->Bool)(a b out:List Nat)(ia ib m:Nat):Prop where
 ml:ML lt a b out ia ib
 ha:ia+1<a.length
 hb:ib<b.length
 m:m<=ia+ib
def Wt.rg{τ τ' R β' γ:Type}{a b:Nat}{f:Nat->Option R×β'->StateT bJ zp (ForInStep (Option R×β'))}{k:Option R×β'->StateT bJ zp γ}{G:γ->bJ->Prop}{Q:R->Prop}{t:τ->bJ}{I':List Nat->Nat->Nat->Prop}{z:List Nat->Nat->Nat->τ->β'}{out:List Nat}{ia ib:Nat}{r:τ}(I:Nat->List Nat->Nat->Nat->Prop)(d:List Nat->Nat->Nat->τ'->β')(t':τ'->bJ)(h0:I 0 out ia ib)(y:∀out ia ib,¬I (b - a) out ia ib)
  (g:∀r x c,Q r->Wt P w A E s (k (a_ r,x)) G (t' c))(l:∀out ia ib r,I' out ia ib->Wt P w A E s (k (b_,d out ia ib r)) G (t' r))
  (hb:∀j out ia ib r,j<b - a->I j out ia ib->Wt P w A E s (f (a+j) (b_,z out ia ib r)) (Xv (λb st=>(∃r x c,b=(a_ r,x)/\st=t' c/\Q r)\/∃out ia ib r,b=(b_,d out ia ib r)/\st=t' r/\I' out ia ib) λb st=>∃out ia ib r,b=(b_,z out ia ib r)/\st=t r/\I (j+1) out ia ib) (t r)) :
  Wt P w A E s (forIn [a:b] (b_,z out ia ib r) f >>= k) G (t r):=
 .bind (Wt.mono (Wt.range (λj b st=>∃out ia ib r,b=(b_,z out ia ib r)/\st=t r/\I j out ia ib) ⟨out,ia,ib,r,rfl,rfl,h0⟩ (λj b st v q=>by obtain⟨_,_,_,_,rfl,rfl,h⟩:=q;exact hb _ _ _ _ _ v h) λb st q=>by simp_all) λb st q=>by
  rcases q with⟨_,_,_,rfl,rfl,h⟩|⟨_,_,_,_,rfl,rfl,h⟩
  ·exact g _ _ _ h
  ·exact l _ _ _ _ h)
def CJ{st:bJ}{G:Array jk->bJ->Prop}(o:Lt lt)(as:tF P w A s κ it lt N)(hk:kindOf st=κ)(na:∀x∈a,x<N)(nb:∀x∈b,x<N)(sa:eC lt a)(U:eC lt b)(Fj:∀x∈a,x∉b)
  (h0:0<a.length)(M:b[0]?=a_ y0)(hf:∀x∈a,lt y0 x=c_)(hl:∀y∈b,∀x∈a.drop (a.length - 1),lt y x=c_)
  (q:∀r g,Res it lt (a++b) r->G r (DQ st g)):Wt P w A E s (An (Ar it a) (Ar it b)) G st:=by
 have hb0 :=(aN.mp M).1
 have D:∀{out:List Nat}{ia ib:Nat},ML lt a b out ia ib->b.length<=ib->Res it lt (a++b) (Ar it out++(Ar it a).extract ia (Ar it a).size++(Ar it b).extract ib (Ar it b).size):=λh hb=>by
  obtain⟨O,Y⟩:=h.fin sa hb;exact⟨_,by rw[mm,mm,bY,bY,g7,g7],O,Y⟩
 have Z:∀{out:List Nat}{ia ib:Nat},ML lt a b out ia ib->a.length<=ia->Res it lt (a++b) (Ar it out++(Ar it a).extract ia (Ar it a).size++(Ar it b).extract ib (Ar it b).size):=λ{out ia ib}h ha=>by
  obtain⟨O,Y⟩:=h.swap.fin U ha;have e :=jM ha;rw[e,az]at O Y;refine⟨out++b.drop ib,by rw[mm,mm,bY,bY,g7,g7,e,az],O,Y.trans dA⟩
 have qB:∀{out:List Nat}{ia ib:Nat},ML lt a b out ia ib->ia+1=a.length->Res it lt (a++b) (Ar it out++(Ar it b).extract ib (Ar it b).size++(Ar it a).extract ia (Ar it a).size):=λ{out ia ib}h ha=>by
  obtain⟨O,Y⟩:=h.qB sa U λy hy x hx=>hl y (dO hy) x (by rw[show a.length - 1=ia by omega];exact hx);exact⟨_,by rw[mm,mm,bY,bY,g7,g7],O,Y⟩
 have J:∀{ib:Nat},ib<b.length->∃y,b[ib]?=a_ y/\y<N/\y∉a:=λ{ib}h=>⟨b[ib],ae h,nb _ (bA h),λz=>Fj _ z (bA h)⟩
 have W:∀{ia:Nat},ia<a.length->∃x,a[ia]?=a_ x/\x<N/\x∉b:=λ{ia}h=>⟨a[ia],ae h,na _ (bA h),λz=>Fj _ (bA h) z⟩
 have nex:∀{ia ib x y:Nat},a[ia]?=a_ x->b[ib]?=a_ y->x≠y:=λh1 h2 e=>Fj _ (aR h1) (e▸aR h2)
 have tB:∀{out:List Nat}{ia ib x y:Nat},ML lt a b out ia ib->a[ia]?=a_ x->b[ib]?=a_ y->lt y x=c_->ML lt a b (out++[y]) ia (ib+1):=λ{out ia ib x y}h h1 h2 c=>by
  have:=h.pe U 1 (λz B=>by rw[take_one h2,aL]at B;subst B;exact qA o sa h1 c);rw[take_one h2]at this;exact this
 have tA:∀{out:List Nat}{ia ib x y:Nat},ML lt a b out ia ib->a[ia]?=a_ x->b[ib]?=a_ y->lt x y=c_->ML lt a b (out++[x]) (ia+1) ib:=λ{out ia ib x y}h h1 h2 c=>by
  have:=h.wu sa 1 (λz B=>by rw[take_one h1,aL]at B;subst B;exact qA o U h2 c);rw[take_one h1]at this;exact this
 unfold An;walk_at "u mergeLo";refine .bind (.rule (.bind (.elem M ?_)))
 have m0:ML lt a b [y0] 0 1:=by
  have:=(ML.start ).pe U 1 (λz B x hx=>by rw[take_one M,aL]at B;subst B;exact hf x hx);rw[take_one M]at this;exact this
 refine .ite (λc=>.pure (q _ (gallopOf st) (D m0 (by have c:=beq_iff_eq.mp c;rw[bY]at c;exact af c.symm)))) λc1=>?_;refine .ite (λc=>.pure (q _ (gallopOf st) (qB m0 (by have c:=beq_iff_eq.mp c;rw[bY]at c;omega)))) λc2=>?_;refine .bind (.get ?_);have b1:1<b.length:=by have c :=λe=>c1 (beq_iff_eq.mpr e);rw[bY]at c;exact dI hb0 c
 have b2:0+1<a.length:=by have c :=λe=>c2 (beq_iff_eq.mpr e);rw[bY]at c;exact dI h0 c
 refine Wt.rg (I':=λ_ _ _=>False) (r:=(_,gallopOf st)) (t:=λr:Nat×Nat=>DQ st r.2) (z:=λout ia ib r=>(Ar it out,ia,ib,r.1)) (λj out ia ib=>X1 lt a b out ia ib (j+1)) (λout ia ib r=>(Ar it out,ia,ib,r.1)) (λr:Nat×Nat=>DQ st r.2) ⟨m0,b2,b1,by decide⟩
  (λout ia ib v=>by have h1:=v.m;have h2:=v.ha;have h3:=v.hb;rw[bY,bY]at h1;omega) (λr _ g e=>.pure (q r g.2 e)) (λ_ _ _ _ h=>h.elim) λj out ia ib r0 hj v=>?_
 refine Wt.rg (I':=λout ia ib=>X1 lt a b out ia ib (j+1+1)) (r:=(0,0)) (t:=λ_:Nat×Nat=>DQ st r0.2) (z:=λout ia ib r=>(Ar it out,ia,ib,r.1,r.2)) (λi out ia ib=>X1 lt a b out ia ib (j+1+i)) (λout ia ib r=>(Ar it out,ia,ib,r.1,r.2)) (λ_:Nat×Nat=>DQ st r0.2) v
  (λout ia ib v=>by have h1:=v.m;have h2:=v.ha;have h3:=v.hb;rw[bY,bY]at h1;omega) (λr _ _ e=>.pure (.inl ⟨r,_,(0,r0.2),rfl,rfl,e⟩)) (λout ia ib r1 v=>?_) λi out ia ib r1 hi v=>?_
 rotate_left
 ·obtain⟨y,L,y2,y3⟩:=J v.hb;obtain⟨x,x1,x2,x3⟩:=W (be v.ha);have hm:=v.m;refine .bind (.elem L (.bind (.elem x1 (.bind (Wt.ask as hk y2 x2 ?_)))))
  cases c:lt y x with
  |true=>
    refine .bind (.elem L ?_);have m2:=tB v.ml x1 L c;rw[lV];refine .ite (λd=>.pure (.inl ⟨_,_,(0,0),rfl,rfl,D m2 (by simp_all)⟩)) λd=>?_;have d:ib+1<b.length:=by have c :=λe=>d (beq_iff_eq.mpr e);rw[bY]at c;have:=v.hb;exact dI this c
    exact .ite (λ_=>.pure (.inr ⟨_,ia,ib+1,(_,_),rfl,rfl,m2,v.ha,d,by omega⟩)) λ_=>.pure ⟨_,ia,ib+1,(_,_),rfl,rfl,m2,v.ha,d,bD hm⟩
  |false=>
    refine .bind (.elem x1 ?_);have m2:=tA v.ml x1 L (o.co _ _ (nex x1 L).symm c);rw[lV];refine .ite (λd=>.pure (.inl ⟨_,_,(0,0),rfl,rfl,qB m2 (by simp_all)⟩)) λd=>?_;have d:ia+1+1<a.length:=by have c :=λe=>d (beq_iff_eq.mpr e);rw[bY]at c;have:=v.ha;exact dI this c
    exact .ite (λ_=>.pure (.inr ⟨_,ia+1,ib,(_,_),rfl,rfl,m2,d,v.hb,by omega⟩)) λ_=>.pure ⟨_,ia+1,ib,(_,_),rfl,rfl,m2,d,v.hb,by omega⟩
 refine .bind (.rule (Wt.rg (r:=(_,r1.1,r1.2,r0.2)) (t:=λr:Nat×Nat×Nat×Nat=>DQ st r.2.2.2) (z:=λout ia ib r=>(Ar it out,ia,ib,r.1,r.2.1,r.2.2.1)) (λi out ia ib=>X1 lt a b out ia ib (j+1+1+i)) (λout ia ib r=>(Ar it out,ia,ib,r.1,r.2.1,r.2.2.1)) (λr:Nat×Nat×Nat×Nat=>DQ st r.2.2.2) v
  (λout ia ib v=>by have h1:=v.m;have h2:=v.ha;have h3:=v.hb;rw[bY,bY]at h1;omega) (λr _ g e=>.pure (.inl ⟨r,_,(0,g.2.2.2),rfl,rfl,e⟩)) (λout ia ib r v=>.bind (.MV (.pure ⟨out,ia,ib,(_,_),rfl,rfl,v⟩))) λi out ia ib r2 hi v=>?_))
 extract_lets s1 o1 s2 ia1 s3 ib1 s4 mg1 s5 ac1 bc1 ib2 jp mg2
 refine Wt.wy (λR=>∀mg,R (jp () mg)) ?_ λh=>?_
 rotate_left
 ·exact .ite (λ_=>h _) λ_=>h _
 intro mg;have hm:=v.m;obtain⟨y,L,y2,y3⟩:=J v.hb;obtain⟨k,k1,k2,k3,k4⟩:=rW o as (l:=a) (base:=ia) (n:=a.length - ia) (by have:=v.ha;omega) (by rw[g7];exact sa.sublist (eX _ _)) (λx hx=>by rw[g7]at hx;have:=dO hx;exact⟨na x this,λe=>y3 (e▸this)⟩) y2;rw[g7]at k2 k3;rw[<-bY ]at k4;refine .bind (.MV (.bind (.elem L (.bind (k4 d_ 0 hk (by rw[bY];have:=v.ha;omega) ?_)))));have mA :=v.ml.wu sa k λz B=>qA o U L (k2 z B);rw[jN]at k3;dsimp -zeta -zetaHave only
 extract_lets +onlyGivenNames ac1 jp2
 refine Wt.wy (λR=>∀out ia,ML lt a b out ia ib->ia+1<a.length->(∀z∈a.drop ia,lt y z=c_)->j+1+1+i<=ia+ib->R (jp2 () (Ar it out) ia)) ?_ λh=>?_
 rotate_left
 ·refine .ite (λ_=>?_) λc=>?_
  ·rw[mm,(cP _ _)];refine .ite (λd=>.pure (.inl ⟨_,_,(0,0,0,_),rfl,rfl,qB mA (by have d:=beq_iff_eq.mp d;rw[bY]at d;omega)⟩)) λd=>?_;refine .ite (λd=>.pure (.inl ⟨_,_,(0,0,0,_),rfl,rfl,Z mA (by have d:=beq_iff_eq.mp d;rw[bY]at d;exact af d.symm)⟩)) λd'=>?_;have c1:¬ia+k+1=(Ar it a).size:=λe=>d (beq_iff_eq.mpr e);have c2:¬ia+k=(Ar it a).size:=λe=>d' (beq_iff_eq.mpr e);rw[bY]at c1 c2;exact h (out++(a.drop ia).take k) (ia+k) mA (by omega) k3 (by omega)
  ·obtain rfl:k=0:=bI (cy c) (aP _);rw[lP,az]at mA;exact h out ia mA v.ha k3 hm
 intro out ia mA hia k3 hm;obtain⟨x,x1,x2,x3⟩:=W ((be hia));have yx :=k3 x (by rw[jA x1];simp);have m2:=tB mA x1 L yx;refine .bind (.elem L ?_);rw[lV];refine .ite (λd=>.pure (.inl ⟨_,_,(0,0,0,_),rfl,rfl,D m2 (by simp_all)⟩)) λd=>?_;have d:ib+1<b.length:=by have c :=λe=>d (beq_iff_eq.mpr e);rw[bY]at c;have:=v.hb;exact dI this c
 obtain⟨k',l1,l2,l3,l4⟩:=rW o as (l:=b) (base:=ib+1) (n:=b.length - (ib+1)) (by omega) (by rw[g7];exact U.sublist (eX _ _)) (λz B=>by rw[g7]at B;have:=dO B;exact⟨nb z this,λe=>x3 (e▸this)⟩) x2;rw[g7]at l2 l3;rw[<-bY ]at l4;refine .bind (.elem x1 (.bind (l4 c_ 0 hk (by rw[bY];omega) ?_)));have mB :=m2.pe U k' λz B=>qA o sa x1 (l2 z B);rw[jN]at l3;dsimp -zeta -zetaHave only
 extract_lets +onlyGivenNames bc1 ia2 jp3
 refine Wt.wy (λR=>∀out ib',ML lt a b out ia ib'->ib'<b.length->(∀z∈b.drop ib',lt x z=c_)->j+1+1+i+1<=ia+ib'->R (jp3 () (Ar it out) ib')) ?_ λh=>?_
 rotate_left
 ·refine .ite (λ_=>?_) λc=>?_
  ·rw[mm,(cP _ _)];refine .ite (λd=>.pure (.inl ⟨_,_,(0,0,0,_),rfl,rfl,D mB (by simp_all)⟩)) λd'=>?_;have c2:¬ib+1+k'=(Ar it b).size:=λe=>d' (beq_iff_eq.mpr e);rw[bY]at c2;exact h (out++[y]++(b.drop (ib+1)).take k') (ib+1+k') mB (by omega) l3 (by omega)
  ·obtain rfl:k'=0:=bI (cy c) (aP _);rw[lP,az]at mB;exact h (out++[y]) (ib+1) mB d l3 (bD hm)
 intro out ib' mB hib l3 hm;obtain⟨z,O,Y,z3⟩:=J hib;have m3:=tA mB x1 O (l3 z (by rw[jA O];simp));refine .bind (.elem x1 ?_);rw[lV];refine .ite (λd=>.pure (.inl ⟨_,_,(0,0,0,_),rfl,rfl,qB m3 (by simp_all)⟩)) λd=>?_;have d:ia+1+1<a.length:=by have c :=λe=>d (beq_iff_eq.mpr e);rw[bY]at c;exact dI hia c
 exact .ite (λ_=>.pure (.inr ⟨_,ia+1,ib',(_,_,_,_),rfl,rfl,m3,d,hib,by omega⟩)) λ_=>.pure ⟨_,ia+1,ib',(_,_,_,_),rfl,rfl,m3,d,hib,by omega⟩
end
section
variable{lt:Nat->Nat->Bool}{a b out:List Nat}{na nb:Nat}
noncomputable abbrev TF(lt:Nat->Nat->Bool):Nat->Nat->Bool:=λx y=>lt y x
def eC.rev(h:eC lt a):eC (TF lt) a.reverse:=j9.mpr h
structure MH(lt:Nat->Nat->Bool)(a b out:List Nat)(na nb:Nat):Prop where
 ml:ML (TF lt) a.reverse b.reverse out (a.length - na) (b.length - nb)
 la:na<=a.length
 lb:nb<=b.length
def MH.swap(h:MH lt a b out na nb):MH lt b a out nb na:=⟨h.ml.swap,h.lb,h.la⟩
def kW{l:List Nat}:l.reverse.drop (l.length - n)=(l.take n).reverse:=by rw[List.reverse_take]
def MH.pe(h:MH lt a b out na nb)(c:eC lt b)(ht:at_<=nb)(j:∀y∈(b.drop at_).take (nb - at_),∀x∈a.take na,lt x y=c_):MH lt a b (out++((b.drop at_).take (nb - at_)).reverse) na at_:=by
 have hb:=h.lb
 have e:(b.reverse.drop (b.length - nb)).take (nb - at_)=((b.drop at_).take (nb - at_)).reverse:=by
  rw[kW,List.take_reverse,eK,eY hb,show nb - (nb - at_)=at_ by omega,wg]
 have:=h.ml.pe c.rev (nb - at_) (λy d x g=>by
  rw[e]at d;rw[kW]at g
  simp_all)
 rw[e,show b.length - nb+(nb - at_)=b.length - at_ by omega]at this;exact⟨this,h.la,ab ht hb⟩
def MH.wu(h:MH lt a b out na nb)(sa:eC lt a)(ht:at_<=na)(c:∀y∈(a.drop at_).take (na - at_),∀x∈b.take nb,lt x y=c_):MH lt a b (out++((a.drop at_).take (na - at_)).reverse) at_ nb:=
 (h.swap.pe sa ht c).swap
def MH.fin(h:MH lt a b out na nb)(c:eC lt b)(j:na=0):eC lt (a.take na++b.take nb++out.reverse)/\(a.take na++b.take nb++out.reverse).Perm (a++b):=by
 obtain⟨d,g⟩:=h.ml.swap.fin c.rev (by simp_all)
 have e:(a.take na++b.take nb++out.reverse)=(out++b.reverse.drop (b.length - nb)++a.reverse.drop (a.length - na)).reverse:=by
  rw[kW,kW];simp
 rw[e];refine⟨j9.mpr d,((fU _).trans g).trans ?_⟩;exact((fU b).append (fU a)).trans dA
def MH.qB(h:MH lt a b out na nb)(sa:eC lt a)(c:eC lt b)(l:∀y∈a.take na,∀x∈b.take nb,lt x y=c_):eC lt (b.take nb++a.take na++out.reverse)/\(b.take nb++a.take na++out.reverse).Perm (a++b):=by
 obtain⟨d,g⟩:=h.ml.swap.qB c.rev sa.rev (λy j x k=>by
  rw[kW]at j k
  simp_all)
 have e:(b.take nb++a.take na++out.reverse)=(out++a.reverse.drop (a.length - na)++b.reverse.drop (b.length - nb)).reverse:=by
  rw[kW,kW];simp
 rw[e];refine⟨j9.mpr d,((fU _).trans g).trans ?_⟩;exact((fU b).append (fU a)).trans dA
def kZ{l:List Nat}{n x:Nat}(h:l[n]?=a_ x):(l.drop n).take (n+1 - n)=[x]:=by rw[(cP _ _)];exact take_one h
set_option tactic.hygienic true in
def qw(o:Lt lt)(sl:eC lt l)(h:l[n]?=a_ x)(c:lt x y=c_):∀z∈l.take (n+1),lt z y=c_:=λz d=>by
 obtain⟨i,hi⟩:=fW d;rw[dH]at hi;split at hi
 ·rename_i g;by_cases e:i=n
  ·grind
  ·obtain⟨j,k⟩:=aN.mp hi;obtain⟨q,v⟩:=aN.mp h;have:=eE.mp sl i n j q (by omega);rw[k,v]at this;exact o.tr _ _ _ this c
 ·cases hi
def Dx:(Ar it l).extract 0 i++(Ar it m).extract 0 j++(Ar it n).reverse=Ar it (l.take i++m.take j++n.reverse):=by
 simp[zf]
def FF:Ar it l++((Ar it b).extract i j).reverse=Ar it (l++((b.drop i).take (j - i)).reverse):=by
 simp
structure O5(lt:Nat->Nat->Bool)(a b out:List Nat)(na nb m:Nat):Prop where
 mh:MH lt a b out na nb
 ha:0<na
 hb:1<nb
 m:m+na+nb<=a.length+b.length
end
section
def CK{st:bJ}{G:Array jk->bJ->Prop}(o:Lt lt)(as:tF P w A s κ it lt N)(hk:kindOf st=κ)(na:∀x∈a,x<N)(nb:∀x∈b,x<N)(sa:eC lt a)(Y:eC lt b)(Fj:∀x∈a,x∉b)
  (hb0:0<b.length)(hn:a.length=n+1)(Z:a[n]?=a_ y0)(hf:∀x∈b,lt x y0=c_)(hl:∀y∈a,∀x∈b.take 1,lt x y=c_)
  (q:∀r g,Res it lt (a++b) r->G r (DQ st g)):Wt P w A E s (Ao (Ar it a) (Ar it b)) G st:=by
 have D:∀{out:List Nat}{ia ib:Nat},MH lt a b out ia ib->ia=0->Res it lt (a++b) ((Ar it a).extract 0 ia++(Ar it b).extract 0 ib++(Ar it out).reverse):=λh B=>by
  obtain⟨M,z2⟩:=h.fin Y B;exact⟨_,Dx,M,z2⟩
 have fin1':∀{out:List Nat}{ia ib:Nat},MH lt a b out ia ib->ib=0->Res it lt (a++b) ((Ar it a).extract 0 ia++(Ar it b).extract 0 ib++(Ar it out).reverse):=λ{out ia ib}h B=>by
  obtain⟨M,z2⟩:=h.swap.fin sa B;subst B;exact⟨a.take ia++out.reverse,by rw[Dx,lP,az],M,z2.trans dA⟩
 have qB:∀{out:List Nat}{ia ib:Nat},MH lt a b out ia ib->ib=1->Res it lt (a++b) ((Ar it b).extract 0 ib++(Ar it a).extract 0 ia++(Ar it out).reverse):=λ{out ia ib}h B=>by
  subst B;obtain⟨M,z2⟩:=h.qB sa Y λy hy x hx=>hl y (cz hy) x hx;exact⟨_,Dx,M,z2⟩
 have J:∀{ib:Nat},ib<b.length->∃y,b[ib]?=a_ y/\y<N/\y∉a:=λ{ib}h=>⟨b[ib],ae h,nb _ (bA h),λz=>Fj _ z (bA h)⟩
 have O:∀{ia:Nat},ia<a.length->∃x,a[ia]?=a_ x/\x<N/\x∉b:=λ{ia}h=>⟨a[ia],ae h,na _ (bA h),λz=>Fj _ (bA h) z⟩
 have nex:∀{ia ib x y:Nat},a[ia]?=a_ x->b[ib]?=a_ y->x≠y:=λh1 h2 e=>Fj _ (aR h1) (e▸aR h2)
 have tB:∀{out:List Nat}{ia ib x y:Nat},MH lt a b out (ia+1) (ib+1)->a[ia]?=a_ x->b[ib]?=a_ y->lt x y=c_->MH lt a b (out++[y]) (ia+1) ib:=λ{out ia ib x y}h h1 h2 c=>by
  have:=h.pe Y (at_:=ib) (by simp) (λz B=>by rw[kZ h2,aL]at B;subst B;exact qw o sa h1 c);rw[kZ h2]at this;exact this
 have tA:∀{out:List Nat}{ia ib x y:Nat},MH lt a b out (ia+1) (ib+1)->a[ia]?=a_ x->b[ib]?=a_ y->lt y x=c_->MH lt a b (out++[x]) ia (ib+1):=λ{out ia ib x y}h h1 h2 c=>by
  have:=h.wu sa (at_:=ia) (by omega) (λz B=>by rw[kZ h1,aL]at B;subst B;exact qw o Y h2 c);rw[kZ h1]at this;exact this
 have m0:MH lt a b [y0] n b.length:=by
  have h:MH lt a b [] (n+1) b.length:=⟨by rw[hn,lF,lF];exact ML.start,af hn.symm,ao _⟩
  have:=h.wu sa (at_:=n) (by simp) (λz B x hx=>by rw[kZ Z,aL]at B;simp_all);rw[kZ Z]at this;exact this
 have hsz:(Ar it a).size - 1=n:=by rw[bY];omega
 unfold Ao;walk_at "u mergeHi";rw[hsz];refine .bind (.rule (.bind (.elem Z ?_)));have m0':MH lt a b [y0] n (Ar it b).size:=by rw[bY];exact m0
 refine .ite (λc=>.pure (q _ (gallopOf st) (D m0' (beq_iff_eq.mp c)))) λc1=>?_;refine .ite (λc=>.pure (q _ (gallopOf st) (qB m0' (beq_iff_eq.mp c)))) λc2=>?_;refine .bind (.get ?_);have b1:0<n:=by have c :=λe=>c1 (beq_iff_eq.mpr e);exact fJ c
 have b2:1<(Ar it b).size:=by grind
 refine Wt.rg (I':=λ_ _ _=>False) (r:=(_,gallopOf st)) (t:=λr:Nat×Nat=>DQ st r.2) (z:=λout ia ib r=>(ia,ib,Ar it out,r.1)) (λj out ia ib=>O5 lt a b out ia ib (j+1)) (λout ia ib r=>(ia,ib,Ar it out,r.1)) (λr:Nat×Nat=>DQ st r.2) ⟨m0',b1,b2,by rw[bY];omega⟩
  (λout ia ib v=>by have h1:=v.m;grind) (λr _ g e=>.pure (q r g.2 e)) (λ_ _ _ _ h=>h.elim) λj out ia ib r0 hj v=>?_
 refine Wt.rg (I':=λout ia ib=>O5 lt a b out ia ib (j+1+1)) (r:=(0,0)) (t:=λ_:Nat×Nat=>DQ st r0.2) (z:=λout ia ib r=>(ia,ib,Ar it out,r.1,r.2)) (λi out ia ib=>O5 lt a b out ia ib (j+1+i)) (λout ia ib r=>(ia,ib,Ar it out,r.1,r.2)) (λ_:Nat×Nat=>DQ st r0.2) v
  (λout ia ib v=>by have h1:=v.m;rw[bY,bY]at h1;omega) (λr _ _ e=>.pure (.inl ⟨r,_,(0,r0.2),rfl,rfl,e⟩)) (λout ia ib r1 v=>?_) λi out ia ib r1 hi v=>?_
 rotate_left
 ·have hm:=v.m;have la:=v.mh.la;have lb:=v.mh.lb;obtain⟨ia,rfl⟩:∃k,ia=k+1:=⟨ia - 1,oJ (rn v.ha)⟩
  obtain⟨ib,rfl⟩:∃k,ib=k+1:=⟨ib - 1,by have:=v.hb;omega⟩
  obtain⟨y,L,y2,y3⟩:=J (lb);obtain⟨x,x1,x2,x3⟩:=O (la);have hib:=v.hb;refine .bind (.elem L (.bind (.elem x1 (.bind (Wt.ask as hk y2 x2 ?_)))))
  cases c:lt y x with
  |true=>
    refine .bind (.elem x1 ?_);have m2:=tA v.mh x1 L c;rw[lV];refine .ite (λd=>.pure (.inl ⟨_,_,(0,0),rfl,rfl,D m2 (beq_iff_eq.mp d)⟩)) λd=>?_;have d:0<ia:=by have c :=λe=>d (beq_iff_eq.mpr e);exact fJ c
    exact .ite (λ_=>.pure (.inr ⟨_,ia,ib+1,(_,_),rfl,rfl,m2,d,v.hb,by omega⟩)) λ_=>.pure ⟨_,ia,ib+1,(_,_),rfl,rfl,m2,d,v.hb,by omega⟩
  |false=>
    refine .bind (.elem L ?_);have m2:=tB v.mh x1 L (o.co _ _ (nex x1 L).symm c);rw[lV];refine .ite (λd=>.pure (.inl ⟨_,_,(0,0),rfl,rfl,qB m2 (beq_iff_eq.mp d)⟩)) λd=>?_;have d:1<ib:=by have c:¬ib=1:=λe=>d (beq_iff_eq.mpr e);omega
    exact .ite (λ_=>.pure (.inr ⟨_,ia+1,ib,(_,_),rfl,rfl,m2,v.ha,d,by omega⟩)) λ_=>.pure ⟨_,ia+1,ib,(_,_),rfl,rfl,m2,v.ha,d,by omega⟩
 refine .bind (.rule (Wt.rg (r:=(_,r1.1,r1.2,r0.2)) (t:=λr:Nat×Nat×Nat×Nat=>DQ st r.2.2.2) (z:=λout ia ib r=>(ia,ib,Ar it out,r.1,r.2.1,r.2.2.1)) (λi out ia ib=>O5 lt a b out ia ib (j+1+1+i)) (λout ia ib r=>(ia,ib,Ar it out,r.1,r.2.1,r.2.2.1)) (λr:Nat×Nat×Nat×Nat=>DQ st r.2.2.2) v
  (λout ia ib v=>by have h1:=v.m;rw[bY,bY]at h1;omega) (λr _ g e=>.pure (.inl ⟨r,_,(0,g.2.2.2),rfl,rfl,e⟩)) (λout ia ib r v=>.bind (.MV (.pure ⟨out,ia,ib,(_,_),rfl,rfl,v⟩))) λi out ia ib r2 hi v=>?_))
 extract_lets s1 o1 s2 ia1 s3 ib1 s4 mg1 s5 ac1 bc1 ib2 jp mg2
 subst s1 o1 s2 ia1 s3 ib1 s4 mg1 s5 ac1 bc1 ib2 mg2;refine Wt.wy (λR=>∀mg,R (jp () mg)) ?_ λh=>?_
 rotate_left
 ·exact .ite (λ_=>h _) λ_=>h _
 intro mg;have hm:=v.m;have la:=v.mh.la;have lb:=v.mh.lb;have hia:=v.ha;obtain⟨ib,rfl⟩:∃k,ib=k+1:=⟨ib - 1,by have:=v.hb;omega⟩
 have hib:=v.hb;obtain⟨y,L,y2,y3⟩:=J (show ib<b.length by omega);obtain⟨k,k1,k2,k3,k4⟩:=rW o as (fZ la (aP _)) (by exact sa.sublist (iy _ _)) (λx hx=>by have:=cz hx;exact⟨na x this,λe=>y3 (e▸this)⟩) y2;rw[wg]at k3;rw[jI,eY k1]at k2;refine .bind (.MV (.bind (.elem L (.bind (k4 d_ (ia - 1) hk (fZ hia (ao _)) ?_)))));have mA :=v.mh.wu sa k1 λz B=>qw o Y L (k3 z B);dsimp -zeta -zetaHave only
 extract_lets +onlyGivenNames ka ac1 jp2
 refine Wt.wy (λR=>∀out ia,MH lt a b out ia (ib+1)->0<ia->(∀z∈a.take ia,lt z y=c_)->j+1+1+i+ia+(ib+1)<=a.length+b.length->R (jp2 () ia (Ar it out))) ?_ λh=>?_
 rotate_left
 ·refine .ite (λ_=>?_) λc=>?_
  ·rw[FF];refine .ite (λd=>.pure (.inl ⟨_,_,(0,0,0,_),rfl,rfl,D mA (beq_iff_eq.mp d)⟩)) λd=>?_;have c1 :=λe=>d (beq_iff_eq.mpr e);exact h (out++((a.drop k).take (ia - k)).reverse) k mA (fJ c1) k2 (by omega)
  ·obtain rfl:k=ia:=by omega
   rw[lF,lP,LI,az]at mA;exact h out k mA v.ha k2 hm
 intro out ia mA hia k2 hm;have la:=mA.la;obtain⟨ia,rfl⟩:∃k,ia=k+1:=⟨ia - 1,oJ (rn hia)⟩
 obtain⟨x,x1,x2,x3⟩:=O (la);have xy :=k2 x (aR (by rw[dH,if_pos (i6 _)];exact x1));have m2:=tB mA x1 L xy;refine .bind (.elem L ?_);rw[lV];refine .ite (λd=>.pure (.inl ⟨_,_,(0,0,0,_),rfl,rfl,qB m2 (beq_iff_eq.mp d)⟩)) λd=>?_;have d:1<ib:=by have c:¬ib=1:=λe=>d (beq_iff_eq.mpr e);omega
 obtain⟨k',l1,l2,l3,l4⟩:=rW o as (l:=b) (base:=0) (n:=ib) (by omega) (by exact Y.sublist (iy _ _)) (λz B=>by have:=cz B;exact⟨nb z this,λe=>x3 (e▸this)⟩) x2;rw[wg]at l3;rw[jI,eY l1]at l2;refine .bind (.elem x1 (.bind (l4 c_ (ib - 1) hk (by omega) ?_)));have U :=m2.pe Y l1 λz B=>qw o sa x1 (l3 z B);dsimp -zeta -zetaHave only
 extract_lets +onlyGivenNames kb bc1 ia2 jp3
 refine Wt.wy (λR=>∀out ib',MH lt a b out (ia+1) ib'->1<ib'->(∀z∈b.take ib',lt z x=c_)->j+1+1+i+1+(ia+1)+ib'<=a.length+b.length->R (jp3 () ib' (Ar it out))) ?_ λh=>?_
 rotate_left
 ·refine .ite (λ_=>?_) λc=>?_
  ·rw[FF];refine .ite (λd=>.pure (.inl ⟨_,_,(0,0,0,_),rfl,rfl,qB U (beq_iff_eq.mp d)⟩)) λd=>?_;refine .ite (λd=>.pure (.inl ⟨_,_,(0,0,0,_),rfl,rfl,fin1' U (beq_iff_eq.mp d)⟩)) λd'=>?_;have c1:¬k'=1:=λe=>d (beq_iff_eq.mpr e);have c2:¬k'=0:=λe=>d' (beq_iff_eq.mpr e);exact h (out++[y]++((b.drop k').take (ib - k')).reverse) k' U (by omega) l2 (by omega)
  ·obtain rfl:k'=ib:=by omega
   rw[lF,lP,LI,az]at U;exact h (out++[y]) k' U d l2 (by omega)
 intro out ib' U W l2 hm;have lb:=U.lb;obtain⟨ib',rfl⟩:∃k,ib'=k+1:=⟨ib' - 1,by omega⟩
 obtain⟨z,M,z2,z3⟩:=J (lb);have m3:=tA U x1 M (l2 z (aR (by rw[dH,if_pos (i6 _)];exact M)));refine .bind (.elem x1 ?_);rw[lV];refine .ite (λd=>.pure (.inl ⟨_,_,(0,0,0,_),rfl,rfl,D m3 (beq_iff_eq.mp d)⟩)) λd=>?_;have d:0<ia:=by have c :=λe=>d (beq_iff_eq.mpr e);exact fJ c
 exact .ite (λ_=>.pure (.inr ⟨_,ia,ib'+1,(_,_,_,_),rfl,rfl,m3,d,W,by omega⟩)) λ_=>.pure ⟨_,ia,ib'+1,(_,_,_,_),rfl,rfl,m3,d,W,by omega⟩
end
abbrev pf(κ:oY)(it:Nat->jk)(l:List Nat)(c:List (Nat×Nat×Nat))(g:Nat):bJ:=lA κ (Ar it l) c.toArray g b_
section
theorem zX:∀(R d u v:List Nat)(c n:Nat),d.length=R.length->c+n=u.length->((R.map it).zipIdx n).foldl (λ(a:Array jk)(x:jk×Nat)=>a.setIfInBounds (c+x.2) x.1) (Ar it (u++d++v))=Ar it (u++R++v)
 |[],[],u,v,c,n,_,_=>rfl
 |r::R,p::d,u,v,c,n,hl,g=>by
   rw[aq,tK,Mi]
   have e:(Ar it (u++(p::d)++v)).setIfInBounds (c+n) (it r)=Ar it ((u++[r])++d++v):=by
    simp_all
   rw[e,zX R d (u++[r]) v c (n+1) (by simpa using hl) (by simp;grind)];simp
def mM(ha:eC lt a)(hb:eC lt b)(h:∀x∈a,∀y∈b,lt x y=c_):eC lt (a++b):=dM.mpr ⟨ha,hb,h⟩
def CL{pre:List Nat}{G:Bool->bJ->Prop}(o:Lt lt)(as:tF P w A s κ it lt N)(sB:eC lt B)(Z:eC lt C)(nB:0<B.length)(nC:0<C.length)(lB:∀x∈B,x<N)(lC:∀x∈C,x<N)(Fj:∀x∈B,x∉C)
  (q:∀M g,eC lt M->M.Perm (B++C)->G c_ (pf κ it (pre++M++post) (v++(pre.length,B.length+C.length,pw)::Y) g)) :
  Wt P w A E s (mergeAt' v.length) G (pf κ it (pre++(B++C)++post) (v++(pre.length,B.length,pw)::(pre.length+B.length,C.length,pw')::Y) g):=by
 generalize W:pre++(B++C)++post=L;have hy:∃y,C[0]?=a_ y:=⟨C[0],ae nC⟩
 obtain⟨y,hy⟩:=hy;have hx:∃x,B[B.length - 1]?=a_ x:=⟨_,ae (fZ nB (ao _))⟩
 obtain⟨x,hx⟩:=hx;have yC:=aR hy;have xB:=aR hx;have sl1:(L.drop pre.length).take B.length=B:=by rw[<-W,aC,jL,aC,we]
 have xW:(L.drop (pre.length+B.length)).take C.length=C:=by
  rw[<-W,<-jN,aC,jL,aC,jL,we]
 have lenL:pre.length+B.length+C.length<=L.length:=by rw[<-W];simp;omega
 have gy:L[pre.length+B.length]?=a_ y:=by
  rw[<-W,aC,aQ (bb _ _),aC,aQ (by simp),aU (by omega)];rw[(Nat.sub_eq_zero_of_le (af (cP _ _)))];exact hy
 have gx:L[pre.length+B.length - 1]?=a_ x:=by
  rw[<-W,aC,aQ (FW (qb nB _)),aC,aU (by omega)];rw[show pre.length+B.length - 1 - pre.length=B.length - 1 by omega];exact hx
 obtain⟨k,k1,k2,k3,k4⟩:=rW o as (ab (bb _ _) lenL) (by rw[sl1];exact sB) (λz d=>by rw[sl1]at d;exact⟨lB z d,λe=>Fj z d (e▸yC)⟩) (lC y yC);obtain⟨m,m1,m2,m3,m4⟩:=rW o as (by omega) (by rw[xW];exact Z) (λz d=>by rw[xW]at d;exact⟨lC z d,λe=>Fj x xB (e▸d)⟩) (lB x xB);rw[sl1]at k2 k3;rw[xW]at m2 m3
 have O:∀z∈C,z=y\/lt y z=c_:=λz d=>by
  have e:=jA hy;rw[Pj]at e;rw[e]at d Z
  rcases au.mp d with h|h
  ·exact .inl h
  ·exact .inr ((bZ.mp Z).1 z h)
 have xall:∀z∈B,z=x\/lt z x=c_:=λz d=>by
  obtain⟨i,hi⟩:=fW d;obtain⟨v,Y⟩:=aN.mp hi;obtain⟨q1,q2⟩:=aN.mp hx;by_cases e:i=B.length - 1
  ·subst e;rw[hx]at hi;cases hi;exact .inl rfl
  ·have:=eE.mp sB i (B.length - 1) v q1 (by omega);rw[Y,q2]at this;exact .inr this
 have low:∀u,(∀z∈C,z=y\/lt y z=c_)->lt u y=c_->∀z∈C,lt u z=c_:=λu _ h z d=>by
  rcases O z d with rfl|h'
  ·exact h
  ·exact o.tr _ _ _ h h'
 have high:∀u,lt x u=c_->∀z∈B,lt z u=c_:=λu h z d=>by
  rcases xall z d with rfl|h'
  ·exact h
  ·exact o.tr _ _ _ h' h
 unfold mergeAt';walk_at "u mergeAt";refine .bind (.get ?_)
 have e1:(pendingOf (pf κ it L (v++(pre.length,B.length,pw)::(pre.length+B.length,C.length,pw')::Y) g))[v.length]?=a_ (pre.length,B.length,pw):=by
  rw[kc,aQ (ao _),lF];rfl
 have e2:(pendingOf (pf κ it L (v++(pre.length,B.length,pw)::(pre.length+B.length,C.length,pw')::Y) g))[v.length+1]?=a_ (pre.length+B.length,C.length,pw'):=by
  rw[kc,aQ (by simp),(cP _ _)];rfl
 rw[e1,e2]
 have e3:((pendingOf (pf κ it L (v++(pre.length,B.length,pw)::(pre.length+B.length,C.length,pw')::Y) g)).setIfInBounds v.length (pre.length,B.length+C.length,pw)).eraseIdxIfInBounds (v.length+1)=(v++(pre.length,B.length+C.length,pw)::Y).toArray:=by
  rw[List.setIfInBounds_toArray,List.set_append_right (h:=ao _),lF];unfold Array.eraseIdxIfInBounds;rw[dif_pos (by simp)];rw[List.eraseIdx_toArray,List.eraseIdx_append_of_length_le (by omega),(cP _ _)];rfl
 refine .bind (.set ?_);rw[e3];refine .bind (.elem gy (.bind (k4 d_ 0 rfl nB ?_)));refine .ite (λc=>?_) λc=>?_
 ·have c :=beq_iff_eq.mp c;refine .pure ?_;rw[<-W];refine q (B++C) g (mM sB Z λu J=>low u O (k2 u ?_)) (.refl _);rw[eo (by omega)];exact J
 have c:¬B.length - k=0:=λe=>c (beq_iff_eq.mpr e);refine .bind (.elem (by rw[show pre.length+k+(B.length - k) - 1=pre.length+B.length - 1 by omega];exact gx) (.bind (m4 c_ (C.length - 1) rfl (fZ nC (ao _)) ?_)));refine .ite (λc=>?_) λc'=>?_
 ·have c :=beq_iff_eq.mp c;subst c;refine .pure ?_;rw[<-W];exact q (B++C) g (mM sB Z λu J z d=>high z (m3 z d) u J) (.refl _)
 have c':0<m:=by have :=λe=>c' (beq_iff_eq.mpr e);exact fJ this
 have ex:(Ar it L).extract (pre.length+k) (pre.length+B.length)=Ar it (B.drop k):=by
  have:(L.drop (pre.length+k)).take (pre.length+B.length - (pre.length+k))=B.drop k:=by
   rw[<-W,<-jN,aC,jL,aC,List.drop_append_of_le_length k1,show pre.length+B.length - (pre.length+k)=(B.drop k).length by simp;omega,we]
  have h:=mm (it:=it) (l:=[]) (b:=L) (i:=pre.length+k) (j:=pre.length+B.length);rw[this]at h;simpa using h
 have ey:(Ar it L).extract (pre.length+B.length) (pre.length+B.length+m)=Ar it (C.take m):=by
  have:(L.drop (pre.length+B.length)).take (pre.length+B.length+m - (pre.length+B.length))=C.take m:=by
   rw[<-W,<-jN,aC,jL,aC,jL,(cP _ _),t9 m1]
  have h:=mm (it:=it) (l:=[]) (b:=L) (i:=pre.length+B.length) (j:=pre.length+B.length+m);rw[this]at h;simpa using h
 have sB':eC lt (B.drop k):=sB.sublist (eX _ _);have sC':eC lt (C.take m):=Z.sublist (iy _ _)
 have fin:∀r g',Res it lt (B.drop k++C.take m) r->G c_ (lA κ (r.toList.zipIdx.foldl (λ(a)(x)=>a.setIfInBounds (pre.length+k+x.2) x.1) (Ar it L)) (v++(pre.length,B.length+C.length,pw)::Y).toArray g' b_):=by
  rintro r g' ⟨R,rfl,sR,pR⟩
  have hLs:L=(pre++B.take k)++(B.drop k++C.take m)++(C.drop m++post):=by
   rw[<-W]
   conv=>lhs;rw[<-aZ k B,<-aZ m C]
   grind
  have hb:=zX (it:=it) R (B.drop k++C.take m) (pre++B.take k) (C.drop m++post) (pre.length+k) 0 pR.length_eq.symm (by simp;exact oJ (eY k1));rw[hLs,hb];have:=q (B.take k++R++C.drop m) g' ?_ ?_
  ·simpa only[aC]using this
  ·refine mM (mM (sB.sublist (iy _ _)) sR λu J z d=>?_) (Z.sublist (eX _ _)) λu J z d=>?_
   ·rcases aE.mp (pR.mem_iff.mp d)with h|h
    ·have:=sB;rw[<-aZ k B]at this;exact(dM.mp this).2.2 u J z h
    ·exact low u O (k2 u J) z (cz h)
   ·have hzx:=m3 z d
    rcases aE.mp J with h|h
    ·exact high z hzx u (cz h)
    ·rcases aE.mp (pR.mem_iff.mp h)with h|h
     ·exact high z hzx u (dO h)
     ·have:=Z;rw[<-aZ m C]at this;exact(dM.mp this).2.2 u h z d
  ·conv=>rhs;rw[<-aZ k B,<-aZ m C]
   have:=(pR.append_left (B.take k)).append_right (C.drop m);simpa only[aC]using this
 have nB':∀x∈B.drop k,x<N:=λz h=>lB z (dO h);have nC':∀x∈C.take m,x<N:=λz h=>lC z (cz h);have dis':∀x∈B.drop k,x∉C.take m:=λz h h'=>Fj z (dO h) (cz h');have hlB:(B.drop k).length=B.length - k:=by simp
 have hlC:(C.take m).length=m:=by simp;exact eY m1
 have U:(B.drop k)[B.length - k - 1]?=a_ x:=by rw[qU,show k+(B.length - k - 1)=B.length - 1 by omega];exact hx
 have D:(C.take m)[0]?=a_ y:=by rw[dH,if_pos c'];exact hy
 extract_lets +onlyGivenNames lx ly jp
 subst lx ly
 have h:∀r g',Res it lt (B.drop k++C.take m) r->Wt P w A E s (jp r) G (lA κ (Ar it L) (v++(pre.length,B.length+C.length,pw)::Y).toArray g' b_):=by
  intro r g' hr;refine .bind (.modify (.bind (.get (.pure ?_))));exact fin r g' hr
 refine .ite (λ_=>?_) λ_=>?_
 ·refine .bind ?_;rw[ex,ey];refine CJ o as rfl nB' nC' sB' sC' dis' (ab (fJ c) (af hlB.symm)) D k3 (λz d u J=>?_) λr g' hr=>h r g' hr;rw[hlB,jA U]at J;have:(B.drop k).drop (B.length - k - 1+1)=[]:=jM (by omega);rw[this,aL]at J
  grind
 ·refine .bind ?_;rw[ex,ey];refine CK o as rfl nB' nC' sB' sC' dis' (ab c' (af hlC.symm)) (by omega) U m2 (λz d u J=>?_) λr g' hr=>h r g' hr;have e:=take_one D
  simp_all
end
section
def Wt.Wr{G:Option Bool->bJ->Prop}(as:tF P w A s κ it lt N)(c:l[i]?=a_ x)(d:l[j]?=a_ y)(nx:x<N)(k:y<N)(h:G (a_ (lt x y)) (pf κ it l pd g)):Wt P w A E s (ltAt' i j) G (pf κ it l pd g):=by
 exact .bind (.get (.bind (.elem c (.bind (.elem d (Wt.ask as rfl nx k h))))))
set_option tactic.hygienic true
def Am(pre X Y:List Nat):mirror (Ar it (pre++X++Y)) pre.length (pre.length+X.length) ((pre.length+X.length - pre.length) / 2)=Ar it (pre++X.reverse++Y):=by
 apply FZ;intro k;rw[getElem?_mirror_all (by simp)];simp only[kc,aM];split
 ·rename_i h;rw[aC,aC,aQ (by omega),aU (by omega),aQ (h.1),aU (by simp;omega),BW (by omega)]
  congr 2;omega
 grind
def Bn(p V Y:List Nat)(x:Nat):bubble (Ar it (p++(V++x::Y))) (p.length+V.length) V.length=Ar it (p++(x::V++Y)):=by
 apply FZ;intro k;rw[getElem?_bubble (by rw[bY];simp) _ (vL _ _)];simp only[kc,aM];by_cases c:k<p.length
 ·rw[if_neg (by omega),if_neg (by omega),aU c,aU c]
 ·obtain⟨m,rfl⟩:∃m,k=p.length+m:=⟨k - p.length,oJ (fY (cy c))⟩
  clear c;have ap:∀(Z:List Nat)(i:Nat),(p++Z)[p.length+i]?=Z[i]? :=λZ i=>by rw[aQ (bb _ _),cP]
  rw[ap (V++x::Y) m,ap,ap];split
  ·simp_all
  cases m with
  |zero=>simp_all
  |succ m=>
    split
    ·rename_i h h';have d :=ze h'.2;rw[show p.length+(m+1) - 1=p.length+m from rfl,ap,aU d,nQ,dc,aU d]
    ·rename_i h h';have d:V.length<=m:=by omega
     rw[aQ (cT d),nQ,dc,aQ d,Nat.succ_sub d,dc]
set_option tactic.hygienic false
def rC(o:Lt lt){l:List Nat}(h:eC lt (l.take (n+1)))(k:l[n]?=a_ u)(g:l[n+1]?=a_ v)(c:lt u v=c_):eC lt (l.take (n+1+1)):=by
 rw[List.take_succ,g];refine mM h (nO _ _) λz j y d=>?_;have d:y=v:=by simpa using d
 subst d;have:=qw o h (n:=n) (by grind) c z;rw[jI,Nat.min_self]at this;exact this j
abbrev ASt:=Option (Option Nat)×Nat
def D4{rest:List Nat}{st:bJ}(o:Lt lt)(nd:rest.Nodup)(ha:1<=a)(hb:a<=rest.length)(h:eC lt (rest.take a))
  (hf:∀x n u v(G':ForInStep ASt->bJ->Prop),rest[n]?=a_ u->rest[n+1]?=a_ v->(lt v u=c_->G' (.done (b_,n+1)) st)->(lt v u=d_->G' (.yield (b_,n+1+1)) st)->Wt P w A E s (f x (b_,n+1)) G' st) :
  Wt P w A E s (forIn [a:rest.length] ((b_,a):ASt) f) (λb d=>d=st/\∃n,b=(b_,n)/\a<=n/\n<=rest.length/\eC lt (rest.take n)/\∀k u v,n=k+1->rest[k]?=a_ u->rest[k+1]?=a_ v->lt v u=c_) st:=by
 refine Wt.range (λj b d=>d=st/\b=(b_,a+j)/\eC lt (rest.take (a+j))) ⟨rfl,rfl,h⟩ (λj b d L z=>?_) λb d z=>⟨z.1,_,z.2.1,bb _ _,af (fY hb),z.2.2,λk u v B _ g=>by simp_all⟩
 obtain⟨e,e1,q⟩:=z;subst e e1;obtain⟨n,l⟩:∃n,a+j=n+1:=⟨a+j - 1,by omega⟩
 rw[l]at q ⊢;have y:=ae (show n<rest.length by omega);have g:=ae (show n+1<rest.length by omega)
 refine hf _ n _ _ _ y g (λc=>⟨rfl,n+1,rfl,ab (bb _ _) (af l),by omega,q,λk u v B D J=>by
  obtain rfl:n=k:=Nat.add_right_cancel B
  simp_all⟩) λc=>⟨rfl,by rw[show a+(j+1)=n+1+1 from(bI (bD (af l)) (bD (af l.symm)))],?_⟩
 rw[show a+(j+1)=n+1+1 by omega];refine rC o q y g (o.co _ _ (λe=>?_) c);have:=(jJ (by omega) nd).mp (g.trans (by rw[e];exact y.symm))
 grind
def tS{pre rest:List Nat}:(pre++rest)[pre.length+n]?=rest[n]? :=by rw[aQ (bb _ _)];simp
def Bc{pre rest:List Nat}{G:Option Nat->bJ->Prop}(o:Lt lt)(as:tF P w A s κ it lt N)(hn:0<rest.length)(Z:∀x∈rest,x<N)(nd:rest.Nodup)
  (q:∀n rest',1<=n->n<=rest.length->rest'.Perm rest->eC lt (rest'.take n)->G (a_ n) (pf κ it (pre++rest') pd g)):Wt P w A E s (countRun' pre.length rest.length) G (pf κ it (pre++rest) pd g):=by
 have ask:∀{rest':List Nat}{i j x y:Nat}{G':Option Bool->bJ->Prop},rest'.Perm rest->rest'[i]?=a_ x->rest'[j]?=a_ y->G' (a_ (lt x y)) (pf κ it (pre++rest') pd g)->Wt P w A E s (ltAt' (pre.length+i) (pre.length+j)) G' (pf κ it (pre++rest') pd g):=λhp hx hy h=>
  Wt.Wr as (tS.trans hx) (tS.trans hy) (Z _ (hp.mem_iff.mp (aR hx))) (Z _ (hp.mem_iff.mp (aR hy))) h
 unfold countRun';walk_at "u countRun"
 refine .bind (Wt.mono (D4 o nd (ao 1) hn (by
  cases rest with
  |nil=>exact .nil
  |cons z r=>exact nO _ _) λx n u v G' l B M O=>?_) λb d z=>?_)
 ·refine .bind (ask (.refl _) B l ?_)
  cases c:lt v u with
  |true=>exact .pure (M c)
  |false=>exact .pure (O c)
 obtain⟨e,n,e1,h1,h2,L,hs⟩:=z;subst e e1;refine .ite (λc=>.pure (q n rest h1 h2 (.refl _) L)) λc=>?_;have c:n<rest.length:=by have :=λe=>c (beq_iff_eq.mpr e);exact dI h2 this
 extract_lets +onlyGivenNames n1 q1 jp
 refine Wt.wy (λR=>n=1->R (jp ())) ?_ λh=>?_
 rotate_left
 ·refine .ite (λc1=>?_) λc1=>h (by exact bI (cy c1) h1);obtain⟨k,rfl⟩:∃k,n=k+1:=⟨n - 1,oJ (rn h1)⟩
  have l:=ae (show 0<rest.length by omega);have B:=ae (h2);refine .bind (ask (i:=0) (.refl _) l B ?_)
  have:lt rest[0] rest[k]=c_:=by
   have:=eE.mp L 0 k (by simp;omega) (by simp;omega) (bF c1);simpa using this
  rw[this];exact .pure (q (k+1) rest h1 h2 (.refl _) L)
 rintro rfl;have B:=ae (by omega);have l:=ae (show 0<rest.length by omega);have c0:=hs 0 _ _ rfl l B;have o':Lt (TF lt):=⟨λi j k a b=>o.tr _ _ _ b a,λi j a b=>o.co _ _ (eQ a) b,λi j a=>o.as _ _ a⟩
 have f2:eC (TF lt) (rest.take 2):=by
  refine rC o' ?_ l B c0
  cases rest with
  |nil=>exact .nil
  |cons z r=>exact nO _ _
 refine .bind (.rule (.bind (Wt.mono (Wt.range (G:=λ(b)d=>d=pf κ it (pre++rest) pd g/\∃m,b=(b_,m,0)/\2<=m/\m<=rest.length/\eC (TF lt) (rest.take m))
  (λj b d=>d=pf κ it (pre++rest) pd g/\b=(b_,j+2,0)/\eC (TF lt) (rest.take (j+2))) ⟨rfl,rfl,f2⟩ (λj b d U z=>?_) λb d z=>⟨z.1,_,z.2.1,by simp,fZ c (ao _),z.2.2⟩) λb d z=>?_)))
 ·obtain⟨e,e1,hd⟩:=z;subst e e1;have l:=ae (show j+1<rest.length from(be (pJ U)));have B:=ae (show j+2<rest.length from(pJ U));refine .bind (ask (.refl _) B l ?_)
  cases c:lt rest[j+2] rest[j+1]with
  |true=>
    refine .pure ⟨rfl,rfl,?_⟩;have W:eC (TF lt) (rest.take (j+1+1)):=hd;have:=rC o' W l (B) c;exact this
  |false=>
    have Y:rest[j+2]≠rest[j+1]:=λe=>by
     have:=(jJ (by omega) nd).mp (B.trans (by rw[e];exact l.symm))
     simp_all
    refine .bind (ask (.refl _) l B ?_);rw[o.co _ _ Y c];exact .pure ⟨rfl,j+2,rfl,vL _ _,be (pJ U),hd⟩
 obtain⟨e,m,e1,m1,m2,hd⟩:=z;subst e e1;have hlen:(rest.take m).length=m:=by simp_all
 have D:((rest.take m).reverse++rest.drop m).Perm rest:=by
  conv=>rhs;rw[<-aZ m rest]
  exact(fU _).append_right _
 refine .bind ?_;show Wt P w A E s (reverseSlice' pre.length (pre.length+m)) _ _;rw[reverseSlice'_eq];refine .modify ?_
 have em:mirror (Ar it (pre++rest)) pre.length (pre.length+m) ((pre.length+m - pre.length) / 2)=Ar it (pre++((rest.take m).reverse++rest.drop m)):=by
  have:=Am (it:=it) pre (rest.take m) (rest.drop m)
  simp_all
 rw[em];have J :=D.length_eq;generalize hr':(rest.take m).reverse++rest.drop m=rest' at D J;have ht:rest'.take m=(rest.take m).reverse:=by grind
 rw[<-J];refine .bind (Wt.mono (D4 o (D.nodup_iff.mpr nd) ((be m1)) (ab m2 (af J.symm)) (by rw[ht];exact j9.mpr hd) λx n u v G' l B M O=>?_) λb d z=>?_)
 ·refine .bind (ask D B l ?_)
  cases c:lt v u with
  |true=>exact .pure (M c)
  |false=>exact .pure (O c)
 ·obtain⟨e,n,e1,h1,h2,L,_⟩:=z;subst e e1;exact .pure (q n rest' (be (ab m1 h1)) (ab h2 (af J)) D L)
end
section
set_option tactic.hygienic true in
def vY{pre rest:List Nat}{G:Bool->bJ->Prop}(o:Lt lt)(as:tF P w A s κ it lt N)(h1:1<=ok)(h2:ok<=n)(hn:n<=rest.length)(nl:∀x∈rest,x<N)(nd:rest.Nodup)(hr:eC lt (rest.take ok))
  (q:∀rest',rest'.Perm rest->eC lt (rest'.take n)->G c_ (pf κ it (pre++rest') pd g)):Wt P w A E s (binarySort' pre.length n ok) G (pf κ it (pre++rest) pd g):=by
 unfold binarySort';walk_at "u binarySort";rw[Nat.max_eq_left h1]
 refine .bind (Wt.mono (Wt.range (G:=λ(b)v=>b=(b_,())/\∃rest',v=pf κ it (pre++rest') pd g/\rest'.Perm rest/\eC lt (rest'.take n))
  (λj b v=>b=(b_,())/\∃rest',v=pf κ it (pre++rest') pd g/\rest'.Perm rest/\eC lt (rest'.take (ok+j))) ⟨rfl,rest,rfl,.refl _,hr⟩ (λj b v hj z=>?_) λb v z=>by simp_all) λb v z=>by obtain⟨e1,rest',e,hp,B⟩:=z;subst e e1;exact .pure (q rest' hp B))
 obtain⟨e1,rest',e,hp,B⟩:=z;subst e e1;have hl:=hp.length_eq;generalize hk:ok+j=k at B;have L:k<rest'.length:=by omega
 have M:=ae L;generalize rest'[k]=x at M;have mem:∀{i z:Nat},rest'[i]?=a_ z->z<N:=λh=>nl _ (hp.mem_iff.mp (aR h));obtain⟨t,D,t2⟩:=En o B x;have D:t<=k:=by simp at D;exact ab D (jl _ _)
 have less:∀m,m<k->∃z,rest'[m]?=a_ z/\lt x z=decide (¬m<t):=λm R=>by
  have J:=ae ((c5 R L));refine⟨_,J,?_⟩;have e:=t2 m _ (by rw[dH,if_pos R];exact J)
  have U:rest'[m]≠x:=λe=>by
   have:=(jJ ((c5 R L)) (hp.nodup_iff.mpr nd)).mp (J.trans (by rw[e];exact M.symm));exact bB R (af this.symm)
  by_cases c:m<t
  ·rw[decide_eq_true c]at e;rw[decide_eq_false (λz=>(z c))];exact o.as _ _ e
  ·rw[decide_eq_false c]at e;rw[decide_eq_true c];exact o.co _ _ U e
 refine .bind (Wt.mono (Wt.range (G:=λ(b)v=>v=pf κ it (pre++rest') pd g/\∃r,b=(b_,t,r))
  (λi b v=>v=pf κ it (pre++rest') pd g/\∃l r,b=(b_,l,r)/\l<=t/\t<=r/\r<=k/\r - l<=k - i) ⟨rfl,0,k,rfl,aP _,D,ao _,by simp⟩ (λi b v hi z=>?_) λb v z=>by obtain⟨e,l,r,e1,W,Y,a3,a4⟩:=z;grind) λb v z=>?_)
 ·obtain⟨e,l,r,e1,W,Y,a3,a4⟩:=z;subst e e1;refine .ite (λc=>.pure ⟨rfl,r,by rw[(bI (ab Y c) W)]⟩) λc=>?_;have c:¬l>=r:=c;obtain⟨z,Z,z2⟩:=less ((l+r) / 2) (by omega);refine .bind (Wt.Wr as (tS.trans M) (tS.trans Z) (mem M) (mem Z) ?_);rw[z2];by_cases d:(l+r) / 2<t
  ·rw[decide_eq_false (λz=>(z d))];exact .pure ⟨rfl,(l+r) / 2+1,r,rfl,d,Y,a3,by omega⟩
  ·rw[decide_eq_true d];exact .pure ⟨rfl,l,(l+r) / 2,rfl,W,cy d,by omega,by omega⟩
 obtain⟨e,r,e1⟩:=z;subst e e1;refine .bind ?_;show Wt P w A E s (moveDown' (pre.length+k) (pre.length+t)) _ _;rw[moveDown'_eq];refine .modify (.pure ⟨rfl,rest'.take t++(x::(rest'.take k).drop t++rest'.drop (k+1)),?_,?_,?_⟩)
 ·have hb:=Bn (it:=it) (pre++rest'.take t) ((rest'.take k).drop t) (rest'.drop (k+1)) x
  have e1:rest'.take t++(rest'.take k).drop t=rest'.take k:=by
   conv=>rhs;rw[<-aZ t (rest'.take k)]
   rw[jI,eY D]
  have e2:rest'=rest'.take k++x::rest'.drop (k+1):=by rw[<-jA M,aZ]
  have e3:pre++rest'.take t++((rest'.take k).drop t++x::rest'.drop (k+1))=pre++rest':=by
   rw[aC,<-aC (rest'.take t),e1,<-e2]
  have e4:(pre++rest'.take t).length+((rest'.take k).drop t).length=pre.length+k:=by simp;omega
  have e5:((rest'.take k).drop t).length=pre.length+k - (pre.length+t):=by simp;omega
  rw[e3,e4,e5,aC]at hb;rw[hb]
 ·refine DI ?_ hp
  have e2:rest'=rest'.take t++((rest'.take k).drop t++x::rest'.drop (k+1)):=by
   rw[<-aC]
   have e1:rest'.take t++(rest'.take k).drop t=rest'.take k:=by
    conv=>rhs;rw[<-aZ t (rest'.take k)]
    rw[jI,eY D]
   rw[e1,<-jA M,aZ]
  conv=>rhs;rw[e2]
  exact jC _ LK.symm
 ·have e1:rest'.take t++(rest'.take k).drop t=rest'.take k:=by
   conv=>rhs;rw[<-aZ t (rest'.take k)]
   rw[jI,eY D]
  have e2:(rest'.take t++(x::(rest'.take k).drop t++rest'.drop (k+1))).take (ok+(j+1))=rest'.take t++(x::(rest'.take k).drop t):=by
   rw[<-aC,t9 (by simp;omega),eo (by simp;omega)]
  rw[e2];have O:=B;rw[<-e1]at O;obtain⟨s1,s2,s3⟩:=dM.mp O
  have lo:∀z∈rest'.take t,lt z x=c_:=λz J=>by
   obtain⟨i,hi⟩:=fW J;rw[dH]at hi;split at hi
   ·rename_i c;rw[t2 i z (by rw[dH,if_pos (aV c D)];exact hi),decide_eq_true c]
   ·cases hi
  have hi:∀z∈(rest'.take k).drop t,lt x z=c_:=λz J=>by
   obtain⟨i,hi⟩:=fW J;rw[qU,dH]at hi;split at hi
   ·rename_i c;obtain⟨z',Z,z2⟩:=less (t+i) c
    simp_all
   ·cases hi
  refine mM s1 (bZ.mpr ⟨hi,s2⟩) λz J y hy=>?_
  grind
end
inductive lz (lt:Nat->Nat->Bool):Nat->List (Nat×Nat×Nat)->List (List Nat)->Prop
 |nil {o:Nat}:lz lt o [] []
 |cons {o pw:Nat} {R:List Nat} {ps:List (Nat×Nat×Nat)} {Rs:List (List Nat)}:0<R.length->eC lt R->lz lt (o+R.length) ps Rs->lz lt o ((o,R.length,pw)::ps) (R::Rs)
section
def lz.split(h:lz lt o pd Rs):∀{i:Nat},i+1<pd.length->∃g pw d j c B C R2,pd=g++(o+(c.flatten:List Nat).length,B.length,pw)::(o+c.flatten.length+B.length,C.length,d)::j/\Rs=c++B::C::R2/\g.length=i/\
  0<B.length/\0<C.length/\eC lt B/\eC lt C/\∀M:List Nat,M.length=B.length+C.length->eC lt M->lz lt o (g++(o+c.flatten.length,B.length+C.length,pw)::j) (c++M::R2):=by
 induction h with
 |nil=>intro i hi;simp at hi
 | @cons o pw R ps Rs h1 h2 h3 q=>
   intro i hi
   cases i with
   |zero=>
     cases h3 with
     |nil=>simp at hi
     | @cons _ d C ps Rs v y z=>
       refine⟨[],pw,d,ps,[],R,C,Rs,rfl,rfl,rfl,h1,v,h2,y,λM k l=>?_⟩;have:=lz.cons (pw:=pw) (ab (Me _ h1) (af k.symm)) l (by rw[k,<-kG];exact z)
       simp_all
   |succ i=>
     obtain⟨g,D,J,j,c,B,C,R2,e1,e2,e3,b1,b2,b3,b4,b5⟩:=q (by simpa using hi);have e:o+(R::c).flatten.length=o+R.length+c.flatten.length:=by simp;exact oJ (kG _ _ _)
     refine⟨(o,R.length,pw)::g,D,J,j,R::c,B,C,R2,by rw[e,e1];rfl,by rw[e2];rfl,by simp[e3],b1,b2,b3,b4,λM k l=>?_⟩;rw[e];exact .cons h1 h2 (b5 M k l)
def lz.push{R:List Nat}(h:lz lt o pd Rs)(h1:0<R.length)(h2:eC lt R):lz lt o (pd++[(o+Rs.flatten.length,R.length,x)]) (Rs++[R]):=by
 induction h with
 |nil=>exact .cons h1 h2 .nil
 | @cons o pw c ps Rs d g k j=>
   refine .cons d g ?_;rw[show o+(c::Rs).flatten.length=o+c.length+Rs.flatten.length by simp;exact oJ (kG _ _ _)];exact j
def lz.mod(hf:∀a b c,∃d,f (a,b,c)=(a,b,d))(h:lz lt o pd Rs):∀k,lz lt o (pd.modify k f) Rs:=by
 induction h with
 |nil=>intro k;simp;exact .nil
 | @cons o g q ps Rs j l v y=>
   intro k
   cases k with
   |zero=>
     obtain⟨d,e⟩:=hf o q.length g;rw[List.modify_zero_cons,e];exact .cons j l v
   |succ k=>exact .cons j l (y k)
def lz.len(h:lz lt o pd Rs):pd.length<=Rs.flatten.length:=by
 induction h with
 |nil=>exact ao _
 |cons d g j c=>simp at c ⊢;omega
end
section
variable{κ:oY}{it:Nat->jk}{lt:Nat->Nat->Bool}
def uP{Rs:List (List Nat)}{rest:List Nat}{G:Bool->bJ->Prop}(o:Lt lt)(as:tF P w A s κ it lt N)(d:∀x∈l,x<N)(nd:l.Nodup)(hl:l=Rs.flatten++rest)(hp:lz lt 0 pd Rs)(hi:i+1<pd.length)
  (q:∀l' pd' g' Rs',l'=Rs'.flatten++rest->lz lt 0 pd' Rs'->l'.Perm l->Rs'.flatten.length=Rs.flatten.length->pd'.length+1=pd.length->G c_ (pf κ it l' pd' g')):Wt P w A E s (mergeAt' i) G (pf κ it l pd g):=by
 obtain⟨R,pw,v,U,j,B,C,R2,e1,e2,e3,b1,b2,b3,b4,b5⟩:=hp.split hi;rw[jS]at e1 b5;have el:l=j.flatten++(B++C)++(R2.flatten++rest):=by rw[hl,e2];simp
 have y:∀x∈B,x∈l:=λx c=>by rw[el];simp[c]
 have z:∀x∈C,x∈l:=λx c=>by rw[el];simp[c]
 have Fj :=λx D J=>by
  rw[el]at nd;have:=(bW.mp (bW.mp nd).1).2.1;exact(bW.mp this).2.2 x D x J rfl
 subst e3;rw[e1,el];refine CL o as b3 b4 b1 b2 (λx c=>d x (y x c)) (λx c=>d x (z x c)) Fj λM g' L k=>?_;have O:M.length=B.length+C.length:=by rw[k.length_eq];simp
 refine q _ _ g' (j++M::R2) (by simp) (b5 M O L) ?_ (by rw[e2];simp;omega) (by rw[e1];simp;rfl);rw[el];exact(k.append_left _).append_right _
abbrev UO(κ:oY)(it:Nat->jk)(lt:Nat->Nat->Bool)(j:List Nat)(n:Nat)(b:Option Unit×Nat)(c:bJ):Prop:=∃l d g Rs,b=(b_,n)/\c=pf κ it l d g/\l=(Rs:List (List Nat)).flatten/\lz lt 0 d Rs/\l.Perm j
abbrev UN(κ:oY)(it:Nat->jk)(lt:Nat->Nat->Bool)(k:List Nat)(j:Nat)(b:Option Unit×Nat)(c:bJ):Prop:=∃l d g Rs rest,b=(b_,(Rs.flatten:List Nat).length)/\c=pf κ it l d g/\l=Rs.flatten++rest/\lz lt 0 d Rs/\l.Perm k/\(rest=[]\/j<=Rs.flatten.length)
def ite_le{c:Prop}[Decidable c]:(if c then a - 1 else a)<=a:=by split<;>simp
def zG{G:Unit->bJ->Prop}(o:Lt lt)(as:tF P w A s κ it lt N)(nl0:∀x∈l0,x<N)(nd0:l0.Nodup)(q:∀l d g,l.Perm l0->eC lt l->G () (pf κ it l d g)):Wt P w A E s sortRuns' G (pf κ it l0 [] g0):=by
 have nl:∀{l:List Nat},l.Perm l0->∀x∈l,x<N:=λh x Z=>nl0 x (h.mem_iff.mp Z);have nd:∀{l:List Nat},l.Perm l0->l.Nodup:=λh=>h.nodup_iff.mpr nd0;unfold sortRuns';walk_at "u sortRuns";refine .bind (.get ?_);have hsz:(arrOf (pf κ it l0 [] g0)).size=l0.length:=bY;rw[hsz];generalize hmr:l0.length=n
 refine .bind (Wt.mono (Wt.range (G:=UO κ it lt l0 n) (UN κ it lt l0) ⟨l0,[],g0,[],l0,rfl,rfl,rfl,.nil,.refl _,.inr (ao _)⟩
  (λj b y hj z=>?_) λb y z=>?_) λb y z=>?_)
 rotate_left
 ·obtain⟨l,d,g,Rs,rest,e1,e2,hl,hp,v,M⟩:=z;have h1:=v.length_eq
  have hr:rest=[]:=by
   rcases M with h|h
   ·exact h
   ·rw[hl,ag]at h1;exact jr.mp (by omega)
  subst hr;rw[az]at hl;refine⟨l,d,g,Rs,?_,e2,hl,hp,v⟩
  simp_all
 ·obtain⟨l,d,g,Rs,e1,e2,hl,hp,v⟩:=z;subst e1 e2
  refine .bind (Wt.mono (Wt.range (G:=λ(b)y=>∃l d g Rs,b=(b_,())/\y=pf κ it l d g/\l=(Rs).flatten/\lz lt 0 d Rs/\l.Perm l0/\d.length<=1)
   (λj b y=>∃l d g Rs,b=(b_,())/\y=pf κ it l d g/\l=(Rs).flatten/\lz lt 0 d Rs/\l.Perm l0/\(d.length<=1\/d.length+j<=n)) ⟨l,d,g,Rs,rfl,rfl,hl,hp,v,.inr (by have:=hp.len;rw[<-hl,v.length_eq]at this;simp_all)⟩
   (λj b y hj z=>?_) λb y z=>by obtain⟨l,d,g,Rs,e1,e2,hl,hp,v,M⟩:=z;exact⟨l,d,g,Rs,e1,e2,hl,hp,v,by omega⟩) λb y z=>?_)
  ·obtain⟨l,d,g,Rs,e1,e2,hl,hp,v,M⟩:=z;subst e1 e2;refine .bind (.get ?_);refine .ite (λc=>.pure ⟨l,d,g,Rs,rfl,rfl,hl,hp,v,by exact c⟩) λc=>?_;have c:¬d.length<=1:=by exact c
   refine .bind (uP o as (nl v) (nd v) (by rw[az];exact hl) hp (aB (bD (ite_le (a:=d.length - 2))) (by omega)) λl' pd' g' Rs' k1 k2 k3 k4 k5=>?_)
   ·refine .ER (by simp) (.pure ⟨l',pd',g',Rs',rfl,rfl,by simp_all,k2,k3.trans v,.inr (by omega)⟩)
  ·obtain⟨l,d,g,Rs,e1,e2,hl,hp,v,M⟩:=z;subst e1 e2;refine .pure (q l d g v ?_);rw[hl]
   match d,Rs,hp,M with
   |_,_,.nil,_=>exact .nil
   |_,_,.cons h1 h2 .nil,_=>simpa using h2
   |_,_,.cons h1 h2 (.cons _ _ _),M=>simp at M
 obtain⟨l,d,g,Rs,rest,e1,e2,hl,hp,v,M⟩:=z;subst e1 e2;have hlen:=v.length_eq;have W:Rs.flatten.length+rest.length=n:=by simp_all
 refine .ite (λc=>?_) λc=>?_
 ·have hr :=jr.mp (bI (ze (ab (af W) c)) (aP _));subst hr;rw[az]at hl;refine .pure ⟨l,d,g,Rs,?_,rfl,hl,hp,v⟩;rw[<-hl,hlen,hmr]
 have nlr :=λx Z=>nl v x (by rw[hl];exact ak _ Z);have ndr :=(bW.mp (hl▸nd v)).2.1;refine .bind ?_;rw[show n - Rs.flatten.length=rest.length by omega,hl];refine Bc o as (by omega) nlr ndr λm k m1 m2 O r1=>?_;have R:=O.length_eq;dsimp -zeta -zetaHave only
 extract_lets +onlyGivenNames n1 jp
 suffices h:∀m k g,1<=m->m<=rest.length->(k).Perm rest->eC lt (k.take m)->Wt P w A E s (jp () m) (Xv (UO κ it lt l0 n) (UN κ it lt l0 (j+1))) (pf κ it (Rs.flatten++k) d g) by
  refine .ite (λc1=>?_) λ_=>h m k g m1 m2 O r1;refine .bind (.rule (.bind (vY o as m1 ?_ (ab (jl _ _) (af R.symm)) (λx Z=>nlr x (O.mem_iff.mp Z)) (O.nodup_iff.mpr ndr) r1 λY p2 r2=>?_)))
  ·omega
  ·exact .ER (by simp) (h _ Y g (by omega) (jl _ _) (p2.trans O) r2)
 intro m k g m1 m2 O r1;have R:=O.length_eq;refine .bind (.get ?_)
 extract_lets +onlyGivenNames lo jp2
 subst lo
 have h:∀l d g(Rs':List (List Nat)),l=Rs'.flatten++k->lz lt 0 d Rs'->l.Perm l0->Rs'.flatten.length=Rs.flatten.length->Wt P w A E s (jp2 ()) (Xv (UO κ it lt l0 n) (UN κ it lt l0 (j+1))) (pf κ it l d g):=by
  intro l d g Rs' D J B L;refine .bind (.modify (.pure ⟨l,d++[(Rs.flatten.length,m,0)],g,Rs'++[k.take m],k.drop m,?_,?_,?_,?_,B,?_⟩))
  ·simp_all
  ·rw[List.push_toArray]
  ·rw[D];simp
  ·have:=J.push (x:=0) (by simp;omega) r1
   grind
  ·refine .inr ?_
   grind
 have U :=(O.append_left _).trans (hl▸v)
 cases hb:d.toArray.back? with
 |none=>exact h _ _ _ Rs rfl hp U rfl
 |some z=>
   obtain⟨s1,n1,z3⟩:=z
   refine .bind (Wt.mono (Wt.range
    (λj b y=>∃l d g Rs',b=(b_,())/\y=pf κ it l d g/\l=(Rs').flatten++k/\lz lt 0 d Rs'/\l.Perm l0/\Rs'.flatten.length=Rs.flatten.length) ⟨_,d,g,Rs,rfl,rfl,rfl,hp,U,rfl⟩
    (λj b y hj z=>?_) λb y h=>h) λb y z=>?_)
   ·obtain⟨l,d,g,Rs',e1,e2,D,J,B,L⟩:=z;subst e1 e2;refine .bind (.get ?_);dsimp only;rw[bp];by_cases c2:d.length > 1
    ·rw[if_pos c2]
     have hz:d.toArray[d.length - 2]?=a_ d[d.length - 2]:=by
      simp
     rw[hz];generalize d[d.length - 2]=z;obtain⟨za,zb,zc⟩:=z;refine .ite (λ_=>.pure ⟨l,d,g,Rs',rfl,rfl,D,J,B,L⟩) λ_=>?_;refine .bind (uP o as (nl B) (nd B) D J (by omega) λl2 pd2 g2 Rs2 k1 k2 k3 k4 k5=>?_);exact .ER (by simp) (.pure ⟨l2,pd2,g2,Rs2,rfl,rfl,k1,k2,k3.trans B,k4.trans L⟩)
    ·rw[if_neg c2];exact .pure ⟨l,d,g,Rs',rfl,rfl,D,J,B,L⟩
   ·obtain⟨l,d,g,Rs',e1,e2,D,J,B,L⟩:=z;subst e1 e2;refine .bind (.modify ?_);rw[List.modify_toArray];exact h l _ g Rs' D (J.mod (λa b c=>⟨_,rfl⟩) _) B L
end
section
variable{lt:Nat->Nat->Bool}{n:Nat}
structure O3(lt:Nat->Nat->Bool)(n:Nat):Prop where
 tr:∀i j k,i<n->j<n->k<n->lt i j=c_->lt j k=c_->lt i k=c_
 co:∀i j,i<n->j<n->i≠j->lt i j=d_->lt j i=c_
 as:∀i j,i<n->j<n->lt i j=c_->lt j i=d_
noncomputable abbrev pg(p:Array Nat)(k:Nat):Nat:=p.getD k 0
structure Pm(p:Array Nat)(n:Nat):Prop where
 sz:p.size=n
 lt:∀k,k<n->pg p k<n
 inj:∀i j,i<n->j<n->pg p i=pg p j->i=j
 pm:p.toList.Perm (aK n)
def Jp{p:Array Nat}(h:k<p.size):p[k]?=a_ (pg p k):=by
 simp_all
def V6(h:p[k]?=a_ x):pg p k=x:=by
 simp_all
def Pm.of{p:Array Nat}(h:p.toList.Perm (aK n)):Pm p n:=by
 have sz:p.size=n:=by rw[<-aY,h.length_eq,aW]
 refine⟨sz,λk g=>?_,λi j hi c e=>?_,h⟩
 ·have:pg p k∈p.toList:=by
   simp_all
  exact a9.mp (h.mem_iff.mp this)
 ·have d :=h.nodup_iff.mpr fB;have a:=Jp (ab hi (af sz.symm));have b:=Jp (ab c (af sz.symm));rw[<-ip]at a b;rw[e]at a;exact(jJ (by simp_all) d).mp (a.trans b.symm)
def Up(lt:Nat->Nat->Bool)(p:Array Nat)(m:Nat):Prop:=∀i j,i<j->j<m->lt (pg p i) (pg p j)=c_
noncomputable def S9(lt:Nat->Nat->Bool)(n i j:Nat):Bool:=if i<n then(if j<n then lt i j else c_)else if j<n then d_ else decide (i<j)
def JY(hi:i<n)(c:j<n):S9 lt n i j=lt i j:=by unfold S9;simp_all
def S8(o:O3 lt n):Lt (S9 lt n):=by
 refine⟨λi j k a b=>?_,λi j ne a=>?_,λi j a=>?_⟩
 ·unfold S9 at a b ⊢;by_cases hi:i<n<;>by_cases c:j<n<;>by_cases d:k<n<;>simp only[hi,c,d,if_true,if_false,bM,decide_eq_true_eq]at a b ⊢
  ·exact o.tr i j k hi c d a b
  ·exact c5 a b
 ·unfold S9 at a ⊢;by_cases hi:i<n<;>by_cases c:j<n<;>simp only[hi,c,if_true,if_false,Bool.true_eq_false,decide_eq_false_iff_not,decide_eq_true_eq]at a ⊢
  ·exact o.co i j hi c ne a
  ·omega
 ·unfold S9 at a ⊢;by_cases hi:i<n<;>by_cases c:j<n<;>simp only[hi,c,if_true,if_false,bM,decide_eq_false_iff_not,decide_eq_true_eq]at a ⊢
  ·exact o.as i j hi c a
  ·exact λz=>(bB z (be a))
end
section
def IF{vs:List ah}(o:O3 lt vs.length)(y:∀i j,i<vs.length->j<vs.length->∀C:Bool->ai->Prop,C (lt i j) s->aA (aD P w) A (keyLt' κ (vs.getD i .none) (vs.getD j .none)) C (λ_ _=>False) s) :
  aA (aD P w) A ((sortRuns').run (lA κ (vs.toArray.zip vs.toArray) #[] 7 b_)) (λr s'=>s'=s/\∃p:Array Nat,Pm p vs.length/\Up lt p vs.length/\arrOf r.2=p.map (L6 (vs.toArray.zip vs.toArray))/\failedOf r.2=b_) E s:=by
 have as:tF P w A s κ (L6 (vs.toArray.zip vs.toArray)) (S9 lt vs.length) vs.length:=λi j hi d C v=>by
  rw[JY hi d]at v;have e:=kas_item_eq vs;unfold pairsOf at e;rw[e i,e j];exact y i j hi d C v
 have q:lA κ (vs.toArray.zip vs.toArray) #[] 7 b_=pf κ (L6 (vs.toArray.zip vs.toArray)) (aK vs.length) [] 7:=by
  have e:=kas_range (vs.toArray.zip vs.toArray)
  grind
 rw[q]
 have run:=zG (E:=E) (g0:=7) (G:=λ_ k=>∃p:Array Nat,Pm p vs.length/\Up lt p vs.length/\arrOf k=p.map (L6 (vs.toArray.zip vs.toArray))/\failedOf k=b_)
  (S8 o) as (λx B=>a9.mp B) fB λl J g hp D=>by
   have pm:Pm l.toArray vs.length:=.of hp;refine⟨l.toArray,pm,λi j c d=>?_,by rw[List.map_toArray],rfl⟩;have hl:l.length=vs.length:=by simpa using hp.length_eq
   have:=eE.mp D i j (ab (c5 c d) (af hl.symm)) (ab d (af hl.symm)) c;have e1:pg l.toArray i=l[i]:=by simp[pg,show i<l.length by omega]
   have e2:pg l.toArray j=l[j]:=by simp_all
   rw[e1,e2,<-JY (lt:=lt) (e1▸pm.lt i (c5 c d)) (e2▸pm.lt j (by omega))];exact this
 exact c9 run (λr s' z=>⟨z.2,z.1⟩) λ_ _ e=>e
end
noncomputable def qu{α:Type}[DecidableEq α](f:α->α->Bool):List α->List α->Bool
 |[],[]=>d_
 |[],_::_=>c_
 |_::_,[]=>d_
 |x::xs,y::ys=>if x=y then qu f xs ys else f x y
structure LO{α:Type}(f:α->α->Bool):Prop where
 tr:∀a b c,f a b=c_->f b c=c_->f a c=c_
 co:∀a b,a≠b->f a b=d_->f b a=c_
 ir:∀a,f a a=d_
def LO.as (h:LO f)(x:f a b=c_):f b a=d_:=by
 cases q:f b a with
 |false=>rfl
 |true=>have:=h.tr _ _ _ x q;rw[h.ir]at this;cases this
def LO.int:LO (λi j:Int=>decide (i<j)):=
 ⟨λa b c x y=>by simp only[decide_eq_true_eq]at *;exact Int.le_of_lt (hV x y),λa b n x=>by grind,λa=>by simp⟩
section
variable{α:Type}[DecidableEq α]{f:α->α->Bool}
def k8{x y:α}{xs ys:List α}:qu f (x::xs) (y::ys)=if x=y then qu f xs ys else f x y:=rfl
def LO.lex(h:LO f):LO (qu f):=by
 refine⟨λa=>?_,λa=>?_,λa=>?_⟩
 ·induction a with
  |nil=>
    intro b c x y
    cases b with
    |nil=>cases x
    | cons _ _=>cases c with
      |nil=>cases y
      |cons _ _=>rfl
  |cons p a d=>
    intro b c x y
    cases b with
    |nil=>cases x
    |cons q b=>
      cases c with
      |nil=>cases y
      |cons r c=>
        rw[k8]at x y ⊢;by_cases e1:p=q
        ·subst e1
         grind
        ·rw[if_neg e1]at x;by_cases e2:q=r
         ·simp_all
         ·rw[if_neg e2]at y;have z:=h.tr _ _ _ x y;rw[if_neg λe=>by rw[<-e]at z;rw[h.ir]at z;cases z];exact z
 ·induction a with
  |nil=>
    intro b n x
    cases b with
    |nil=>exact absurd rfl n
    |cons _ _=>cases x
  |cons p a d=>
    intro b n x
    cases b with
    |nil=>rfl
    |cons q b=>
      rw[k8]at x ⊢;by_cases e:p=q
      ·grind
      ·rw[if_neg e]at x;rw[if_neg λz=>e z.symm];exact h.co _ _ e x
 ·induction a with
  |nil=>rfl
  |cons p a d=>rw[k8,if_pos rfl];exact d
end
abbrev JZ:List Int->List Int->Bool:=qu λi j=>decide (i<j)
abbrev Wq:List (List Int)->List (List Int)->Bool:=qu JZ
abbrev vS:List (List (List Int))->List (List (List Int))->Bool:=qu Wq
def N5:LO JZ:=LO.int.lex
def nv:LO vS:=LO.int.lex.lex.lex
def N6:JZ [i] [j]=decide (i<j):=by
 show(if i=j then d_ else decide (i<j))=decide (i<j);by_cases e:i=j
 ·rw[e];simp
 ·rw[if_neg e]
theorem yn:∀l l':List Nat,JZ (l.map eM) (l'.map eM)=decide (l<l')
 |[],[]=>by simp[JZ,qu]
 |[],_::_=>by simp[JZ,qu]
 |_::_,[]=>by simp[JZ,qu]
 |a::l,b::l'=>by
   have c:=yn l l';show(if eM a=eM b then JZ (l.map eM) (l'.map eM)else decide (eM a<eM b))=_;by_cases e:a=b
   ·simp_all
   ·rw[if_neg λz=>e (HE z)];refine decide_eq_decide.mpr ?_;rw[List.cons_lt_cons_iff]
    simp_all
noncomputable def cK:Key->List Int
 |.inl i=>[i]
 |.inr x=>x.cps.toList.map eM
noncomputable def iK:Key->Int
 |.inl i=>i
 |.inr _=>0
noncomputable def sK:Key->Bool
 |.inl _=>c_
 |.inr _=>d_
def c2:N2->List Int
 |.inl k=>cK k
 |.inr ks=>ks.map iK
def s2:N2->Nat
 |.inl (.inl _)=>0
 |.inl (.inr _)=>1
 |.inr ks=>if ks.all sK=c_ then 2 else 3
def sI:N2->Bool
 |.inl k=>sK k
 |.inr _=>d_
def U3:N2->Int
 |.inl k=>iK k
 |.inr _=>0
def cN:NK->List (List Int)
 |.inl k=>[cK k]
 |.inr ks=>if ks.all sI=c_ then [ks.map U3]else ks.map c2
def sN:NK->List Nat
 |.inl (.inl _)=>[0]
 |.inl (.inr _)=>[1]
 |.inr ks=>if ks.all sI=c_ then [2]else 3::ks.map s2
noncomputable def Ad:List Nat->Bool
 |3::l=>l.all λn=>decide (n<3)
 |_=>c_
theorem Kq:∀{x y:List Key},x.all sK=c_->y.all sK=c_->x.map iK=y.map iK->x=y
 |[],[],_,_,_=>rfl
 |[],_::_,_,_,h=>by cases h
 |_::_,[],_,_,h=>by cases h
 |.inl i::x,.inl j::y,c,d,h=>by
   simp only[aq,fH,iK]at h;simp only[dC,aj]at c d;rw[h.1,Kq c.2 d.2 h.2]
 |.inr _::_,_::_,c,_,_=>by simp[sK]at c
 |_::_,.inr _::_,_,d,_=>by simp[sK]at d
def Lj(hs:sK x=sK y)(h:cK x=cK y):x=y:=by
 cases x with
 |inl i=>
   cases y with
   |inl j=>simp only[cK,fH,and_true]at h;rw[h]
   |inr b=>cases hs
 |inr a=>
   cases y with
   |inl j=>cases hs
   |inr b=>
     have:=(HB (λ_ _ z=>HE z)).mp h;cases a;simp_all
def Lm(hs:s2 x=s2 y)(h3:s2 x<3)(h:c2 x=c2 y):x=y:=by
 cases x with
 |inl a=>
   cases y with
   |inl b=>rw[Lj (by cases a<;>cases b<;>first|rfl|cases hs) h]
   |inr ks=>cases a<;>(simp only[s2]at hs;grind)
 |inr ks=>
   cases y with
   |inl b=>cases b<;>(simp only[s2]at hs;grind)
   |inr c=>
     simp only[s2]at hs h3;by_cases c1:ks.all sK=c_
     ·rw[if_pos c1]at hs;by_cases c2:c.all sK=c_
      ·rw[Kq c1 c2 h]
      grind
     simp_all
theorem Kr:∀{x y:List N2},x.all sI=c_->y.all sI=c_->x.map U3=y.map U3->x=y
 |[],[],_,_,_=>rfl
 |[],_::_,_,_,h=>by cases h
 |_::_,[],_,_,h=>by cases h
 |.inl (.inl i)::x,.inl (.inl j)::y,c,d,h=>by
   simp only[aq,fH,U3,iK]at h;simp only[dC,aj]at c d;rw[h.1,Kr c.2 d.2 h.2]
 |.inl (.inr _)::_,_::_,c,_,_=>by simp[sI,sK]at c
 |.inr _::_,_::_,c,_,_=>by simp[sI]at c
 |_::_,.inl (.inr _)::_,_,d,_=>by simp[sI,sK]at d
 |_::_,.inr _::_,_,d,_=>by simp[sI]at d
theorem FC:∀{x y:List N2},x.map s2=y.map s2->(∀n∈x.map s2,n<3)->x.map c2=y.map c2->x=y
 |[],[],_,_,_=>rfl
 |[],_::_,h,_,_=>by cases h
 |_::_,[],h,_,_=>by cases h
 |a::x,b::y,h,h3,e=>by
   simp only[aq,fH]at h e;rw[Lm h.1 (h3 _ (by simp)) e.1,FC h.2 (λn c=>h3 n (by exact kD _ c)) e.2]
def Jz(h:Ad (3::l)=c_):∀n∈l,n<3:=λn c=>by
 have:=br.mp (h) n c;simpa using this
def uA(hs:sN x=sN y)(h3:Ad (sN x)=c_):(∃a b,x=.inl a/\y=.inl b/\sK a=sK b)\/(∃a b,x=.inr a/\y=.inr b/\a.all sI=c_/\b.all sI=c_)\/
  ∃a b,x=.inr a/\y=.inr b/\¬a.all sI=c_/\¬b.all sI=c_/\a.map s2=b.map s2/\∀n∈a.map s2,n<3:=by
 cases x with
 |inl a=>
   cases y with
   |inl b=>exact .inl ⟨a,b,rfl,rfl,by cases a<;>cases b<;>first|rfl|(simp[sN]at hs)⟩
   |inr ks=>exfalso;cases a<;>(simp only[sN]at hs;split at hs<;>simp at hs)
 |inr a=>
   cases y with
   |inl b=>exfalso;cases b<;>(simp only[sN]at hs;split at hs<;>simp at hs)
   |inr b=>
     simp only[sN]at hs h3;by_cases d:a.all sI=c_
     ·by_cases c:b.all sI=c_
      ·exact .inr (.inl ⟨a,b,rfl,rfl,d,c⟩)
      simp_all
     ·rw[if_neg d]at hs h3;by_cases c:b.all sI=c_
      ·simp_all
      ·rw[if_neg c]at hs;exact .inr (.inr ⟨a,b,rfl,rfl,d,c,(dQ hs).2,Jz h3⟩)
def Lh(hs:sN x=sN y)(h3:Ad (sN x)=c_)(h:cN x=cN y):x=y:=by
 rcases uA hs h3 with⟨a,b,rfl,rfl,q⟩|⟨a,b,rfl,rfl,c,d⟩|⟨a,b,rfl,rfl,c,d,g,j⟩
 ·rw[Lj q (dQ h).1]
 ·simp only[cN]at h;rw[if_pos c,if_pos d]at h;rw[Kr c d (dQ h).1]
 ·simp only[cN]at h;rw[if_neg c,if_neg d]at h;rw[FC g j h]
section
variable{A:bP}{z0:ai}
def JW{I:Ik P w}{α:Type}[DecidableEq α]{f:α->α->Bool}{c:I.κ->α}{R:I.κ->I.κ->Prop}{x y:List I.κ}{p b:aF}{G:Fin->ai->Prop}(i_:A.units+I.d<=dh)(ex:qZ I z0.heap x p)(ey:qZ I z0.heap y b)
  (hR:∀q∈x.zip y,R q.1 q.2)(ci:∀a b,R a b->c a=c b->a=b)
  (lt:∀(E:ah->ai->Prop)(a b:I.κ)(u v:ah)(Q:ah->ai->Prop),R a b->I.is z0.heap a u->I.is z0.heap b v->Q (.bool (f (c a) (c b))) z0->aA (aD P w) A (compareOp .Lt u v) Q E z0)
  (h:G (.done (.ret (.bool (qu f (x.map c) (y.map c))))) z0):aA (aD P w) A (fI.«tuple.__lt__» ⟨[.ref p,.ref b],[]⟩) G E z0:=by
 have L:=ey.typeIs;obtain⟨oa,xs,na,M,_,O,U⟩:=ex;obtain⟨ob,ys,nb,W,_,Y,Z⟩:=ey;show aA _ _ (isInstance (.ref b) (.type "tuple") >>= _) _ _ z0;refine wb9 (dq L p6 ?_);refine wb9 (jQ M O ?_);refine wb9 (jQ W Y ?_);refine wb9 ?_
 refine g9 _
  (λtl r J=>r.1=b_/\J=z0/\∃x' k g j,tl=List.zip g j/\qY I z0.heap x' g/\qY I z0.heap k j/\(∀q∈x'.zip k,R q.1 q.2)/\
   qu f (x'.map c) (k.map c)=qu f (x.map c) (y.map c)/\decide (g.length<j.length)=decide (xs.size<ys.size))
  _ ?_ ?_ _ _ ⟨rfl,rfl,x,y,xs.toList,ys.toList,rfl,U,Z,hR,rfl,by simp⟩
 ·rintro⟨u,v⟩ tl r J ⟨ge,rfl,x',k,g,j,gz,hx',hy',hr,gdec,glen⟩
  cases hx' with
  |nil=>simp at gz
  | @cons k1 u' x'' l h1 z=>
    cases hy' with
    |nil=>simp at gz
    | @cons k2 v' y'' B h2 D=>
      simp only[vJ,fH,HA]at gz;obtain⟨⟨rfl,rfl⟩,rfl⟩:=gz;rw[aq,aq,k8]at gdec;refine wb9 (I.eqb i_ h1 h2 (λgk=>?_) λgk=>?_)
      ·subst gk;refine wu9 ⟨rfl,rfl,x'',y'',l,B,rfl,z,D,λq hq=>hr q (kD _ hq),?_,by simpa using glen⟩
       simp_all
      ·rw[if_neg λe=>gk (ci _ _ (hr _ jE) e)]at gdec;rw[<-gdec]at h;refine wb9 (fS (wb9 (lt _ k1 k2 _ _ _ (hr _ jE) h1 h2 ?_)));exact wb9 (wu9 (wu9 (wu9 h)))
 ·rintro⟨r1,r2⟩ J ⟨ge,rfl,x',k,g,j,gz,hx',hy',hr,gdec,glen⟩;subst ge;refine wu9 ?_;show G (.done (.ret (.bool (decide (xs.size<ys.size))))) J;rw[<-gdec,]at h;rw[<-glen]
  cases hx' with
  |nil=>
    cases hy' with
    |nil=>exact h
    |cons _ _=>exact h
  |cons _ _=>
    cases hy' with
    |nil=>exact h
    |cons _ _=>simp at gz
def ym{I:Ik P w}{α:Type}[DecidableEq α]{f:α->α->Bool}{c:I.κ->α}{R:I.κ->I.κ->Prop}{x y:List I.κ}{p b:aF}{Q:ah->ai->Prop}(z:A.units+(I.d+1)<=dh)(ex:qZ I z0.heap x p)(g:qZ I z0.heap y b)
  (k:∀q∈x.zip y,R q.1 q.2)(l:∀a b,R a b->c a=c b->a=b)
  (lt:∀(j:bP)(E:ah->ai->Prop)(a b:I.κ)(u v:ah)(Q:ah->ai->Prop),j.units=A.units+1->R a b->I.is z0.heap a u->I.is z0.heap b v->Q (.bool (f (c a) (c b))) z0->aA (aD P w) j (compareOp .Lt u v) Q E z0)
  (h:Q (.bool (qu f (x.map c) (y.map c))) z0):aA (aD P w) A (compareOp .Lt (.ref p) (.ref b)) Q E z0:=by
 show aA _ _ (richCompare .Lt (.ref p) (.ref b)) _ _ _
 exact Bx ex.typeIs g.typeIs yY
  (bH yY ex.typeIs PySem.F.entry_tuple_lt (JW (by show A.units+1+I.d<=dh;omega) ex g k l (λE a b u v Q=>lt _ E a b u v Q rfl) ⟨_,rfl,(λe=>nomatch e),h⟩) (PySem.F.args_tuple_lt_2 _ _)) (by omega)
def tU(h:(cv P w).is k v=c_)(hs:sK k=c_):∃t,v=.int (iK k) t:=by
 cases k with
 |inl i=>
   rcases cG (k:=.inl i) h with⟨c,t,e,rfl⟩|⟨x,t,e,_⟩
   ·cases e;exact⟨t,rfl⟩
   ·cases e
 |inr x=>cases hs
def JV(hs:sK a=sK b)(ex:(cv P w).is a u=c_)(d:(cv P w).is b v=c_)(h:Q (.bool (JZ (cK a) (cK b))) z0):aA (aD P w) A (compareOp .Lt u v) Q E z0:=by
 cases a with
 |inl i=>
   cases b with
   |inr _=>cases hs
   |inl j=>
     obtain⟨g,rfl⟩:=tU ex rfl;obtain⟨l,rfl⟩:=tU d rfl;refine nM ?_;rw[show cK (.inl i)=[i]from rfl,show cK (.inl j)=[j]from rfl,N6]at h;exact h
 |inr a=>
   cases b with
   |inl _=>cases hs
   |inr c=>
     rcases cG (k:=.inr a) ex with⟨q,t,e,_⟩|⟨x1,g,e1,rfl⟩
     ·cases e
     ·rcases cG (k:=.inr c) d with⟨q,t,e,_⟩|⟨y,l,e2,rfl⟩
      ·cases e
      ·cases e1;cases e2;refine PyProof.Rows.lt_str ?_;have:=yn a.cps.toList c.cps.toList;rw[show cK (.inr a)=a.cps.toList.map eM from rfl,show cK (.inr c)=c.cps.toList.map eM from rfl,this]at h;exact h
def EJ(ha:sK a=c_)(hb:sK b=c_)(ex:(cv P w).is a u=c_)(c:(cv P w).is b v=c_)(h:Q (.bool (decide (iK a<iK b))) z0):aA (aD P w) A (compareOp .Lt u v) Q E z0:=by
 obtain⟨d,rfl⟩:=tU ex ha;obtain⟨g,rfl⟩:=tU c hb;exact nM h
def FG{α:Type}{p:α->Bool}{x y:List α}(d:x.all p=c_)(g:y.all p=c_):∀q∈x.zip y,p q.1=c_/\p q.2=c_:=λq c=>
 ⟨br.mp d _ (ji c).1,br.mp g _ (ji c).2⟩
def JX{x y:N2}{u v:ah}{Q:ah->ai->Prop}(k:A.units+1<=dh)(ex:(i2 P w).is z0.heap x u)(g:(i2 P w).is z0.heap y v)(hs:s2 x=s2 y)(h3:s2 x<3)(h:Q (.bool (JZ (c2 x) (c2 y))) z0) :
  aA (aD P w) A (compareOp .Lt u v) Q E z0:=by
 cases x with
 |inl a=>
   cases y with
   |inl b=>exact JV (by cases a<;>cases b<;>first|rfl|cases hs) ex g h
   |inr ks=>cases a<;>(simp only[s2]at hs;split at hs<;>cases hs)
 |inr ks=>
   cases y with
   |inl b=>cases b<;>(simp only[s2]at hs;split at hs<;>cases hs)
   |inr d=>
     obtain⟨p,rfl,q⟩:=ex;obtain⟨b,rfl,l⟩:=g;simp only[s2]at hs h3;by_cases c1:ks.all sK=c_
     ·rw[if_pos c1]at hs;by_cases c2:d.all sK=c_
      ·exact ym (R:=λa b=>sK a=c_/\sK b=c_) k q l (FG c1 c2) (λa b c e=>by
         match a,b,c,e with
         |.inl i,.inl j,_,e=>exact congrArg _ e) (λB D a b u v Q _ c e1 e2 z=>EJ c.1 c.2 e1 e2 z) h
      simp_all
     simp_all
def yo:Wq [a] [b]=JZ a b:=by
 rw[Wq,k8];by_cases e:a=b
 ·rw[if_pos e,e,N5.ir];rfl
 ·rw[if_neg e]
theorem EH{α β:Type}{f:α->β}:∀{x y:List α},x.map f=y.map f->∀q∈x.zip y,f q.1=f q.2
 |[],_,_,_,h=>by simp at h
 |_::_,[],_,_,h=>by simp at h
 |a::x,b::y,h,q,c=>by
   obtain⟨h1,h2⟩:=dQ h
   rcases au.mp c with rfl|c
   ·exact h1
   ·exact EH h2 q c
def N4(B:A.units+2<=dh)(ex:YK P w z0.heap x u)(l:YK P w z0.heap y v)(hs:sN x=sN y)(h3:Ad (sN x)=c_)(h:Q (.bool (Wq (cN x) (cN y))) z0) :
  aA (aD P w) A (compareOp .Lt u v) Q E z0:=by
 rcases uA hs h3 with⟨a,b,rfl,rfl,q⟩|⟨a,b,rfl,rfl,g,k⟩|⟨a,b,rfl,rfl,g,k,D,J⟩
 ·simp only[cN]at h;rw[yo]at h;exact JV q ex l h
 ·simp only[cN]at h;rw[if_pos g,if_pos k,yo]at h;obtain⟨p,rfl,r⟩:=ex;obtain⟨b,rfl,z⟩:=l;refine ym (R:=λa b=>sI a=c_/\sI b=c_) B r z (FG g k) (λa b c e=>?_) (λL M a b u v Q _ c e1 e2 d=>?_) h
  ·match a,b,c,e with
   |.inl (.inl i),.inl (.inl j),_,e=>exact congrArg _ (congrArg _ e)
  ·match a,b,c,e1,e2,d with
   |.inl a,.inl b,c,e1,e2,d=>exact EJ c.1 c.2 e1 e2 d
 ·simp only[cN]at h;rw[if_neg g,if_neg k]at h;obtain⟨p,rfl,r⟩:=ex;obtain⟨b,rfl,z⟩:=l;refine ym (R:=λa b=>s2 a=s2 b/\s2 a<3) B r z (λq d=>⟨EH D q d,J _ (cH (ji d).1)⟩) (λa b c e=>Lm c.1 c.2 e) (λL M a b u v Q O c e1 e2 d=>?_) h;exact JX (by rw[O];omega) e1 e2 c.1 c.2 d
end
end L2
namespace L2
open PySem PySem.Spec PyProof.Rows
def A8:entryFor table "set.__iter__"=a_ fI.«frozenset.__iter__» :=BN (id':="frozenset.__iter__") (by kernel_rfl) rfl (by decide +kernel) (by kernel_rfl)
def pz:entryFor table "set_iterator.__next__"=a_ fI.«set_iterator.__next__» :=entryFor_of_tree (by kernel_rfl)
def fe:L7 "set_iterator" "__next__" "set_iterator.__next__":=.of (owner:="set_iterator") (n:="__next__") (by kernel_rfl) (by decide +kernel) (by decide +kernel) (by decide +kernel) (.inl (by decide +kernel)) (by kernel_rfl)
def Wb:FT.lookup (L3 ['r','o','t','a','r','e','t','i','_','t','e','s'].reverse)=a_ Manifest.sig_set_iterator:=by kernel_rfl
def pB(a:ah):argsOk "set_iterator.__next__" ⟨[a],[]⟩:=by
 kernel_rfl
theorem pP{α:Type}:∀{xs:List α}{i:Nat}(h:i<xs.length),(xs[i]::xs.eraseIdx i).Perm xs
 |x::r,0,_=>by simp
 |x::r,i+1,h=>by
   have:=pP (by simpa using h);exact(List.Perm.swap _ _ _).trans (this.cons x)
theorem Eh{α:Type}(nx:Nat->Nat):∀(fuel k:Nat)(left:List α)(out:Array α),left.length<=fuel->(vE nx fuel k left out).toList.Perm (out.toList++left)
 |0,k,left,out,h=>by
   obtain rfl:left=[]:=jr.mp (bI h (aP _));simp only[vE,az];exact .refl _
 |fuel+1,k,left,out,h=>by
   simp only[vE]
   cases q:left[nx k % left.length]? with
   |none=>
     have:left=[]:=by
      cases left with
      |nil=>rfl
      |cons x r=>
        have c:nx k % (x::r).length<(x::r).length:=jq _ (by simp);rw[ae c]at q;cases q
     subst this;simp
   |some x=>
     obtain⟨c,e⟩:=aN.mp q;have d:=Eh nx fuel (k+1) (left.eraseIdx (nx k % left.length)) (out.push x) (by grind);refine d.trans ?_;rw[HF,aC];refine jC _ ?_;rw[<-e];exact pP c
def rJ{α:Type}(nx:Nat->Nat)(xs:Array α):(pickOrder nx xs).toList.Perm xs.toList:=by
 have:=Eh nx xs.size 0 xs.toList #[] (by simp);simpa [pickOrder]using this
section
def Hi(c:n≠0)(k:∀i d,i<n->Q i { s with drawn:=d }):aA (aD prog w) A (choose src n) Q E s:=λΓ p _=>by
 exact⟨c,k _ _ (jq _ (fJ c))⟩
theorem Fh{α:Type}:∀(n:Nat)(xs:List α)(s:ai){Q:List α->ai->Prop},xs.length<=n->(∀ys d,ys.Perm xs->Q ys { s with drawn:=d })->aA (aD prog w) A (drawOrder n xs) Q E s
 |0,xs,s,Q,h,k=>by
   obtain rfl:xs=[]:=jr.mp (bI h (aP _));exact wu9 (k [] s.drawn (.refl _))
 |n+1,[],s,Q,h,k=>wu9 (k [] s.drawn (.refl _))
 |n+1,x::r,s,Q,h,k=>by
   refine wb9 (Hi (by simp) λi d c=>?_);rw[ae c];refine wb9 (Fh n ((x::r).eraseIdx i) _ (by grind) λys d pm=>wu9 (k _ d ?_));exact(pm.cons _).trans (pP c)
end
inductive Mode where
 |tx|dr (T:aF) (ps:List Nat)|pl
noncomputable def slotAt(t:bq):Nat->Nat
 |0=>0
 |i+1=>t.place.getD i 0+1
def Mode.first(t:bq)(i:Nat):Mode->ah
 |.tx=>rawInt 0
 |.dr T _=>.ref T
 |.pl=>rawInt (slotAt t i)
def Mode.Ok(w:cZ)(es:Array (Int×ah))(t:bq)(h:cc)(I:aF):Mode->Prop
 |.tx=>w.params.followText "set-order"=c_
 |.dr T ps=>T≠I/\ps.Perm (aK es.size)/\h.get? T=a_ { cls:=.type "tuple",data:=.seq (ps.map λ(p:Nat)=>rawInt p).toArray }
 |.pl=>w.params.followText "set-order"=d_/\(!t.plain && decide (es.size > 1))=d_
noncomputable def Mode.ord(w:cZ)(S:aF)(es:Array (Int×ah))(ep:Nat):Mode->List ah
 |.tx=>(pickOrder (w.params.setOrder S ep) es).toList.map (·.2)
 |.dr _ ps=>ps.map λp=>(es[p]?.map (·.2)).getD .none
 |.pl=>es.toList.map (·.2)
def Mode.uJ:∀{m:Mode},m.Ok w es t h I->(m.ord w S es ep).Perm (es.toList.map (·.2))
 |.tx,_=>(rJ _ _).map _
 |.dr T ps,h=>by
   refine(h.2.1.map _).trans ?_;rw[show(aK es.size).map (λp=>(es[p]?.map (·.2)).getD eU)=es.toList.map (·.2)from ?_];apply iX (by simp);intro n h1 h2;simp at h1 h2;simp[h1]
 |.pl,_=>.refl _
structure Br(w:cZ)(h:cc)(I S:aF)(es:Array (Int×ah))(ep:Nat)(t:bq)(m:Mode)(i:Nat):Prop where
 it:h.get? I=a_ { cls:=.type "set_iterator",data:=.fields #[m.first t i,rawInt i,.ref S,rawInt es.size,rawInt ep] }
 st:jZ (nZ w) h S es ep t
 md:m.Ok w es t h I
 ne:S≠I
section
variable{w:cZ}{s:ai}{m:Mode}
def Mode.Ok.keep{h':cc}(y:m.Ok w es t h I)(k:∀b o,b≠I->h.get? b=a_ o->h'.get? b=a_ o):m.Ok w es t h' I:=by
 cases m with
 |dr T ps=>exact⟨y.1,y.2.1,k _ _ y.1 y.2.2⟩
 |_=>exact y
def oV(k:Q (w.params.followText "set-order") s):aA (aD prog w) A setsByText Q E s:=by
 exact wb9 (xE (wu9 k))
def Mm(y:jZ (nZ w) s.heap S es ep t)(h:w.params.followText "set-order"=c_)(k:Q (pickOrder (w.params.setOrder S ep) es) s):aA (aD prog w) A (setWalk S) Q E s:=by
 refine wb9 (de y.obj rfl y.fits ?_);refine wb9 (oV ?_);rw[h];exact wb9 (xE (wu9 k))
def uG(y:jZ (nZ w) s.heap S es ep t):t.place.size=es.size:=by
 have:=y.fits;simp only[lN,aj,beq_iff_eq]at this;exact this.1
def Eu(y:jZ (nZ w) s.heap S es ep t)(h:w.params.followText "set-order"=d_)(hd:(!t.plain && decide (es.size > 1))=d_)(hi:i<=es.size)
  (k:Q (match es[i]? with|some x=>a_ (x.2,slotAt t (i+1))|none=>b_) s):aA (aD prog w) A (setNext S (slotAt t i) g e) Q E s:=by
 refine wb9 (de y.obj rfl y.fits ?_);refine wb9 (oV ?_);rw[h];show aA (aD prog w) A (if(!t.plain && decide (es.size > 1))=c_ then _ else _) Q E s;rw[hd];show aA (aD prog w) A ((if(!t.led && !es.isEmpty)=c_ then _ else pure ()) >>= _) Q E s;rw[y.ok.l,nZ,h];refine wb9 (wu9 (wu9 ?_))
 have hb:aI t.place (slotAt t i)=i:=by
  cases i with
  |zero=>exact Lo y.ok.r
  |succ j=>
    have d:j<t.place.size:=by rw[uG y];exact hi
    show aI t.place (t.place.getD j 0+1)=j+1;rw[show t.place.getD j 0=t.place[j] by simp_all];exact Lp y.ok.r d
 rw[hb]
 cases q:es[i]? with
 |none=>rw[q]at k;exact k
 |some x=>
   rw[q]at k
   have c:i<es.size:=by
    rcases bO.mp q with⟨a,_⟩;exact a
   have hp:t.place[i]?=a_ (t.place[i]'(by rw[uG y];exact c)):=aS _;rw[hp];simp only[slotAt]at k
   simp_all
def Et{sl:Nat}(y:jZ (nZ w) s.heap S es ep t)(h:w.params.followText "set-order"=c_)(k:Q (((pickOrder (w.params.setOrder S ep) es)[i]?).map λe=>(e.2,sl)) s):aA (aD prog w) A (setNext S sl i ep) Q E s:=by
 refine wb9 (de y.obj rfl y.fits ?_);refine wb9 (oV ?_);rw[h];simp only[bne_self_eq_false,bM,if_false];exact wb9 (Mm y h (wu9 k))
def NQ(y:jZ (nZ w) s.heap S es ep t)(c:es[p]?=a_ x)(k:Q x.2 s):aA (aD prog w) A (setNextDrawn S p ep) Q E s:=by
 refine wb9 (de y.obj rfl y.fits ?_);simp only[bne_self_eq_false,bM,if_false];rw[c];exact wu9 k
def Kd{c:ah}(y:Br w s.heap I S es ep t m i)(k:∀h',Br w h' I S es ep t m (i+1)->cj I s.heap h'->Q (.done (.ret r)) { s with heap:=h' })(hf:a=m.first t (i+1))(hb:b=rawInt ((i:Int)+1)) :
  aA (aD prog w) A (do setField (.ref I) 0 a;setField (.ref I) 1 b;ret r) Q E s:=by
 subst hf;subst hb;refine wb9 (bG y.it (by simp) λh1 d s1=>wb9 (bG d (by simp) λh2 g s2=>wu9 ?_));have kp:∀b o,b≠I->s.heap.get? b=a_ o->h2.get? b=a_ o:=λb o n e=>s2.extBut _ _ n (s1.extBut _ _ n e);refine k h2 ⟨?_,y.st.keep λo e=>kp _ _ y.ne e,y.md.keep kp,y.ne⟩ (s1.trans s2);rw[g];simp
end
section
variable{A:bP}{s:ai}
def DV(y:Br w s.heap I S es ep t m i)
  (k:aA (aD prog w) A (if let .int slot _:=m.first t i then do
    match <-setNext S slot.toNat (i:Int).toNat (ep:Int).toNat with
    |some (x,next)=>do setField (.ref I) 0 (rawInt next);setField (.ref I) 1 (rawInt ((i:Int)+1));ret x
    |none=>do setField (.ref I) 2 .none;raiseNew (<-newExc (.type "StopIteration") [])
   else do
    let a_ places <-seqItems? (m.first t i)|unsupported "internal:set_iterator"
    match places[(i:Int).toNat]? with
    |some (.int place _)=>do let x <-setNextDrawn S place.toNat (ep:Int).toNat;setField (.ref I) 1 (rawInt ((i:Int)+1));ret x
    |some _=>unsupported "internal:set_iterator"
    |none=>do setField (.ref I) 0 (rawInt 0);setField (.ref I) 2 .none;raiseNew (<-newExc (.type "StopIteration") [])) Q E s) :
  aA (aD prog w) A (fI.«set_iterator.__next__» ⟨[.ref I],[]⟩) Q E s:=by
 show aA (aD prog w) A (fieldsOf (.ref I) >>= _) Q E s;refine wb9 (wpAny_fieldsOf y.it rfl ?_);refine wb9 (Pa y.st.obj rfl y.st.fits ?_);simp only[bne_self_eq_false,bM,if_false];exact k
def tP{α:Type}{Q:α->ai->Prop}(c:A.handled=b_)(k:∀h' e,(∀b o,s.heap.get? b=a_ o->h'.get? b=a_ o)->(∃o,h'.get? e=a_ o/\o.cls=.type "StopIteration")->E (.ref e) { s with heap:=h' }) :
  aA (aD prog w) A (do raiseNew (<-newExc (.type "StopIteration") []):zp α) Q E s:=by
 refine wb9 ?_;refine wb9 (df (wb9 (j3 (by first|rfl|(rfl)) (df ?_ (by size_fits)))) (by size_fits));refine wb9 (wpAny_handled ?_);rw[c];exact wb9 (wu9 (wpAny_throw (k _ _ (λb o e=>hp9 _ (hp9 _ e)) ⟨_,aG _ rfl,rfl⟩)))
def MN{Q:ah->ai->Prop}(y:Br w s.heap I S es ep t m i)(hi:i<es.size)(k:∀h' v,(m.ord w S es ep)[i]?=a_ v->Br w h' I S es ep t m (i+1)->cj I s.heap h'->Q v { s with heap:=h' }) :
  aA (aD prog w) A (fI.«set_iterator.__next__» ⟨[.ref I],[]⟩) (λf s'=>∃v,f=.done (.ret v)/\Q v s') E s:=by
 refine DV y ?_
 cases m with
 |tx=>
   show aA (aD prog w) A (setNext S 0 i ep >>= _) _ E s;refine wb9 (Et y.st y.md ?_)
   have q:(pickOrder (w.params.setOrder S ep) es).size=es.size:=by
    have:=(rJ (w.params.setOrder S ep) es).length_eq;simpa using this
   have hl:i<(pickOrder (w.params.setOrder S ep) es).size:=by rw[q];exact hi
   rw[aS hl];refine Kd (c:=.none) y (λh' g j=>⟨_,rfl,k h' _ ?_ g j⟩) rfl rfl;simp only[Mode.ord,aM,ip]
   simp_all
 |dr T ps=>
   obtain⟨J,l,z⟩:=id y.md;refine wb9 (cU z rfl ?_);have hl:ps.length=es.size:=by rw[l.length_eq,aW]
   have d:i<ps.length:=ab hi (af hl.symm);have hp :=a9.mp (l.mem_iff.mp (bA d));have B:((ps.map λ(p:Nat)=>rawInt p).toArray)[(i:Int).toNat]?=a_ (rawInt (ps[i])):=by simp[d]
   dsimp only;rw[B];refine wb9 (NQ y.st (aS hp) ?_);refine wb9 (bG y.it (by simp) λh1 D s1=>wu9 ⟨_,rfl,k h1 _ ?_ ⟨?_,y.st.keep λo e=>s1.extBut _ _ y.ne e,y.md.keep λb o n e=>s1.extBut _ _ n e,y.ne⟩ s1⟩)
   ·simp only[Mode.ord,aM]
    simp_all
   ·rw[D];simp[Mode.first,rawInt]
 |pl=>
   refine wb9 (Eu y.st y.md.1 y.md.2 (be hi) ?_);rw[aS hi];refine Kd (c:=.none) y (λh' g j=>⟨_,rfl,k h' _ ?_ g j⟩) rfl rfl;simp[Mode.ord,hi]
def Q7(d:A.handled=b_)(y:Br w s.heap I S es ep t m es.size)(k:∀h' e,(∀b o,b≠I->s.heap.get? b=a_ o->h'.get? b=a_ o)->(∃o,h'.get? e=a_ o/\o.cls=.type "StopIteration")->E (.ref e) { s with heap:=h' }) :
  aA (aD prog w) A (fI.«set_iterator.__next__» ⟨[.ref I],[]⟩) Q E s:=by
 refine DV y ?_
 cases m with
 |tx=>
   show aA (aD prog w) A (setNext S 0 es.size ep >>= _) _ E s;refine wb9 (Et y.st y.md ?_)
   have j:(pickOrder (w.params.setOrder S ep) es).size=es.size:=by
    have:=(rJ (w.params.setOrder S ep) es).length_eq;simpa using this
   rw[gW (af j)];refine wb9 (bG y.it (by simp) λh1 g s1=>?_);exact tP d λh' e kp c=>k h' e (λb o n q=>kp _ _ (s1.extBut _ _ n q)) c
 |dr T ps=>
   obtain⟨z,l,v⟩:=id y.md;refine wb9 (cU v rfl ?_);have hl:ps.length=es.size:=by rw[l.length_eq,aW]
   dsimp only;rw[gW (by simp[hl])];refine wb9 (bG y.it (by simp) λh1 g s1=>wb9 (bG g (by simp) λh2 B s2=>?_));exact tP d λh' e kp c=>k h' e (λb o n q=>kp _ _ (s2.extBut _ _ n (s1.extBut _ _ n q))) c
 |pl=>
   refine wb9 (Eu y.st y.md.1 y.md.2 (ao _) ?_);rw[gW (ao _)];refine wb9 (bG y.it (by simp) λh1 g s1=>?_);exact tP d λh' e kp c=>k h' e (λb o n q=>kp _ _ (s1.extBut _ _ n q)) c
def Br.ty(y:Br w s.heap I S es ep t m i):s.TypeIs (.ref I) "set_iterator":=⟨_,y.it,rfl⟩
def MJ(y:Br w s.heap I S es ep t m i)(hi:i<es.size)(k:∀h' v,(m.ord w S es ep)[i]?=a_ v->Br w h' I S es ep t m (i+1)->cj I s.heap h'->Q (a_ v) { s with heap:=h' }) :
  aA (aD prog w) A (pyNext (.ref I)) Q E s:=by
 exact wb9 (iR (cx y.ty fe (bH fe y.ty pz (MN y hi λh' v a b c=>wu9 (k h' v a b c)) (pB _))))
def Q4(c:A.handled=b_)(y:Br w s.heap I S es ep t m es.size)(k:∀h',(∀b o,b≠I->s.heap.get? b=a_ o->h'.get? b=a_ o)->Q b_ { s with heap:=h' }) :
  aA (aD prog w) A (pyNext (.ref I)) Q E s:=by
 refine wb9 (iR (cx y.ty fe (bH fe y.ty pz (Q7 c y λh' e kp d=>?_) (pB _))));obtain⟨o,ho,g⟩:=d;exact wb9 (dq ⟨o,ho,g⟩ BM (wu9 (k _ kp)))
end
def vX:entryFor table "set_iterator.__iter__"=a_ fI.«dict_keyiterator.__iter__» :=BN (id':="dict_keyiterator.__iter__") (by kernel_rfl) rfl (by decide +kernel) (by kernel_rfl)
def ph:L7 "set_iterator" "__iter__" "set_iterator.__iter__":=.of (owner:="set_iterator") (n:="__iter__") (by kernel_rfl) (by decide +kernel) (by decide +kernel) (by decide +kernel) (.inl (by decide +kernel)) (by kernel_rfl)
def vZ(a:ah):argsOk "set_iterator.__iter__" ⟨[a],[]⟩:=by
 kernel_rfl
noncomputable def Mode.fp:Mode->List aF
 |.dr T _=>[T]
 |_=>[]
section
variable{A:bP}{s:ai}{es:Array (Int×ah)}{m:Mode}
def Br.frame{h':cc}(y:Br w h I S es ep t m i)(k:∀b∈I::S::m.fp,∀o,h.get? b=a_ o->h'.get? b=a_ o):Br w h' I S es ep t m i:=by
 refine⟨k I (.head _) _ y.it,y.st.keep λo e=>k S (.tail _ (.head _)) o e,?_,y.ne⟩
 cases m with
 |dr T ps=>exact⟨y.md.1,y.md.2.1,k T (.tail _ (.tail _ (.head _))) _ y.md.2.2⟩
 |tx=>exact y.md
 |pl=>exact y.md
def zL(hh:A.handled=b_):Walks prog w A I (I::S::m.fp) [I] es.size (λi v=>(m.ord w S es ep)[i]?=a_ v) (λi h=>Br w h I S es ep t m i) where
 sub:=λb hb=>by rw[aL.mp hb];exact .head _
 frame:=λi h h' st k=>st.frame k
 item:=λi s Q E hi st k=>MJ st hi λh' v a b c=>k v h' s.toks a b λb o hb e=>c.extBut _ _ (λz=>hb (z▸aL.mpr rfl)) e
 done:=λs Q E st k=>Q4 hh st λh' kp=>k h' s.toks λb o hb e=>kp b o (λz=>hb (z▸aL.mpr rfl)) e
 self:=λi s Q E st k=>by
  refine vB st.ty ph (bH ph st.ty vX ?_ (vZ _));show aA _ _ (ret (.ref I)) _ _ s;exact wu9 ⟨_,rfl,"set_iterator",_,st.ty,fe.lookup,k⟩
def Cs(y:jZ (nZ w) s.heap S es ep t)(l:es.size<=ax)
  (k:∀(h1:cc)d I m,s.heap.objs.size<=I->(∀b∈m.fp,s.heap.objs.size<=b)->(∀b o,s.heap.get? b=a_ o->h1.get? b=a_ o)->Br w h1 I S es ep t m 0->Q (.ref I) { s with heap:=h1,drawn:=d }) :
  aA (aD prog w) A (HN (.ref S)) Q E s:=by
 have ty:s.TypeIs (.ref S) "set":=⟨_,y.obj,rfl⟩
 have lt:=hl9 y.obj;refine vB ty yZ (bH yZ ty A8 ?_ (PySem.F.args_set_iter_1 _));show aA (aD prog w) _ (L8 S >>= _) _ _ s;refine wb9 (wb9 (Pa y.obj rfl y.fits (wu9 ?_)))
 have dr:∀{g:bP}{j:ah->ai->Prop}{Q1:Bool->ai->Prop},Q1 (!w.params.followText "set-order" && (!t.plain && decide (es.size > 1))) s->aA (aD prog w) g (setDrawn S) Q1 j s:=by
  intro g j Q1 h;refine wb9 (de y.obj rfl y.fits ?_);exact wb9 (oV (wu9 h))
 have one:∀{g:bP} {j:ah->ai->Prop} {Q1:Fin->ai->Prop} {m:Mode} (s1:ai) (f:ah),f=m.first t 0->m.Ok w es t s1.heap s1.heap.objs.size->s.heap.objs.size<=s1.heap.objs.size->(∀b o,s.heap.get? b=a_ o->s1.heap.get? b=a_ o)->
   (∀h1,h1=s1.heap.push { cls:=.type "set_iterator",data:=.fields #[m.first t 0,rawInt (0),.ref S,rawInt es.size,rawInt ep] }->Br w h1 s1.heap.objs.size S es ep t m 0->Q1 (.done (.ret (.ref s1.heap.objs.size))) { s1 with heap:=h1 })->
   aA (aD prog w) g (do ret (<-newFields "set_iterator" [f,rawInt 0,.ref S,rawInt es.size,rawInt (<-setEpoch S)])) Q1 j s1:=by
  intro g j Q1 m s1 f hf ok le ex h;have c:=y.keep λo e=>ex _ _ e;refine wb9 (wpAny_setEpoch_of c.obj rfl c.fits ?_);refine wb9 ?_;refine df ?_ (by size_fits);subst hf;exact wu9 (h _ rfl ⟨aG _ rfl,c.keep λo e=>hp9 _ e,ok.keep λb o n e=>hp9 _ e,bo (aV lt le)⟩)
 refine wb9 (dr ?_)
 cases hb:w.params.followText "set-order" with
 |true=>
   refine wb9 (wu9 ?_);refine one (m:=.tx) s _ rfl hb (ao _) (λb o e=>e) λh1 e1 c=>⟨_,rfl,"set_iterator",_,c.ty ,fe.lookup,?_⟩
   subst e1;exact k _ s.drawn _ .tx (ao _) (λb h=>by cases h) (λb o e=>hp9 _ e) c
 |false=>
   cases hd:(!t.plain && decide (es.size > 1))with
   |false=>
     refine wb9 (wu9 ?_);refine one (m:=.pl) s _ rfl ⟨hb,hd⟩ (ao _) (λb o e=>e) λh1 e1 c=>⟨_,rfl,"set_iterator",_,c.ty ,fe.lookup,?_⟩
     subst e1;exact k _ s.drawn _ .pl (ao _) (λb h=>by cases h) (λb o e=>hp9 _ e) c
   |true=>
     refine wb9 (Fh es.size (aK es.size) s (by simp) λps d pm=>?_);have hl:ps.length=es.size:=by rw[pm.length_eq,aW]
     refine wb9 (BK ?_ (by simp_all));refine one (m:=.dr s.heap.objs.size ps) _ _ rfl ⟨?_,pm,?_⟩ ?_ ?_ ?_
     ·simp
     ·exact aG _ rfl
     ·simp
     ·exact λb o e=>hp9 _ e
     ·intro h1 e1 c;refine⟨_,rfl,"set_iterator",_,c.ty ,fe.lookup,?_⟩;subst e1;refine k _ d _ _ ?_ ?_ ?_ c
      ·simp
      ·intro b hb;rw[aL.mp hb];exact ao _
      ·exact λb o e=>hp9 _ (hp9 _ e)
end
section
variable{A:bP}{s:ai}
def Q3:splitId "set.__len__"=a_ ("set","__len__"):=by decide +kernel
def Q2:splitId "str.__len__"=a_ ("str","__len__"):=by decide +kernel
def QH:isSubtype (.type "str") (.type "str")=pure c_:=by kernel_rfl
def Kt(ty:s.TypeIs v "set")(k:Q d_ s):aA M A (p9 v) Q E s:=by
 refine wb9 (fi ty PySem.F.slot_set_len.lookup ?_);refine wb9 (dq ty sub_set_self ?_);refine wb9 (iw ty ?_);exact wu9 k
def Ks(ty:s.TypeIs v "str")(k:Q d_ s):aA M A (p9 v) Q E s:=by
 refine wb9 (fi ty PySem.F.slot_str_len.lookup ?_);refine wb9 (dq ty QH ?_);refine wb9 (iw ty ?_);exact wu9 k
def CW{ord:List ah}(h:ItemsOf (λi v=>ord[i]?=a_ v) acc ord.length):acc.toList=ord:=by
 obtain⟨h1,h2⟩:=h;apply jK;intro i;by_cases hi:i<acc.size
 ·have:=h2 i acc[i] (aS hi)
  simp_all
 simp_all
def sZ(hh:A.handled=b_)(y:jZ (nZ w) s.heap S es ep t)(Y:es.size<=ax)
  (k:∀h1 d tk vs,(∀b o,s.heap.get? b=a_ o->h1.get? b=a_ o)->s.heap.objs.size<=h1.objs.size->vs.Perm (es.toList.map (·.2))->Q vs { s with heap:=h1,drawn:=d,toks:=tk }):aA (aD prog w) A (collect (.ref S)) Q E s:=by
 refine wb9 (rf (dS tH ?_));refine wb9 (df ?_);refine wu9 (ue (fM v8 _) (dS v9 ?_));have lt:=hl9 y.obj;generalize j:s.heap.objs.size=L;generalize l:({ cls:=.type "list",data:=.seq ([]).toArray }:kL)=lo;have Z:jZ (nZ w) (s.heap.push lo) S es ep t:=y.keep λo e=>hp9 _ e;have gL:(s.heap.push lo).get? L=a_ { cls:=.type "list",data:=.seq (#[]) }:=by rw[<-j];exact(aG _ (by rw[<-l];rfl)).trans (by rw[<-l])
 have D:(s.heap.push lo).objs.size=L+1:=by rw[eh,j]
 have ne:L≠S:=by rw[<-j];exact lG lt
 have ty:pE { s with heap:=s.heap.push lo } (.ref S) "set":=⟨_,Z.obj,rfl⟩
 show aA _ A.in1 (qa (.ref L) (.ref S) (.ref L)) _ _ { s with heap:=s.heap.push lo };refine wb9 (iw ty ?_);have b1:su (.ref L) (.ref S)=d_:=by simp[su,ne]
 have b2:(iN "set" == iN "list")=d_:=by decide
 have b3:(iN "set" == iN "tuple")=d_:=by decide
 simp only[b1,b2,b3,Bool.or_false,bM,if_false];refine wb9 (Cs Z Y λh1 d I m hI hm ex it=>?_);have J:pE { s with heap:=h1,drawn:=d } (.ref S) "set":=⟨_,it.st.obj,rfl⟩
 refine wb9 (bR (Kt J ?_));refine wb9 (fS ?_);have g1:=ex _ _ gL;refine wb9 ?_;refine wb9 (iM g1 rfl ?_);have g2:=eG (eL (·.push eU)) g1 rfl;refine iM g2 rfl ?_;have g3:=eG (eL (·.pop)) g2 rfl
 have v:∀b o,b≠L->h1.get? b=a_ o->((h1.update L (eL (·.push eU))).update L (eL (·.pop))).get? b=a_ o:=
  λb o n e=>(dk _ _ (eQ n)).trans ((dk _ _ (eQ n)).trans e)
 have M:L<I:=by have :=hI;rw[D]at this;exact this
 have nf:L∉I::S::m.fp:=by
  intro z
  rcases au.mp z with z|z
  ·simp_all
  grind
 have W:=(zL (prog:=prog) (w:=w) (A:=A.in1) (I:=I) (S:=S) (es:=es) (ep:=ep) (t:=t) (m:=m) (by simp[hh])).toS;refine wu9 (ue (fM vp _) (L5 W Y _ nf _ es.size 0 _ _ _ rfl (aP _) (it.frame λb hb o e=>v b o (λz=>nf (z▸hb)) e) g3 (Pc _) λs' O c B gS g=>?_));refine wb9 (wpAny_load gS ?_);have hp:=Mode.uJ (S:=S) (ep:=ep) it.md;have hl:(m.ord w S es ep).length=es.size:=by rw[hp.length_eq,aw,aY]
 rw[<-hl]at g;have e:=CW g;show aA _ A (pure O.toList) _ _ s';rw[e];obtain⟨h',g',d',R,U⟩:=s';obtain rfl:g'=s.gens:=B.gens;obtain rfl:d'=d:=B.drawn;obtain rfl:U=s.os:=B.os;refine wu9 (k h' _ R _ (λb o q=>B.heap b o (λz=>?_) (v b o (λz=>?_) (ex _ _ (hp9 _ q)))) (by rw[j];exact be (hl9 gS)) hp)
 ·have lb:=hl9 q
  rcases au.mp z with z|z
  ·simp_all
  ·rw[aL.mp z,j]at lb;exact absurd (c5 lb M) (bC _)
 ·have lb:=hl9 q
  simp_all
def Bd{x:bc}(hh:A.handled=b_)(J:x.cps.size<=ax)
  (k:∀h1 M d,(∀b o,s.heap.get? b=a_ o->h1.get? b=a_ o)->s.heap.objs.size<=h1.objs.size->ItemsOf (SignAt x) d x.cps.size->Q d.toList { s with heap:=h1,toks:=M }):aA (aD prog w) A (collect (.str x tx)) Q E s:=by
 refine wb9 (rf (dS tH ?_));refine wb9 (df ?_);refine wu9 (ue (fM v8 _) (dS v9 ?_));generalize v:s.heap.objs.size=L;generalize g:({ cls:=.type "list",data:=.seq ([]).toArray }:kL)=lo;have gL:(s.heap.push lo).get? L=a_ { cls:=.type "list",data:=.seq (#[]) }:=by rw[<-v];exact(aG _ (by rw[<-g];rfl)).trans (by rw[<-g])
 have y:(s.heap.push lo).objs.size=L+1:=by rw[eh,v]
 have ty:∀s1:ai,s1.TypeIs (.str x tx) "str":=λs1=>rfl;show aA _ A.in1 (qa (.ref L) (.str x tx) (.ref L)) _ _ { s with heap:=s.heap.push lo };refine wb9 (iw (ty _) ?_);refine wb9 (wpAny_pyIter_str λo St W st=>?_);refine wb9 (bR (Ks (ty _) ?_));have O:((s.heap.push lo).push o).get? L=a_ { cls:=.type "list",data:=.seq (#[]) }:=hp9 _ gL
 have nf:L∉[(s.heap.push lo).objs.size]:=by
  rw[y];simp
 refine wu9 (ue (fM vp _) (L5 (W A.in1 (by simp[hh])).toS J _ nf _ x.cps.size 0 _ _ _ rfl (aP _) st O (Pc _) λs' d c l gS j=>?_));refine wb9 (wpAny_load gS ?_);obtain⟨h',g',d',B,D⟩:=s';obtain rfl:g'=s.gens:=l.gens;obtain rfl:d'=s.drawn:=l.drawn;obtain rfl:D=s.os:=l.os;refine wu9 (k h' B _ (λb o q=>l.heap b o (λz=>?_) (hp9 _ (hp9 _ q))) (by rw[v];exact be (hl9 gS)) j);have lb:=hl9 q
 grind
end
section
variable{prog:cg}{w:cZ}{A:bP}{s:ai}
def DB(prog:cg)(w:cZ)(A:bP)(s:ai)(v:ah)(Gd:List ah->Prop):Prop:=
 ∀(c:bP)(g:ah->ai->Prop)(Q':List ah->ai->Prop),c.handled=A.handled->(∀vs h1 d j,(∀b o,s.heap.get? b=a_ o->h1.get? b=a_ o)->s.heap.objs.size<=h1.objs.size->Gd vs->Q' vs { s with heap:=h1,drawn:=d,toks:=j })->
  aA (aD prog w) c (collect v) Q' g s
def IE{ss:List bc}(g:ss.length<64)(L:DB prog w A s v (λvs=>∃ss',pI vs ss'/\ss'.Perm ss))
  (k:∀h' d j l(out:List ah)ss' e,(∀b o,s.heap.get? b=a_ o->h'.get? b=a_ o)->s.heap.objs.size<=l->h'.get? l=a_ (seqObj "list" out.toArray e)->pI out ss'->ss'.Perm ss->sortedS ss'=c_->Q (.ref l) { s with heap:=h',drawn:=d,toks:=j }) :
  aA (aD prog w) A (call (.builtin "sorted") [v]) Q E s:=by
 refine wb kind_sorted plain_sorted entry_sorted (args_sorted1 _) ?_;refine wb9 (wu9 ?_);refine wb9 (L _ _ _ (by rfl) λvs h1 d j ex sz ⟨y,c,i2⟩=>?_);have hl:vs.length<64:=by rw[show vs.length=y.length by rw[<-c.strs,aw],i2.length_eq];exact g
 refine wb9 (FL ?_ (by exact be (ab hl (by decide))));have z:(h1.push (seqObj "list" vs.toArray 0)).get? h1.objs.size=a_ (seqObj "list" vs.toArray 0):=aG _ rfl;refine wb9 (bR (bH slot_list_sort ⟨_,z,rfl⟩ entry_list_sort (list_sort_treeK strKind_oneLt z c.keysOf (λD J r e=>keyKind_strs (by rw[<-e];exact c)) hl λB hp hs=>⟨_,rfl,?_⟩) (args_list_sort _)));obtain⟨ss',M,O,R⟩:=sorted_out_str c hp hs;obtain⟨e,U⟩:=sortedHeap_at z;refine wu9 ⟨_,rfl,k _ d j _ ((arrOf B).map (·.2)).toList ss' e (λb o q=>?_) ?_ (by exact U) M (O.trans i2) R⟩
 ·have lb:=hl9 (ex b o q);exact(sortedHeap_old (bo lb) (by rw[size_push'];exact jT lb)).trans (hp9 _ (ex b o q))
 ·exact sz
end
end L2
namespace L2
open PySem PySem.W PySem.Spec PyProof.Rows
section
variable{A:bP}{s:ai}
def _root_.L2.qY.first(x:qY I h ks vs):(ks=[]/\vs=[])\/∃k v c d,ks=k::c/\vs=v::d/\I.is h k v/\qY I h c d:=by
 cases x with
 |nil=>exact .inl ⟨rfl,rfl⟩
 |cons a b=>exact .inr ⟨_,_,_,_,rfl,rfl,a,b⟩
def GW(D:A.units+2<=dh)(J:qY (i3 P w) s.heap kx xs):∀{d:List (i3 P w).κ} {ys:List ah} (i:Nat),qY (i3 P w) s.heap d ys->kx.map sN=d.map sN->(∀k∈kx,Ad (sN k)=c_)->
  (b=c_->i=0->∀k,kx.head? = a_ k->sN k=[1])->Q (if kx=d then fin else vS (kx.map cN) (d.map cN)) s->KatLex P w A b fin Q (xs.zip ys) i s:=by
 induction J with
 |nil=>
   intro d ys i j hs _ _ h
   cases j with
   |nil=>exact kat_nil (by simpa using h)
   |cons _ _=>cases hs
 | @cons l u kx xs h1 J M=>
   intro d ys i j hs h3 h0 h
   cases j with
   |nil=>cases hs
   | @cons L v d ys h2 j=>
     simp only[aq,fH]at hs;refine kat_cons ((i3 P w).eqb D h1 h2 (λe=>?_) λe=>?_)
     ·subst e;refine kat_yes (M (i+1) j hs.2 (λk O=>h3 k (kD _ O)) (λ_ z=>((bB (af z) (aP _))).elim) ?_);by_cases e2:kx=d
      ·simp_all
      ·rw[if_neg e2];rw[if_neg λz=>e2 (dQ z).2,aq,aq]at h;rw[show vS (cN l::kx.map cN) (cN l::d.map cN)=vS (kx.map cN) (d.map cN) by rw[vS,k8,if_pos rfl]]at h;exact h
     ·have B :=λz=>e (Lh hs.1 (h3 _ jE) z);rw[if_neg λz=>e (dQ z).1,aq,aq]at h;rw[show vS (cN l::kx.map cN) (cN L::d.map cN)=Wq (cN l) (cN L) by rw[vS,k8,if_neg B]]at h;refine kat_no ?_;by_cases y:(b && i == 0)=c_
      ·rw[y];simp only[aj,beq_iff_eq]at y;have g:=h0 y.1 y.2 l rfl
       rcases uA hs.1 (h3 _ jE)with⟨a,c,rfl,rfl,q⟩|⟨a,c,rfl,rfl,q1,q2⟩|⟨a,c,rfl,rfl,q1,q2,q3,q4⟩
       ·cases a with
        |inl _=>simp[sN]at g
        |inr a=>
          cases c with
          |inl _=>cases q
          |inr c=>
            rcases cG (k:=.inr a) h1 with⟨_,_,e1,_⟩|⟨x1,R,e1,rfl⟩
            ·cases e1
            ·rcases cG (k:=.inr c) h2 with⟨_,_,e2,_⟩|⟨U,W,e2,rfl⟩
             ·cases e2
             ·cases e1;cases e2;refine oneLt_str ?_;have:=yn a.cps.toList c.cps.toList;simp only[cN]at h;rw[yo,show cK (.inr a)=a.cps.toList.map eM from rfl,show cK (.inr c)=c.cps.toList.map eM from rfl,this]at h;exact h
       ·simp only[sN]at g;simp_all
       ·simp only[sN]at g;simp_all
      ·rw[Bool.eq_false_iff.mpr y];refine kat_one _ _ (N4 D h1 h2 hs.1 (h3 _ jE) ?_);exact h
def YU(B:A.units+2<=dh)(ex:p4 P w s.heap x p)(D:p4 P w s.heap y c)(hs:x.map sN=y.map sN)(h3:∀k∈x,Ad (sN k)=c_)(h1:b=c_->∀k,x.head? = a_ k->sN k=[1])
  (h:Q (vS (x.map cN) (y.map cN)) s):aA (aD P w) A (keyLt' (tuples' b) (.ref p) (.ref c)) Q E s:=by
 obtain⟨J,xs,na,j,_,l,d⟩:=ex;obtain⟨L,ys,nb,q,_,v,g⟩:=D;refine kat_lt j l q v (GW B d 0 g hs h3 (λz _=>h1 z) ?_)
 have hl:xs.size=ys.size:=by
  have e:=congrArg fj hs;simp only[aw]at e;rw[<-aY,<-aY,d.length,g.length,e]
 by_cases e:x=y
 ·rw[if_pos e,hl];rw[e,nv.ir]at h;simpa using h
 simp_all
noncomputable def P2(c:List (List Nat)):Option Bool:=match c.head? with
 |some [1]=>a_ c_
 |some [2]=>a_ d_
 |some (3::_)=>a_ d_
 |_=>b_
def KE(q:YK P w s.heap k v)(hb:P2 (sN k::sh)=a_ b):∃T:ah,(T=if b=c_ then .type "str" else .type "tuple")/\∀M,Looks M s.heap (typeOf v) T:=by
 cases k with
 |inl k=>
   cases k with
   |inl i=>simp[P2,sN]at hb
   |inr a=>
     have e:b=c_:=by simpa [P2,sN]using hb.symm
     subst e
     rcases cG (k:=.inr a) q with⟨_,_,z,_⟩|⟨x1,g,_,rfl⟩
     ·cases z
     ·exact⟨_,rfl,λM=>Looks.of_pure rfl⟩
 |inr ks=>
   have e:b=d_:=by
    simp only[P2,sN,Mh]at hb;by_cases c:ks.all sI=c_
    ·simp_all
    simp_all
   subst e;obtain⟨p,rfl,o,its,n,go,d,_⟩:=q;refine⟨_,rfl,λM=>?_⟩;exact d▸(Looks.ld go).andThen .now
def Tg{js:List Nat}{kf:Nat->List NK}{av:Nat->aF}{B:List (List Nat)}{b:Bool}{Q:oY->ai->Prop}(D:∀j∈js,p4 P w s.heap (kf j) (av j))(h1:∀j∈js,(kf j).map sN=B)(hb:P2 B=a_ b)(c:0<js.length)(h:Q (tuples' b) s) :
  aA (aD P w) A (keyKind' (js.map λj=>cW (av j)).toArray) Q E s:=by
 have fs:∃fs,KatTups s.heap (js.map λj=>cW (av j)) fs/\fs.length=js.length/\∀v∈fs,Looks (aD P w) s.heap (typeOf v) (if b=c_ then .type "str" else .type "tuple"):=by
  clear h c
  induction js with
  |nil=>exact⟨[],KatTups.nil,rfl,λv d=>by cases d⟩
  |cons j js L=>
    obtain⟨fs,k,l,q⟩:=L (λj y=>D j (kD _ y)) (λj y=>h1 j (kD _ y));obtain⟨o,its,n,e1,e2,e3,M⟩:=D j jE;have g:=h1 j jE
    rcases M.first with⟨z,_⟩|⟨Z,J,O,R,z,hl,U,q2⟩
    ·rw[z]at g;rw[<-g]at hb;cases hb
    ·rw[z]at g;rw[<-g]at hb;have hf:its[0]?=a_ J:=by rw[<-ip,hl];rfl
     obtain⟨T,W,Y⟩:=KE U hb;refine⟨J::fs,KatTups.cons e1 e2 e3 hf k,by simp[l],λv d=>?_⟩
     rcases au.mp d with rfl|d
     ·rw[<-W];exact Y _
     ·exact q v d
 obtain⟨fs,k,l,q⟩:=fs;refine kat_kind k (ab c (af l.symm)) q (by cases b<;>decide) ?_
 cases b with
 |true=>exact h
 |false=>exact h
end
section
variable{s:ai}
def Gj{vs:List ah}(h:vs.length<2):((vs.toArray.zip vs.toArray).map λx=>x.2)=((aK vs.length).toArray.toList.map λi=>vs.getD i eU).toArray:=by
 grind
def IG(h:n<2):Pm (aK n).toArray n:=by
 have d:∀k,k<n->pg (aK n).toArray k=k:=λk c=>V6 (by simp[c]);exact⟨by simp,λk c=>by rw[d k c];exact c,λi j hi g e=>by omega,by simp⟩
def CQ{vs:List ah}(ho:s.heap.get? a=a_ (seqObj "list" vs.toArray n))(g:vs.length<=300)(o:O3 lt vs.length)
  (q:2<=vs.length->∀(h':cc)(v:ah->ai->Prop)(Q:oY->ai->Prop),(∀b o,b≠a->s.heap.get? b=a_ o->h'.get? b=a_ o)->Q (tuples' b) { s with heap:=h' }->aA (aD P w) A (keyKind' vs.toArray) Q v { s with heap:=h' })
  (y:∀(h':cc)(v:ah->ai->Prop)(Q:Bool->ai->Prop)i j,i<vs.length->j<vs.length->(∀b o,b≠a->s.heap.get? b=a_ o->h'.get? b=a_ o)->Q (lt i j) { s with heap:=h' }->
   aA (aD P w) A (keyLt' (tuples' b) (vs.getD i .none) (vs.getD j .none)) Q v { s with heap:=h' })
  (h:∀p:Array Nat,Pm p vs.length->Up lt p vs.length->R (.done (.ret .none)) { s with heap:=sortedHeap s.heap a vs (p.toList.map λi=>vs.getD i .none).toArray }) :
  aA (aD P w) A (fI.«list.sort» ⟨[.ref a],[]⟩) R E s:=by
 rw[list_sort_plain];refine wb9 (listItems_at ho rfl (wb9 (FV ho rfl ?_ (by exact ab g (by decide)) (aP _))));obtain⟨e1,z⟩:∃e1,(s.heap.update a (eL λ_=>(#[]))).get? a=a_ (seqObj "list" #[] e1):=⟨_,get?_update_seq ho λ_=>#[]⟩
 refine wb9 (Mb z rfl (wb9 (BK ?_ (by show vs.length<=_;rw[gD];omega))));refine wb9 (FL ?_ (aP _));refine bR ?_;have l:(((s.heap.update a (eL λ_=>(#[]))).push (seqObj "tuple" vs.toArray 0)).push (seqObj "list" #[] 0)).get? a=a_ (seqObj "list" #[] e1):=hp9 _ (hp9 _ z)
 have kp:∀b o,b≠a->s.heap.get? b=a_ o->(((s.heap.update a (eL λ_=>(#[]))).push (seqObj "tuple" vs.toArray 0)).push (seqObj "list" #[] 0)).get? b=a_ o:=λb o nb e=>
  hp9 _ (hp9 _ ((Heap.get?_update_ne _ _ _ _ nb).trans e))
 generalize B:((s.heap.update a (eL λ_=>(#[]))).push (seqObj "tuple" vs.toArray 0)).push (seqObj "list" #[] 0)=h6 at l kp ⊢;by_cases c:vs.toArray.size<2
 ·rw[if_pos c,if_pos c];refine wb9 (wu9 ?_);refine wb9 (wu9 ?_);have hl:vs.length<2:=by exact c
  have k:=Gj hl;have hh:=h (aK vs.length).toArray (IG hl) (λi j h1 h2=>by omega);refine wb9 (Mb l rfl (wb9 (FV l rfl ?_ (aP _) (by show((vs.toArray.zip vs.toArray).map λx=>x.2).size<=_;simp;exact ab g (by decide)))));simp only[bne_self_eq_false,bM,if_false];unfold sortedHeap at hh;rw[B]at hh;rw[<-k]at hh;exact wu9 hh
 have h2:2<=vs.length:=by simp_all
 rw[if_neg c,if_neg c];refine wb9 (q h2 h6 _ _ kp ?_);have run:=IF (E:=E) o λi j hi D C J=>y h6 _ C i j hi D kp J;refine wb9 (c9 run ?_ λ_ _ e=>e);rintro⟨⟨⟩,st'⟩ s' ⟨rfl,p,p1,p2,k,hf⟩;have d:=kat_snds rfl k;have hsz:(p.toList.map λi=>vs.getD i eU).length=vs.length:=by rw[aw,aY,p1.sz]
 refine wb9 (Mb l rfl (wb9 (FV l rfl ?_ (aP _) (by rw[d];show(p.toList.map λi=>vs.getD i eU).length<=_;rw[hsz];exact ab g (by decide)))));rw[hf];simp only[bne_self_eq_false,bM,if_false];have:=h p p1 p2;unfold sortedHeap at this;rw[B]at this;rw[d];exact wu9 this
end
section
variable{P:cg}{w:cZ}{A:bP}{E:ah->ai->Prop}{s:ai}{kf:Nat->List NK}{av:Nat->aF}{n:Nat}
def CA{js:List Nat}:∀{vs:List ah},hJ (λv j=>v=cW (av j)) vs js->vs=js.map λj=>cW (av j):=by
 induction js with
 |nil=>intro vs h;cases h;rfl
 | cons j js c=>intro vs h;cases h with
   |cons a b=>rw[a,c b];rfl
def Cz{js:List Nat}:∀{es:List (Int×ah)},hJ (λ(e:Int×ah)j=>e.2=cW (av j)) es js->hJ (λv j=>v=cW (av j)) (es.map (·.2)) js:=by
 induction js with
 |nil=>intro es h;cases h;exact .nil
 | cons j js c=>intro es h;cases h with
   |cons a b=>exact .cons a (c b)
structure Sel(kf:Nat->List NK)(n:Nat)(js:List Nat):Prop where
 nd:(js.map kf).Nodup
 lt:∀j∈js,j<n
 all:∀j,j<n->kf j∈js.map kf
def Sel.perm{c:List Nat}(h:Sel kf n js)(p:c.Perm js):Sel kf n c:=
 ⟨(p.map kf).nodup_iff.mpr h.nd,λj d=>h.lt j (p.mem_iff.mp d),λj d=>(p.map kf).mem_iff.mpr (h.all j d)⟩
def Sel.len(h:Sel kf n js):js.length<=n:=by
 have c :=(eV.mp h.nd).imp λx e=>x (congrArg kf e);have:=rP c fB λj d=>a9.mpr (h.lt j d)
 simp_all
def Hh(hh:A.handled=b_)(y:Bv P w (nZ w) s.heap S kf av n)(L:n<=300) :
  DB P w A s (.ref S) (λvs=>∃js,vs=js.map (λj=>cW (av j))/\Sel kf n js):=by
 obtain⟨es,ep,t,js,l,M,g,q,v,z⟩:=y;have sl:Sel kf n js:=⟨q,v,z⟩
 have len:=kY g;rw[aY]at len;have:=sl.len;intro O R Q' e k;refine sZ (e.trans hh) l (by rw[gD];omega) λh1 d B vs ex sz pm=>k vs h1 d B ex sz ?_;obtain⟨c,D,J⟩:=lS pm (Cz g);exact⟨c,CA D,sl.perm J⟩
abbrev codeN(k:List NK):List (List (List Int)):=k.map cN
theorem code_inj:∀{x y:List NK},x.map sN=y.map sN->(∀k∈x,Ad (sN k)=c_)->codeN x=codeN y->x=y
 |[],[],_,_,_=>rfl
 |[],_::_,h,_,_=>by cases h
 |_::_,[],h,_,_=>by cases h
 |a::x,b::y,h,h3,e=>by
   simp only[aq,fH]at h e;rw[Lh h.1 (h3 _ jE) e.1,code_inj h.2 (λk c=>h3 k (kD _ c)) e.2]
set_option tactic.hygienic true in
def sorted_N{v:ah}{Y:List (List Nat)}{b:Bool}{Q:ah->ai->Prop}(i_:A.in1.in1.units+2<=dh)(D:∀j,j<n->p4 P w s.heap (kf j) (av j))(hsh:∀j,j<n->(kf j).map sN=Y)(h3:∀x∈Y,Ad x=c_)(h1:P2 Y=a_ b)
  (hc:DB P w A s v (λvs=>∃js,vs=js.map (λj=>cW (av j))/\Sel kf n js/\js.length<=300))
  (k:∀h' d Z l js e,(∀b o,s.heap.get? b=a_ o->h'.get? b=a_ o)->s.heap.objs.size<=l->h'.get? l=a_ (seqObj "list" (js.map λj=>cW (av j)).toArray e)->Sel kf n js->
   (js.map λj=>codeN (kf j)).Pairwise (λa b=>vS a b=c_)->Q (.ref l) { s with heap:=h',drawn:=d,toks:=Z }) :
  aA (aD P w) A (call (.builtin "sorted") [v]) Q E s:=by
 have M:∀j,j<n->∀k∈kf j,Ad (sN k)=c_:=λj c k D=>h3 _ (by rw[<-hsh j c];exact cH D)
 have h1':b=c_->∀j,j<n->∀k,(kf j).head? = a_ k->sN k=[1]:=λhb j c k D=>by
  have:=hsh j c
  cases q:kf j with
  |nil=>rw[q]at D;cases D
  |cons x r=>
    rw[q]at this D;cases D;rw[<-this,hb]at h1;simp only[P2,Mh]at h1;split at h1
    ·rename_i z;exact bx z
    ·cases h1
    ·cases h1
    ·cases h1
 refine wb kind_sorted plain_sorted entry_sorted (args_sorted1 _) ?_;refine wb9 (wu9 ?_);refine wb9 (hc _ _ _ (by rfl) λvs B d Z ex sz ⟨js,O,sl,R⟩=>?_);have hl:vs.length=js.length:=by simp_all
 refine wb9 (FL ?_ (by exact ab (af hl) (ab R (by decide))));have g1:(B.push (seqObj "list" vs.toArray 0)).get? B.objs.size=a_ (seqObj "list" vs.toArray 0):=aG _ rfl
 have at_:∀i,i<vs.length->vs.getD i eU=.ref (av (js.getD i 0))/\js.getD i 0<n:=λi hi=>by
  have g:i<js.length:=ab hi (af hl);constructor
  ·rw[O];simp[g]
  ·rw[show js.getD i 0=js[i] by simp[g]];exact sl.lt _ (bA g)
 have J:∀h',(∀b o,b≠B.objs.size->(B.push (seqObj "list" vs.toArray 0)).get? b=a_ o->h'.get? b=a_ o)->∀j,j<n->p4 P w h' (kf j) (av j):=λh' q j c=>
  (D j c).mono λb o e=>by
   have e1:=ex b o e;exact q b o (bo (hl9 e1)) (hp9 _ e1)
 have U :=λi j hi c e=>by
  have a:=at_ i hi
  have b:=at_ j c
  have ek:=code_inj ((hsh _ a.2).trans (hsh _ b.2).symm) (M _ a.2) e;have g:i<js.length:=ab hi (af hl);have L:j<js.length:=ab c (af hl);have e1:(js.map kf)[i]?=a_ (kf (js.getD i 0)):=by simp[g]
  have e2:(js.map kf)[j]?=a_ (kf (js.getD j 0)):=by simp[L]
  rw[ek]at e1;exact(jJ (by simp_all) sl.nd).mp (e1.trans e2.symm)
 have o0:O3 (λi j=>vS (codeN (kf (js.getD i 0))) (codeN (kf (js.getD j 0)))) vs.length:=
  ⟨λi j k _ _ _ x y=>nv.tr _ _ _ x y,λi j hi c ne x=>nv.co _ _ (λz=>ne (U i j hi c z)) x,λi j _ _ x=>nv.as x⟩
 refine wb9 (bR (bH slot_list_sort ⟨_,g1,rfl⟩ entry_list_sort (CQ (b:=b) g1 (ab (af hl) R) o0 (λh2 h' E' Q' q hq=>?_) (λh' E' Q' i j hi c q hq=>?_) λp p1 p2=>⟨_,rfl,?_⟩) (args_list_sort _)))
 ·rw[O];exact Tg (λj c=>J h' q j (sl.lt j c)) (λj c=>hsh j (sl.lt j c)) h1 (be (ab h2 (af hl))) hq
 ·obtain⟨a1,W⟩:=at_ i hi
  obtain⟨b1,b2⟩:=at_ j c
  rw[a1,b1];exact YU i_ (J h' q _ W) (J h' q _ b2) ((hsh _ W).trans (hsh _ b2).symm) (M _ W) (λz=>h1' z _ W) hq
 ·obtain⟨e,he⟩:=sortedHeap_at (out:=(p.toList.map λi=>vs.getD i eU).toArray) g1
  have ej:(p.toList.map λi=>vs.getD i eU)=(p.toList.map λi=>js.getD i 0).map λj=>cW (av j):=by
   rw[bS];exact cJ λi hi=>(at_ i ((a9.mp (p1.pm.mem_iff.mp hi)))).1
  rw[ej]at he
  have pj:(p.toList.map λi=>js.getD i 0).Perm js:=by
   have:=p1.pm.map λi=>js.getD i 0;refine this.trans ?_;rw[hl];refine List.Perm.of_eq ?_;apply jK;intro i;by_cases hi:i<js.length
   ·simp[hi]
   ·simp[hi]
  refine wu9 ⟨_,rfl,k _ d Z _ (p.toList.map λi=>js.getD i 0) e (λb o q=>?_) sz ?_ (sl.perm pj) ?_⟩
  ·have lb:=hl9 (ex b o q);exact(sortedHeap_old (bo lb) (by rw[size_push'];exact jT lb)).trans (hp9 _ (ex b o q))
  ·rw[ej];exact he
  ·rw[bS,eV,eE];intro i j hi c hij;have L:j<vs.length:=by rw[aY,p1.sz]at c;exact c
   have:=p2 i j hij L
   have e1:∀x(hx:x<p.toList.length),p.toList[x]=pg p x:=λx hx=>by
    have:=Jp (by simpa using hx);rw[<-ip,ae hx]at this;exact bx this
   rw[e1 i hi,e1 j c];exact this
end
end L2
namespace M
open PySem PySem.Spec PyProof.Rows L2
inductive Vg|add|sub|mul|fdiv|mod|shr|shl|band|bor|pow|mn|mx
inductive XA|eq|ne|lt|le|gt|ge|isin|nin|isn|nisn
inductive Ty|int|bool|str|tuple|list
inductive XB|len|list|tuple|all|any|isi (t:Ty)|listrev|int|str|min|max|sorted|sset|abs|sum
inductive X0|join|split|upper|lower|find|index|count|get|startswith|isalpha|tindex
inductive Ht|app|ext|ins|pop|clr|seti|dput
mutual
noncomputable def oD:Dat->Dat->Bool
 | .non,c=>match c with
   |.non=>c_
   |_=>d_
 | .bl a,c=>match c with
   |.bl b=>a == b
   |.int j=>(if a then 1 else 0) == j
   |_=>d_
 | .int i,c=>match c with
   |.bl b=>i == (if b then 1 else 0)
   |.int j=>i == j
   |_=>d_
 | .str x,c=>match c with
   |.str y=>x == y
   |_=>d_
 | .tup xs,c=>match c with
   |.tup ys=>oB xs ys
   |_=>d_
 | .lst xs,c=>match c with
   |.lst ys=>oB xs ys
   |_=>d_
 |_,_=>d_
noncomputable def oB:List Dat->List Dat->Bool
 |[],[]=>c_
 |x::xs,y::ys=>oD x y && oB xs ys
 |_,_=>d_
end
mutual
noncomputable def iC:Nat->Dat->Bool
 |_,.dct _ _=>d_
 |_,.dcn _=>d_
 |0,.tup _=>d_
 |0,.lst _=>d_
 |n+1,.tup xs=>eA n xs
 |n+1,.lst xs=>eA n xs
 |_,_=>c_
noncomputable def eA:Nat->List Dat->Bool
 |_,[]=>c_
 |n,x::xs=>iC n x && eA n xs
end
noncomputable def ju:Dat->Option Bool
 |.non=>a_ d_
 |.bl b=>a_ b
 |.int i=>a_ (i != 0)
 |.str x=>if x.length<=ax then a_ ((x.length:Int) != 0)else b_
 |.tup xs=>a_ (!xs.isEmpty)
 |.lst xs=>a_ (!xs.isEmpty)
 |.dct ks _=>a_ (!ks.isEmpty)
 |.dcn _=>b_
noncomputable instance (i j:Int):Decidable (Hw i j):=by unfold Hw;infer_instance
noncomputable instance (i j:Int):Decidable (US i j):=by unfold US;infer_instance
noncomputable instance (i j:Int):Decidable (O9 i j):=by unfold O9;infer_instance
noncomputable instance (x:bc) (j:Int):Decidable (BQ x j):=by unfold BQ;infer_instance
abbrev g_:=Option (Dat×Bool)
noncomputable def Hs(f:Int->Int->g_):Dat->Dat->g_
 |.int i,.int j=>f i j
 |_,_=>b_
def Xr:Dat->Dat->g_
 | .int i,c=>match c with
   |.int j=>a_ (.int (i+j),d_)
   |_=>b_
 | .str x,c=>match c with
   |.str y=>if x.length+y.length<=ax then a_ (.str (x++y),d_)else b_
   |_=>b_
 | .lst xs,c=>match c with
   |.lst ys=>if xs.length+ys.length<=ax then a_ (.lst (xs++ys),jF (xs++ys))else b_
   |_=>b_
 | .tup xs,c=>match c with
   |.tup ys=>if xs.length+ys.length<=ax then a_ (.tup (xs++ys),d_)else b_
   |_=>b_
 |_,_=>b_
noncomputable def Xp:Dat->Dat->g_
 | .int i,c=>match c with
   |.int j=>if Hw i j then a_ (.int (i * j),d_)else b_
   |_=>b_
 | .str x,c=>match c with
   |.int j=>if BQ x j then a_ (.str (PySem.Txt.mul x j),d_)else b_
   |_=>b_
 |_,_=>b_
def iH:Vg->Dat->Dat->g_
 |.add,a,b=>Xr a b
 |.sub,a,b=>Hs (λi j=>a_ (.int (i - j),d_)) a b
 |.mul,a,b=>Xp a b
 |.mn,a,b=>Hs (λi j=>a_ (.int (if j<i then j else i),d_)) a b
 |.mx,a,b=>Hs (λi j=>a_ (.int (if i<j then j else i),d_)) a b
 |.fdiv,a,b=>Hs (λi j=>if US i j then a_ (.int (i / j),d_)else b_) a b
 |.mod,a,b=>Hs (λi j=>if 0<j then a_ (.int (i % j),d_)else b_) a b
 |.shr,a,b=>Hs (λi j=>if 0<=j then a_ (.int (i / 2 ^ j.toNat),d_)else b_) a b
 |.shl,a,b=>Hs (λi j=>if O9 i j then a_ (.int (i * 2 ^ j.toNat),d_)else b_) a b
 |.band,a,b=>Hs (λi j=>a_ (.int (t8 i j),d_)) a b
 |.bor,a,b=>Hs (λi j=>a_ (.int (LG i j),d_)) a b
 |.pow,a,b=>Hs (λi j=>if O9 i j then a_ (.int (i ^ j.toNat),d_)else b_) a b
noncomputable def yr:Dat->Option Key
 |.int i=>a_ (.inl i)
 |.str x=>a_ (.inr x)
 |_=>b_
instance ZR (k:List NK) (ks:List (List NK)):Decidable (k∈ks):=@List.instDecidableMemOfLawfulBEq _ instBEqOfDecidableEq inferInstance k ks
def Aw:List Dat->Option (List Key)
 |[]=>a_ []
 |d::ds=>(yr d).bind λk=>(Aw ds).map λr=>k::r
def YL:Dat->Option N2
 |.int i=>a_ (.inl (.inl i))
 |.str x=>a_ (.inl (.inr x))
 |.tup ds=>(Aw ds).map .inr
 |_=>b_
def PX:List Dat->Option (List N2)
 |[]=>a_ []
 |d::ds=>(YL d).bind λk=>(PX ds).map λr=>k::r
def YG:Dat->Option NK
 |.int i=>a_ (.inl (.inl i))
 |.str x=>a_ (.inl (.inr x))
 |.tup ds=>(PX ds).map .inr
 |_=>b_
def UZ:List Dat->Option (List NK)
 |[]=>a_ []
 |d::ds=>(YG d).bind λk=>(UZ ds).map λr=>k::r
def NP:Dat->Option (List NK)
 |.tup ds=>UZ ds
 |_=>b_
def vP:List Dat->Option (List (List NK))
 |[]=>a_ []
 |d::ds=>(NP d).bind λk=>(vP ds).map λr=>k::r
noncomputable def PQ:List Key->Bool
 |[]=>c_
 |k::ks=>!(ks.any λj=>decide (j=k)) && PQ ks
noncomputable def pv(k:Key):List Key->List Dat->Option Dat
 |j::ks,v::vs=>if j=k then a_ v else pv k ks vs
 |_,_=>b_
noncomputable def Ac(k:Key):List Key->Bool
 |[]=>c_
 |j::ks=>if j=k then !(ks.any λi=>decide (i=k))else Ac k ks
noncomputable def putD(k:Key)(d:Dat):List Key->List Dat->List Key×List Dat
 |j::ks,v::vs=>if j=k then(j::ks,d::vs)else((j::(putD k d ks vs).1),(v::(putD k d ks vs).2))
 |_,_=>([k],[d])
noncomputable def Uh(f:Int->Int->Bool):Dat->Dat->Option Bool
 |.int i,.int j=>a_ (f i j)
 |_,_=>b_
def Z2(a:Dat):Dat->Option Bool
 | .str y=>match a with
   |.str x=>a_ (!(iV y x 0 y.length 1).isEmpty)
   |_=>b_
 |.lst ys=>if iC 20 a && eA 20 ys then a_ (ys.any λy=>oD y a)else b_
 |.tup ys=>if iC 20 a && eA 20 ys then a_ (ys.any λy=>oD y a)else b_
 |_=>b_
def Xd(a:Dat):Dat->Option Bool
 | .str y=>match a with
   |.str x=>a_ (!(!(iV y x 0 y.length 1).isEmpty))
   |_=>b_
 |.lst ys=>if iC 20 a && eA 20 ys then a_ (!(ys.any λy=>oD y a))else b_
 |_=>b_
noncomputable def Zp(b:Bool)(a:Dat):Dat->Option Bool
 |.non=>a_ (match a with | .non=>b|_=>!b)
 |_=>b_
def gJ:XA->Dat->Dat->Option Bool
 |.eq,a,b=>if iC 20 a && iC 20 b then a_ (oD a b)else b_
 |.ne,a,b=>if iC 20 a && iC 20 b then a_ (!oD a b)else b_
 |.lt,a,b=>Uh (λi j=>decide (i<j)) a b
 |.le,a,b=>Uh (λi j=>decide (i<=j)) a b
 |.gt,a,b=>Uh (λi j=>decide (j<i)) a b
 |.ge,a,b=>Uh (λi j=>decide (j<=i)) a b
 |.isin,a,b=>Z2 a b
 |.nin,a,b=>Xd a b
 |.isn,a,b=>Zp c_ a b
 |.nisn,a,b=>Zp d_ a b
def vT:Dat->Dat->Option Dat
 | .lst xs,d=>match d with
   |.int i=>qK xs i
   |_=>b_
 | .tup xs,d=>match d with
   |.int i=>qK xs i
   |_=>b_
 | .str z,d=>match d with
   |.int i=>if z.length<=ax then(qK z.cps.toList i).map λc=>.str ⟨#[c]⟩else b_
   |_=>b_
 |.dct ks vs,k=>(yr k).bind λk=>pv k ks vs
 |_,_=>b_
noncomputable def Ju(r:g_):Option (Option Int):=r.bind λx=>match x.1 with
 |.int i=>a_ (a_ i)
 |_=>b_
def cutD{α:Type}(xs:List α)(lo hi:Option Int):List α:=(xs.drop (HT.iD xs.length 0 lo)).take (HT.iD xs.length xs.length hi - HT.iD xs.length 0 lo)
def Cf:Dat->Option Int->Option Int->g_
 |.str x,lo,hi=>if x.length<=ax then a_ (.str (cY x lo hi),d_)else b_
 |.lst xs,lo,hi=>a_ (.lst (cutD xs lo hi),jF (cutD xs lo hi))
 |.tup xs,lo,hi=>a_ (.tup (cutD xs lo hi),d_)
 |_,_,_=>b_
noncomputable def Ke:Ty->Dat->Bool
 |.int,.int _=>c_
 |.int,.bl _=>c_
 |.bool,.bl _=>c_
 |.str,.str _=>c_
 |.tuple,.tup _=>c_
 |.list,.lst _=>c_
 |_,_=>d_
noncomputable def Dt:List Dat->Option (List Bool)
 |[]=>a_ []
 |.bl b::ds=>(Dt ds).map λr=>b::r
 |_::_=>b_
noncomputable def sD:List Dat->Option (List bc)
 |[]=>a_ []
 |.str x::ds=>(sD ds).map λr=>x::r
 |_::_=>b_
noncomputable def sP:List Dat->Option (List Int)
 |[]=>a_ []
 |.int x::ds=>(sP ds).map λr=>x::r
 |_::_=>b_
noncomputable def uY{α:Type}(lt:α->α->Bool)(x:α):List α->List α
 |[]=>[x]
 |y::ys=>if lt x y=c_ then x::y::ys else if lt y x=c_ then y::uY lt x ys else y::ys
def gY{α:Type}(lt:α->α->Bool):List α->List α
 |[]=>[]
 |x::xs=>uY lt x (gY lt xs)
noncomputable def vU{α:Type}(lt:α->α->Bool)(x:α):List α->List α
 |[]=>[x]
 |y::ys=>if lt y x=c_ then y::vU lt x ys else x::y::ys
def nR{α:Type}(lt:α->α->Bool):List α->List α
 |[]=>[]
 |x::xs=>vU lt x (nR lt xs)
noncomputable def ltI(i j:Int):Bool:=decide (i<j)
noncomputable def vA(x y:bc):Bool:=decide (x.cps.toList<y.cps.toList)
noncomputable def eB(x:bc):List bc:=x.cps.toList.map λc=>⟨#[c]⟩
noncomputable def OF:Nat->List Int->Dat
 |0,l=>.int (l.headD 0)
 |1,l=>.str ⟨(l.map ub).toArray⟩
 |_,l=>.tup (l.map .int)
def T6:List Nat->List (List Int)->Dat
 |[],_=>.non
 |n::d,c=>if n=3 then .tup (sx OF d c)else OF n (c.headD [])
def Dl(d:List (List Nat))(c:List (List (List Int))):Dat:=.tup (sx T6 d c)
def HG(kk:List (List NK)):List (List Nat):=(kk.headD []).map sN
def Jy(kk:List (List NK)):Prop:=(P2 (HG kk)).isSome=c_/\(HG kk).all Ad=c_/\(kk.all λk=>decide (k.map sN=HG kk))=c_/\(gY vS (kk.map codeN)).length<=300
instance (kk:List (List NK)):Decidable (Jy kk):=inferInstanceAs (Decidable (_/\_))
def wC(kk:List (List NK)):g_:=
 if kk.length<=300/\Jy kk then a_ (.lst ((gY vS (kk.map codeN)).map (Dl (HG kk))),c_)else b_
def DR(ss:List bc):g_:=if ss.length<4000/\(gY vA ss).length<64 then a_ (.lst ((gY vA ss).map .str),c_)else b_
def DT(ss:List bc):g_:=if ss.length<64 then a_ (.lst ((nR vA ss).map .str),c_)else b_
noncomputable def ZS:Int->List Int->Int
 |i,[]=>i
 |i,j::r=>ZS (if i<j then j else i) r
noncomputable def b1(f:Dat->g_):List Dat->g_
 |[d]=>f d
 |_=>b_
noncomputable def UA:Dat->g_
 |.lst xs=>a_ (.int xs.length,d_)
 |.tup xs=>a_ (.int xs.length,d_)
 |.str x=>if x.length<=ax then a_ (.int x.length,d_)else b_
 |.dct ks _=>a_ (.int ks.length,d_)
 |_=>b_
def Qn:Dat->g_
 |.lst xs=>a_ (.lst xs,jF xs)
 |.tup xs=>a_ (.lst xs,jF xs)
 |_=>b_
def Xo:Dat->g_
 |.lst xs=>a_ (.lst xs.reverse,jF xs.reverse)
 |.tup xs=>if xs.length<=1000000 then a_ (.lst xs.reverse,jF xs.reverse)else b_
 |.str x=>if x.length<=1000000 then a_ (.lst ((eB x).reverse.map .str),c_)else b_
 |_=>b_
noncomputable def Xn:Dat->g_
 |.lst xs=>a_ (.tup xs,d_)
 |.tup xs=>a_ (.tup xs,d_)
 |_=>b_
noncomputable def bL(f:List Dat->g_):Dat->g_
 |.lst xs=>f xs
 |_=>b_
noncomputable def UB(f:List Dat->g_)(g:bc->g_):Dat->g_
 |.lst xs=>f xs
 |.str x=>g x
 |_=>b_
noncomputable def Xq:Dat->g_
 |.int i=>a_ (.int i,d_)
 |.bl b=>a_ (.int (if b then 1 else 0),d_)
 |.str x=>if x.length<=640 then(PySem.intText? x).map λi=>(.int i,d_)else b_
 |_=>b_
noncomputable def Uy:Dat->g_
 |.int i=>if i.natAbs.log2<1920 then a_ (.str (toString i),d_)else b_
 |_=>b_
def fQ:XB->List Dat->g_
 |.len,l=>b1 UA l
 |.list,l=>b1 Qn l
 |.listrev,l=>b1 Xo l
 |.tuple,l=>b1 Xn l
 |.all,l=>b1 (bL λxs=>(Dt xs).map λbs=>(.bl (bs.all id),d_)) l
 |.any,l=>b1 (bL λxs=>(Dt xs).map λbs=>(.bl (bs.any id),d_)) l
 |.isi t,l=>b1 (λd=>a_ (.bl (Ke t d),d_)) l
 |.sset,l=>b1 (UB (λds=>(vP ds).bind wC) λx=>DR (eB x)) l
 |.sorted,l=>b1 (UB (λ_=>b_) λx=>DT (eB x)) l
 |.int,l=>b1 Xq l
 |.sum,l=>b1 (bL λds=>(sP ds).map λis=>(.int is.sum,d_)) l
 | .max,l=>b1 (bL λds=>(sP ds).bind λis=>match is with
   |[]=>b_
   |i::r=>a_ (.int (ZS i r),d_)) l
 |.str,l=>b1 Uy l
 |.min,_=>b_
 |.abs,_=>b_
noncomputable def jX:Dat->Option (List Dat)
 |.lst xs=>a_ xs
 |.tup xs=>a_ xs
 |.str x=>a_ (x.cps.toList.map λc=>Dat.str ⟨#[c]⟩)
 |_=>b_
noncomputable def Yp:Dat->Option (List Dat)
 |.str x=>a_ (x.cps.toList.map λc=>Dat.str ⟨#[c]⟩)
 |_=>b_
noncomputable def Cr:List Dat->Option (List Dat)
 |[.int j]=>if j<=1000000/\-1000000<=j then a_ ((aK j.toNat).map λk:Nat=>Dat.int k)else b_
 |[.int i,.int j]=>if -1000000<=i/\i<=1000000/\-1000000<=j/\j<=1000000 then a_ ((aK (j - i).toNat).map λk:Nat=>Dat.int (i+k))else b_
 |[.int i,.int j,.int c]=>if c=-1/\-1000000<=i/\i<=1000000/\-1000000<=j/\j<=1000000 then a_ ((aK (i - j).toNat).map λk:Nat=>Dat.int (i - k))else b_
 |_=>b_
noncomputable def oh:List Dat->List Dat->List Dat
 |x::xs,y::ys=>.tup [x,y]::oh xs ys
 |_,_=>[]
noncomputable def vW:Nat->List Dat->List Dat
 |_,[]=>[]
 |k,x::xs=>.tup [.int k,x]::vW (k+1) xs
def qp(f:Dat->Option g_):List Dat->Option (List Dat×Bool)
 |[]=>a_ ([],c_)
 | d::ds=>(f d).bind λo=>(qp f ds).map λr=>match o with
   |some y=>(y.1::r.1,(y.2 || im y.1) && r.2)
   |none=>r
noncomputable def xZ:Nat->List Dat->iJ->iJ
 |_,[],ρ=>ρ
 |k,d::ds,ρ=>xZ (k+1) ds (ρ.set k (a_ d))
def FD(nt:Nat)(one:Bool)(d:Dat)(ρ:iJ):Option iJ:=match one with
 |true=>a_ (ρ.set 0 (a_ d))
 | false=>match d with
   |.tup ds=>if ds.length=nt then a_ (xZ 0 ds ρ)else b_
   |_=>b_
noncomputable def jB(nt:Nat)(caps:List Nat)(ρ:iJ):iJ:=dB nt b_++caps.map λj=>(ρ[j]?).join
def findD(d:Dat):List Dat->Nat->Option Nat
 |[],_=>b_
 |x::xs,k=>if oD x d=c_ then a_ k else findD d xs (k+1)
noncomputable def XJ(f:bc->g_):Dat->List Dat->g_
 | .str x,c=>match c with
   |[]=>f x
   |_=>b_
 |_,_=>b_
noncomputable def YR(f:bc->bc->g_):Dat->List Dat->g_
 | .str x,c=>match c with
   |[.str y]=>f x y
   |_=>b_
 |_,_=>b_
noncomputable def ZT(f:bc->List Dat->g_):Dat->List Dat->g_
 | .str x,c=>match c with
   |[.lst ds]=>f x ds
   |_=>b_
 |_,_=>b_
noncomputable def YQ:Dat->List Dat->g_
 |.str x,[.str y,.int i]=>a_ (.bl (gQ x y i),d_)
 |_,_=>b_
def YO:Dat->List Dat->g_
 | .tup ds,c=>match c with
   |[d]=>if iC 20 d && eA 20 ds then(findD d ds 0).map λk=>(.int k,d_)else b_
   |_=>b_
 |_,_=>b_
def YS:Dat->List Dat->g_
 |.lst ds,[.str y]=>(sD ds).bind λxs=>(xs.findIdx? (·== y)).map λj=>(.int (j:Nat),d_)
 |_,_=>b_
def YT:Dat->List Dat->g_
 | .dct ks vs,[k]=>(yr k).bind λk=>match pv k ks vs with
   |some d=>a_ (d,d_)
   |none=>a_ (.non,d_)
 |_,_=>b_
def ic:X0->Dat->List Dat->g_
 |.join,a,l=>ZT (λx ds=>(sD ds).bind λys=>if(ys.map (·.length)).sum+ys.length * x.length<=1000000 then a_ (.str (tu x ys),d_)else b_) a l
 |.split,a,l=>YR (λx y=>if 0<y.length/\x.length<=1000000 then a_ (.lst ((PySem.Txt.split x y).map Dat.str),c_)else b_) a l
 |.upper,a,l=>XJ (λx=>if x.length<=1000000 then a_ (.str (rh x),d_)else b_) a l
 |.lower,a,l=>XJ (λx=>if x.length<=1000000 then a_ (.str (PySem.Txt.lower x),d_)else b_) a l
 |.find,a,l=>YR (λx y=>a_ (.int (PySem.Txt.find x y),d_)) a l
 |.index,a,l=>YS a l
 |.count,a,l=>YR (λx y=>a_ (.int (PySem.Txt.count x y),d_)) a l
 |.startswith,a,l=>YQ a l
 |.tindex,a,l=>YO a l
 |.isalpha,a,l=>XJ (λx=>a_ (.bl (PySem.Txt.isalpha x),d_)) a l
 |.get,a,l=>YT a l
def insI{α:Type}(x:α)(i:Int)(xs:List α):List α:=xs.take (HT.iD xs.length 0 (a_ i))++x::xs.drop (HT.iD xs.length 0 (a_ i))
def Ri{α:Type}(x:α)(i:Int)(xs:List α):Option (List α):=(zj xs.length i).map λk=>xs.set k x
noncomputable def Vm:Dat->List Dat->Option Dat
 |.lst ds,[d]=>if ds.length<ax then a_ (.lst (ds++[d]))else b_
 |_,_=>b_
noncomputable def QB:Dat->List Dat->Option Dat
 | .lst ds,l=>match l with
   |[.lst es]=>if ds.length+es.length<=ax then a_ (.lst (ds++es))else b_
   |[.tup es]=>if ds.length+es.length<=ax then a_ (.lst (ds++es))else b_
   |_=>b_
 |_,_=>b_
def Vl:Dat->List Dat->Option Dat
 | .lst ds,l=>match l with
   |[.int i,d]=>if ds.length<ax/\-1000000<=i/\i<=1000000 then a_ (.lst (insI d i ds))else b_
   |_=>b_
 |_,_=>b_
def Vk:Dat->List Dat->Option Dat
 | .lst ds,l=>match l with
   |[d,.int i]=>if -1000000<=i/\i<=1000000 then(Ri d i ds).map .lst else b_
   |_=>b_
 | .dct ks vs,l=>match l with
   |[d,k]=>(yr k).bind λk=>if ks.length<ax/\Ac k ks=c_ then a_ (.dct (putD k d ks vs).1 (putD k d ks vs).2)else b_
   |_=>b_
 |_,_=>b_
def X9:Dat->List Dat->Option Dat
 | .dct ks _,l=>match l with
   |[.bl c_,k]=>if ks.isEmpty=c_ then(NP k).map λk=>.dcn [k]else b_
   |_=>b_
 | .dcn ks,l=>match l with
   |[.bl c_,k]=>(NP k).bind λk=>if ks.length<ax/\k∉ks then a_ (.dcn (ks++[k]))else b_
   |_=>b_
 |_,_=>b_
def kj:Ht->Dat->List Dat->Option Dat
 |.app,a,l=>Vm a l
 |.ext,a,l=>QB a l
 |.ins,a,l=>Vl a l
 |.seti,a,l=>Vk a l
 |.dput,a,l=>X9 a l
 |_,_,_=>b_
abbrev Fs:=Nat->List Dat->g_
structure Ex where
 fv:List Nat
 ev:Fs->iJ->g_
noncomputable def bu(C:Fs)(e:Ex)(ρ:iJ):g_:=e.ev C ρ
def mR(C:Fs):List Ex->iJ->Option (List Dat)
 |[],_=>a_ []
 |e::es,ρ=>(bu C e ρ).bind λx=>(mR C es ρ).map λr=>x.1::r
def mP(C:Fs):List Ex->iJ->Option (List Dat×Bool)
 |[],_=>a_ ([],c_)
 |e::es,ρ=>(bu C e ρ).bind λx=>(mP C es ρ).map λr=>(x.1::r.1,(x.2 || im x.1) && r.2)
def A4(C:Fs):List Ex->iJ->Option Bool
 |[],_=>a_ c_
 |e::es,ρ=>(bu C e ρ).bind λx=>(ju x.1).bind λz=>if z=c_ then A4 C es ρ else a_ d_
noncomputable def Oj(es:List Ex):List Nat:=es.flatMap (·.fv)
inductive Iw where
 |itv (a:Ex)|rng (es:List Ex)|zip (es:List Ex)|enu (a:Ex)|rev (a:Ex)
noncomputable def Ys:Dat->Option (List Dat)
 |.tup ds=>a_ ds.reverse
 |_=>b_
def fvI:Iw->List Nat
 |.itv a=>a.fv
 |.rng _=>[]
 |.zip es=>Oj es
 |.enu a=>a.fv
 |.rev a=>a.fv
def zip2(a b:Dat):Option (List Dat):=match a with
 | .str x=>match b with
   |.tup ys=>a_ (oh ((eB x).map .str) ys)
   |_=>b_
 |_=>b_
def Pq(ds:List Dat):Option (List Dat):=match ds with
 |[a,b]=>zip2 a b
 |_=>b_
def yF(C:Fs)(it:Iw)(ρ:iJ):Option (List Dat):=match it with
 |.itv a=>(bu C a ρ).bind λx=>jX x.1
 |.rng es=>(mR C es ρ).bind Cr
 |.zip es=>(mR C es ρ).bind Pq
 |.enu a=>(bu C a ρ).bind λx=>(Yp x.1).map λxs=>vW 0 xs
 |.rev a=>(bu C a ρ).bind λx=>Ys x.1
def Xm(C:Fs)(ρ:iJ):Option Ex->Option (Option Int)
 |none=>a_ b_
 |some e=>Ju (bu C e ρ)
noncomputable def YH:Dat->g_
 |.int i=>a_ (.int (-i),d_)
 |_=>b_
noncomputable def Zs(k:g_):Dat->g_
 |.bl b=>if b=c_ then k else a_ (.bl d_,d_)
 |_=>b_
noncomputable def orD(k:g_):Dat->g_
 |.bl b=>if b=c_ then a_ (.bl c_,d_)else k
 |_=>b_
def oF(C:Fs)(nt:Nat)(one:Bool)(ρ0:iJ)(ifs:List Ex)(elt:Ex)(d:Dat):Option g_:=
 (FD nt one d ρ0).bind λρ1=>(A4 C ifs ρ1).bind λb=>if b=c_ then(bu C elt ρ1).map a_ else a_ b_
namespace Ex
noncomputable def con(d:Dat):Ex:=⟨[],λ_ _=>a_ (d,d_)⟩
abbrev e_(i:Int):Ex:=con (.int i)
abbrev f_(x:bc):Ex:=con (.str x)
noncomputable def v(i:Nat):Ex:=⟨[i],λ_ ρ=>((ρ[i]?).join).map λd=>(d,d_)⟩
def bin(o:Vg)(a b:Ex):Ex:=⟨a.fv++b.fv,λC ρ=>(bu C a ρ).bind λx=>(bu C b ρ).bind λy=>iH o x.1 y.1⟩
def neg(a:Ex):Ex:=⟨[],λC ρ=>(bu C a ρ).bind λx=>YH x.1⟩
def cmp(o:XA)(a b:Ex):Ex:=⟨[],λC ρ=>(bu C a ρ).bind λx=>(bu C b ρ).bind λy=>(gJ o x.1 y.1).map λr=>(.bl r,d_)⟩
def and(a b:Ex):Ex:=⟨a.fv++b.fv,λC ρ=>(bu C a ρ).bind λx=>Zs (bu C b ρ) x.1⟩
def or(a b:Ex):Ex:=⟨a.fv++b.fv,λC ρ=>(bu C a ρ).bind λx=>orD (bu C b ρ) x.1⟩
def not(a:Ex):Ex:=⟨[],λC ρ=>(bu C a ρ).bind λx=>(ju x.1).map λb=>(.bl (!b),d_)⟩
def ite(c a b:Ex):Ex:=⟨c.fv++a.fv++b.fv,λC ρ=>(bu C c ρ).bind λx=>(ju x.1).bind λz=>if z=c_ then bu C a ρ else bu C b ρ⟩
def tup(es:List Ex):Ex:=⟨Oj es,λC ρ=>(mP C es ρ).bind λx=>if x.1.length<=1000000 then a_ (.tup x.1,x.2)else b_⟩
def lst(es:List Ex):Ex:=⟨Oj es,λC ρ=>(mP C es ρ).bind λx=>if x.1.length<=1000000 then a_ (.lst x.1,x.2)else b_⟩
def ix(a b:Ex):Ex:=⟨a.fv++b.fv,λC ρ=>(bu C a ρ).bind λx=>(bu C b ρ).bind λy=>(vT x.1 y.1).map λd=>(d,d_)⟩
noncomputable def ZQ(o:Option Ex):List Nat:=match o with
 |none=>[]
 |some e=>e.fv
def sl(a:Ex)(lo hi:Option Ex):Ex:=⟨a.fv++ZQ lo++ZQ hi,λC ρ=>(bu C a ρ).bind λx=>(Xm C ρ lo).bind λl=>(Xm C ρ hi).bind λh=>Cf x.1 l h⟩
def call(f:Nat)(es:List Ex):Ex:=⟨Oj es,λC ρ=>(mR C es ρ).bind λds=>C f ds⟩
def blt(b:XB)(es:List Ex):Ex:=⟨Oj es,λC ρ=>(mR C es ρ).bind λds=>fQ b ds⟩
def gp(m:X0)(o:Ex)(es:List Ex):Ex:=⟨o.fv++Oj es,λC ρ=>(bu C o ρ).bind λx=>(mR C es ρ).bind λds=>ic m x.1 ds⟩
noncomputable def qF:Ex:=⟨[],λ_ _=>a_ (.dct [] [],c_)⟩
def Fj(ks:List Key)(es:List Ex):Ex:=⟨Oj es,λC ρ=>(mR C es ρ).bind λds=>if ks.length=ds.length/\PQ ks=c_/\ks.length<=15 then a_ (.dct ks ds,d_)else b_⟩
def comp(nt:Nat)(one:Bool)(caps:List Nat)(it:Iw)(ifs:List Ex)(elt:Ex):Ex:=⟨caps++fvI it,λC ρ=>(yF C it ρ).bind λitems=>if items.length<=1000000 then
 (qp (oF C nt one (jB nt caps ρ) ifs elt) items).map λys=>(.lst ys.1,ys.2)else b_⟩
end Ex
abbrev dv:=List g_
set_option genInjectivity true in
inductive Out where
 |nx (ρ:dv)|rt (d:Dat) (fr:Bool)|bk (ρ:dv)|ct (ρ:dv)
noncomputable def zz(ρ:dv):iJ:=ρ.map λo=>match o with
 |some (d,d_)=>a_ d
 |_=>b_
noncomputable def full(ρ:dv):iJ:=ρ.map λo=>o.map (·.1)
noncomputable def r8(ρ:dv):dv:=ρ.map λo=>o.map λs=>(s.1,d_)
def BZ(ρ:dv):zz (r8 ρ)=full ρ:=by
 unfold zz r8 full;rw[bS];exact cJ λo _=>by cases o<;>rfl
noncomputable def mD(is:List Nat)(ρ:dv):dv:=is.foldl (λρ i=>ρ.modify i λo=>o.map λs=>(s.1,d_)) ρ
def LY(C:Fs)(e:Ex)(ρ:dv):Option (Dat×Bool×dv):=(bu C e (full ρ)).bind λx=>if(im x.1 || x.2)=c_ then a_ (x.1,x.2,ρ)
 else(bu C e (zz (mD e.fv ρ))).map λy=>(y.1,y.2,mD e.fv ρ)
def WX(C:Fs)(it:Iw)(ρ:dv):Option (List Dat×dv):=match it with
 |.itv a=>(LY C a ρ).bind λx=>(jX x.1).map λds=>(ds,x.2.2)
 |.rng es=>(yF C (.rng es) (full ρ)).map λds=>(ds,ρ)
 |.zip es=>(yF C (.zip es) (zz (mD (Oj es) ρ))).map λds=>(ds,mD (Oj es) ρ)
 |.enu a=>(yF C (.enu a) (zz (mD a.fv ρ))).map λds=>(ds,mD a.fv ρ)
 |.rev a=>(yF C (.rev a) (zz (mD a.fv ρ))).map λds=>(ds,mD a.fv ρ)
noncomputable def oO:List Nat->List Dat->dv->dv
 |i::is,d::ds,ρ=>oO is ds (ρ.set i (a_ (d,d_)))
 |_,_,ρ=>ρ
def gH(one:Bool)(c:List Nat)(d:Dat)(ρ:dv):Option dv:=match one with
 | true=>match c with
   |[i]=>a_ (ρ.set i (a_ (d,d_)))
   |_=>b_
 | false=>match d with
   |.tup ds=>if ds.length=c.length then a_ (oO c ds ρ)else b_
   |_=>b_
noncomputable def wt(k:dv->Option Out):Out->Option Out
 |.nx ρ=>k ρ
 |.ct ρ=>k ρ
 |.bk ρ=>a_ (.nx ρ)
 |.rt d fr=>a_ (.rt d fr)
def i8(c:Dat->dv->Option dv)(body:dv->Option Out):List Dat->dv->Option Out
 |[],ρ=>a_ (.nx ρ)
 |d::ds,ρ=>(c d ρ).bind λρ1=>(body ρ1).bind (wt (i8 c body ds))
structure Sx where
 ex:Fs->dv->Option Out
noncomputable def nE(C:Fs)(s:Sx)(ρ:dv):Option Out:=s.ex C ρ
noncomputable def VG(k:dv->Option Out):Out->Option Out
 |.nx ρ=>k ρ
 |o=>a_ o
def dX(C:Fs):List Sx->dv->Option Out
 |[],ρ=>a_ (.nx ρ)
 |s::ss,ρ=>(nE C s ρ).bind (VG (dX C ss))
def X7(c:List Nat)(ρ:dv):Dat->Option Out
 |.tup ds=>if ds.length=c.length then a_ (.nx (oO c ds ρ))else b_
 |_=>b_
def NU(op:Ht)(i:Nat)(ρ:dv)(ds:List Dat):g_->Option Out
 |some (d,c_)=>(kj op d ds).map λd'=>.nx (ρ.set i (a_ (d',c_)))
 |_=>b_
namespace Sx
def set(i:Nat)(e:Ex):Sx:={ ex:=λC ρ=>(LY C e ρ).map λx=>.nx (x.2.2.set i (a_ (x.1,x.2.1 && !im x.1))) }
def Vi(c:List Nat)(e:Ex):Sx:={ ex:=λC ρ=>(LY C e ρ).bind λx=>X7 c x.2.2 x.1 }
def exp(e:Ex):Sx:={ ex:=λC ρ=>(bu C e (full ρ)).map λ_=>.nx ρ }
def ret(e:Ex):Sx:={ ex:=λC ρ=>(bu C e (full ρ)).map λx=>.rt x.1 x.2 }
noncomputable def nc(i:Nat):Sx:={ ex:=λ_ ρ=>((ρ[i]?).join).map λx=>.rt x.1 x.2 }
noncomputable def LP:Sx:={ ex:=λ_ _=>b_ }
noncomputable def brk:Sx:={ ex:=λ_ ρ=>a_ (.bk ρ) }
def ifs(c:Ex)(a b:List Sx):Sx:={ ex:=λC ρ=>(bu C c (full ρ)).bind λx=>(ju x.1).bind λz=>if z=c_ then dX C a ρ else dX C b ρ }
def loop(one:Bool)(c:List Nat)(it:Iw)(body:List Sx):Sx:={ ex:=λC ρ=>(WX C it ρ).bind λx=>i8 (gH one c) (dX C body) x.1 x.2 }
def «mut» (op:Ht)(i:Nat)(es:List Ex):Sx:={ ex:=λC ρ=>(mP C es (full ρ)).bind λx=>if x.2=c_ then NU op i ρ x.1 (ρ[i]?).join else b_ }
end Sx
noncomputable def Zk:Out->g_
 |.nx _=>a_ (.non,d_)
 |.rt d fr=>a_ (d,fr)
 |_=>b_
def Oy(C:Fs)(c g:Nat)(body:List Sx)(ds:List Dat):g_:=
 if ds.length=c then(dX C body (ds.map (λd=>a_ (d,d_))++dB (g - c) b_)).bind Zk else b_
def gE(K:Fg)(C:Fs)(x:Ex):TE:=λσ H Q=>∃ρ d fr,bu C x ρ=a_ (d,fr)/\tE K ρ d fr σ H Q
def gA(K:Fg)(C:Fs)(xs:List Ex):TA:=λσ H Q=>∃ρ ds,mR C xs ρ=a_ ds/\tEs K ρ ds σ H Q
def gF(K:Fg)(C:Fs)(xs:List Ex):TA:=λσ H Q=>∃ρ ds al,mP C xs ρ=a_ (ds,al)/\tFs K ρ ds al σ H Q
def gT(K:Fg)(C:Fs)(x:Ex):TT:=λσ H Q=>∃ρ d fr b,bu C x ρ=a_ (d,fr)/\ju d=a_ b/\tT K ρ b σ H Q
abbrev SE(X:Cx)(C:Fs)(e:aX)(x:Ex):Prop:=PE X e (gE X.K C x)
abbrev SA(X:Cx)(C:Fs)(es:List aX)(xs:List Ex):Prop:=PA X es (gA X.K C xs)
abbrev SF(X:Cx)(C:Fs)(es:List aX)(xs:List Ex):Prop:=PA X es (gF X.K C xs)
abbrev ST(X:Cx)(C:Fs)(e:aX)(x:Ex):Prop:=PT X e (gT X.K C x)
def gB(K:Fg)(f:Dat->Dat->g_):R2:=λx y H Q=>∃da c d fr,f da c=a_ (d,fr)/\rD K da c d fr x y H Q
def gL(K:Fg)(f:List Dat->g_):List V->Hp->VK->Prop:=λxs H Q=>∃ds d fr,f ds=a_ (d,fr)/\rDs K ds d fr xs H Q
section
variable{X:Cx}{C:Fs}{e:aX}
def a8{K:Fg}:(d_=c_->fX K H H' d v):=λh=>nomatch h
def Rj(i:Nat)(l:X.N[i]?=a_ x)(y:Qo X.env.scope x)(hd:(x == ("__debug__":bc))=d_)
  (c:(x == ("__classdict__":bc))=d_):SE X C (.Name x pos) (.v i):=
 PE.imp (rL l y hd c) λσ H Q B=>by
  obtain⟨ρ,d,fr,h,F,g,R,k⟩:=B;obtain⟨d',h1,h2⟩:=dZ h;cases h2
  have j:ρ[i]?=a_ (a_ d):=by
   cases q:ρ[i]? with
   |none=>rw[q]at h1;cases h1
   |some z=>simp_all
  obtain⟨v,e1,r⟩:=R i d j;exact⟨v,e1,k v F H (Step.refl g) r a8⟩
def uw(h:PE X e (tC v))(hd:∀F,Rep X.K F d v):SE X C e (.con d):=
 PE.imp h λσ H Q c=>by
  obtain⟨ρ,d',fr,h,F,g,R,k⟩:=c;cases h;exact k v F H (Step.refl g) (hd _) a8
def Rx{j}:SE X C (.Constant (.int i) j pos) (.con (.int i)):=uw Sd λ_=>rfl
def VO{b:Bool}{j}:SE X C (.Constant (.bool b) j pos) (.con (.bl b)):=uw Wa λ_=>rfl
def Ro{j}:SE X C (.Constant .none j pos) (.con .non):=uw R9 λ_=>rfl
def Rn{j}:SE X C (.Constant (.str x) j pos) (.con (.str x)):=uw R7 λ_=>rfl
def MY(g:Gl X x)(j:X.mg x=a_ u)(r:RelV v u)(c:∀F,Rep X.K F d v)(hd:(x == ("__debug__":bc))=d_):SE X C (.Name x pos) (.con d):=uw (Nt g j r hd) c
def Bo{α β γ:Type}{o:Option α}{o':Option β}{f:α->β->Option γ}{z:γ}(h:(o.bind λx=>o'.bind λy=>f x y)=a_ z):∃x y,o=a_ x/\o'=a_ y/\f x y=a_ z:=by
 obtain⟨x,h1,h⟩:=cR h;obtain⟨y,h2,h⟩:=cR h;exact⟨x,y,h1,h2,h⟩
def xQ(l:∀ρ d fr,bu C x ρ=a_ (d,fr)->∃p q,bu C xa ρ=a_ p/\bu C xb ρ=a_ q/\f p.1 q.1=a_ (d,fr)) :
  ∀σ H Q,gE X.K C x σ H Q->Pr (gB X.K f) (gE X.K C xa) (gE X.K C xb) σ H Q:=λσ H Q D=>by
 obtain⟨ρ,d,fr,h,F,g,R,k⟩:=D;obtain⟨⟨da,J⟩,⟨B,L⟩,h1,h2,h3⟩:=l ρ d fr h;refine⟨ρ,da,J,h1,F,g,R,λv F1 H1 c M _=>⟨ρ,B,L,h2,F1,c.good,R.mono c.ff,λw O H2 j U _=>?_⟩⟩;exact⟨da,B,d,fr,h3,O,j.good,M.mono j.ff,U,λu W Y y Z f3=>k u W Y ((c.trans j).trans y) Z λz=>(f3 z).back (F:=F) (c.hh.trans j.hh)⟩
def RA(ho:j7 X (binaryOp op) (gB X.K (iH o)))(ha:SE X C a xa)(hb:SE X C b xb):SE X C (.BinOp a op b pos) (.bin o xa xb):=
 PE.imp (PH ho ha hb) (xQ λρ d fr h=>Bo h)
def qG(o:XA)(x y:Dat):g_:=(gJ o x y).map λr=>(.bl r,d_)
def Ry(ho:j7 X (compareOp op) (gB X.K (qG o)))(ha:SE X C a xa)(hb:SE X C b xb)(c:behindInMarks op b=d_):SE X C (.Compare a [op] [b] pos) (.cmp o xa xb):=
 PE.imp (Nv ho ha hb c) (xQ λρ d fr h=>Bo h)
def QO(ho:j7 X (compareOp op) (gB X.K (qG o)))(ha:SE X C a xa)(hb:SE X C b xb)(c:behindInMarks op b=d_):ST X C (.Compare a [op] [b] pos) (.cmp o xa xb):=
 PT.imp (Nl ho ha hb c) λσ H Q j=>by
  obtain⟨ρ,d,fr,b,h,hb,F,g,R,k⟩:=j;refine xQ (x:=.cmp o xa xb) (f:=qG o) (λρ d fr h=>Bo h) σ H _ ⟨ρ,d,fr,h,F,g,R,λv F1 l st r _=>?_⟩;obtain⟨p,q,_,_,h3⟩:=Bo h;obtain⟨z,_,y⟩:=dZ h3;cases y;cases hb;exact⟨_,r,k F1 l st⟩
def VN(c:UL X (gB X.K λx y=>(vT x y).map λd=>(d,d_)))(ha:SE X C a xa)(hb:SE X C b xb)(hs:yU b):SE X C (.Subscript a b pos) (.ix xa xb):=
 PE.imp (Em c ha hb hs) (xQ λρ d fr h=>Bo h)
def Rq(ha:SE X C a xa):SE X C (.UnaryOp .USub a pos) (.neg xa):=
 PE.imp (V8 QA ha) λσ H Q j=>by
  obtain⟨ρ,d,fr,h,F,g,R,k⟩:=j;obtain⟨⟨da,l⟩,h1,h⟩:=cR h;refine⟨ρ,da,l,h1,F,g,R,λv F1 q c y _=>?_⟩
  cases da with
  |int i=>cases h;exact⟨i,y,k _ F1 q c rfl a8⟩
  |_=>cases h
set_option tactic.hygienic true in
def DK{K:Fg}{F H:Hp}{d:Dat}{v:V}{b:Bool}(g:Good F H)(r:Rep K F d v)(h:ju d=a_ b):UD K v H b:=by
 cases d with
 |non=>rw[r];cases h;exact rfl
 |bl c=>rw[r];cases h;exact rfl
 |int i=>rw[r];cases h;exact rfl
 |str x=>
   rw[r];simp only[ju]at h;split at h
   ·rename_i j;cases h;exact⟨j,rfl⟩
   ·cases h
 |tup ds=>
   obtain⟨p,vs,rfl,t,r⟩:=r;cases h
   have e:(!ds.isEmpty)=!vs.isEmpty:=by
    have:=r.length
    cases ds<;>cases vs<;>first|rfl|cases this
   rw[e];exact .inr (.inl ⟨vs,(t.mono g.sub).sq,rfl⟩)
 |lst ds=>
   obtain⟨p,vs,rfl,t,r⟩:=r;cases h
   have e:(!ds.isEmpty)=!vs.isEmpty:=by
    have:=r.length
    cases ds<;>cases vs<;>first|rfl|cases this
   rw[e];exact .inl ⟨vs,g.sub.seq t,rfl⟩
 |dcn _=>cases h
 |dct ks ds=>
   obtain⟨p,k_,rfl,t,kk,r⟩:=r;cases h
   have e:(!ks.isEmpty)=!k_.isEmpty:=by
    rw[<-kk];cases k_<;>rfl
   rw[e];exact .inr (.inr ⟨k_,g.sub _ _ t,rfl⟩)
def kC(h:SE X C e xa)(j:∀whole,isTrue e X.env whole=(do let v <-whole;standAt e.pos;holding [v] (truthy v)):=by intro _;rfl):ST X C e xa:=
 PT.imp (Jd h j) λσ H Q ⟨ρ,d,fr,b,h,hb,F,g,R,k⟩=>⟨ρ,d,fr,h,F,g,R,λv F1 l c q _=>⟨b,DK c.good q hb,k F1 l c⟩⟩
abbrev SW(X:Cx)(C:Fs)(e:aX)(x:Ex):Prop:=PW X e (gT X.K C x)
def Mv(ha:ST X C a xa):SW X C (.BoolOp .And [a] pos) xa:=Ni ha
def QE(ha:ST X C a xa):SW X C (.BoolOp .Or [a] pos) xa:=RR ha
def PW.imp(h:PW X e t)(f:∀σ H Q,t' σ H Q->t σ H Q):PW X e t':=λc h_ s σ H Q I q=>h c h_ s σ H Q I (f _ _ _ q)
def QF{rest:List aX}(ha:ST X C a xa)(hb:SW X C (.BoolOp .And (b::rest) pos) xb):SW X C (.BoolOp .And (a::b::rest) pos) (.and xa xb):=
 PW.imp (RT ha hb) λσ H Q B=>by
  obtain⟨ρ,d,fr,z,h,q,F,g,R,k⟩:=B;obtain⟨⟨da,v⟩,h1,h⟩:=cR h
  cases da with
  |bl c=>
    cases c with
    |true=>exact⟨ρ,_,v,c_,h1,rfl,F,g,R,λF1 y j=>by
      refine G0 ?_
      exact⟨ρ,d,fr,z,h,q,F1,j.good,R.mono j.ff,λD H2 l=>k D H2 (j.trans l)⟩⟩
    |false=>
      cases h;cases q
      exact⟨ρ,_,v,d_,h1,rfl,F,g,R,λF1 y j=>by
       refine G1 ?_
       exact k F1 y j⟩
  |_=>cases h
def Vy{rest:List aX}(ha:ST X C a xa)(hb:SW X C (.BoolOp .Or (b::rest) pos) xb):SW X C (.BoolOp .Or (a::b::rest) pos) (.or xa xb):=
 PW.imp (V3 ha hb) λσ H Q B=>by
  obtain⟨ρ,d,fr,z,h,q,F,g,R,k⟩:=B;obtain⟨⟨da,v⟩,h1,h⟩:=cR h
  cases da with
  |bl c=>
    cases c with
    |false=>exact⟨ρ,_,v,d_,h1,rfl,F,g,R,λF1 y j=>by
      refine G1 ?_
      exact⟨ρ,d,fr,z,h,q,F1,j.good,R.mono j.ff,λD H2 l=>k D H2 (j.trans l)⟩⟩
    |true=>
      cases h;cases q
      exact⟨ρ,_,v,c_,h1,rfl,F,g,R,λF1 y j=>by
       refine G0 ?_
       exact k F1 y j⟩
  |_=>cases h
def QN(ha:ST X C a xa):ST X C (.UnaryOp .Not a pos) (.not xa):=
 PT.imp (RV ha) λσ H Q c=>by
  obtain⟨ρ,d,fr,z,h,j,F,g,R,k⟩:=c;obtain⟨⟨da,l⟩,h1,h⟩:=cR h;obtain⟨q,hb,h⟩:=dZ h;cases h;cases j;exact⟨ρ,da,l,q,h1,hb,F,g,R,k⟩
def D2{op}(ha:SE X C a xa):SE X C (.BoolOp op [a] pos) xa:=R8 ha
def RB{rest:List aX}(ha:SE X C a xa)(hb:SE X C (.BoolOp .And (b::rest) pos) xb):SE X C (.BoolOp .And (a::b::rest) pos) (.and xa xb):=
 PE.imp (Sf ha hb) λσ H Q q=>by
  obtain⟨ρ,d,fr,h,F,g,R,k⟩:=q;obtain⟨⟨da,y⟩,h1,h⟩:=cR h
  cases da with
  |bl c=>
    refine⟨ρ,_,y,h1,F,g,R,λv F1 B j D _=>⟨c,D,?_⟩⟩
    cases c with
    |true=>
      refine G0 ?_;exact⟨ρ,d,fr,h,F1,j.good,R.mono j.ff,λv J H2 l L M=>k v J H2 (j.trans l) L λz=>(M z).back (F:=F) j.hh⟩
    |false=>
      cases h;exact G1 (k _ F1 B j rfl a8)
  |_=>cases h
def VI{rest:List aX}(ha:SE X C a xa)(hb:SE X C (.BoolOp .Or (b::rest) pos) xb):SE X C (.BoolOp .Or (a::b::rest) pos) (.or xa xb):=
 PE.imp (V9 ha hb) λσ H Q q=>by
  obtain⟨ρ,d,fr,h,F,g,R,k⟩:=q;obtain⟨⟨da,y⟩,h1,h⟩:=cR h
  cases da with
  |bl c=>
    refine⟨ρ,_,y,h1,F,g,R,λv F1 B j D _=>⟨c,D,?_⟩⟩
    cases c with
    |false=>
      refine G1 ?_;exact⟨ρ,d,fr,h,F1,j.good,R.mono j.ff,λv J H2 l L M=>k v J H2 (j.trans l) L λz=>(M z).back (F:=F) j.hh⟩
    |true=>
      cases h;exact G0 (k _ F1 B j rfl a8)
  |_=>cases h
def Rv(B:ST X C cnd xc)(ha:SE X C a xa)(hb:SE X C b xb):SE X C (.IfExp cnd a b pos) (.ite xc xa xb):=
 PE.imp (Jr B ha hb) λσ H Q D=>by
  obtain⟨ρ,d,fr,h,F,g,R,k⟩:=D;obtain⟨⟨da,J⟩,h1,h⟩:=cR h;obtain⟨z,L,h⟩:=cR h;refine⟨ρ,da,J,z,h1,L,F,g,R,λF1 M c=>?_⟩
  cases z with
  |true=>
    refine G0 ?_;exact⟨ρ,d,fr,h,F1,c.good,R.mono c.ff,λv l H2 j q y=>k v l H2 (c.trans j) q λz=>(y z).back (F:=F) c.hh⟩
  |false=>
    refine G1 ?_;exact⟨ρ,d,fr,h,F1,c.good,R.mono c.ff,λv l H2 j q y=>k v l H2 (c.trans j) q λz=>(y z).back (F:=F) c.hh⟩
def ot:SA X C [] []:=PA.imp x8 λσ H Q c=>by
 obtain⟨ρ,ds,h,F,g,R,k⟩:=c;cases h;exact k [] F H (Step.refl g) rfl
def jv(ha:SE X C e l)(q:SA X C es xs)(hs:aO (e::es) X.env=(d_,eval e X.env)::aO es X.env):SA X C (e::es) (l::xs):=
 PA.imp (qm ha q hs) λσ H Q y=>by
  obtain⟨ρ,ds,h,F,g,R,k⟩:=y;obtain⟨⟨d,fr⟩,h1,h⟩:=cR h;obtain⟨r,h2,h⟩:=dZ h;cases h;exact⟨ρ,d,fr,h1,F,g,R,λv F1 J c z _=>⟨ρ,r,h2,F1,c.good,R.mono c.ff,λvs B H2 j D=>k _ B H2 (c.trans j) ⟨v,vs,rfl,z.mono j.ff,D⟩⟩⟩
def oQ(h:n<=1000000):n<=ax:=by exact ab h (by decide)
def II:SF X C [] []:=PA.imp x8 λσ H Q c=>by
 obtain⟨ρ,ds,al,h,F,g,R,k⟩:=c;cases h;exact k [] F H (Step.refl g) rfl λ_=>⟨[],eR,(λa z=>by cases z),rfl,rfl⟩
def DX(ha:SE X C e y)(B:SF X C es xs)(hs:aO (e::es) X.env=(d_,eval e X.env)::aO es X.env):SF X C (e::es) (y::xs):=
 PA.imp (qm ha B hs) λσ H Q D=>by
  obtain⟨ρ,ds,al,h,F,g,R,k⟩:=D;obtain⟨⟨d,fr⟩,h1,h⟩:=cR h;obtain⟨⟨r,J⟩,h2,h⟩:=dZ h;cases h;refine⟨ρ,d,fr,h1,F,g,R,λv F1 W c q L=>⟨ρ,r,J,h2,F1,c.good,R.mono c.ff,λvs M H2 j O U=>k _ M H2 (c.trans j) ⟨v,vs,rfl,q.mono j.ff,O⟩ λz=>?_⟩⟩;simp only[aj,kQ]at z;refine e8.cons c.hh j.hh ?_ (U z.2)
  rcases z.1 with l|l
  ·exact L l
  ·exact .jO c.good l q
set_option tactic.hygienic true
def Rk{x1}(h:SF X C es xs):SE X C (.Tuple es x1 pos) (.tup xs):=
 PE.imp (R6 h) λσ H Q l=>by
  obtain⟨ρ,d,fr,h,F,g,R,k⟩:=l;obtain⟨⟨ds,al⟩,h1,h⟩:=cR h;dsimp only at h;split at h
  ·rename_i q;cases h;refine⟨ρ,ds,_,h1,F,g,R,λvs F1 y c j v=>⟨by rw[j.length];exact oQ q,λp hp=>?_⟩⟩;exact k _ _ _ (c.trans (Step.alloc c.good hp)) ⟨p,vs,rfl,.inl cu,j.mono (bT.upd (c.good.sub.free hp))⟩ λz=>.tup hp (v z)
  ·cases h
def Rt(h:SF X C es xs):SE X C (.List es pos) (.lst xs):=
 PE.imp (Sa h) λσ H Q l=>by
  obtain⟨ρ,d,fr,h,F,g,R,k⟩:=l;obtain⟨⟨ds,al⟩,h1,h⟩:=cR h;dsimp only at h;split at h
  ·rename_i q;cases h;refine⟨ρ,ds,_,h1,F,g,R,λvs F1 B c j v=>⟨by rw[j.length];exact oQ q,λp hp=>?_⟩⟩;have y:=j.mono (bT.upd (o:=.lst vs) (c.good.sub.free hp));exact k _ _ _ (c.trans (Step.alloc c.good hp)) ⟨p,vs,rfl,.inl (.inl cu),y⟩ λz=>.lst c.hh hp (v z)
  ·cases h
set_option tactic.hygienic false
def Q5(K:Fg)(n:Nat)(f:List Dat->g_):Sp:=λvs H Q _=>vs.length=n/\gL K f vs H Q
def qL(j:∀ρ d fr,bu C x ρ=a_ (d,fr)->∃ds,mR C xs ρ=a_ ds/\f ds=a_ (d,fr)) :
  ∀σ H Q,gE X.K C x σ H Q->Yj (gL X.K f) (gA X.K C xs) σ H Q:=λσ H Q q=>by
 obtain⟨ρ,d,fr,h,F,g,R,k⟩:=q;obtain⟨ds,h1,h2⟩:=j ρ d fr h;refine⟨ρ,ds,h1,F,g,R,λvs F1 L c y=>⟨ds,d,fr,h2,F1,c.good,y,λv B H2 l D J=>k v B H2 (c.trans l) D λz=>(J z).back (F:=F) c.hh⟩⟩
theorem mQ:∀{xs:List Ex}{ρ:iJ}{ds:List Dat},mR C xs ρ=a_ ds->ds.length=xs.length
 |[],ρ,ds,h=>by cases h;rfl
 |x::xs,ρ,ds,h=>by
   obtain⟨d,_,h⟩:=cR h;obtain⟨r,h2,h⟩:=dZ h;cases h;rw[ba,ba,mQ h2]
def M1(j n:Nat)(G:nK X.prog X.w X.K X.mg X.base Hv k f fd ps (Q5 X.K n (C j)))(B:mU k X.A)(D:Gl X x)(J:X.mg x=a_ (.ref f))(L:f7 X.K (.ref f)=c_)(hb:Binds X.K fd ps [])
  (ha:SA X C (e::es) (c::xs))(M:(c::xs).length=n)(l:(x == ("__debug__":bc))=d_)(O:aO (e::es) X.env=(d_,eval e X.env)::aO es X.env)(q:(backTo pos (aO es X.env)).any (·.1)=d_) :
  SE X C (.Call (.Name x p) (e::es) [] pos) (.call j (c::xs)):=
 PE.imp (Nw G B D J L hb .nil PJ ha l O q) λσ H Q h=>by
  have h':=qL (x:=.call j (c::xs)) (λρ d fr h=>cR h) σ H Q h;obtain⟨ρ,ds,h1,F,g,R,k⟩:=h';refine⟨ρ,ds,h1,F,g,R,λvs F1 y v z=>?_⟩;show Q5 X.K n (C j) (vs++[]) y Q E0;rw[az];exact⟨by rw[z.length,mQ h1,M],k vs F1 y v z⟩
def D1{id:String}(j:km X (.builtin id) (gL X.K (fQ bt)))(k:Gl X x)(l:X.mg x=b_)(q:bootBuiltins x=a_ (.builtin id))(ha:SA X C (e::es) xs)(v:x≠"__name__")(c:(x == ("__debug__":bc))=d_)
  (y:aO (e::es) X.env=(d_,eval e X.env)::aO es X.env)(g:(backTo pos (aO es X.env)).any (·.1)=d_):SE X C (.Call (.Name x p) (e::es) [] pos) (.blt bt xs):=
 PE.imp (Aa j k l q ha v c y g) (qL λρ d fr h=>cR h)
def tQ{T:String}(j:km X (.type T) (gL X.K (fQ bt)))(k:Gl X x)(l:X.mg x=b_)(q:bootBuiltins x=a_ (.type T))(ha:SA X C (e::es) xs)(v:x≠"__name__")(c:(x == ("__debug__":bc))=d_)
  (y:aO (e::es) X.env=(d_,eval e X.env)::aO es X.env)(g:(backTo pos (aO es X.env)).any (·.1)=d_):SE X C (.Call (.Name x p) (e::es) [] pos) (.blt bt xs):=
 PE.imp (GL j k l q ha v c y g) (qL λρ d fr h=>cR h)
end
section
variable{a b:aX}{xs:List Ex}{s:ai}
theorem oN:∀{n:Nat}{ds:List Dat}{j:Nat}{d:Dat},eA n ds=c_->ds[j]?=a_ d->iC n d=c_
 |_,[],_,_,_,e=>by simp at e
 |n,x::xs,0,d,h,e=>by
   simp only[eA,aj]at h;simp at e;subst e;exact h.1
 |n,x::xs,j+1,d,h,e=>by
   simp only[eA,aj]at h;exact oN h.2 (by simpa using e)
theorem pQ:∀xs ys:List Dat,oB xs ys=((aK (min xs.length ys.length)).all (λj=>oD (xs.getD j .non) (ys.getD j .non)) && xs.length == ys.length)
 |[],[]=>by simp[oB]
 |[],y::ys=>by simp[oB]
 |x::xs,[]=>by simp[oB]
 |x::xs,y::ys=>by
   have h:=pQ xs ys;simp only[oB,ba,Nat.succ_min_succ,Nat.succ_eq_add_one];rw[h,BB,dC];simp[Function.comp_def,Po]
def _root_.L2.Inv.lstR{a:aF}{vs:List V}(I:Inv X h_ σ H s)(g:Good F H)(h:mo X.K F a vs):∃its:List ah,cF vs its/\PlainL s.heap a its.toArray/\vs.length<=ax:=I.list (g.sub.seq h)
def _root_.L2.Inv.tupR{a:aF}{vs:List V}(I:Inv X h_ σ H s)(g:Good F H)(h:Tq X.K F a vs):∃its:List ah,cF vs its/\y7 s.heap a its.toArray/\vs.length<=ax:=I.tuple (h.mono g.sub).sq
def _root_.L2.Inv.noLT{a:aF}{vs ws:List V}(I:Inv X h_ σ H s)(g:Good F H)(h:mo X.K F a vs)(h':Tq X.K F a ws):False:=by
 obtain⟨its,_,⟨o,n,e,c,_⟩,_⟩:=I.lstR g h;obtain⟨d,_,⟨o',j,k,_⟩,_⟩:=I.tupR g h'
 grind
mutual
noncomputable def sJ:Dat->Bool
 |.dct _ _=>d_
 |.dcn _=>d_
 |.tup xs=>hZ xs
 |.lst xs=>hZ xs
 |_=>c_
noncomputable def hZ:List Dat->Bool
 |[]=>c_
 |x::xs=>sJ x && hZ xs
end
mutual
theorem uM:∀(n:Nat)(d:Dat),iC n d=c_->sJ d=c_
 |n,.non,_=>rfl
 |n,.bl _,_=>rfl
 |n,.int _,_=>rfl
 |n,.str _,_=>rfl
 |0,.tup _,h=>by simp[iC]at h
 |0,.lst _,h=>by simp[iC]at h
 |n+1,.tup xs,h=>rQ n xs (by simpa [iC]using h)
 |n+1,.lst xs,h=>rQ n xs (by simpa [iC]using h)
 |n,.dct _ _,h=>by cases n<;>simp[iC]at h
 |n,.dcn _,h=>by cases n<;>simp[iC]at h
theorem rQ:∀(n:Nat)(ds:List Dat),eA n ds=c_->hZ ds=c_
 |n,[],_=>rfl
 |n,d::ds,h=>by
   have h':iC n d=c_/\eA n ds=c_:=by cases n<;>simpa [eA]using h
   simp only[hZ,uM n d h'.1,rQ n ds h'.2,kB]
end
mutual
theorem zS(I:Inv X h_ σ H s)(g:Good F H):∀(da j:Dat){x:V},sJ da=c_->sJ j=c_->Rep X.K F da x->Rep X.K F j x->oD da j=c_
 |.non,j,x,na,nb,k,d=>by
   rw[k]at d
   cases j with
   |non=>rfl
   |tup _=>obtain⟨_,_,z,_⟩:=d;cases z
   |lst _=>obtain⟨_,_,z,_⟩:=d;cases z
   |dct _ _=>exact nomatch nb
   |dcn _=>exact nomatch nb
   |_=>cases d
 |.bl b,j,x,na,nb,k,d=>by
   rw[k]at d
   cases j with
   |bl c=>cases d;simp[oD]
   |tup _=>obtain⟨_,_,z,_⟩:=d;cases z
   |lst _=>obtain⟨_,_,z,_⟩:=d;cases z
   |dct _ _=>exact nomatch nb
   |dcn _=>exact nomatch nb
   |_=>cases d
 |.int i,j,x,na,nb,k,d=>by
   rw[k]at d
   cases j with
   |int c=>cases d;simp[oD]
   |tup _=>obtain⟨_,_,z,_⟩:=d;cases z
   |lst _=>obtain⟨_,_,z,_⟩:=d;cases z
   |dct _ _=>exact nomatch nb
   |dcn _=>exact nomatch nb
   |_=>cases d
 |.str i,j,x,na,nb,k,d=>by
   rw[k]at d
   cases j with
   |str c=>cases d;simp[oD]
   |tup _=>obtain⟨_,_,z,_⟩:=d;cases z
   |lst _=>obtain⟨_,_,z,_⟩:=d;cases z
   |dct _ _=>exact nomatch nb
   |dcn _=>exact nomatch nb
   |_=>cases d
 |.dct _ _,_,_,na,_,_,_=>nomatch na
 |.dcn _,_,_,na,_,_,_=>nomatch na
 |.tup ds,j,x,na,nb,y,d=>by
   obtain⟨p,vs,e,t,r⟩:=y;subst e
   cases j with
   |tup es=>
     obtain⟨q,us,l,t',v⟩:=d;cases l;have ev :=I.mJ (t.mono g.sub).sq (t'.mono g.sub).sq;subst ev;exact rG I g ds es na nb r v
   |lst es=>
     obtain⟨q,us,l,t',v⟩:=d;cases l;exact(I.noLT g t' t).elim
   |dct _ _=>exact nomatch nb
   |dcn _=>exact nomatch nb
   |_=>cases d
 |.lst ds,j,x,na,nb,y,d=>by
   obtain⟨p,vs,e,t,r⟩:=y;subst e
   cases j with
   |lst es=>
     obtain⟨q,us,l,t',v⟩:=d;cases l;have ev :=I.mO (g.sub.seq t) (g.sub.seq t');subst ev;exact rG I g ds es na nb r v
   |tup es=>
     obtain⟨q,us,l,t',v⟩:=d;cases l;exact(I.noLT g t t').elim
   |dct _ _=>exact nomatch nb
   |dcn _=>exact nomatch nb
   |_=>cases d
theorem rG(I:Inv X h_ σ H s)(g:Good F H):∀(ds es:List Dat){vs:List V},hZ ds=c_->hZ es=c_->cO X.K F ds vs->cO X.K F es vs->oB ds es=c_
 |[],es,vs,na,nb,h,h'=>by
   rw[show vs=[]from h]at h'
   cases es with
   |nil=>rfl
   |cons _ _=>obtain⟨_,_,z,_⟩:=h';cases z
 |d::ds,es,vs,na,nb,q,h'=>by
   obtain⟨v,r,e,h1,h2⟩:=q;subst e
   cases es with
   |nil=>exact nomatch (show v::r=[]from h')
   |cons f fs=>
     obtain⟨B,D,y,k,l⟩:=h';cases y;simp only[oB,aj];have c:sJ d=c_/\hZ ds=c_:=by simpa [hZ]using na
     have j:sJ f=c_/\hZ fs=c_:=by simpa [hZ]using nb
     exact⟨zS I g d f c.1 j.1 h1 k,rG I g ds fs c.2 j.2 h2 l⟩
end
def xP(r:cF vs its)(h:j<its.toArray.size):∃v,vs[j]?=a_ v/\RelV v its.toArray[j]:=by
 have hl:=r.length;have c:j<vs.length:=by simp_all
 obtain⟨u,g,d⟩:=r.get (ae c);refine⟨_,ae c,?_⟩
 have:its.toArray[j]=u:=by
  have h':j<its.length:=by simpa using h
  simp_all
 rw[this];exact d
def SK(h:iC n (.dcn ks)=c_):False:=by
 cases n<;>simp[iC]at h
def SJ(h:iC n (.dct ks vs)=c_):False:=by
 cases n<;>simp[iC]at h
inductive Vw (s:ai):Dat->ah->Prop
 |non:Vw s .non .none
 |bl (b:Bool):Vw s (.bl b) (.bool b)
 |int (i:Int) (t:DD):Vw s (.int i) (.int i t)
 |str (x:bc) (t:DD):Vw s (.str x) (.str x t)
 |tup {ds:List Dat} {p:aF} {its:Array ah}:s.heap.IsTuple p its->Vw s (.tup ds) (.ref p)
 |lst {ds:List Dat} {p:aF} {its:Array ah}:s.heap.IsList p its->Vw s (.lst ds) (.ref p)
def vw(I:Inv X h_ σ H s)(g:Good F H)(sa:iC n da=c_)(c:Rep X.K F da x)(d:RelV x u):Vw s da u:=by
 cases da with
 |non=>cases c;rw[d];exact .non
 |bl b=>cases c;rw[d];exact .bl b
 |int i=>cases c;obtain⟨t,rfl⟩:=d;exact .int i t
 |str z=>cases c;obtain⟨t,rfl⟩:=d;exact .str z t
 |tup ds=>
   obtain⟨p,vs,rfl,t,r⟩:=c;obtain⟨its,j,pl,_⟩:=I.tupR g t;rw[d];exact .tup pl
 |lst ds=>
   obtain⟨p,vs,rfl,t,r⟩:=c;obtain⟨its,j,pl,_⟩:=I.lstR g t;rw[d];exact .lst pl.isList
 |dct _ _=>exact(SJ sa).elim
 |dcn _=>exact(SK sa).elim
noncomputable def isT:Dat->Bool
 |.tup _=>c_
 |_=>d_
noncomputable def isL:Dat->Bool
 |.lst _=>c_
 |_=>d_
def Lv(a b:Dat):Bool:=match a with
 |.tup _=>isT b
 |.lst _=>isL b
 |_=>d_
def ZI(A:bP)(s:ai)(u w:ah)(b:Bool):Prop:=vH A s u w b/\FR A s u w b/\zo A s u w (!b)
def KQ{A:bP}(c:A.units<dh)(a:Vw s da u)(b:Vw s db w)(h:Lv da db=d_):ZI A s u w (oD da db):=by
 cases a with
 |non=>
   cases b with
   |non=>exact⟨.same _,.none_none,.none_none⟩
   |bl _=>exact⟨.none_bool _,.none_bool _,.none_bool _⟩
   |int _ _=>exact⟨.none_int _ _,.none_int _ _,.none_int _ _⟩
   |str _ _=>exact⟨.none_str _ _,.none_str _ _,.none_str _ _⟩
   |tup q=>exact⟨.none_tuple q c,.none_tuple q c,.none_tuple q c⟩
   |lst q=>exact⟨.none_list q c,.none_list q c,.none_list q c⟩
 |bl _=>
   cases b with
   |non=>exact⟨.bool_none _,.bool_none _,.bool_none _⟩
   |bl _=>exact⟨.bool_bool _ _,.bool_bool _ _,.bool_bool _ _⟩
   |int _ _=>exact⟨.bool_int _ _ _,.bool_int _ _ _,.bool_int _ _ _⟩
   |str _ _=>exact⟨.bool_str _ _ _,.bool_str _ _ _,.bool_str _ _ _⟩
   |tup q=>exact⟨.bool_tuple _ q c,.bool_tuple _ q c,.bool_tuple _ q c⟩
   |lst q=>exact⟨.bool_list _ q c,.bool_list _ q c,.bool_list _ q c⟩
 |int _ _=>
   cases b with
   |non=>exact⟨.int_none _ _,.int_none _ _,.int_none _ _⟩
   |bl _=>exact⟨.int_bool _ _ _,.int_bool _ _ _,.int_bool _ _ _⟩
   |int _ _=>exact⟨.int_int _ _ _ _,.int_int _ _ _ _,.int_int _ _ _ _⟩
   |str _ _=>exact⟨.int_str _ _ _ _,.int_str _ _ _ _,.int_str _ _ _ _⟩
   |tup q=>exact⟨.int_tuple _ _ q c,.int_tuple _ _ q c,.int_tuple _ _ q c⟩
   |lst q=>exact⟨.int_list _ _ q c,.int_list _ _ q c,.int_list _ _ q c⟩
 |str _ _=>
   cases b with
   |non=>exact⟨.str_none _ _,.str_none _ _,.str_none _ _⟩
   |bl _=>exact⟨.str_bool _ _ _,.str_bool _ _ _,.str_bool _ _ _⟩
   |int _ _=>exact⟨.str_int _ _ _ _,.str_int _ _ _ _,.str_int _ _ _ _⟩
   |str _ _=>exact⟨.str_str _ _ _ _,.str_str _ _ _ _,.str_str _ _ _ _⟩
   |tup q=>exact⟨.str_tuple _ _ q c,.str_tuple _ _ q c,.str_tuple _ _ q c⟩
   |lst q=>exact⟨.str_list _ _ q c,.str_list _ _ q c,.str_list _ _ q c⟩
 |tup p=>
   cases b with
   |non=>exact⟨.tuple_none p c,.tuple_none p c,.tuple_none p c⟩
   |bl _=>exact⟨.tuple_bool _ p c,.tuple_bool _ p c,.tuple_bool _ p c⟩
   |int _ _=>exact⟨.tuple_int _ _ p c,.tuple_int _ _ p c,.tuple_int _ _ p c⟩
   |str _ _=>exact⟨.tuple_str _ _ p c,.tuple_str _ _ p c,.tuple_str _ _ p c⟩
   |tup q=>cases h
   |lst q=>exact⟨.tuple_list p q c,.tuple_list p q c,.tuple_list p q c⟩
 |lst p=>
   cases b with
   |non=>exact⟨.list_none p c,.list_none p c,.list_none p c⟩
   |bl _=>exact⟨.list_bool _ p c,.list_bool _ p c,.list_bool _ p c⟩
   |int _ _=>exact⟨.list_int _ _ p c,.list_int _ _ p c,.list_int _ _ p c⟩
   |str _ _=>exact⟨.list_str _ _ p c,.list_str _ _ p c,.list_str _ _ p c⟩
   |tup q=>exact⟨.list_tuple p q c,.list_tuple p q c,.list_tuple p q c⟩
   |lst q=>cases h
def qE(I:Inv X h_ σ H s)(g:Good F H):∀(n:Nat) (A:bP) (da k:Dat) {x y:V} {u w:ah},A.units+n<dh->iC n da=c_->iC n k=c_->Rep X.K F da x->Rep X.K F k y->RelV x u->RelV y w->
  ZI A s u w (oD da k):=by
 intro n
 induction n with
 |zero=>
   intro A da k x y u w W sa z B D O R;exact KQ W (vw I g sa B O) (vw I g z D R) (by cases da<;>first|rfl|(cases sa;done))
 |succ n ih=>
   intro A da k x y u w W sa z B D O R;have c :=aB (bb _ _) W;by_cases U:Lv da k=d_
   ·exact KQ c (vw I g sa B O) (vw I g z D R) U
   have Y:A.in1.units+n<dh:=by show A.units+1+n<dh;omega
   have items:∀{ds es:List Dat} {vs us:List V} {its l:List ah},eA n ds=c_->eA n es=c_->cO X.K F ds vs->cO X.K F es us->cF vs its->cF us l->
     (∀j(h1:j<its.toArray.size)(h2:j<l.toArray.size),vH A.in1 s its.toArray[j] l.toArray[j] (oD (ds.getD j .non) (es.getD j .non)))/\its.toArray.size=ds.length/\l.toArray.size=es.length:=by
    intro ds es vs us its l s1 s2 Z r2 J L;refine⟨λj h1 h2=>?_,by rw[bp,<-J.length,Z.length],by rw[bp,<-L.length,r2.length]⟩;obtain⟨v,e1,q1⟩:=xP J h1;obtain⟨v',e2,q2⟩:=xP L h2;have l1:j<ds.length:=by have:=Z.length;have:=(aN.mp e1).1;omega
    have l2:j<es.length:=by have:=r2.length;have:=(aN.mp e2).1;omega
    obtain⟨z1,f1,p1⟩:=Z.get (ae l1);obtain⟨z2,f2,p2⟩:=r2.get (ae l2);rw[e1]at f1;cases f1;rw[e2]at f2;cases f2;have g1:ds.getD j .non=ds[j]:=by simp[List.getD,l1]
    have g2:es.getD j .non=es[j]:=by simp[List.getD,l2]
    rw[g1,g2];exact(ih A.in1 _ _ Y (oN s1 (ae l1)) (oN s2 (ae l2)) p1 p2 q1 q2).1
   have both:∀{p q:aF},x=.ref p->y=.ref q->FR A s (.ref p) (.ref q) (oD da k)->zo A s (.ref p) (.ref q) (!oD da k)->ZI A s u w (oD da k):=by
    intro p q e1 e2 h h';subst e1 e2;obtain rfl:u=.ref p:=O;obtain rfl:w=.ref q:=R;refine⟨?_,h,h'⟩;by_cases M:p=q
    ·subst M;rw[zS I g da k (uM _ _ sa) (uM _ _ z) B D];exact .same _
    ·exact .of_refs M h
   cases da with
   |tup ds=>
     cases k with
     |tup es=>
       obtain⟨p,vs,rfl,t,r⟩:=id B;obtain⟨its,J,pl,_⟩:=I.tupR g t;obtain⟨q,us,rfl,t',r'⟩:=id D;obtain⟨l,L,d,_⟩:=I.tupR g t';obtain⟨hi,e1,e2⟩:=items sa z r r' J L;have h1:=SeqAt.RcAt.tuples pl d c hi;have h2:=SeqAt.RcNeAt.tuples pl d c hi;rw[e1,e2,<-pQ]at h1 h2;exact both rfl rfl h1 h2
     |_=>exact absurd rfl U
   |lst ds=>
     cases k with
     |lst es=>
       obtain⟨p,vs,rfl,t,r⟩:=id B;obtain⟨its,J,pl,_⟩:=I.lstR g t;obtain⟨q,us,rfl,t',r'⟩:=id D;obtain⟨l,L,d,_⟩:=I.lstR g t';obtain⟨hi,e1,e2⟩:=items sa z r r' J L;have e:=pQ ds es;by_cases hsz:its.toArray.size=l.toArray.size
       ·have h1:=SeqAt.RcAt.lists pl.isList d.isList hsz c hi;have h2:=SeqAt.RcNeAt.lists pl.isList d.isList hsz c hi;have e3:(ds.length == es.length)=c_:=by rw[<-e1,<-e2,hsz];exact beq_self_eq_true _
        rw[e3,eO,<-e1,<-e2,<-hsz,Nat.min_self]at e;rw[<-e]at h1 h2;exact both rfl rfl h1 h2
       ·have hz:(its.toArray.size != l.toArray.size)=c_:=by simpa using hsz
        have h1:=SeqAt.RcAt.lists_lengths pl.isList d.isList hz c;have h2:=SeqAt.RcNeAt.lists_lengths pl.isList d.isList hz c;have e3:(ds.length == es.length)=d_:=by rw[<-e1,<-e2];simpa using hsz
        rw[e3,Pn]at e;refine both rfl rfl ?_ ?_
        ·show FR _ _ _ _ (oB ds es);rw[e];exact h1
        ·show zo _ _ _ _ (!oB ds es);rw[e];exact h2
     |_=>exact absurd rfl U
   |_=>exact absurd rfl U
end
section
variable{X:Cx}
def DU (h:a_ (a,b)=a_ (a',b')):a=a'/\b=b':=by simp_all
def Jw:j7 X (binaryOp .Add) (λx y H Q=>∃a b ys,x=.ref a/\y=.ref b/\sk X.K H a []/\sk X.K H b ys/\Q (.ref b) H):=by
 intro h_ s σ H x y v u Q I l z h;obtain⟨a,b,ys,rfl,rfl,ha,hb,q⟩:=h;cases l;cases z;obtain⟨its,B,D,_⟩:=I.tuple ha;obtain⟨J,U,L,_⟩:=I.tuple hb;cases B;obtain⟨⟨cls,M,data,sl⟩,ho,O,n,hd⟩:=id D;obtain⟨⟨k,d,data2,xW⟩,c,g,R,j⟩:=id L;subst O hd g j;exact vF ⟨_,ho,rfl⟩ ⟨_,c,rfl⟩ xG FO m6 mF (lY _ _) (tuple_addW0 a b _ J.toArray n R M d sl xW rfl) ⟨ho,c,.ref b,H,I,rfl,q⟩
set_option tactic.hygienic true
def NI:j7 X (binaryOp .Add) (gB X.K (iH .add)):=by
 intro h_ s σ H x y v u Q I B D h;obtain⟨da,db,d,fr,h,F,g,L,M,k⟩:=h;cases da<;>cases db<;>simp only[iH,Xr,reduceCtorEq]at h
 ·obtain⟨rfl,rfl⟩:=DU h;exact Sw h_ s σ H _ _ v u Q I B D ⟨_,_,L,M,k _ F H (Step.refl g) rfl a8⟩
 ·split at h
  ·rename_i j;obtain⟨rfl,rfl⟩:=DU h;exact CB h_ s σ H _ _ v u Q I B D ⟨_,_,L,M,j,k _ F H (Step.refl g) rfl a8⟩
  ·cases h
 ·split at h
  ·rename_i xs ys j;obtain⟨rfl,rfl⟩:=DU h;obtain⟨p,vs,rfl,t,r⟩:=L;obtain⟨q,us,rfl,t',c⟩:=M;by_cases hv:vs=[]
   ·subst hv;have e :=ua r.length.symm;subst e;exact Jw h_ s σ H _ _ v u Q I B D ⟨p,q,us,rfl,rfl,(t.mono g.sub).sq,(t'.mono g.sub).sq,k _ F H (Step.refl g) ⟨q,us,rfl,t',c⟩ a8⟩
   refine NF h_ s σ H _ _ v u Q I B D ⟨p,q,vs,us,rfl,rfl,(t.mono g.sub).sq,(t'.mono g.sub).sq,hv,?_,?_,?_⟩
   ·rw[r.length,c.length];exact j
   ·intro z;subst z;have:=c.length;have e :=ua this.symm;subst e;refine k _ F H (Step.refl g) ⟨p,vs,rfl,t,?_⟩ a8
    simp_all
   ·intro _ l hl;exact k _ _ _ (Step.alloc g hl) ⟨l,vs++us,rfl,.inl cu,(r.append c).mono (bT.upd (g.sub.free hl))⟩ a8
  ·cases h
 ·split at h
  ·rename_i xs ys j;obtain⟨rfl,rfl⟩:=DU h;obtain⟨p,vs,rfl,t,r⟩:=L;obtain⟨q,us,rfl,t',c⟩:=M;obtain⟨its,w1,pl,_⟩:=I.lstR g t;obtain⟨O,w2,R,_⟩:=I.lstR g t';obtain rfl:v=.ref p:=B;obtain rfl:u=.ref q:=D;obtain⟨⟨cls,dd,data,sl⟩,ho,hc,n,hd⟩:=pl.isList;obtain⟨⟨cls2,U,data2,xW⟩,J,W,n2,Y⟩:=R.isList;subst hc hd W Y;refine vF ⟨_,ho,rfl⟩ ⟨_,J,rfl⟩ noFill_list_add seq_list_add PySem.F.slot_list_add PySem.F.entry_list_add (PySem.F.args_list_add_2 _ _) (list_addW p q its.toArray O.toArray n n2 dd U sl xW (by rw[bp,bp,<-w1.length,<-w2.length,r.length,c.length];exact j)) ⟨ho,J,?_⟩;have ea:its.toArray++O.toArray=(its++O).toArray:=by simp
   rw[ea];have Z:(vs++us).length<=ax:=by rw[ag,r.length,c.length];exact j
   have r2:=(r.append c).mono (bT.upd (o:=.lst (vs++us)) (g.sub.free I.fresh));exact⟨.ref _,_,I.Wv (w1.append w2) Z,rfl,k _ _ _ (Step.alloc g I.fresh) ⟨_,vs++us,rfl,.inl (.inl cu),r2⟩ λz=>.lst (bT.refl _) I.fresh (.jO g z (r.append c))⟩
  ·cases h
def PL{op:BP}{o:Vg}{l:Int->Int->Prop}{f:Int->Int->Int}(h:j7 X (binaryOp op) (rI l λi j=>.int (f i j)))
  (hb:∀da c d fr,iH o da c=a_ (d,fr)->∃i j,da=.int i/\c=.int j/\l i j/\d=.int (f i j)/\fr=d_):j7 X (binaryOp op) (gB X.K (iH o)):=
 j7.imp h λx y H Q q=>by
  obtain⟨da,c,d,fr,h,F,g,v,z,k⟩:=q;obtain⟨i,j,rfl,rfl,B,rfl,rfl⟩:=hb da c d fr h;exact⟨i,j,v,z,B,k _ F H (Step.refl g) rfl a8⟩
def Sy{op:BP}{o:Vg}{f:Int->Int->Int}(h:j7 X (binaryOp op) (PD λi j=>.int (f i j)))
  (hb:∀da c d fr,iH o da c=a_ (d,fr)->∃i j,da=.int i/\c=.int j/\d=.int (f i j)/\fr=d_):j7 X (binaryOp op) (gB X.K (iH o)):=
 j7.imp h λx y H Q l=>by
  obtain⟨da,c,d,fr,h,F,g,q,v,k⟩:=l;obtain⟨i,j,rfl,rfl,rfl,rfl⟩:=hb da c d fr h;exact⟨i,j,q,v,k _ F H (Step.refl g) rfl a8⟩
def NH:j7 X (binaryOp .BitAnd) (gB X.K (iH .band)):=Sy Sv λda c d fr h=>by
 cases da<;>cases c<;>simp only[iH,Hs,reduceCtorEq]at h
 grind
def NB:j7 X (binaryOp .Mult) (gB X.K (iH .mul)):=by
 intro h_ s σ H x y v u Q I c l h;obtain⟨da,J,d,fr,h,F,g,B,D,k⟩:=h;cases da<;>cases J<;>simp only[iH,Xp,reduceCtorEq]at h
 ·split at h
  ·rename_i q;cases h;exact Sk h_ s σ H _ _ v u Q I c l ⟨_,_,B,D,q,k _ F H (Step.refl g) rfl a8⟩
  ·cases h
 ·split at h
  ·rename_i z j q;cases h;rw[B]at c;rw[D]at l;obtain⟨t,rfl⟩:=c;obtain⟨t',rfl⟩:=l;exact PySem.SB.mul q λL M=>⟨.str _,H,I.tok M,⟨L,rfl⟩,k _ F H (Step.refl g) rfl a8⟩
  ·cases h
def NC:j7 X (binaryOp .Mod) (gB X.K (iH .mod)):=PL Sl λda c d fr h=>by
 cases da<;>cases c<;>simp only[iH,Hs,reduceCtorEq]at h
 simp_all
def Ny:j7 X (binaryOp .RShift) (gB X.K (iH .shr)):=PL Si λda c d fr h=>by
 cases da<;>cases c<;>simp only[iH,Hs,reduceCtorEq]at h
 simp_all
def jY(h:qG o da db=a_ (d,fr)):∃b,gJ o da db=a_ b/\d=.bl b/\fr=d_:=by
 obtain⟨b,h1,h2⟩:=dZ h
 grind
def Lc{op:CmpOp}{o:XA}{f:Int->Int->Bool}(h:j7 X (compareOp op) (PD λi j=>.bl (f i j)))(hb:∀da c b,gJ o da c=a_ b->∃i j,da=.int i/\c=.int j/\b=f i j):j7 X (compareOp op) (gB X.K (qG o)):=
 j7.imp h λx y H Q l=>by
  obtain⟨da,c,d,fr,h,F,g,q,v,k⟩:=l;obtain⟨b,hd,rfl,rfl⟩:=jY h;obtain⟨i,j,rfl,rfl,rfl⟩:=hb da c b hd;exact⟨i,j,q,v,k _ F H (Step.refl g) rfl a8⟩
def Sm:j7 X (compareOp .Lt) (gB X.K (qG .lt)):=Lc Wc λda c b h=>by
 cases da<;>cases c<;>simp only[gJ,Uh,reduceCtorEq]at h
 simp_all
def Sq:j7 X (compareOp .Gt) (gB X.K (qG .gt)):=Lc Wd λda c b h=>by
 cases da<;>cases c<;>simp only[gJ,Uh,reduceCtorEq]at h
 cases h;exact⟨_,_,rfl,rfl,rfl⟩
def Sr(j:X.A.units+20<dh):j7 X (compareOp .Eq) (gB X.K (qG .eq)):=λh_ s σ H x y v u Q I l q c=>by
 obtain⟨da,z,d,fr,h,F,g,B,D,k⟩:=c;obtain⟨b,hd,rfl,rfl⟩:=jY h;simp only[gJ]at hd;split at hd
 ·rename_i hs;cases hd;simp only[aj]at hs;exact(qE I g 20 X.A da z j hs.1 hs.2 B D l q).2.1 X.prog X.w _ _ ⟨.bl _,H,I,rfl,k _ F H (Step.refl g) rfl a8⟩
 ·cases hd
set_option tactic.hygienic false
end
structure Ow(K:Fg)(H₀ F H:Hp)(σ:St)(ρ:dv)(Ss:Nat->List aF):Prop where
 own:∀(i:Nat)d,ρ[i]?=a_ (a_ (d,c_))->∃v,σ[i]?=a_ (a_ v)/\lK K H d v (Ss i)/\(Ss i).Nodup/\∀a∈Ss i,F a=b_/\H₀ a=b_
 sep:∀(i j:Nat)d d',i≠j->ρ[i]?=a_ (a_ (d,c_))->ρ[j]?=a_ (a_ (d',c_))->∀a∈Ss i,a∉Ss j
structure Rl(K:Fg)(Fz H₀ F H:Hp)(σ:St)(ρ:dv):Prop where
 step:Step Fz H₀ F H
 len:σ.length=ρ.length
 val:∀(i:Nat)d,ρ[i]?=a_ (a_ (d,d_))->∃v,σ[i]?=a_ (a_ v)/\Rep K F d v
 ow:∃Ss,Ow K H₀ F H σ ρ Ss
section
variable{K:Fg}{F:Hp}{σ:St}{ρ:dv}
def Mo{i:Nat}{d:Dat}(h:(zz ρ)[i]?=a_ (a_ d)):ρ[i]?=a_ (a_ (d,d_)):=by
 unfold zz at h;rw[aM]at h
 cases q:ρ[i]? with
 |none=>rw[q]at h;cases h
 |some o=>
   rw[q]at h;have h':=bx h
   cases o with
   |none=>cases h'
   |some z=>
     obtain⟨d',b⟩:=z
     cases b with
     |true=>cases h'
     |false=>cases h';rfl
def Rl.zz(R:Rl K Fz H₀ F H σ ρ):mV K F σ (zz ρ):=λi d e=>R.val i d (Mo e)
def Ow.moved(O:Ow K H₀ F H σ ρ Ss)(st:Step F H F' H'):Ow K H₀ F' H' σ ρ Ss where
 own:=λi d e=>by
  obtain⟨v,j,c,k,g⟩:=O.own i d e;refine⟨v,j,c.mono st.hh,k,λa m=>⟨?_,(g a m).2⟩⟩;obtain⟨o,ho,_⟩:=c.vd _ a m;exact st.un a o ho (g a m).1
 sep:=O.sep
def Rl.moved(R:Rl K Fz H₀ F H σ ρ)(st:Step F H F' H'):Rl K Fz H₀ F' H' σ ρ where
 step:=R.step.trans st
 len:=R.len
 val:=λi d e=>let ⟨v,q1,q2⟩:=R.val i d e;⟨v,q1,q2.mono st.ff⟩
 ow:=let ⟨Ss,O⟩:=R.ow;⟨Ss,O.moved st⟩
def EB(i j:Nat)(f:g_->g_):(ρ.modify i f)[j]?=if i=j then(ρ[j]?).map f else ρ[j]? :=by
 rw[List.getElem?_modify];by_cases h:i=j
 ·simp_all
 simp_all
def jd(q:(ρ.modify i λo=>o.map λs=>(s.1,d_))[j]?=a_ (a_ (d,b))):(i=j/\b=d_/\∃c,ρ[j]?=a_ (a_ (d,c)))\/(i≠j/\ρ[j]?=a_ (a_ (d,b))):=by
 rw[EB]at q;by_cases h:i=j
 ·rw[if_pos h]at q;refine .inl ⟨h,?_⟩
  cases z:ρ[j]? with
  |none=>rw[z]at q;cases q
  |some o=>
    rw[z]at q
    cases o with
    |none=>cases q
    |some s=>grind
 ·rw[if_neg h]at q;exact .inr ⟨h,q⟩
def Rl.Ol(R:Rl K Fz H₀ F H σ ρ)(i:Nat):∃F',bT F F'/\Rl K Fz H₀ F' H σ (ρ.modify i λo=>o.map λs=>(s.1,d_)):=by
 obtain⟨Ss,O⟩:=R.ow;by_cases ho:∃d,ρ[i]?=a_ (a_ (d,c_))
 ·obtain⟨d,ho⟩:=ho;obtain⟨v,e1,e2,e3,e4⟩:=O.own i d ho;have B:bT F (fz F H (Ss i)):=rY R.step.good.sub;refine⟨fz F H (Ss i),B,⟨⟨yA R.step.good,R.step.ff.trans B,R.step.hh,λa o q n=>?_⟩,?_,λj d' q=>?_,Ss,λj d' q=>?_,λj k d1 d2 g D J=>?_⟩⟩
  ·rw[rZ λm=>?_]
   ·exact R.step.un a o q n
   simp_all
  ·rw[HC];exact R.len
  ·rcases jd q with⟨rfl,_,W,c⟩|⟨_,c⟩
   ·rw[ho]at c;cases c;exact⟨v,e1,e2.mD R.step.good d λa m=>m⟩
   ·obtain⟨w,L,M⟩:=R.val j d' c;exact⟨w,L,M.mono B⟩
  ·rcases jd q with⟨_,z,_⟩|⟨U,c⟩
   ·cases z
   ·obtain⟨w,L,M,Z,Y⟩:=O.own j d' c;refine⟨w,L,M,Z,λa m=>⟨?_,(Y a m).2⟩⟩;rw[rZ (O.sep j i d' d (eQ U) c ho a m)];exact(Y a m).1
  ·rcases jd D with⟨_,z,_⟩|⟨_,l⟩
   ·cases z
   ·rcases jd J with⟨_,z,_⟩|⟨_,y⟩
    ·cases z
    ·exact O.sep j k d1 d2 g l y
 ·refine⟨F,bT.refl _,⟨R.step,by rw[HC];exact R.len,λj d' q=>?_,Ss,λj d' q=>?_,λj k d1 d2 g D J=>?_⟩⟩
  ·rcases jd q with⟨rfl,_,W,c⟩|⟨_,c⟩
   ·cases W with
    |true=>exact absurd ⟨_,c⟩ ho
    |false=>exact R.val _ d' c
   ·exact R.val j d' c
  ·rcases jd q with⟨_,z,_⟩|⟨_,c⟩
   ·cases z
   ·exact O.own j d' c
  ·rcases jd D with⟨_,z,_⟩|⟨_,l⟩
   ·cases z
   ·rcases jd J with⟨_,z,_⟩|⟨_,y⟩
    ·cases z
    ·exact O.sep j k d1 d2 g l y
def Rl.freeze(R:Rl K Fz H₀ F H σ ρ):∀is:List Nat,∃F',bT F F'/\Rl K Fz H₀ F' H σ (mD is ρ):=by
 intro is
 induction is generalizing F ρ with
 |nil=>exact⟨F,bT.refl _,R⟩
 |cons i is c=>
   obtain⟨F1,s1,d⟩:=R.Ol i;obtain⟨g,s2,R2⟩:=c d;exact⟨g,s1.trans s2,R2⟩
theorem E9:∀(is:List Nat)(ρ:dv)(j:Nat),(mD is ρ)[j]?=if j∈is then(ρ[j]?).map (λo=>o.map λs=>(s.1,d_))else ρ[j]?
 |[],ρ,j=>by simp[mD]
 |i::is,ρ,j=>by
   have e:mD (i::is) ρ=mD is (ρ.modify i λo=>o.map λs=>(s.1,d_)):=rfl;rw[e,E9 is,EB];by_cases h:i=j
   ·subst h;rw[if_pos rfl,if_pos (jE)];by_cases m:i∈is
    ·rw[if_pos m]
     cases ρ[i]? with
     |none=>rfl
     |some o=>cases o<;>rfl
    ·rw[if_neg m]
   grind
def Hc:mD (aK ρ.length) ρ=r8 ρ:=by
 apply jK;intro j;rw[E9];unfold r8;rw[aM];by_cases h:j∈aK ρ.length
 ·rw[if_pos h]
 ·rw[if_neg h];have :=kg (by simpa using h);rw[this];rfl
def Rl.jg(R:Rl K Fz H₀ F H σ ρ):∃F',bT F F'/\Rl K Fz H₀ F' H σ (r8 ρ):=by
 obtain⟨F',s,c⟩:=R.freeze (aK ρ.length);rw[Hc]at c;exact⟨F',s,c⟩
def iP(q:(ρ.set i x)[j]?=a_ (a_ (d,b))):(i=j/\x=a_ (d,b))\/(i≠j/\ρ[j]?=a_ (a_ (d,b))):=by
 rw[mG]at q;by_cases h:i=j
 ·simp_all
 ·rw[if_neg h]at q;exact .inr ⟨h,q⟩
def Pp(hl:i<σ.length):(σ.set i (a_ v))[i]?=a_ (a_ v):=n6 hl
def wM(q:(ρ.set i x)[i]?=a_ y):i<ρ.length:=by
 rw[mG,if_pos rfl]at q
 simp_all
def Rl.Ci(R:Rl K Fz H₀ F H σ ρ)(r:Rep K F d v):Rl K Fz H₀ F H (σ.set i (a_ v)) (ρ.set i (a_ (d,d_))):=by
 obtain⟨Ss,O⟩:=R.ow;refine⟨R.step,by simpa using R.len,λj d' q=>?_,Ss,λj d' q=>?_,λj k d1 d2 c D J=>?_⟩
 ·rcases iP q with⟨rfl,e⟩|⟨g,l⟩
  ·cases e;exact⟨v,Pp (by rw[R.len];exact wM q),r⟩
  ·obtain⟨w,L,y⟩:=R.val j d' l;exact⟨w,by simp_all,y⟩
 ·rcases iP q with⟨rfl,e⟩|⟨g,l⟩
  ·cases e
  ·obtain⟨w,L,y⟩:=O.own j d' l;exact⟨w,by simp_all,y⟩
 ·rcases iP D with⟨_,e⟩|⟨_,z⟩
  ·cases e
  ·rcases iP J with⟨_,e⟩|⟨_,B⟩
   ·cases e
   ·exact O.sep j k d1 d2 c z B
def Rl.Rh(R:Rl K Fz H₀ F H σ ρ)(O:Ow K H₀ F H σ ρ Ss)(o:lK K H d v S)(nd:S.Nodup)(J:∀a∈S,F a=b_/\H₀ a=b_)
  (c:∀(j:Nat)d',i≠j->ρ[j]?=a_ (a_ (d',c_))->∀a∈Ss j,a∉S):Rl K Fz H₀ F H (σ.set i (a_ v)) (ρ.set i (a_ (d,c_))):=by
 refine⟨R.step,by simpa using R.len,λj d' q=>?_,λj=>if j=i then S else Ss j,λj d' q=>?_,λj k d1 d2 y L M=>?_⟩
 ·rcases iP q with⟨rfl,e⟩|⟨g,z⟩
  ·cases e
  ·obtain⟨w,U,B⟩:=R.val j d' z;exact⟨w,by simp_all,B⟩
 ·rcases iP q with⟨rfl,e⟩|⟨g,z⟩
  ·cases e;rw[if_pos rfl];exact⟨v,Pp (by rw[R.len];exact wM q),o,nd,J⟩
  ·obtain⟨w,U,B⟩:=O.own j d' z;rw[if_neg (eQ g)];exact⟨w,by simp_all,B⟩
 ·intro a m
  rcases iP L with⟨rfl,e⟩|⟨h1,l⟩
  ·grind
  ·rw[if_neg (eQ h1)]at m
   rcases iP M with⟨rfl,e⟩|⟨h2,D⟩
   ·rw[if_pos rfl];exact c j d1 h1 l a m
   ·rw[if_neg (eQ h2)];exact O.sep j k d1 d2 y l D a m
def Rl.full{K:Fg}(R:Rl K Fz H₀ F H σ (r8 ρ)):mV K F σ (M.full ρ):=by rw[<-BZ];exact R.zz
noncomputable def uz(F:Hp)(S:List aF):Hp:=λa=>if a∈S then b_ else F a
def wo(h:a∈S):uz F S a=b_:=if_pos h
def om(h:a∉S):uz F S a=F a:=if_neg h
def Step.X8(st:Step F H F' H')(g:Good F H)(j:∀a∈S,H a=b_)(o:lK K H' d v S):Step F H (uz F' S) H':=by
 refine⟨⟨λa o' q=>?_,λa vs q=>?_⟩,λa o' q=>?_,st.hh,λa o' q n=>?_⟩
 ·by_cases m:a∈S
  ·rw[wo m]at q;cases q
  ·rw[om m]at q;exact st.good.sub a o' q
 ·rw[om λm=>?_]
  ·exact st.good.tup a vs q
  ·obtain⟨u,c,k⟩:=o.vd _ a m;rw[q]at c;cases c;exact k
 ·rw[om λm=>?_]
  ·exact st.ff a o' q
  ·rw[g.sub.free (j a m)]at q;cases q
 ·by_cases m:a∈S
  ·exact wo m
  ·rw[om m];exact st.un a o' q n
def Fc(R:Rl K Fz H₀ F H σ ρ)(h:LY C e ρ=a_ (d,fr,ρ'))
  (k:∀v Fm F' H',bT F Fm->Rl K Fz H₀ Fm H σ ρ'->Step Fm H F' H'->Rep K F' d v->(fr=c_->fX K H H' d v)->Q v H'):∃g,bu C e g=a_ (d,fr)/\tE K g d fr σ H Q:=by
 obtain⟨⟨d1,J⟩,h2,h⟩:=cR h;dsimp only at h;by_cases j:(im d1 || J)=c_
 ·rw[if_pos j]at h;have hh:d=d1/\fr=J/\ρ'=ρ:=by grind
  obtain⟨y,z,B⟩:=hh;subst y z B;obtain⟨O,sp,L⟩:=R.jg;refine⟨_,h2,O,L.step.good,L.full,λv F1 l st r f=>?_⟩;have c:=Step.shrink R.step.good sp st
  cases hi:im d with
  |true=>exact k v F (shr F H F1) l (bT.refl _) R c (r.shrink R.step.good st d hi) f
  |false=>
    rw[hi]at j;obtain⟨S,n,e1,o⟩:=f j;have U:=yA (S:=S) c.good
    have D:Step F H (fz (shr F H F1) l S) l:=by
     refine⟨U,c.ff.trans (rY c.good.sub),c.hh,λa u q nn=>?_⟩;rw[rZ λm=>?_]
     ·exact c.un a u q nn
     grind
    exact k v F _ l (bT.refl _) R D (o.mD c.good d λa m=>m) f
 ·rw[if_neg j]at h;obtain⟨⟨d2,W⟩,h3,h⟩:=dZ h;cases h;obtain⟨M,s2,R2⟩:=R.freeze e.fv;exact⟨_,h3,M,R2.step.good,R2.zz,λv F' H' st r f=>k v M F' H' s2 R2 st r f⟩
def yE(R:Rl K Fz H₀ F H σ ρ)(h:LY C e ρ=a_ (d,fr,ρ'))
  (k:∀v Fm F' H',bT F Fm->Rl K Fz H₀ Fm H σ ρ'->Step Fm H F' H'->Rep K F' d v->(fr=c_->fX K H H' d v)->Q v H'):gE K C e σ H Q:=
 let ⟨ρe,h1,h2⟩:=Fc R h k;⟨ρe,d,fr,h1,h2⟩
end
def u9(K:Fg)(Fz H₀ F:Hp)(D:Ends):Out->Prop
 |.nx ρ'=>∀F' H' c,bT F F'->Rl K Fz H₀ F' H' c ρ'->D.nx c H'
 |.bk ρ'=>∀F' H' c,bT F F'->Rl K Fz H₀ F' H' c ρ'->D.bk c H'
 |.ct ρ'=>∀F' H' c,bT F F'->Rl K Fz H₀ F' H' c ρ'->D.ct c H'
 |.rt d fr=>∀v F' H',Step Fz H₀ F' H'->Rep K F' d v->(fr=c_->fX K H₀ H' d v)->D.rt v H'
def u9.mono{K:Fg}{F1:Hp}{D:Ends}(s:bT F F1)(h:u9 K Fz H₀ F D o):u9 K Fz H₀ F1 D o:=by
 cases o with
 |nx ρ'=>exact λF' H' c s' R=>h F' H' c (s.trans s') R
 |bk ρ'=>exact λF' H' c s' R=>h F' H' c (s.trans s') R
 |ct ρ'=>exact λF' H' c s' R=>h F' H' c (s.trans s') R
 |rt d fr=>exact h
def gS(K:Fg)(C:Fs)(x:Sx):TS:=λD σ H=>∃Fz H₀ F ρ out,nE C x ρ=a_ out/\Rl K Fz H₀ F H σ ρ/\u9 K Fz H₀ F D out
def ZW(K:Fg)(C:Fs)(xs:List Sx):TS:=λD σ H=>∃Fz H₀ F ρ out,dX C xs ρ=a_ out/\Rl K Fz H₀ F H σ ρ/\u9 K Fz H₀ F D out
abbrev SS(X:Cx)(C:Fs)(st:kK)(x:Sx):Prop:=PS X st (gS X.K C x)
abbrev O2(X:Cx)(C:Fs)(st:List kK)(xs:List Sx):Prop:=Bt X st (ZW X.K C xs)
section
variable{X:Cx}{st:kK}{pos:xI}
def MB:O2 X C [] []:=Bt.imp Nm λD σ H c=>by
 obtain⟨Fz,H₀,F,ρ,out,h,R,k⟩:=c;cases h;exact k F H σ (bT.refl _) R
def Iz(h1:SS X C st x)(h2:O2 X C sts xs):O2 X C (st::sts) (x::xs):=Bt.imp (Je h1 h2) λD σ H c=>by
 obtain⟨Fz,H₀,F,ρ,out,h,R,k⟩:=c;obtain⟨o,ho,h⟩:=cR h;refine⟨Fz,H₀,F,ρ,o,ho,R,?_⟩
 cases o with
 |nx ρ1=>exact λF1 l g s1 j=>⟨Fz,H₀,F1,ρ1,out,h,j,k.mono s1⟩
 |bk ρ1=>cases h;exact k
 |ct ρ1=>cases h;exact k
 |rt d fr=>cases h;exact k
def QS{st:kK}:SS X C st .LP:=λh_ s σ H D I c=>by
 obtain⟨Fz,H₀,F,ρ,out,h,R,k⟩:=c;cases h
def QT(g:SE X C e xe):SS X C (.Return (a_ e) pos) (.ret xe):=PS.imp (Jf g) λD σ H j=>by
 obtain⟨Fz,H₀,F,ρ,out,h,R,k⟩:=j;obtain⟨⟨d,fr⟩,h1,h⟩:=dZ h;cases h;obtain⟨l,sp,c⟩:=R.jg;exact⟨_,d,fr,h1,l,c.step.good,c.full,λv F' H' st r f=>k v F' H' (c.step.trans st) r λz=>(f z).back (F:=F) R.step.hh⟩
def ME{i:Nat}{x:bc}{p:xI}(j:X.N[i]?=a_ x)(l:Qo X.env.scope x)(hd:(x == ("__debug__":bc))=d_)(g:(x == ("__classdict__":bc))=d_):SS X C (.Return (a_ (.Name x p)) pos) (.nc i):=
 PS.imp (Jf (rL j l hd g)) λD σ H y=>by
  obtain⟨Fz,H₀,F,ρ,out,h,R,k⟩:=y;obtain⟨⟨d,b⟩,h1,h⟩:=dZ h;cases h
  have c:ρ[i]?=a_ (a_ (d,b)):=by
   cases q:ρ[i]? with
   |none=>rw[q]at h1;cases h1
   |some z=>simp_all
  cases b with
  |false=>
    obtain⟨v,e1,r⟩:=R.val i d c;exact⟨v,e1,k v F H R.step r a8⟩
  |true=>
    obtain⟨Ss,O⟩:=R.ow;obtain⟨v,e1,e2,e3,B⟩:=O.own i d c;have J:bT F (fz F H (Ss i)):=rY R.step.good.sub
    have st:Step Fz H₀ (fz F H (Ss i)) H:=by
     refine⟨yA R.step.good,R.step.ff.trans J,R.step.hh,λa o q n=>?_⟩;rw[rZ λm=>?_]
     ·exact R.step.un a o q n
     simp_all
    exact⟨v,e1,k v _ H st (e2.mD R.step.good d λa m=>m) λ_=>⟨Ss i,e3,λa m=>(B a m).2,e2⟩⟩
def QY(g:SE X C e xe)(hs:swapsWith e b_ pos.line X.env=pure d_):SS X C (.Expr e pos) (.exp xe):=PS.imp (qk g hs) λD σ H j=>by
 obtain⟨Fz,H₀,F,ρ,out,h,R,k⟩:=j;obtain⟨⟨d,fr⟩,h1,h⟩:=dZ h;cases h;obtain⟨l,sp,c⟩:=R.jg;exact⟨_,d,fr,h1,l,c.step.good,c.full,λv F1 q st r f=>k (shr F H F1) q σ (Step.shrink R.step.good sp st).ff (R.moved (Step.shrink R.step.good sp st))⟩
def VC(j:ST X C cnd xc)(ha:O2 X C sa ya)(hb:O2 X C sb yb):SS X C (.If cnd sa sb pos) (.ifs xc ya yb):=PS.imp (V4 j ha hb) λD σ H l=>by
 obtain⟨Fz,H₀,F,ρ,out,h,R,k⟩:=l;obtain⟨⟨d,fr⟩,h1,h⟩:=cR h;obtain⟨z,q,h⟩:=cR h;obtain⟨v,sp,g⟩:=R.jg;refine⟨_,d,fr,z,h1,q,v,g.step.good,g.full,λF1 y st=>?_⟩;have c:=Step.shrink R.step.good sp st
 cases z with
 |true=>
   exact G0 ⟨Fz,H₀,_,ρ,out,h,R.moved c,k.mono c.ff⟩
 |false=>
   exact G1 ⟨Fz,H₀,_,ρ,out,h,R.moved c,k.mono c.ff⟩
def Gp{D:Ends}(R:Rl X.K Fz H₀ F H σ ρ)(h1:LY C xe ρ=a_ (d,fr,ρ'))(k:u9 X.K Fz H₀ F D (.nx (ρ'.set i (a_ (d,fr && !im d))))) :
  ∃g,bu C xe g=a_ (d,fr)/\tE X.K g d fr σ H (λv H'=>D.nx (σ.set i (a_ v)) H'):=by
 refine Fc R h1 λv Fm F' H' B l st r f=>?_;have k' :=k
 cases y:fr && !im d with
 |false=>
   rw[y]at k';exact k' F' H' _ (B.trans st.ff) ((l.moved st).Ci r)
 |true=>
   rw[y]at k';simp only[aj]at y;obtain⟨S,nd,e1,o⟩:=f y.1;have c:=Step.X8 st l.step.good e1 o;obtain⟨L,J⟩:=l.ow;refine k' (uz F' S) H' _ (B.trans c.ff) ((l.moved c).Rh (J.moved c) o nd (λa m=>⟨wo m,R.step.hh.free (e1 a m)⟩) λj d2 _ q a m1 m2=>?_);obtain⟨O,M,z,_,_⟩:=J.own j d2 q;obtain⟨u,U,_⟩:=z.vd _ a m1
   simp_all
def zM(c:∀σ H Q,gE X.K C xe σ H Q->te σ H Q):∀D σ H,gS X.K C (.set i xe) D σ H->Gg te (kH i) D σ H:=λD σ H j=>by
 obtain⟨Fz,H₀,F,ρ,out,h,R,k⟩:=j;obtain⟨⟨d,fr,ρ'⟩,h1,h⟩:=dZ h;cases h;obtain⟨g,e1,e2⟩:=Gp R h1 k;exact c _ _ _ ⟨g,d,fr,e1,e2⟩
def IB{i:Nat}{x:bc}(c:X.N.Nodup)(hi:X.N[i]?=a_ x)(d:Loc X.env.scope x)(g:SE X C e xe)(hs:swapsWith e (a_ (.Name x pos')) pos.line X.env=pure d_)
  (hf:X.fn x=c_\/X.env.scope.names.lookup x=a_ .local):SS X C (.Assign [.Name x pos'] e pos) (.set i xe):=
 PS.imp (RW c hi d g hs hf) (zM λ_ _ _ h=>h)
end
end M
namespace L2
open PySem PySem.Spec PyProof.Rows
noncomputable def eN(X:Cx)(scope:my)(cl:List (bc×aF))(N:List bc)(c:ai)(d:Hp)(C:aF)(ex:List aF):Cx:=
 { X with N:=N,s₀:=c,H₀:=d,env:=compEnvC scope cl C X.env,outer:=X.stack,stack:=X.stack,ex:=ex,fn:=λ_=>d_,pn:=[],xe:=λ_ _=>False }
def LZ(X:Cx)(ifs:List aX)(t:TT):Prop:=
 ∀(h_:List (aF×kL))(s:ai)(σ:St)(H:Hp)(Q:Bool->Hp->Prop),Inv X h_ σ H s->t σ H Q->
  aA (aD X.prog X.w) X.A (forIn ifs c_ λc r=>if r=c_ then do let ok <-isTrue c X.env (eval c X.env);pure (iY ok)else pure (iY r)) (TP X h_ σ Q) X.xe s
def Nk:LZ X [] (λ_ H Q=>Q c_ H):=λ_ _ _ H _ I h=>wpAny_tests_nil ⟨H,I,h⟩
def Nj(h:PT X c t):LZ X [c] t:=λh_ s σ H Q I d=>wpAny_tests_one (h h_ s σ H Q I d)
noncomputable def iG(nt:Nat)(caps:List Nat)(σ:St):St:=dB nt b_++caps.map λj=>(σ[j]?).join
def Iv(wi:TI)(nt:Nat)(caps:List Nat)(g:TG)(j:TT)(te:TE):TE:=λσ H Q=>wi σ H λJ k=>∃W:Nat->Nat->List V->Hp->Prop,(∃m,W 0 m [] k)/\∀i m ys H,W i m ys H->
 (J.stop i H/\ys.length<=ax/\∀p,H p=b_->Q (.ref p) (upd H p (.lst ys)))\/
 (J.go i H/\ys.length<ax/\∀x H',J.yld i H x H'->g x (iG nt caps σ) H' λσ2 H2=>j σ2 H2 λb d=>
  if b=c_ then te σ2 d λy H4=>∃c,c<m/\W (i+1) c (ys++[y]) H4 else ∃c,c<m/\W (i+1) c ys d)
structure jh(X:Cx)(scope:my)(tn cn:List bc)(caps:List Nat):Prop where
 kind:scope.kind=.function
 nocell:∀y∈scope.names,y.2≠.cell
 locs:∀y∈scope.names,y.2=.local->scope.names.lookup y.1=a_ .local
 frees:∀y∈scope.names,y.2=.free->X.env.kindOf y.1=a_ .cell\/X.env.kindOf y.1=a_ .free
 nofree:∀x,scope.names.lookup x=a_ .free->(x,dW)∈scope.names
 caps:caps.map (λj=>X.N[j]?)=cn.map a_
 capk:∀x∈cn,X.env.kindOf x=a_ .cell\/X.env.kindOf x=a_ .free
 capn:∀x∈cn,scope.names.lookup x=a_ .free
theorem uD{env:Pe}(x:bc):∀names:List (bc×ku),(names.map λ(n,k)=>if(k == dW && env.scope.kind == .function && env.kindOf n == a_ .cell)then(n,lO)else(n,k)).lookup x =
  (names.lookup x).map λk=>if(k == dW && env.scope.kind == .function && env.kindOf x == a_ .cell)then lO else k
 |[]=>rfl
 |(n,k)::r=>by
   by_cases c:x=n
   ·subst c;simp only[aq,List.lookup_cons_self,bV];split<;>simp
   ·have hb:(x == n)=d_:=by simpa using c
    rw[fE,hb,<-uD x r,aq];dsimp only;split<;>rw[fE,hb]
def ou(x:bc):(relabel scope env).names.lookup x=(scope.names.lookup x).map λk=>if(k == dW && env.scope.kind == .function && env.kindOf x == a_ .cell)then lO else k:=uD x scope.names
def x6{scope:my}(d:∀y∈scope.names,y.2≠lO)(h:(relabel scope env).names.lookup x=a_ .cell\/(relabel scope env).names.lookup x=a_ .free):scope.names.lookup x=a_ .free:=by
 rw[ou]at h
 cases q:scope.names.lookup x with
 |none=>rw[q]at h;simp at h
 |some k=>
   rw[q]at h;simp only[bV,gP]at h;by_cases c:k=.free
   ·rw[c]
   ·have hb:(k == dW)=d_:=by simpa using c
    rw[hb]at h
    rcases h with h|h
    ·subst h;exact absurd rfl (d (x,.cell) (gu q))
    ·exact absurd h c
def qj{scope:my}(h:scope.names.lookup x=a_ .free):(relabel scope env).names.lookup x≠a_ .local:=by
 rw[ou,h];simp only[bV,ne_eq,gP];split<;>(intro z;cases z)
section
variable{X:Cx}{h_:List (aF×kL)}{σ:St}{H:Hp}
theorem pS{env:Pe}:∀(names:List (bc×ku)) (cs:List (bc×aF)),(∀y∈names,y.2=.free->∃c,env.cells.lookup y.1=a_ c)->(∀n c,cs.lookup n=a_ c->env.cells.lookup n=a_ c)->
  ∃cl:List (bc×aF),(forIn (m:=zp) names cs λx r=>if(x.2 == dW)=c_ then do let a <-cellOf env x.1;pure (iY ((x.1,a)::r))else pure (iY r))=pure cl/\(∀n c,cl.lookup n=a_ c->env.cells.lookup n=a_ c)/\
   (∀n c,cs.lookup n=a_ c->∃L,cl.lookup n=a_ L)/\∀n,(n,dW)∈names->∃c,cl.lookup n=a_ c
 |[],cs,_,h2=>⟨cs,rfl,h2,λn c e=>⟨c,e⟩,λn z=>nomatch z⟩
 |(n,k)::r,cs,h1,h2=>by
   by_cases J:k=.free
   ·subst J;obtain⟨c,M⟩:=h1 (n,.free) jE rfl
    have g:cellOf env n=pure c:=by
     unfold cellOf;rw[M]
    obtain⟨cl,e,j,l,q⟩:=pS r ((n,c)::cs) (λy v=>h1 y (kD _ v)) (λm d e=>by
     grind)
    refine⟨cl,?_,j,λm d hd=>?_,λm B=>?_⟩
    ·rw[vx];simp only[beq_self_eq_true,if_true,g,pure_bind];exact e
    ·by_cases D:m=n
     ·simp_all
     ·have:(m == n)=d_:=by simpa using D
      exact l m d (by rw[fE,this];exact hd)
    ·rcases au.mp B with z|z
     ·simp_all
     ·exact q m z
   ·have hb:(k == dW)=d_:=by simpa using J
    obtain⟨cl,e,j,l,q⟩:=pS r cs (λy v=>h1 y (kD _ v)) h2;refine⟨cl,?_,j,l,λm B=>?_⟩
    ·simp_all
    ·rcases au.mp B with z|z
     ·grind
     ·exact q m z
def vf(ok:X.Ok)(S:jh X scope tn cn caps):∃cl:List (bc×aF),closureFor scope X.env=pure cl/\(∀n c,cl.lookup n=a_ c->X.env.cells.lookup n=a_ c)/\∀n,(n,dW)∈scope.names->∃c,cl.lookup n=a_ c:=by
 obtain⟨cl,e,d,_,g⟩:=pS scope.names [] (λy j k=>ok.has y.1 (S.frees y j k)) (λn c e=>by simp at e);refine⟨cl,?_,d,g⟩;unfold closureFor;rw[bind_pure];exact e
def Inv.Io{D:aF}(I:Inv X h_ σ H s)(l:qP X h_ H D)(hs:X.s₀.heap.objs.size<=D)(new:jP X.prog X.w (upd H D o) s.heap D o):Inv X h_ σ (upd H D o) s:=by
 obtain⟨g,v,hf,_,y,hp⟩:=l
 have k:∀b d,X.s₀.heap.get? b=a_ d->b≠D:=λb d e z=>by
  subst z;exact absurd (aV (hl9 e) hs) (bC _)
 refine⟨I.ok,I.os,I.bare,⟨I.base.keep,I.base.slot,λb d e n B=>?_,I.base.there,λb xs e=>?_,λb d u e=>?_,λb ps e=>?_⟩,I.loc,I.cell,?_,λx c e=>?_,λp j=>?_,λb u e=>?_,I.len⟩
 ·rw[cD (k b d e)];exact I.base.free b d e n B
 ·rw[cD (ee (I.base.tups b xs e) g)];exact I.base.tups b xs e
 ·rw[cD (ee (I.base.frzs b d u e) g)];exact I.base.frzs b d u e
 ·obtain⟨m,q⟩:=I.base.tbls b ps e;exact⟨m,by rw[cD (ee q g)];exact q⟩
 ·rw[cD (eQ v)];exact I.free
 ·rw[cD (y x c e)];exact I.freeC x c e
 ·obtain⟨J,L,M,O,R⟩:=I.pin p j;exact⟨J,by rw[cD (hp p j)];exact L,M,O,R⟩
 ·by_cases hb:b=D
  ·subst hb;rw[cu]at e;cases e;exact new
  ·rw[cD hb]at e;exact(I.hok b u e).nX (λ_ _ _ q=>q) (λc q=>by rw[cD (ee q g)];exact q) λc xs q=>by rw[cD (ee q g)];exact q
def oG{iter:aX}{ifs:List aX}(J:Nat->ai->Prop)
  (turn:∀n s,J n s->aA (aD prog w) A (pyNext it) (λr s₁=>match r with
   |none=>R (.ok .next) s₁
   |some v=>aA (aD prog w) A (letOwnedTupleGo target it v) (λ_ d=>aA (aD prog w) A (assign target env v) (λ_ j=>
     aA (aD prog w) A (forIn ifs c_ λc r=>if r=c_ then do let ok <-isTrue c env (eval c env);pure (iY ok)else pure (iY r)) (λok g=>
      if ok=c_ then aA (aD prog w) A (eval elt env) (λx k=>
       aA (aD prog w) A (call (.builtin "list.append") [acc,x]) (λ_ l=>∃m,m<n/\J m l) (λ_ _=>False) k) (λ_ _=>False) g
      else ∃m,m<n/\J m g) (λ_ _=>False) j) (λ_ _=>False) d) (λ_ _=>False) s₁) (λ_ _=>False) s)
  (n:Nat)(h:J n s) :
  codeAny (aD prog w) A (.compLoop (.ListComp elt [⟨target,iter,ifs,0⟩] scope pos) 0 it acc env) R s:=by
 refine codeAny_loop rfl J (λn s M=>?_) n h;refine wpAny_noted ?_;rw[compTurn_list];refine wb9 (FK (wb9 (c9 (turn n s M) (λr s₁ q=>?_) λ_ _ h'=>h'.elim)))
 cases r with
 |none=>exact wu9 q
 |some v=>
   refine wb9 (c9 q (λ_ d z=>?_) λ_ _ h'=>h'.elim);refine wb9 (c9 z (λ_ j B=>wb9 (c9 B (λok g y=>?_) λ_ _ h'=>h'.elim)) λ_ _ h'=>h'.elim)
   cases ok with
   |false=>exact wu9 ⟨rfl,y⟩
   |true=>
     exact wb9 (wb9 (c9 y (λx k D=>wb9 (c9 D (λ_ l L=>wu9 (wu9 ⟨rfl,L⟩)) λ_ _ h'=>h'.elim)) λ_ _ h'=>h'.elim))
def pC(nt:Nat)(g:TG):Prop:=∀x σ H Q,g x σ H Q->g x σ H λσ2 H2=>Q σ2 H2/\σ2.length=σ.length/\∀i,nt<=i->σ2[i]?=σ[i]?
def uf(h:i<nt):pC nt (kH i):=λx σ H Q q=>by
 refine⟨q,by simp,λj c=>?_⟩;rw[o9 (λz=>(bB h (ab c (af z.symm))))]
def vj(nt:Nat)(g:Qs):Prop:=∀xs σ H Q,g xs σ H Q->g xs σ H λσ2 H2=>Q σ2 H2/\σ2.length=σ.length/\∀i,nt<=i->σ2[i]?=σ[i]?
def Gf:vj nt Hb:=λxs σ H Q ⟨e,q⟩=>⟨e,q,rfl,λ_ _=>rfl⟩
def B3(mono:∀x σ H Q Q',(∀σ2 H2,Q σ2 H2->Q' σ2 H2)->t x σ H Q->t x σ H Q')(c:∀x σ H Q Q',(∀σ2 H2,Q σ2 H2->Q' σ2 H2)->u x σ H Q->u x σ H Q')(ht:pC nt t)(d:vj nt u):vj nt (w5 t u):=λxs σ H Q g=>by
 obtain⟨v,r,e,q⟩:=g;refine⟨v,r,e,?_⟩;refine mono _ _ _ _ _ (λσ2 H2 ⟨j,k,s2⟩=>?_) (ht _ _ _ _ q);exact c _ _ _ _ _ (λl B ⟨y,z,s3⟩=>⟨y,z.trans k,λi hi=>(s3 i hi).trans (s2 i hi)⟩) (d _ _ _ _ j)
def Ge{K:aJ}(c:vj nt u):pC nt (Kx K n u):=λx σ H Q ⟨a,xs,e,h1,h2,q⟩=>⟨a,xs,e,h1,h2,c _ _ _ _ q⟩
def u7:∀x σ H Q Q',(∀σ2 H2,Q σ2 H2->Q' σ2 H2)->kH i x σ H Q->kH i x σ H Q':=λ_ _ _ _ _ h q=>h _ _ q
def Ha:∀x σ H Q Q',(∀σ2 H2,Q σ2 H2->Q' σ2 H2)->Hb x σ H Q->Hb x σ H Q':=λ_ _ _ _ _ h q=>⟨q.1,h _ _ q.2⟩
def C7(c:∀x σ H Q Q',(∀σ2 H2,Q σ2 H2->Q' σ2 H2)->t x σ H Q->t x σ H Q')(d:∀x σ H Q Q',(∀σ2 H2,Q σ2 H2->Q' σ2 H2)->u x σ H Q->u x σ H Q') :
  ∀x σ H Q Q',(∀σ2 H2,Q σ2 H2->Q' σ2 H2)->w5 t u x σ H Q->w5 t u x σ H Q':=λ_ _ _ _ _ h ⟨v,r,e,q⟩=>⟨v,r,e,c _ _ _ _ _ (λ_ _ g=>d _ _ _ _ _ h g) q⟩
def BE(X:Cx)(h_:List (aF×kL))(σ:St)(Q:VK)(c:ah)(C:aF)(r:Result)(s':ai):Prop:=
 r=.ok .next/\∃D H',c=.ref D/\(∃m,s'.heap.Ns C m)/\Inv X h_ σ H' s'/\qP X h_ H' C/\Q (.ref D) H'
def ve{iter:aX}{ifs:List aX}{cl:List (bc×aF)}
  (hcalm:X.calm=c_)(S:jh X scope tn cn caps)(L:∀n c,cl.lookup n=a_ c->X.env.cells.lookup n=a_ c)(hhas:∀n,(n,dW)∈scope.names->∃c,cl.lookup n=a_ c)
  (hg:∀(cl:List (bc×aF))(B:ai)(U:Hp)(C:aF)(ex:List aF),PG (eN X scope cl (tn++cn) B U C ex) tg g)(touch:pC tn.length g)
  (ht:∀(cl:List (bc×aF))(B:ai)(U:Hp)(C:aF)(ex:List aF),LZ (eN X scope cl (tn++cn) B U C ex) ifs tt)
  (he:∀(cl:List (bc×aF))(B:ai)(U:Hp)(C:aF)(ex:List aF),PE (eN X scope cl (tn++cn) B U C ex) elt te)
  (hi:Zy X h_ σ tg (λJ H1=>∃W:Nat->Nat->List V->Hp->Prop,(∃m,W 0 m [] H1)/\∀i m ys H,W i m ys H->
   (J.stop i H/\ys.length<=ax/\∀p,H p=b_->Q (.ref p) (upd H p (.lst ys)))\/
   (J.go i H/\ys.length<ax/\∀x H',J.yld i H x H'->g x (iG tn.length caps σ) H' λσ2 H2=>tt σ2 H2 λb H3=>
    if b=c_ then te σ2 H3 λy H4=>∃m',m'<m/\W (i+1) m' (ys++[y]) H4 else ∃m',m'<m/\W (i+1) m' ys H3)) itv B) :
  aA (aD X.prog X.w) X.A (newList []) (λacc Z=>aA (aD X.prog X.w) X.A (newFunctionEnv scope X.env.globals cl [] X.env.qual b_ .none (a_ X.env)) (λcenv s₄=>
   codeAny (aD X.prog X.w) X.A (.compStart (.ListComp elt [⟨tg,iter,ifs,0⟩] scope pos) 0 itv acc { cenv with scope:=relabel scope X.env }) (BE X h_ σ Q acc cenv.locals) s₄) E Z) E B:=by
 obtain⟨it,fp,tnn,J,H2,e,M,T,st2,f2,W,⟨m0,w0⟩,turn⟩:=hi;subst e;refine df (wpAny_newFunctionEnv S.nocell (by intro y hy;simp at hy) (λh₁ hns₁ R=>?_) S.kind);generalize hH2:B.heap.push { cls:=.type "list",dict:=b_,data:=.seq ([]).toArray }=G2 at hns₁ R ⊢;have hC:G2.objs.size=B.heap.objs.size+1:=by rw[<-hH2,eh]
 have hDC:B.heap.objs.size≠G2.objs.size:=by rw[hC];exact bo (i6 _)
 have old :=λb o e=>R.extBut b o (by rw[hC];exact bo (jT (hl9 e))) (hp9 _ (hH2▸hp9 _ e));have hacc :=R.extBut _ _ hDC (hp9 _ (hH2▸aG _ rfl));generalize O:B.heap.objs.size=D at *;generalize hCd:G2.objs.size=C at *;have hlt:D<C:=by rw[hC];exact i6 _
 have hDD :=O;have vA:∀b o,B.heap.get? b=a_ o->b<D:=λb o e=>O▸hl9 e;have fresh:∀a,D<=a->H2 a=b_:=λa h=>M.hok.fresh (O▸h);have hfpS:∀b∈fp,b<D:=λb hb=>by obtain⟨o,e,_⟩:=T.obj 0 _ st2 b hb;exact vA b o e
 have frL:∀b∈HH X.stack,b<D:=λb hb=>by
  obtain⟨_,o,ho,_⟩:=M.stack.mem hb;exact vA b o ho
 have clL:∀x c,cl.lookup x=a_ c->c<D:=λx c e=>by
  obtain⟨v,q⟩:=M.cell x c (L x c e);exact O▸q.lt
 let Y :=eN X scope cl (tn++cn) B H2 C fp
 have okY:Y.Ok:=by
  refine⟨M.ok.mod,S.kind,M.ok.glob,M.ok.blt,?_,λx y c h1 h2=>M.ok.inj x y c (L x c h1) (L y c h2),λx hx=>?_,(λx c h=>nomatch h),M.ok.hd,M.ok.frames,.inl rfl,λb hb=>⟨?_,λx c e=>?_⟩,λb o e=>M.bs b o e,?_,λb o e hb=>?_,λb hb z=>?_,M.stack,M.DO⟩
  ·exact be (aB (af hDD) hlt)
  ·have hx' :=hx;have hfree :=x6 S.nocell hx';exact hhas x (S.nofree x hfree)
  ·exact bo (c5 (hfpS b hb) hlt)
  ·have e' :=e;exact(f2 b hb).2.2.2.2.1 x c (L x c e')
  ·exact ab M.ok.bsz M.sz
  ·rcases(f2 b hb).2.2.2.1 with z|z
   ·exact M.ok.noex b o e z
   ·exact absurd (aV (aV (hl9 e) M.ok.bsz) z) (bC _)
  ·have hb':=f2 b hb
   rcases au.mp (M.um b z)with q|q
   ·exact hb'.2.1 q
   ·exact hb'.2.2.1 q
 have invY:∀(s':ai) (m:bc->Option ah),s'.os=B.os->n4 s'.gens->(∀b o,B.heap.get? b=a_ o->s'.heap.get? b=a_ o)->s'.heap.Ns C m->(∀(i:Nat) (x:bc) (v:V),(tn++cn)[i]?=a_ x->(iG tn.length caps σ)[i]?=a_ (a_ v)->Qo Y.env.scope x->∃u,RelV v u/\Look Y.env s'.heap m x u)->
   Inv Y (X.pn++h_) (iG tn.length caps σ) H2 s':=λs' m ho hb hk hn hl=>by
  refine⟨okY,ho,hb,Un.kept hk,⟨m,hn,hl⟩,λx c e=>?_,fresh C (be hlt),λx c e=>M.freeC x c (L x c e),λp hp=>?_,M.hok.kept hk,?_⟩
  ·obtain⟨v,q⟩:=M.cell x c (L x c e);exact⟨v,q.keeps hk⟩
  ·have hp':p∈X.pn++h_:=by simpa [Y,eN]using hp
   obtain⟨q1,q2,q3,q4,q5⟩:=M.pin p hp';refine⟨hk _ _ q1,q2,?_,λz=>?_,q5⟩
   ·exact bo (c5 (vA _ _ q1) hlt)
   ·rcases au.mp (M.um p.1 z)with w|w
    ·exact q3 w
    ·exact q4 w
  ·show(iG tn.length caps σ).length=(tn++cn).length;have e:=congrArg fj S.caps;simp only[aw]at e;simp[iG,e]
 have loop:∀Z:ai,Z={ B with heap:=h₁,toks:=B.toks+([]:List (bc×ah)).length }->
   codeAny (aD X.prog X.w) X.A (.compLoop (.ListComp elt [⟨tg,iter,ifs,0⟩] scope pos) 0 (.ref it) (.ref D) (compEnvC scope cl C X.env)) (BE X h_ σ Q (.ref D) C) Z:=by
  rintro Z rfl
  have I3:Inv Y (X.pn++h_) (iG tn.length caps σ) H2 { B with heap:=h₁,toks:=B.toks+([]:List (bc×ah)).length }:=by
   refine invY _ _ rfl M.bare old hns₁ λi x v e1 e2 e3=>?_
   have hi:tn.length<=i:=by
    by_cases hi:tn.length<=i
    ·exact hi
    ·unfold iG at e2;rw[aU (by simpa using hi),eW]at e2;split at e2<;>cases e2
   unfold iG at e2;rw[aQ (by simpa using hi),iu]at e2;rw[aQ hi]at e1;rw[aM]at e2
   cases hj:caps[i - tn.length]? with
   |none=>rw[hj]at e2;cases e2
   |some j=>
     rw[hj]at e2;have e2':(σ[j]?).join=a_ v:=bx e2
     have hσ:σ[j]?=a_ (a_ v):=by
      cases q:σ[j]? with
      |none=>rw[q]at e2';cases e2'
      | some z=>rw[q]at e2';cases z with
        |none=>cases e2'
        |some z=>exact congrArg a_ e2'
     have hN:X.N[j]?=a_ x:=by
      have e:=congrArg (λl=>l[i - tn.length]?) S.caps;simp only[aM,hj,e1,bV]at e;exact bx e
     have hk:=S.capk x (aR e1);obtain⟨m,hn,hl⟩:=M.loc;have hv:Qo X.env.scope x:=hk.elim (λz=>.inr (.inl z)) λz=>.inr (.inr z);obtain⟨u,ru,l⟩:=hl j x v hN hσ hv;refine⟨u,ru,.inr ?_⟩
     rcases l with⟨k,_⟩|⟨k,c,ec,hcell⟩
     ·rw[k]at hk;rcases hk with z|z<;>cases z
     ·
      rcases e3 with z|z|z
      ·
       exact absurd z (qj (S.capn x (aR e1)))
      ·obtain⟨c',ec'⟩:=okY.has x (.inl z);have ecc :=bx ((L x c' ec').symm.trans ec);rw[ecc]at ec';exact⟨.inl z,c,ec',hcell.keeps old⟩
      ·obtain⟨c',ec'⟩:=okY.has x (.inr z);have ecc :=bx ((L x c' ec').symm.trans ec);rw[ecc]at ec';exact⟨.inr z,c,ec',hcell.keeps old⟩
  have pinD:∀{σ':St} {H':Hp} {s':ai} {its:List ah} {n:Nat},Inv Y (X.pn++h_) σ' H' s'->H' D=b_->s'.heap.get? D=a_ { cls:=.type "list",data:=.seq its.toArray n }->
    Inv Y ((X.pn++h_)++[(D,{ cls:=.type "list",data:=.seq its.toArray n })]) σ' H' s':=λ{σ' H' s' its n}I' hn hd=>by
   refine I'.ql λp hp=>?_
   rcases aE.mp hp with z|z
   ·exact I'.pin p (ak _ z)
   ·have e:=aL.mp z;subst e;refine⟨hd,hn,hDC,λz=>?_,(λv z=>nomatch z)⟩;exact absurd (frL D z) (bC _)
  have fpD:∀{H':Hp},H' D=b_->∀b,b=D->qP Y (X.pn++h_) H' b:=λ{H'}hn b hb=>by
   subst hb;refine⟨hn,hDC,λz=>absurd (frL b z) (bC _),.inr (af O),λx c e z=>?_,λp hp z=>?_⟩
   ·have:=clL x c e;rw[z]at this;exact absurd this (bC _)
   ·have hp':p∈X.pn++h_:=by simpa [Y,eN]using hp
    have:=vA _ _ (M.pin p hp').1;rw[z]at this;exact absurd this (bC _)
  have stat:∀{H':Hp}{pl:List (aF×kL)},(∀b∈fp,H' b=b_)->(∀p∈pl,p.1=D)->∀b∈fp,qP Y ((X.pn++h_)++pl) H' b:=λ{H' pl}hn hpl b hb=>by
   obtain⟨g0,g1,g2,g3,g4,g5⟩:=f2 b hb;refine⟨hn b hb,?_,λz=>?_,.inl hb,λx c e=>g4 x c (L x c e),λp hp z=>?_⟩
   ·exact bo (c5 (hfpS b hb) hlt)
   ·rcases au.mp (M.um b z)with w|w
    ·exact g1 w
    ·exact g2 w
   ·have hp':p∈(X.pn++h_)++pl:=by simpa [Y,eN]using hp
    rcases aE.mp hp' with w|w
    ·exact g5 p w z
    ·have h1:=hpl p w;have h2:=hfpS b hb;rw[<-z,h1]at h2;exact absurd h2 (bC _)
  refine oG (λn s'=>∃(i:Nat) (ys:List V) (its:List ah) (k:Nat) (H':Hp),Inv Y (X.pn++h_) (iG tn.length caps σ) H' s'/\H' D=b_/\s'.heap.get? D=a_ { cls:=.type "list",data:=.seq its.toArray k }/\cF ys its/\
   tnn i s'.heap/\(∀b∈fp,H' b=b_)/\W i n ys H') ?_ m0 ⟨0,[],[],0,H2,I3,fresh D (ao _),hacc,.nil,T.keep _ _ _ st2 λb hb o e=>old b o e,λb hb=>(f2 b hb).1,w0⟩
  rintro n s4 ⟨i,ys,its,k,H4,I4,hD4,ho4,rv4,st4,fr4,w4⟩;have I4':=pinD I4 hD4 ho4
  have pl1:∀p∈[((D,{ cls:=.type "list",data:=.seq its.toArray k }):aF×kL)],p.1=D:=λp hp=>by
   rw[aL.mp hp]
  rcases turn i n ys H4 w4 with⟨stop,hz,qn⟩|⟨go,hz,step⟩
  ·
   refine iL (T.done Y rfl rfl rfl hcalm i _ s4 _ H4 _ I4' (stat fr4 pl1) st4 stop) λr s5 ⟨hr,I5⟩=>?_;subst hr;have hd5:=(I5.pin (D,{ cls:=.type "list",data:=.seq its.toArray k }) (ak _ (ak _ (aL.mpr rfl)))).1;have I5' :=I5.mI;have J5 :=M.Xa I5'.os I5'.base I5'.hok I5'.bare λb hb=>⟨(f2 b hb).2.2.2.1,(f2 b hb).2.1,(f2 b hb).2.2.2.2.1,(f2 b hb).2.2.2.2.2⟩
   have up:∀a,D<=a->H4 a=b_->qP X h_ H4 a:=λa ha hn=>by
    refine⟨hn,?_,λz=>?_,.inr ?_,λx c e z=>?_,λp hp z=>?_⟩
    ·have h1:=M.lt;intro z;rw[<-z,O]at h1;exact absurd (aV h1 ha) (bC _)
    ·exact M.Wj (by rw[O];exact ha) z
    ·exact ab M.sz (by rw[O];exact ha)
    ·obtain⟨v,q⟩:=M.cell x c e;have h1:=q.lt;rw[z,O]at h1;exact absurd (aV h1 ha) (bC _)
    ·have h1:=vA _ _ (M.pin p hp).1;rw[z]at h1;exact absurd (aV h1 ha) (bC _)
   have J6:Inv X h_ σ (upd H4 D (.lst ys)) s5:=J5.Io (up D (ao _) hD4) (by have h1:=M.sz;rw[O]at h1;exact h1) ⟨hz,its,k,rv4,hd5⟩;obtain⟨m5,hn5,_⟩:=I5'.loc;refine⟨rfl,D,upd H4 D (.lst ys),rfl,⟨m5,hn5⟩,J6,?_,qn D hD4⟩;have hC4 :=I5'.free;obtain⟨u0,u1,u2,u3,u4,u5⟩:=up C (be hlt) hC4;exact⟨by rw[cD (eQ hDC)];exact u0,u1,u2,u3,u4,u5⟩
  ·refine iL (T.item Y rfl rfl rfl hcalm i _ s4 _ H4 _ I4' (stat fr4 pl1) st4 go) λr s5 ⟨u,hr,h5⟩=>?_;subst hr;refine iL h5 λ_ s6 ⟨x,H6,I6,r6,y6,st6,fr6⟩=>?_;have I6':=I6.pinned (stat fr6 pl1) (T.obj _ _ st6);refine iL (hg cl B H2 C fp _ s6 _ H6 x u _ I6' r6 (touch _ _ _ _ (step x H6 y6))) λ_ s7 ⟨σ7,H7,I7,q7,l7,e7⟩=>?_
   have back:∀{H':Hp} {s':ai} {ys':List V} {its':List ah} {k':Nat} {n':Nat},Inv Y (X.pn++h_++l8 fp s6.heap) σ7 H' s'->H' D=b_->s'.heap.get? D=a_ { cls:=.type "list",data:=.seq its'.toArray k' }->cF ys' its'->W (i+1) n' ys' H'->
     ∃(i:Nat) (ys:List V) (its:List ah) (k:Nat) (H':Hp),Inv Y (X.pn++h_) (iG tn.length caps σ) H' s'/\H' D=b_/\s'.heap.get? D=a_ { cls:=.type "list",data:=.seq its.toArray k }/\cF ys its/\tnn i s'.heap/\(∀b∈fp,H' b=b_)/\W i n' ys H':=
    λ{H' s' ys' its' k' n'}I' hd ho rv w=>by
     refine⟨i+1,ys',its',k',H',(I'.mI).weak (by rw[l7]) (λj v hj=>?_),hd,ho,rv,T.keep _ _ _ st6 λb hb o e=>(I'.pin (b,o) (ak _ (ak _ (nu hb e)))).1,λb hb=>?_,w⟩
     ·have hj':tn.length<=j:=by
       by_cases hj':tn.length<=j
       ·exact hj'
       ·unfold iG at hj;rw[aU (by simpa using hj'),eW]at hj;split at hj<;>cases hj
      rw[e7 j hj'];exact hj
     ·obtain⟨o,e,d⟩:=T.obj _ _ st6 b hb;exact(I'.pin (b,o) (ak _ (ak _ (nu hb e)))).2.1
   have pinOf:∀{σ':St}{H':Hp}{s':ai},Inv Y (((X.pn++h_)++[(D,{ cls:=.type "list",data:=.seq its.toArray k })])++l8 fp s6.heap) σ' H' s'->s'.heap.get? D=a_ { cls:=.type "list",data:=.seq its.toArray k }/\H' D=b_:=λI'=>by
    obtain⟨q1,q2,_⟩:=I'.pin (D,{ cls:=.type "list",data:=.seq its.toArray k }) (ak _ (aH _ (ak _ (aL.mpr rfl))));exact⟨q1,q2⟩
   have dropD:∀{σ':St}{H':Hp}{s':ai},Inv Y (((X.pn++h_)++[(D,{ cls:=.type "list",data:=.seq its.toArray k })])++l8 fp s6.heap) σ' H' s'->Inv Y (X.pn++h_++l8 fp s6.heap) σ' H' s':=λI'=>
    I'.ql λp hp=>I'.pin p (ak _ (by
     rcases aE.mp hp with z|z
     ·exact aH _ (aH _ z)
     ·exact ak _ z))
   refine iL (ht cl B H2 C fp _ s7 σ7 H7 _ I7 q7) λb s8 ⟨H8,I8,q8⟩=>?_
   cases b with
   |false=>
     obtain⟨m',hm,w8⟩:=q8;exact⟨m',hm,back (dropD I8) (pinOf I8).2 (pinOf I8).1 rv4 w8⟩
   |true=>
     refine iL (he cl B H2 C fp _ s8 σ7 H8 _ I8 q8) λv s9 ⟨y,H9,I9,r9,m',hm,w9⟩=>?_;obtain⟨ho9,hD9⟩:=pinOf I9;refine wpAny_list_append_plain (hsz:=by have:=rv4.length;exact be (aB (af this.symm) hz)) ⟨k,ho9⟩ λh' hl' hs'=>?_;obtain⟨k',hk'⟩:=hl';have I9':=dropD I9;have f9:=fpD hD9 D rfl
     have I10:Inv Y (X.pn++h_++l8 fp s6.heap) σ7 H9 { s9 with heap:=h' }:=by
      refine I9'.turned (λb o hb e=>hs'.extBut b o hb e) hD9 hDC (.inr (af O)) f9.2.2.2.2.1 λp hp=>?_;have hp':p∈X.pn++h_++l8 fp s6.heap:=by simpa [Y,eN]using hp
      rcases aE.mp hp' with z|z
      ·exact bo (vA _ _ (M.pin p z).1)
      ·obtain⟨hb,_⟩:=wI z;exact bo (hfpS _ hb)
     refine⟨m',hm,back (k':=k') I10 hD9 ?_ (rv4.append (.cons r9 .nil)) w9⟩;simpa using hk'
 exact codeAny_compStart_list (loop _ rfl) (T.self X.A 0 _ _ _ (T.keep _ _ _ st2 λb hb o e=>old b o e) (loop _ rfl))
def Nu{iter:aX}{ifs:List aX}
  (j:X.calm=c_)(S:jh X scope tn cn caps)(hi:PI X tg iter wi)
  (O:∀(cl:List (bc×aF))(c:ai)(d:Hp)(C:aF)(ex:List aF),PG (eN X scope cl (tn++cn) c d C ex) tg g)(k:pC tn.length g)
  (ht:∀(cl:List (bc×aF))(c:ai)(d:Hp)(C:aF)(ex:List aF),LZ (eN X scope cl (tn++cn) c d C ex) ifs tt)
  (R:∀(cl:List (bc×aF))(c:ai)(d:Hp)(C:aF)(ex:List aF),PE (eN X scope cl (tn++cn) c d C ex) elt te)
  (hs:∀x,foldedSetIterable iter X.env x=pure x):PE X (.ListComp elt [⟨tg,iter,ifs,0⟩] scope pos) (Iv wi tn.length caps g tt te):=by
 intro h_ s σ H Q I h;obtain⟨cl,y,h1,h2⟩:=vf I.ok S;refine FN rfl hs y S.kind S.locs (iL (hi h_ s σ H _ I h) λv s1 U=>iL U λitv s2 B=>?_);refine c9 (ve j S h1 h2 O k ht R B) (λW s3 Y=>c9 Y (λM s4 Z=>ko Z λr s5 q5=>?_) λ_ _ z=>z) λ_ _ z=>z;obtain⟨rfl,D,H',rfl,⟨m,hn⟩,J,l,q⟩:=q5;refine⟨m,hn,λh' L=>⟨.ref D,H',?_,rfl,q⟩⟩;exact J.turned (λb o hb e=>L.extBut b o hb e) l.1 l.2.1 l.2.2.2.1 l.2.2.2.2.1 l.2.2.2.2.2
def Ct{iter:aX}{ifs:List aX}{k:xI}(hN:X.N.Nodup)(O:X.N[i]?=a_ x)(hx:Loc X.env.scope x)
  (y:X.calm=c_)(S:jh X scope tn cn caps)(hi:PI X tg iter wi)
  (hg:∀(cl:List (bc×aF))(c:ai)(d:Hp)(C:aF)(ex:List aF),PG (eN X scope cl (tn++cn) c d C ex) tg g)(B:pC tn.length g)
  (ht:∀(cl:List (bc×aF))(c:ai)(d:Hp)(C:aF)(ex:List aF),LZ (eN X scope cl (tn++cn) c d C ex) ifs tt)
  (he:∀(cl:List (bc×aF))(c:ai)(d:Hp)(C:aF)(ex:List aF),PE (eN X scope cl (tn++cn) c d C ex) elt te)
  (R:swapsWith (.ListComp elt [⟨tg,iter,ifs,0⟩] scope pos) (a_ (.Name x pos')) k.line X.env=pure c_)
  (hs:∀x,foldedSetIterable iter X.env x=pure x)(hf:X.fn x=c_\/X.env.scope.names.lookup x=a_ .local) :
  PS X (.Assign [.Name x pos'] (.ListComp elt [⟨tg,iter,ifs,0⟩] scope pos) k) (Gg (Iv wi tn.length caps g tt te) (kH i)):=by
 intro h_ s σ H D I h;obtain⟨cl,U,h1,h2⟩:=vf I.ok S;rw[exec_Assign_Name_used _ _ _ _ R];refine wb9 (FK (wb9 ?_));refine wb9 (c9 (FN rfl hs U S.kind S.locs (iL (hi h_ s σ H _ I h) λv s1 hv=>iL hv λitv s2 W=>?_)) (λ_ s' hq=>wu9 (wu9 hq)) λ_ _ e=>e);refine c9 (ve (Q:=λx H1=>kH i x σ H1 D.nx) y S h1 h2 hg B ht he W) (λacc s3 q3=>c9 q3 (λj s4 q4=>ko q4 λr s5 q5=>?_) λ_ _ z=>z) λ_ _ z=>z;obtain⟨rfl,D',H',rfl,⟨m,hn⟩,J,l,q⟩:=q5;refine wpAny_assign_Name ?_;obtain⟨M,es,ep,Y,L,Z⟩:=id hn
 have J':Inv X (h_++[(j.locals,M)]) σ H' s5:=J.ql λp hp=>by
  rcases aE.mp hp with z|z
  ·exact J.pin p (ak _ z)
  ·have e:p=(j.locals,M):=by simpa using z
   subst e;exact⟨Y,l.1,l.2.1,l.2.2.1,λv z=>by rw[L]at z;cases z⟩
 refine uk J' hN O hx (v:=.ref D') rfl (λs6 I6=>?_) hf;have e6:=(I6.pin (j.locals,M) (by simp)).1;refine⟨m,⟨M,es,ep,e6,L,Z⟩,λh' hs'=>⟨_,H',?_,q⟩⟩;exact(I6.mI).turned (λb o hb e=>hs'.extBut b o hb e) l.1 l.2.1 l.2.2.2.1 l.2.2.2.2.1 l.2.2.2.2.2
end
end L2
namespace M
open PySem PySem.Spec PyProof.Rows L2
def j2(K:Fg)(F1:Hp)(J:It)(items:List Dat):Prop:=∀F H,Good F H->bT F1 F->
 (∀(i:Nat)d,items[i]?=a_ d->J.go i H/\∀x H',J.yld i H x H'->∃F',Step F H F' H'/\Rep K F' d x)/\∀i,items.length<=i->J.stop i H
noncomputable def vb(x:Iw)(F:Hp):Hp:=match x with
 |.rng _=>λ_=>b_
 |_=>F
def AO(h:bT F F'):bT (vb x F) F':=by
 unfold vb;split
 ·intro a o e;cases e
 ·exact h
def gI(K:Fg)(C:Fs)(x:Iw):TI:=λσ H R=>∃ρ items F,yF C x ρ=a_ items/\Good F H/\mV K F σ ρ/\∀J F1 c,Step F H F1 c->j2 K (vb x F1) J items->R J c
abbrev SI(X:Cx)(C:Fs)(tg iter:aX)(x:Iw):Prop:=PI X tg iter (gI X.K C x)
noncomputable def Xy(x:bc):It:=⟨λi _=>i<x.cps.size,λi H v H'=>H'=H/\∃c,x.cps[i]?=a_ c/\v=V.str ⟨#[c]⟩,λi _=>x.cps.size<=i⟩
def Il{K:aJ}(x:bc)(t:DD)(it:aF):Turn P w K tg (Xy x) [it] it (λi h=>h.IsStrIter it "str_ascii_iterator" x t i) where
 mem:=by simp
 obj:=λi h st b hb=>by
  have e:b=it:=by simpa using hb
  subst e;obtain⟨o,e,c,d⟩:=st;exact⟨o,e,λv z=>by rw[d]at z;cases z⟩
 keep:=λi h h' st k=>by
  obtain⟨o,e,c,d⟩:=st;exact⟨o,k it (by simp) o e,c,d⟩
 item:=by
  intro X l q y R i h_ s σ H E I hf st g;subst l q y;obtain⟨B,D,W,J,L,M⟩:=hf it (by simp);have U:x.cps[i]?=a_ (x.cps[i]'g):=aS g;refine wpAny_pyNext_ascii_item st U λh' j Y=>?_;have Z:Inv X h_ σ H { s with heap:=h',toks:=s.toks+1 }:=I.turned (λb o hb e=>(Y.2 b hb).trans e) B D J L M;obtain⟨o,e,c,d⟩:=id j;exact⟨_,rfl,uZ (s:={ s with heap:=h',toks:=s.toks+1 }) e c d (by decide) ⟨.str ⟨#[x.cps[i]'g]⟩,H,Z,⟨_,rfl⟩,⟨rfl,_,U,rfl⟩,j,λb hb=>(hf b hb).1⟩⟩
 done:=by
  intro X l q y R i h_ s σ H E I hf st g;subst l q y;obtain⟨B,D,W,J,L,M⟩:=hf it (by simp);have O:x.cps.size<=i:=g;exact wpAny_pyNext_ascii_end (I.ok.hd R) st (gW O) λh' eb=>⟨rfl,I.turned (t':=s.toks) (λb o hb e=>eb b o hb e) B D J L M⟩
 self:=λ_ _ _ _ _ st h=>wpAny_pyIter_striter_ascii st h
def Ii{K:aJ}(x:bc)(t:DD)(it:aF):Turn P w K tg (Xy x) [it] it (λi h=>h.IsStrIter it "str_iterator" x t i) where
 mem:=by simp
 obj:=λi h st b hb=>by
  have e:b=it:=by simpa using hb
  subst e;obtain⟨o,e,c,d⟩:=st;exact⟨o,e,λv z=>by rw[d]at z;cases z⟩
 keep:=λi h h' st k=>by
  obtain⟨o,e,c,d⟩:=st;exact⟨o,k it (by simp) o e,c,d⟩
 item:=by
  intro X l q y R i h_ s σ H E I hf st g;subst l q y;obtain⟨B,D,W,J,L,M⟩:=hf it (by simp);have U:x.cps[i]?=a_ (x.cps[i]'g):=aS g;refine wpAny_pyNext_wide_item st U λh' j Y=>?_;have Z:Inv X h_ σ H { s with heap:=h',toks:=s.toks+1 }:=I.turned (λb o hb e=>(Y.2 b hb).trans e) B D J L M;obtain⟨o,e,c,d⟩:=id j;exact⟨_,rfl,uZ (s:={ s with heap:=h',toks:=s.toks+1 }) e c d (by decide) ⟨.str ⟨#[x.cps[i]'g]⟩,H,Z,⟨_,rfl⟩,⟨rfl,_,U,rfl⟩,j,λb hb=>(hf b hb).1⟩⟩
 done:=by
  intro X l q y R i h_ s σ H E I hf st g;subst l q y;obtain⟨B,D,W,J,L,M⟩:=hf it (by simp);have O:x.cps.size<=i:=g;exact wpAny_pyNext_wide_end (I.ok.hd R) st (gW O) λh' eb=>⟨rfl,I.turned (t':=s.toks) (λb o hb e=>eb b o hb e) B D J L M⟩
 self:=λ_ _ _ _ _ st h=>wpAny_pyIter_striter_wide st h
def Zc(tl:TE):TI:=λσ H R=>tl σ H λv c=>∃x,v=.str x/\R (Xy x) c
def Jk(hl:PE X l tl):PI X tg l (Zc tl):=by
 intro h_ s σ H R I h;refine iL (hl h_ s σ H _ I h) λv s1 ⟨y,d,c,g,j⟩=>?_;obtain⟨x,e,q⟩:=j;subst e;obtain⟨t,rfl⟩:=g
 have fin:∀b∈[s1.heap.objs.size],qP X h_ d b:=λb hb=>by
  have e:b=s1.heap.objs.size:=by simpa using hb
  subst e;exact c.vV (ao _) (c.hok.fresh (ao _))
 cases ha:x.cps.all (·< 128)with
 |true=>exact wpAny_pyIter_ascii ha ⟨s1.heap.objs.size,[s1.heap.objs.size],_,_,d,rfl,c.kept λb o e=>hp9 _ e,Il x t _,⟨_,aG _ rfl,rfl,rfl⟩,fin,q⟩
 |false=>exact wpAny_pyIter_wide ha ⟨s1.heap.objs.size,[s1.heap.objs.size],_,_,d,rfl,c.kept λb o e=>hp9 _ e,Ii x t _,⟨_,aG _ rfl,rfl,rfl⟩,fin,q⟩
def Ay{K:Fg}{F1:Hp}:j2 K F1 (Xy x) (x.cps.toList.map λc=>Dat.str ⟨#[c]⟩):=λF H g s=>by
 refine⟨λi d hd=>?_,λi hi=>(by simpa using hi:x.cps.size<=i)⟩;rw[aM]at hd;obtain⟨c,k,rfl⟩:=dZ hd;have j:x.cps[i]?=a_ c:=by simp_all
 refine⟨(bO.mp j).1,λv H' y=>?_⟩;obtain⟨rfl,l,e1,rfl⟩:=y;rw[j]at e1;cases e1;exact⟨F,Step.refl g,rfl⟩
section
variable{iter:aX}
def PI.imp(h:PI X tg iter w)(f:∀σ H R,w' σ H R->w σ H R):PI X tg iter w':=λh_ s σ H R I q=>h h_ s σ H R I (f _ _ _ q)
def PI.or(h:PI X tg iter w)(h':PI X tg iter w'):PI X tg iter (λσ H R=>w σ H R\/w' σ H R):=λh_ s σ H R I q=>by
 rcases q with q|q
 ·exact h h_ s σ H R I q
 ·exact h' h_ s σ H R I q
def wU{K:Fg}{F1:Hp}(h:mo K F1 a vs)(r:cO K F1 ds vs):j2 K F1 (ZF K a) ds:=λF H g s=>by
 have c:=g.sub.seq (s.seq h);refine⟨λi d hd=>?_,λi hi=>⟨vs,c,by rw[r.length];exact hi⟩⟩;obtain⟨v,e1,e2⟩:=r.get hd;refine⟨⟨vs,v,c,e1⟩,λx H' y=>?_⟩;obtain⟨rfl,y⟩:=y;have:=y vs c;rw[e1]at this;cases this;exact⟨F,Step.refl g,e2.mono s⟩
def Ax{K:Fg}{F1:Hp}(h:Tq K F1 a vs)(r:cO K F1 ds vs):j2 K F1 (ZE K a) ds:=λF H g s=>by
 have c:=((h.mono s).mono g.sub).sq;refine⟨λi d hd=>?_,λi hi=>⟨vs,c,by rw[r.length];exact hi⟩⟩;obtain⟨v,e1,e2⟩:=r.get hd;refine⟨⟨vs,v,c,e1⟩,λx H' y=>?_⟩;obtain⟨rfl,y⟩:=y;have:=y vs c;rw[e1]at this;cases this;exact⟨F,Step.refl g,e2.mono s⟩
def Rb(h:SE X C e xe):SI X C tg e (.itv xe):=PI.imp (PI.or (PI.or (Ej h) (Jj h)) (Jk h)) λσ H R q=>by
 obtain⟨ρ,items,F,hi,g,l,k⟩:=q;obtain⟨⟨d,fr⟩,h1,h2⟩:=cR hi
 cases d with
 |lst ds=>
   cases h2;refine .inl (.inl ⟨ρ,_,fr,h1,F,g,l,λv F1 c st r _=>?_⟩);obtain⟨a,vs,rfl,j,r⟩:=r;exact⟨a,rfl,⟨vs,st.good.sub.seq j⟩,k _ F1 c st (wU j r)⟩
 |tup ds=>
   cases h2;refine .inl (.inr ⟨ρ,_,fr,h1,F,g,l,λv F1 c st r _=>?_⟩);obtain⟨a,vs,rfl,j,r⟩:=r;exact⟨a,rfl,⟨vs,(j.mono st.good.sub).sq⟩,k _ F1 c st (Ax j r)⟩
 |str x=>
   cases h2;refine .inr ⟨ρ,_,fr,h1,F,g,l,λv F1 c st r _=>?_⟩;cases r;exact⟨x,rfl,k _ F1 c st Ay⟩
 |_=>cases h2
def Ka{K:Fg}{F1:Hp}{lo:Int}:j2 K F1 (X2 lo n) ((aK n).map λk:Nat=>Dat.int (lo+k)):=λF H g s=>by
 refine⟨λi d hd=>?_,λi hi=>(by simpa using hi:n<=i)⟩;rw[aM]at hd
 have hi:i<n:=by
  by_cases hi:i<n
  ·exact hi
  simp_all
 rw[ae (by simpa using hi)]at hd;simp only[qT,bV,gP]at hd;subst hd;refine⟨hi,λx H' y=>?_⟩;obtain⟨rfl,rfl⟩:=y;exact⟨F,Step.refl g,rfl⟩
set_option tactic.hygienic true in
def MT(d:Gl X "range")(l:X.mg "range"=b_)(ha:SA X C [a] [xa])(hs:aO [a] X.env=[(d_,eval a X.env)]):SI X C tg (.Call (.Name "range" p) [a] [] pos) (.rng [xa]):=
 PI.imp (GK d l ha hs) λσ H R q=>by
  obtain⟨ρ,items,F,hi,g,y,k⟩:=q;obtain⟨ds,h1,h2⟩:=cR hi;refine⟨ρ,ds,h1,F,g,y,λvs F1 z st r=>?_⟩;unfold Cr at h2;split at h2
  ·rename_i j;split at h2
   ·rename_i B;cases h2;obtain⟨v,w,rfl,D,c⟩:=r;cases D;cases c;refine⟨j,rfl,by omega,hV B.1 (by decide),k _ F1 z st ?_⟩;have:=Ka (K:=X.K) (F1:=vb (.rng [xa]) F1) (lo:=0) (n:=j.toNat);simpa using this
   ·cases h2
  ·have:=mQ h1;cases this
  ·have:=mQ h1;cases this
  ·cases h2
end
def GR(h:qp f (d::ds)=a_ ys):∃o r,f d=a_ o/\qp f ds=a_ r/\ys=(match o with|some y=>(y.1::r.1,(y.2 || im y.1) && r.2)|none=>r):=by
 obtain⟨o,h1,h⟩:=cR h;obtain⟨r,h2,h⟩:=dZ h;exact⟨o,r,h1,h2,by cases o<;>exact h.symm⟩
def UG(K:Fg)(nt:Nat)(one:Bool)(g:TG):Prop:=∀F H σ ρ d x ρ1 Q,Good F H->mV K F σ ρ->nt<=σ.length->σ.length=ρ.length->Rep K F d x->FD nt one d ρ=a_ ρ1->(∀c,mV K F c ρ1->Q c H)->g x σ H Q
def zV{K:Fg}{σ:St}{ρ:iJ}(hl:σ.length=ρ.length)(R:mV K F σ ρ)(r:Rep K F d v):mV K F (σ.set i (a_ v)) (ρ.set i (a_ d)):=λj d' q=>by
 rw[mG]at q ⊢;by_cases c:i=j
 ·simp_all
 ·rw[if_neg c]at q ⊢;exact R j d' q
def Mt{K:Fg}:UG K nt c_ (kH 0):=λF H σ ρ d x ρ1 Q g R c hl r hb k=>by
 simp only[FD,gP]at hb;subst hb;exact k _ (zV hl R r)
def Hj{K:Fg}(R:mV K F σ ρ):mV K F (iG nt caps σ) (jB nt caps ρ):=λi d q=>by
 unfold jB at q;unfold iG;by_cases hi:i<nt
 ·rw[aU (by simpa using hi),eW,if_pos hi]at q;cases q
 ·rw[aQ (by simpa using hi),iu,aM]at q;rw[aQ (by simpa using hi),iu,aM]
  cases g:caps[i - nt]? with
  |none=>rw[g]at q;cases q
  |some j=>
    rw[g]at q;have c:(ρ[j]?).join=a_ d:=bx q
    have k:ρ[j]?=a_ (a_ d):=by
     cases z:ρ[j]? with
     |none=>rw[z]at c;cases c
     |some o=>rw[z]at c;exact congrArg a_ c
    obtain⟨v,e1,e2⟩:=R j d k;refine⟨v,?_,e2⟩;rw[bV,e1];rfl
def U4(K:Fg)(C:Fs)(xs:List Ex):TT:=λσ H Q=>∃ρ b,A4 C xs ρ=a_ b/\tT K ρ b σ H Q
section
variable{iter:aX}
def Mz:LZ Y [] (U4 Y.K C []):=λh_ s σ H Q I c=>by
 obtain⟨ρ,b,h,F,g,R,k⟩:=c;cases h;exact Nk h_ s σ H Q I (k F H (Step.refl g))
def My(h:ST Y C c xe):LZ Y [c] (U4 Y.K C [xe]):=λh_ s σ H Q I j=>by
 obtain⟨ρ,b,hb,F,g,R,k⟩:=j;refine Nj h h_ s σ H Q I ?_;simp only[A4]at hb;obtain⟨⟨d,fr⟩,h1,hb⟩:=cR hb;obtain⟨z,l,hb⟩:=cR hb;refine⟨ρ,d,fr,z,h1,l,F,g,R,λF1 q st=>?_⟩
 grind
set_option tactic.hygienic true in
def xq{K:Fg}(tgc:UG K nt one g)(hcl:∀ρ items,yF C it ρ=a_ items->True) :
  ∀σ H Q,gE K C (.comp nt one caps it xs xe) σ H Q->Iv (gI K C it) nt caps g (U4 K C xs) (gE K C xe) σ H Q:=λσ H Q z3=>by
 obtain⟨ρ,d,fr,h,F,g0,R,k⟩:=z3;obtain⟨items,h1,h⟩:=cR h;split at h
 ·rename_i hz;obtain⟨⟨all,av⟩,h2,h⟩:=dZ h;cases h;refine⟨ρ,items,F,h1,g0,R,λJ F1 H1 l ok=>?_⟩;refine⟨λi m ys H'=>∃F' L O dr U,Step F1 H1 F' H'/\qp (oF C nt one (jB nt caps ρ) xs xe) (items.drop i)=a_ (dr,U)/\all=L++dr/\av=(O && U)/\cO K F' L ys/\(O=c_->e8 K H1 H' L ys)/\m=items.length - i/\i<=items.length/\L.length<=i,⟨items.length,F1,[],c_,all,av,Step.refl l.good,h2,rfl,rfl,rfl,λ_=>.nil,rfl,aP _,ao _⟩,?_⟩;rintro i m ys H' ⟨F',L,O,dr,U,st,hm,ha,B,ry,fy,rfl,hi,W⟩;have hy:ys.length<=1000000:=by rw[ry.length];exact ab W (ab hi hz)
  obtain⟨okg,Wg⟩:=ok F' H' st.good (AO st.ff);by_cases q:i<items.length
  ·obtain⟨go,yl⟩:=okg i items[i] (ae q);refine .inr ⟨go,by exact aB hy (by decide),λx H2 y2=>?_⟩;obtain⟨F2,c,r2⟩:=yl x H2 y2;rw[fR q]at hm;obtain⟨o,⟨rr,rv⟩,h3,h4,h5⟩:=GR hm;obtain⟨ρ1,h6,h3⟩:=cR h3;obtain⟨b,h7,h3⟩:=cR h3;have RS:mV K F2 (iG nt caps σ) (jB nt caps ρ):=(Hj R).mono ((l.ff.trans st.ff).trans c.ff);refine tgc F2 H2 _ _ _ x ρ1 _ c.good RS (by simp[iG]) (by simp[iG,jB]) r2 h6 λσ1 Y=>?_;refine⟨ρ1,b,h7,F2,c.good,Y,λF3 H3 j=>?_⟩
   cases b with
   |true=>
     obtain⟨⟨y,M⟩,h8,h3⟩:=dZ h3;cases h3;refine⟨ρ1,y,M,h8,F3,j.good,Y.mono j.ff,λv F4 H4 D r4 f4=>?_⟩;have stA:=((st.trans c).trans j).trans D;have e5:dr=y::rr/\U=((M || im y) && rv):=by grind
     refine⟨items.length - (i+1),by omega,F4,L++[y],O && (M || im y),rr,rv,stA,h4,by rw[ha,e5.1];simp,by rw[B,e5.2,Po],(ry.mono ((c.ff.trans j.ff).trans D.ff)).append (.one r4),λz=>?_,rfl,q,by simp;omega⟩;simp only[aj,kQ]at z;have Z:=c.hh.trans j.hh;refine e8.snoc (st.hh.trans Z) D.hh ((fy z.1).mono Z) ?_
     rcases z.2 with z2|z2
     ·exact f4 z2
     ·exact .jO D.good z2 r4
   |false=>
     cases h3;have e5:dr=rr/\U=rv:=by simp_all
     exact⟨items.length - (i+1),by omega,F3,L,O,rr,rv,(st.trans c).trans j,h4,by rw[ha,e5.1],by rw[B,e5.2],ry.mono (c.ff.trans j.ff),λz=>(fy z).mono (c.hh.trans j.hh),rfl,q,cT W⟩
  ·have e :=bI hi (cy q);subst e;refine .inl ⟨Wg _ (ao _),oQ hy,λp hp=>?_⟩;rw[LL]at hm;cases hm;rw[az]at ha;rw[eO]at B;subst ha B;have ry':=ry.mono (bT.upd (o:=.lst ys) (st.good.sub.free hp));exact k _ _ _ ((l.trans st).trans (Step.alloc st.good hp)) ⟨p,ys,rfl,.inl (.inl cu),ry'⟩ λz=>.lst (l.hh.trans st.hh) hp ((fy z).back (F:=F) l.hh)
 ·cases h
end
def uW{K:Fg}(h:yr d=a_ k)(r:Rep K F d v):v=kV k:=by
 cases d with
 |int i=>cases h;exact r
 |str x=>cases h;exact r
 |_=>cases h
set_option tactic.hygienic true in
theorem wN{K:Fg}:∀{ds:List Dat}{k_:List (Key×V)},pv k (k_.map (·.1)) ds=a_ d->cO K F ds (k_.map (·.2))->∃v,oj k_ k=a_ v/\Rep K F d v
 |[],[],h,_=>by cases h
 |[],_::_,h,_=>by cases h
 |_::_,[],h,_=>by cases h
 |e::ds,p::k_,h,r=>by
   obtain⟨v,w,q,c,g⟩:=r;cases q;simp only[aq,pv]at h;split at h
   ·rename_i z;cases h;exact⟨p.2,qd z,c⟩
   ·rename_i z;obtain⟨v,j,l⟩:=wN h g;exact⟨v,(qe z).trans j,l⟩
section
variable{X:Cx}{C:Fs}{e:aX}{σ:St}{F H:Hp}
def FE{K:Fg}(r:cO K F ds vs)(h:qK ds i=a_ d):∃v,qK vs i=a_ v/\Rep K F d v:=by
 unfold qK at h ⊢;rw[r.length];obtain⟨j,h1,h2⟩:=cR h;obtain⟨v,e1,e2⟩:=r.get h2;exact⟨v,by rw[h1];exact e1,e2⟩
set_option tactic.hygienic true in
def Y3(M:X.A.units+1<dh):UL X (gB X.K λx y=>(vT x y).map λd=>(d,d_)):=by
 intro value slice h_ s σ H x y v u Q I l q h hs;obtain⟨da,J,d,fr,h,F,g,B,D,k⟩:=h;obtain⟨d',h1,h2⟩:=dZ h;obtain⟨rfl,rfl⟩:d'=d/\d_=fr:=by cases h2;exact⟨rfl,rfl⟩
 by_cases j:∃ks ds,da=.dct ks ds
 ·obtain⟨ks,ds,rfl⟩:=j;have L:(yr J).bind (λk=>pv k ks ds)=a_ d':=by cases J<;>exact h1
  obtain⟨kk,O,hl⟩:=cR L;obtain⟨a,k_,rfl,R,rfl,U⟩:=B;obtain⟨w,e1,e2⟩:=wN hl U;obtain rfl:=uW O D;cases l;have dg:Bw H a (kV kk) (a_ w):=by rw[<-e1];exact Bw.k (g.sub _ _ R)
  exact Ma (sW I dg) vo.lookup (xp M I dg q λu' s' I' W=>⟨w,H,I',W,k _ F H (Step.refl g) e2 a8⟩) hs
 cases da<;>first|exact absurd ⟨_,_,rfl⟩ j|skip
 all_goals cases J<;>simp only[vT,reduceCtorEq]at h1
 ·
  split at h1
  ·rename_i z i Y;obtain⟨c,h3,Z⟩:=dZ h1;subst Z;exact Tu value slice h_ s σ H x y v u Q I l q ⟨z,i,c,B,D,Y,h3,k _ F H (Step.refl g) rfl a8⟩ hs
  ·cases h1
 ·rename_i ds i;obtain⟨p,vs,rfl,t,r⟩:=B;obtain⟨w,e1,e2⟩:=FE r h1;exact Tt value slice h_ s σ H _ y v u Q I l q ⟨p,vs,i,w,rfl,D,(t.mono g.sub).sq,e1,k _ F H (Step.refl g) e2 a8⟩ hs
 ·rename_i ds i;obtain⟨p,vs,rfl,t,r⟩:=B;obtain⟨w,e1,e2⟩:=FE r h1;exact yt value slice h_ s σ H _ y v u Q I l q ⟨p,vs,i,w,rfl,D,g.sub.seq t,e1,k _ F H (Step.refl g) e2 a8⟩ hs
def gO(K:Fg)(C:Fs)(x:Option Ex):TO:=λσ H Q=>∃ρ o F,Xm C ρ x=a_ o/\Good F H/\mV K F σ ρ/\∀F' H',Step F H F' H'->Q o H'
abbrev SO(X:Cx)(C:Fs)(e:Option aX)(x:Option Ex):Prop:=PO X e (gO X.K C x)
def PO.imp{e:Option aX}{t t':TO}(h:PO X e t)(f:∀σ H Q,t' σ H Q->t σ H Q):PO X e t':=λh_ s σ H Q I q=>h h_ s σ H Q I (f _ _ _ q)
def MM:SO X C b_ b_:=PO.imp Nq λσ H Q c=>by
 obtain⟨ρ,o,F,ho,g,R,k⟩:=c;cases ho;exact k F H (Step.refl g)
def MK(h:SE X C e xa):SO X C (a_ e) (a_ xa):=PO.imp (Np h) λσ H Q c=>by
 obtain⟨ρ,o,F,ho,g,R,k⟩:=c;obtain⟨⟨d,fr⟩,h1,h2⟩:=cR ho
 cases d with
 |int i=>
   cases h2;exact⟨ρ,_,fr,h1,F,g,R,λv F1 j st r _=>⟨i,r,k F1 j st⟩⟩
 |_=>cases h2
def gSl(K:Fg):V->Option Int->Option Int->Hp->VK->Prop:=λx lo hi H Q=>∃da d fr F,Cf da lo hi=a_ (d,fr)/\Good F H/\Rep K F da x/\∀v F' H',Step F H F' H'->Rep K F' d v->(fr=c_->fX K H H' d v)->Q v H'
def yI{K:Fg}(lo hi:Option Int)(r:cO K F ds vs):cO K F (cutD ds lo hi) (Dm vs lo hi):=by
 unfold cutD Dm;rw[<-r.length];exact(r.drop _).take _
def qz{s:ai}{sl:aF}{lo:Option Int}(ht:y7 s.heap t items)(hs:s.heap.IsSliceOf sl vl vu .none)(pl:rj vl lo)(l:rj vu hi)
  (k:HT.iD items.size 0 lo=0/\HT.iD items.size items.size hi=items.size)
  (h:Q (.ref t) s):aA (aD prog w) A (getItem (.ref t) (.ref sl)) Q E s:=by
 obtain⟨os,d,g,q⟩:=id hs;have j:s.TypeIs (.ref sl) "slice":=⟨os,d,g⟩
 unfold getItem
 try with_reducible refine bR ?_
 first|refine wb9 (wu9 ?_)|skip
 refine wb9 (wpAny_sequenceKey ht.typeIs (by decide) ?_)
 refine wb9 (cx ht.typeIs c8
  (bH c8 ht.typeIs entry_tuple_getitem ?_ (args_tuple_getitem _ _)))
 show aA _ _ (j8 (.ref t) >>= _) _ _ s;refine wb9 (tupleItemsOf_ ht ?_);refine wb9 (iw j ?_);refine wb9 (HT.mK hs pl l ?_)
 have c:((((HT.iD items.size 0 lo):Int) == 0 && (1:Int) == 1 && (HT.iD items.size items.size hi - HT.iD items.size 0 lo) == items.size)=c_):=by
  rw[k.1,k.2];simp
 show aA _ _ (if(((HT.iD items.size 0 lo):Int) == 0 && (1) == 1 && (HT.iD items.size items.size hi - HT.iD items.size 0 lo) == items.size)=c_ then _ else _) _ _ s;rw[if_pos c];refine wb9 ?_;refine wb9 (iw ht.typeIs (wu9 ?_));exact wb9 (fS (wu9 ⟨_,rfl,wu9 h⟩))
set_option tactic.hygienic true
def Yo:XY X (gSl X.K):=by
 intro h_ s σ H x v O R lo hi sl Q I B hs pl D h;obtain⟨da,d,fr,F,h,g,L,k⟩:=h
 cases da with
 |lst ds=>
   cases h;obtain⟨p,vs,rfl,t,r⟩:=L;refine MQ h_ s σ H _ v O R lo hi sl Q I B hs pl D ⟨p,vs,rfl,g.sub.seq t,λq y=>?_⟩;have Z:=(yI lo hi r).mono (bT.upd (o:=.lst (Dm vs lo hi)) (g.sub.free y));exact k _ _ _ (Step.alloc g y) ⟨q,_,rfl,.inl (.inl cu),Z⟩ λz=>.lst (bT.refl _) y (.jO g z (yI lo hi r))
 |str z=>
   simp only[Cf]at h;split at h
   ·rename_i U;cases h;rw[L]at B;obtain⟨t,rfl⟩:=B;obtain⟨o,ho,J,hd⟩:=hs;refine⟨"str",_,PySem.F.slot_str_getitem.lookup,typeIs_str _ _ _,?_⟩;have fin:∀t' k',EP X h_ σ Q (.str (cY z lo hi) t') { s with toks:=k' }:=λt' k'=>⟨.str _,H,I.tok k',⟨t',rfl⟩,k _ F H (Step.refl g) rfl a8⟩
    have c:=ab (zm z lo hi) U
    cases pl with
    |none=>
      cases D with
      |none=>exact j4 (l:=b_) (u:=b_) (st:=b_) ⟨o,ho,J,hd⟩ rfl (pY ⟨c,fin⟩)
      |int j M=>exact j4 (l:=b_) (u:=a_ (j,M)) (st:=b_) ⟨o,ho,J,hd⟩ rfl (pY ⟨c,fin⟩)
    |int i W=>
      cases D with
      |none=>exact j4 (l:=a_ (i,W)) (u:=b_) (st:=b_) ⟨o,ho,J,hd⟩ rfl (pY ⟨c,fin⟩)
      |int j M=>exact j4 (l:=a_ (i,W)) (u:=a_ (j,M)) (st:=b_) ⟨o,ho,J,hd⟩ rfl (pY ⟨c,fin⟩)
   ·cases h
 |tup ds=>
   cases h;obtain⟨p,vs,rfl,t,r⟩:=L;by_cases Y:HT.iD ds.length 0 lo=0/\HT.iD ds.length ds.length hi=ds.length
   ·have e:cutD ds lo hi=ds:=by
     unfold cutD
     simp_all
    rw[e]at k;cases B;obtain⟨its,w1,ht,U⟩:=I.tuple (t.mono g.sub).sq;have hlen:its.toArray.size=ds.length:=by rw[bp,<-w1.length,r.length]
    exact⟨"tuple",_,c8.lookup,ht.typeIs,qz ht hs pl D (by rw[hlen];exact Y) ⟨.ref p,H,I,rfl,k _ F H (Step.refl g) ⟨p,vs,rfl,t,r⟩ a8⟩⟩
   ·refine Q8 h_ s σ H _ v O R lo hi sl Q I B hs pl D ⟨p,vs,rfl,(t.mono g.sub).sq,by rw[r.length];exact Y,λq y=>?_⟩;exact k _ _ _ (Step.alloc g y) ⟨q,_,rfl,.inl cu,(yI lo hi r).mono (bT.upd (g.sub.free y))⟩ a8
 |_=>cases h
def VH{lo:Option aX}(ha:SE X C a xa)(hl:SO X C lo xb)(hh:SO X C hi xc):SE X C (.Subscript a (.Slice lo hi b_ p2) pos) (.sl xa xb xc):=
 PE.imp (Jq Yo ha hl hh) λσ H Q B=>by
  obtain⟨ρ,d,fr,h,F,g,R,k⟩:=B;obtain⟨⟨da,D⟩,h1,h⟩:=cR h;obtain⟨l,h2,h⟩:=cR h;obtain⟨u,h3,h⟩:=cR h;refine⟨ρ,da,D,h1,F,g,R,λv F1 Y c J _=>⟨ρ,l,F1,h2,c.good,R.mono c.ff,λL H2 j=>⟨ρ,u,L,h3,j.good,R.mono (c.ff.trans j.ff),λM Z q=>?_⟩⟩⟩;exact⟨da,d,fr,M,h,q.good,J.mono (j.ff.trans q.ff),λw O H4 y U W=>k w O H4 (((c.trans j).trans q).trans y) U λz=>(W z).back (F:=F) ((c.hh.trans j.hh).trans q.hh)⟩
def Sj(j:X.A.units+20<dh):j7 X (compareOp .NotEq) (gB X.K (qG .ne)):=λh_ s σ H x y v u Q I l q c=>by
 obtain⟨da,z,d,fr,h,F,g,B,D,k⟩:=c;obtain⟨b,hd,rfl,rfl⟩:=jY h;simp only[gJ]at hd;split at hd
 ·rename_i hs;cases hd;simp only[aj]at hs;exact(qE I g 20 X.A da z j hs.1 hs.2 B D l q).2.2 X.prog X.w _ _ ⟨.bl _,H,I,rfl,k _ F H (Step.refl g) rfl a8⟩
 ·cases hd
set_option tactic.hygienic false
def ND:j7 X (compareOp .Is) (gB X.K (qG .isn)):=j7.imp Sn λx y H Q j=>by
 obtain⟨da,l,d,fr,h,F,g,c,q,k⟩:=j;obtain⟨b,hd,rfl,rfl⟩:=jY h
 cases l with
 |non=>
   cases hd;refine⟨q,?_⟩
   cases da with
   |non=>cases c;exact k _ F H (Step.refl g) rfl a8
   |tup ds=>obtain⟨p,vs,rfl,_⟩:=c;exact k _ F H (Step.refl g) rfl a8
   |lst ds=>obtain⟨p,vs,rfl,_⟩:=c;exact k _ F H (Step.refl g) rfl a8
   |dct _ ds=>obtain⟨p,vs,rfl,_⟩:=c;exact k _ F H (Step.refl g) rfl a8
   |dcn _=>obtain⟨p,vs,rfl,_⟩:=c;exact k _ F H (Step.refl g) rfl a8
   |_=>cases c;exact k _ F H (Step.refl g) rfl a8
 |_=>cases da<;>cases hd
def Jv:j7 X (compareOp .IsNot) (gB X.K (qG .nisn)):=j7.imp Nz λx y H Q j=>by
 obtain⟨da,l,d,fr,h,F,g,c,q,k⟩:=j;obtain⟨b,hd,rfl,rfl⟩:=jY h
 cases l with
 |non=>
   cases hd;refine⟨q,?_⟩
   cases da with
   |non=>cases c;exact k _ F H (Step.refl g) rfl a8
   |tup ds=>obtain⟨p,vs,rfl,_⟩:=c;exact k _ F H (Step.refl g) rfl a8
   |lst ds=>obtain⟨p,vs,rfl,_⟩:=c;exact k _ F H (Step.refl g) rfl a8
   |dct _ ds=>obtain⟨p,vs,rfl,_⟩:=c;exact k _ F H (Step.refl g) rfl a8
   |dcn _=>obtain⟨p,vs,rfl,_⟩:=c;exact k _ F H (Step.refl g) rfl a8
   |_=>cases c;exact k _ F H (Step.refl g) rfl a8
 |_=>cases da<;>cases hd
end
end M
namespace L2
open PySem PySem.Spec PyProof.Rows
def oI(tp:Bool)(h:cc)(it l:aF)(i:Nat):Prop:=match tp with
 |true=>h.IsTupleIter it l i
 |false=>h.IsListIter it l i
def oH(tp:Bool)(h:cc)(l:aF)(xs:Array ah):Prop:=match tp with
 |true=>h.IsTuple l xs
 |false=>h.IsList l xs
def oI.keep{h':cc}(y:oI tp h it l i)(k:∀o,h.get? it=a_ o->h'.get? it=a_ o):oI tp h' it l i:=by
 cases tp<;>exact(let ⟨o,e,r⟩:=y;⟨o,k o e,r⟩)
def oH.keep{h':cc}(y:oH tp h l xs)(k:∀o,h.get? l=a_ o->h'.get? l=a_ o):oH tp h' l xs:=by
 cases tp<;>exact(let ⟨o,e,r⟩:=y;⟨o,k o e,r⟩)
def oI.obj(y:oI tp h it l i):∃o,h.get? it=a_ o/\o.cls=.type (if tp then "tuple_iterator" else "list_iterator")/\o.data=.fields #[.ref l,.int i 0]:=by
 cases tp<;>exact y
def oH.obj(y:oH tp h l xs):∃o,h.get? l=a_ o/\o.cls=.type (if tp then "tuple" else "list")/\∃n,o.data=.seq xs n:=by
 cases tp<;>exact y
section
open Builtin
variable{A:bP}{s:ai}
def JC(g:s.heap.IsTupleIter it q i)(y:s.heap.IsTuple q xs)(z:xs[i]?=a_ v)
  (k:∀h',h'.IsTupleIter it q (i+1)->cj it s.heap h'->Q v { s with heap:=h' }):aA (aD prog w) A (gV (.ref it)) Q E s:=by
 obtain⟨D,d,B,c⟩:=id g;obtain⟨J,j,_,L,l⟩:=y;refine wb9 (cx g.typeIs fO (bH fO g.typeIs pZ ?_ (pH _)));show aA (aD prog w) _ (field (.ref it) 0 >>= _) _ _ s;refine wb9 (cQ d c rfl ?_);refine wb9 (cQ d c rfl ?_);refine wb9 (cU j l ?_);simp only[LM,z];refine wb9 (wpAny_setField d c (by simp) (wu9 ⟨v,rfl,wu9 (k _ ⟨_,eG _ d (Obj.isFreed_of_fields (HQ c _)),(Obj.cls_mapFields ..).trans B,?_⟩ (nL ..))⟩));rw[HQ c];simp[rawInt]
def NN(v:A.handled=b_)(c:s.heap.IsTupleIter it q i)(y:s.heap.IsTuple q xs)(z:xs[i]?=b_)
  (k:∀h' e,DG it s.heap h'->(∃o,h'.get? e=a_ o/\o.cls=.type "StopIteration")->E (.ref e) { s with heap:=h' }):aA (aD prog w) A (gV (.ref it)) Q E s:=by
 obtain⟨B,d,D,g⟩:=id c;obtain⟨J,j,_,L,l⟩:=y;refine wb9 (cx c.typeIs fO (bH fO c.typeIs pZ ?_ (pH _)));show aA (aD prog w) _ (field (.ref it) 0 >>= _) _ _ s;refine wb9 (cQ d g rfl ?_);refine wb9 (cQ d g rfl ?_);refine wb9 (cU j l ?_);simp only[LM,z];refine wb9 (fS (wb9 (wpAny_setField d g (by simp) ?_)));refine wb9 ?_;refine wb9 (df (wb9 (j3 (by first|rfl|(rfl)) (df ?_ (by size_fits)))) (by size_fits));refine wb9 (wpAny_handled ?_)
 first|rw[v]|rw[v]
 exact wb9 (wu9 (wpAny_throw (k _ _ (((nL ..).extBut.push _).push _) ⟨_,aG _ rfl,rfl⟩)))
def NM(c:oI tp s.heap it q i)(d:oH tp s.heap q xs)(g:xs[i]?=a_ v)
  (k:∀h',oI tp h' it q (i+1)->cj it s.heap h'->Q v { s with heap:=h' }):aA (aD prog w) A (gV (.ref it)) Q E s:=by
 cases tp
 ·exact wpAny_nextOf_list_item c d g k
 ·exact JC c d g k
def SH(c:A.handled=b_)(d:oI tp s.heap it q i)(g:oH tp s.heap q xs)(j:xs[i]?=b_)
  (k:∀h' e,DG it s.heap h'->(∃o,h'.get? e=a_ o/\o.cls=.type "StopIteration")->E (.ref e) { s with heap:=h' }):aA (aD prog w) A (gV (.ref it)) Q E s:=by
 cases tp
 ·exact wpAny_nextOf_list_end c d g j k
 ·exact NN c d g j k
end
noncomputable def Y6(tp:Bool):String:=if tp then "tuple_iterator" else "list_iterator"
def CY(tp:Bool)(l:aF):kL:={ cls:=.type (Y6 tp),data:=.fields #[.ref l,.int 0 0] }
def Oc{h:cc}(e:h.get? it=a_ (CY tp l)):oI tp h it l 0:=by
 cases tp<;>exact⟨_,e,rfl,rfl⟩
section
variable{s:ai}
def GH(c:oH tp s.heap l xs)(k:Q (.ref s.heap.objs.size) { s with heap:=s.heap.push (CY tp l) }):aA (aD prog w) A (HN (.ref l)) Q E s:=by
 cases tp
 ·exact vC c k
 ·exact wpAny_pyIter_tuple c k
end
section
end
section
variable{h':cc}
def Inv.tO{t':Nat}{ch:List aF}(I:Inv X h_ σ H s)(k:∀b o,b∉ch->s.heap.get? b=a_ o->h'.get? b=a_ o)(hf:∀b∈ch,qP X h_ H b):Inv X h_ σ H { s with heap:=h',toks:=t' }:=by
 have g:∀b u,H b=a_ u->b∉ch:=λb u e z=>by rw[(hf b z).1]at e;cases e
 refine I.step (λb hb=>⟨(hf b hb).2.2.2.1,(hf b hb).2.1,(hf b hb).2.2.2.2.1,(hf b hb).2.2.2.2.2⟩) (λb o _ _ d e _=>k b o d e) (λb o _ _ d e _=>⟨o.slots,k b o d e⟩) (λ_ _ _ _ n=>n)
  (λb o d e=>⟨o,k b o d e⟩) (λ_ _ e=>e) (λ_ _ _ e=>e) (λb ps e=>⟨#[],by rw[e];simp⟩) (λm j=>?_) (λb u e=>?_) I.bare
 ·obtain⟨o,es,ep,ho,r⟩:=j;exact⟨o,es,ep,k _ o (λz=>(hf _ z).2.1 rfl) ho,r⟩
 ·refine(I.hok b u e).nX (λc v d q=>k c v ?_ q) (λ_ q=>q) λ_ _ q=>q
  rcases d with z|z
  ·rw[z];exact g b u e
  ·exact g c _ z
end
def Dz(tp:Bool)(K:aJ)(H:Hp)(a:aF)(xs:List V):Prop:=match tp with
 |true=>sk K H a xs
 |false=>mo K H a xs
def Dz.inj(I:Inv X h_ σ H s)(h:Dz tp X.K H a xs)(h':Dz tp X.K H a ys):xs=ys:=by
 cases tp
 ·exact I.mO h h'
 ·exact I.mJ h h'
def Dz.at (I:Inv X h_ σ H s)(h:Dz tp X.K H a xs):∃its:List ah,cF xs its/\oH tp s.heap a its.toArray:=by
 cases tp
 ·obtain⟨its,c,p,_⟩:=I.list h;exact⟨its,c,p.isList⟩
 ·obtain⟨its,c,p,_⟩:=I.tuple h;exact⟨its,c,p⟩
def mr(h:cc)(it:aF)(x:bc)(t:DD)(i:Nat):Prop:=h.IsStrIter it (strIterType x) x t i
def mr.keep{h':cc}(y:mr h it x t i)(k:∀o,h.get? it=a_ o->h'.get? it=a_ o):mr h' it x t i:=let ⟨o,e,r⟩:=y;⟨o,k o e,r⟩
section
open Builtin
variable{A:bP}{s:ai}
def xS(d:mr s.heap it x t i)(g:x.cps[i]?=a_ c)
  (k:∀h',mr h' it x t (i+1)->cj it s.heap h'->Q (.str ⟨#[c]⟩ s.toks) { s with heap:=h',toks:=s.toks+1 }):aA (aD prog w) A (gV (.ref it)) Q E s:=by
 unfold mr strIterType at d k;cases ha:x.cps.all (·< 128)
 ·simp only[ha,bM,if_false]at d k;exact wpAny_nextOf_wide_item d g k
 ·simp only[ha,if_true]at d k;exact wpAny_nextOf_ascii_item d g k
def B5(d:A.handled=b_)(c:mr s.heap it x t i)(g:x.cps[i]?=b_)
  (k:∀h' e,DG it s.heap h'->(∃o,h'.get? e=a_ o/\o.cls=.type "StopIteration")->E (.ref e) { s with heap:=h' }):aA (aD prog w) A (gV (.ref it)) Q E s:=by
 unfold mr strIterType at c;cases ha:x.cps.all (·< 128)
 ·simp only[ha,bM,if_false]at c;exact wpAny_nextOf_wide_end d c g k
 ·simp only[ha,if_true]at c;exact wpAny_nextOf_ascii_end d c g k
end
noncomputable def o5(x:bc)(t:DD):kL:={ cls:=.type (strIterType x),data:=.fields #[.str x t,.int 0 0] }
def DW{h:cc}(e:h.get? it=a_ (o5 x t)):mr h it x t 0:=⟨_,e,rfl,rfl⟩
section
end
noncomputable def Xy(x y:bc):It:=
 ⟨λi _=>∃c d,x.cps[i]?=a_ c/\y.cps[i]?=a_ d,
  λi H v H'=>∃T,H T=b_/\v=.ref T/\∃c d,x.cps[i]?=a_ c/\y.cps[i]?=a_ d/\H'=upd H T (.tup [.str ⟨#[c]⟩,.str ⟨#[d]⟩]),
  λi _=>x.cps[i]?=b_\/y.cps[i]?=b_⟩
def K1{A:bP}(hh:A.handled=b_)(it:aF)(x:bc)(t:DD) :
  Draws prog w A it [it] x.cps.size (λi v=>∃u c,x.cps[i]?=a_ c/\v=.str ⟨#[c]⟩ u) (λi h=>mr h it x t i) where
 live:=λ_ _ st=>let ⟨o,ho,_⟩:=st;⟨o,ho⟩
 frame:=λ_ _ _ st j=>st.keep λo e=>j it (by simp) o e
 item:=λi s Q E hi st k=>xS st (c:=x.cps[i]) (by simp[hi]) λh' d g=>k _ h' _ ⟨_,_,by simp[hi],rfl⟩ d g
 done:=λs Q E st l=>B5 hh st (by simp) l
def Hd{A:bP}(hh:A.handled=b_)(it:aF)(x:bc)(t:DD)(i:Nat)(hi:x.cps.size<=i) :
  Draws prog w A it [it] i (λ_ _=>True) (λj h=>j=i/\mr h it x t i) where
 live:=λ_ _ st=>let ⟨o,ho,_⟩:=st.2;⟨o,ho⟩
 frame:=λ_ _ _ st c=>⟨st.1,st.2.keep λo e=>c it (by simp) o e⟩
 item:=λj s Q E d st k=>absurd st.1 (bo d)
 done:=λs Q E st g=>B5 hh st.2 (by simp[hi]) g
set_option tactic.hygienic true in
def TY(x:bc)(t:DD) :
  Meets (fI.«enumerate.__new__» ⟨[.type "enumerate",.str x t],[]⟩) (λ_ R s=>
   R (.ok (.ret (.ref (s.heap.push (o5 x t)).objs.size))) { s with heap:=(s.heap.push (o5 x t)).push { cls:=.type "enumerate",data:=.fields #[.none,.bool d_,.ref s.heap.objs.size,rawInt 0,.none,.none] } }):=
 .of_wp λprog w A R s h=>by
  obtain⟨hp,g,d,k,os⟩:=s;have j:=sub_enumerate
  wp_walk
  refine wpAny_stack_any λst=>wu9 ?_;split
  ·rename_i c _ _ _ _ _;cases(c == iN "enumerate")
   ·wp_walk using n3 (x:=x) (t:=t)
    exact⟨_,rfl,h⟩
   ·wp_walk using n3 (x:=x) (t:=t)
    exact⟨_,rfl,h⟩
  ·wp_walk using n3 (x:=x) (t:=t)
   exact⟨_,rfl,h⟩
section
variable{s:ai}
def OB
  (k:∀h',IsEnum h' (s.heap.objs.size+1) s.heap.objs.size 0 .none->mr h' s.heap.objs.size x t 0->(∀b o,s.heap.get? b=a_ o->h'.get? b=a_ o)->Q (.ref (s.heap.objs.size+1)) { s with heap:=h' }) :
  aA (aD prog w) A (call (.type "enumerate") [.str x t]) Q E s:=by
 refine HP PySem.F.called_enumerate (by decide) (PySem.F.typeCall_enumerate_1 _) (PySem.F.newCall_enumerate_1 _) (λobj=>t7 obj _) PySem.F.entry_enumerate_new (TY x t) ?_;have d:(s.heap.push (o5 x t)).objs.size=s.heap.objs.size+1:=eh ..;have c:((s.heap.push (o5 x t)).push { cls:=.type "enumerate",data:=.fields #[.none,.bool d_,.ref s.heap.objs.size,rawInt 0,.none,.none] }).get? (s.heap.push (o5 x t)).objs.size=a_ { cls:=.type "enumerate",data:=.fields #[.none,.bool d_,.ref s.heap.objs.size,rawInt 0,.none,.none] }:=aG _ rfl;have g:((s.heap.push (o5 x t)).push { cls:=.type "enumerate",data:=.fields #[.none,.bool d_,.ref s.heap.objs.size,rawInt 0,.none,.none] }).get? s.heap.objs.size=a_ (o5 x t):=hp9 _ (aG _ rfl);rw[d]at c;rw[d];exact⟨⟨_,c,rfl⟩,k _ c (DW g) λb o x=>hp9 _ (hp9 _ x)⟩
end
noncomputable def UM(x:bc):It:=
 ⟨λi H=>i<x.cps.size,λi H v H'=>∃T,H T=b_/\v=.ref T/\∃c,x.cps[i]?=a_ c/\H'=upd H T (.tup [.int i,.str ⟨#[c]⟩]),λi H=>x.cps.size<=i⟩
def Mq{K:aJ}(x:bc)(t:DD)(e it:aF)(y:e≠it) :
  Turn P w K (.Tuple elts k pos) (UM x) [e,it] e (λi h=>(∃g,IsEnum h e it i g)/\mr h it x t i) where
 mem:=by simp
 obj:=λi h st c d=>by
  obtain⟨⟨g,j⟩,o1,e1,_,d1⟩:=st;simp only[au,bf,or_false]at d
  rcases d with rfl|rfl
  ·exact⟨_,j,λv z=>nomatch z⟩
  ·exact⟨_,e1,λv z=>by rw[d1]at z;cases z⟩
 keep:=λi h h' st k=>by
  obtain⟨⟨g,j⟩,h1⟩:=st;exact⟨⟨g,k e (by simp) _ j⟩,h1.keep λo q=>k it (by simp) o q⟩
 item:=by
  intro X J L M d i h_ s σ H E I hf st O;subst J L M;obtain⟨⟨g,j⟩,h1⟩:=st;refine wpAny_pyNext_enum_itemD (K1 (A:=X.A.in1) (I.ok.hd d) it x t) j h1 O y (by simp[y]) λv h' B Y Z g2 g3 g4 R=>?_;obtain⟨u,c,U,rfl⟩:=Y;refine⟨_,rfl,wpAny_letOwnedTupleGo_enum Z λh'' W l=>?_⟩
  have kk:∀c o,c∉[e,it]->s.heap.get? c=a_ o->h''.get? c=a_ o:=λc o d q=>by
   simp only[au,bf,or_false,not_or]at d;exact l.extBut c o d.1 (R c o d.1 d.2 q)
  have I1:Inv X h_ σ H { s with heap:=h'',toks:=B+1 }:=I.tO (t':=B+1) kk hf;have nz:s.heap.objs.size≠e:=lG (hl9 j);have hT:h''.get? s.heap.objs.size=a_ { cls:=.type "tuple",data:=.seq #[.int i B,.str ⟨#[c]⟩ u] }:=l.extBut _ _ nz g3;have D:H s.heap.objs.size=b_:=I.hok.fresh (ao _)
  have I2:Inv X h_ σ (upd H s.heap.objs.size (.tup [.int i,.str ⟨#[c]⟩])) { s with heap:=h'',toks:=B+1 }:=by
   refine I1.Io (I.vV (ao _) D) I.sz ⟨by rw[gD];show 2<=16777216;decide,[.int i B,.str ⟨#[c]⟩ u],.cons ⟨_,rfl⟩ (.cons ⟨_,rfl⟩ .nil),?_⟩;exact⟨_,hT,rfl,_,rfl⟩
  refine⟨.ref s.heap.objs.size,_,I2,rfl,⟨_,D,rfl,c,U,rfl⟩,⟨⟨_,by simpa using W⟩,g2.keep λo q=>l.extBut _ o y.symm q⟩,λc d=>?_⟩;rw[cD ?_]
  ·exact(hf c d).1
  ·have:c<s.heap.objs.size:=by
    simp only[au,bf,or_false]at d
    rcases d with rfl|rfl
    ·exact hl9 j
    ·obtain⟨_,q,_⟩:=h1;exact hl9 q
   exact bo this
 done:=by
  intro X J L M d i h_ s σ H E I hf st O;subst J L M;obtain⟨⟨g,j⟩,h1⟩:=st;refine wpAny_pyNext_enum_endD (Hd (A:=X.A.in1) (I.ok.hd d) it x t i O) j ⟨rfl,h1⟩ λh' R=>⟨rfl,I.tO (t':=s.toks) (ch:=[it]) (λc o d q=>?_) λc d=>hf c ?_⟩
  ·exact R c o (by simpa using d) q
  ·simp only[au,bf,or_false]at d ⊢;exact .inr d
 self:=λ_ _ _ _ _ st h=>let ⟨⟨_,j⟩,_⟩:=st;wpAny_pyIter_enum j h
section
open Builtin
variable{A:bP}{s:ai}
structure Xs(z T U i j b:aF):Prop where
 Tz:T≠z
 Uz:U≠z
 iz:i≠z
 jz:j≠z
 TU:T≠U
 Ti:T≠i
 Tj:T≠j
 Ui:U≠i
 Uj:U≠j
 ij:i≠j
 bz:b≠z
 bU:b≠U
 bi:b≠i
 bj:b≠j
def Mj{z T U i j:aF}{p:bc}{tp:DD}{b:aF}{ys:Array ah}{m n x:Nat}{y:ah}{c d:ah}{Q:ah->ai->Prop}(P:Xs z T U i j b)(L:BR s.heap z T U .none)(gT:jR s.heap T (.ref i) (.ref j))(gU:jR s.heap U c d)
  (gi:mr s.heap i p tp m)(gj:oI c_ s.heap j b n)(gb:oH c_ s.heap b ys)(gx:p.cps[m]?=a_ x)(gy:ys[n]?=a_ y)
  (k:∀h',BR h' z T U (rawInt s.heap.objs.size)->jR h' U (.str ⟨#[x]⟩ s.toks) y->mr h' i p tp (m+1)->oI c_ h' j b (n+1)->jR h' s.heap.objs.size (.str ⟨#[x]⟩ s.toks) y->h'.objs.size=s.heap.objs.size+1->
   (∀e o,e≠z->e≠U->e≠i->e≠j->s.heap.get? e=a_ o->h'.get? e=a_ o)->Q (.ref s.heap.objs.size) { s with heap:=h',toks:=s.toks+1 }) :
  aA (aD prog w) A (fI.«zip.__next__» ⟨[.ref z],[]⟩) (λf s'=>∃v,f=.done (.ret v)/\Q v s') E s:=by
 show aA (aD prog w) _ (field (.ref z) 2 >>= _) _ _ _;refine wb9 (cQ L rfl (x:=.bool d_) rfl ?_);refine wb9 (cQ L rfl rfl (wb9 (cU gT rfl ?_)));refine wb9 ?_;refine wb9 (cQ L rfl rfl (wu9 ?_));refine wb9 (fS (wb9 (cQ L rfl rfl (wb9 (bG L (by simp) λh1 B s1=>?_)))));replace B :=B;refine wb9 ?_;simp only[tK,Mg,vx,Ph];refine wb9 (wb9 (tG ?_));refine wb9 (xS (gi.keep λo e=>s1.extBut _ o P.iz e) gx λh2 gi2 s2=>wu9 ?_);have M :=s2.extBut _ _ P.Ui (s1.extBut _ _ P.Uz gU);refine wb9 (cU M rfl (wb9 (rd M λh3 D s3=>wb9 (lD (wu9 ?_)))));replace D :=D;refine wb9 (wb9 (tG ?_));refine wb9 (NM (gj.keep λo e=>s3.extBut _ o P.Uj.symm (s2.extBut _ o P.ij.symm (s1.extBut _ o P.jz e))) (gb.keep λo e=>s3.extBut _ o P.bU (s2.extBut _ o P.bi (s1.extBut _ o P.bz e))) gy λh4 gj4 O=>wu9 ?_);have R :=O.extBut _ _ P.Uj D;refine wb9 (cU R rfl (wb9 (rd R λh5 g W=>wb9 (lD (wu9 (wu9 ?_))))));replace g:jR h5 U (.str ⟨#[x]⟩ s.toks) y:=g;refine wb9 (cU g rfl (wb9 (BK ?_)));have sz:h5.objs.size=s.heap.objs.size:=by rw[W.1,O.1,s3.1,s2.1,s1.1]
 have Y :=W.extBut _ _ P.Uz.symm (O.extBut _ _ P.jz.symm (s3.extBut _ _ P.Uz.symm (s2.extBut _ _ P.iz.symm B)));have k5:∀e o,e≠z->e≠U->e≠i->e≠j->s.heap.get? e=a_ o->h5.get? e=a_ o:=λe o e1 e2 e3 e4 q=>W.extBut _ _ e2 (O.extBut _ _ e4 (s3.extBut _ _ e2 (s2.extBut _ _ e3 (s1.extBut _ _ e1 q))));have gi5 :=gi2.keep λo e=>W.extBut _ o P.Ui.symm (O.extBut _ o P.ij (s3.extBut _ o P.Ui.symm e));have gj5 :=gj4.keep λo e=>W.extBut _ o P.Uj.symm e;have Z :=hl9 Y;refine wb9 ?_;have gz6:BR (h5.push { cls:=.type "tuple",data:=.seq #[.str ⟨#[x]⟩ s.toks,y] }) z T U .ellipsis:=hp9 _ Y;refine wb9 (bG gz6 (by simp) λh7 J s7=>?_);replace J :=J;refine bG J (by simp) λh8 l s8=>wu9 ⟨_,rfl,?_⟩;replace l :=l;have up:∀e o,e≠z->h5.get? e=a_ o->h8.get? e=a_ o:=λe o e1 q=>s8.extBut _ _ e1 (s7.extBut _ _ e1 (hp9 _ q));have gN :=s8.extBut _ _ (lG Z) (s7.extBut _ _ (lG Z) (aG _ rfl));have sz8:h8.objs.size=h5.objs.size+1:=by rw[s8.1,s7.1,eh]
 rw[sz]at l gN sz8;rw[sz];exact k h8 l (up _ _ P.Uz g) (gi5.keep λo e=>up _ o P.iz e) (gj5.keep λo e=>up _ o P.jz e) gN sz8 λe o e1 e2 e3 e4 q=>up e o e1 (k5 e o e1 e2 e3 e4 q)
def Qx{T U:aF}(W:A.handled=b_)(P:Xs z T U i j b)(y:BR s.heap z T U .none)(gT:jR s.heap T (.ref i) (.ref j))(gU:jR s.heap U c d)
  (Y:mr s.heap i p tp m)(gj:oI c_ s.heap j b n)(gb:oH c_ s.heap b ys)(ge:p.cps[m]?=b_\/ys[n]?=b_)
  (k:∀h' e,(∀e o,e≠z->e≠U->e≠i->e≠j->s.heap.get? e=a_ o->h'.get? e=a_ o)->(∃o,h'.get? e=a_ o/\o.cls=.type "StopIteration")->∀tk,E (.ref e) { s with heap:=h',toks:=tk }) :
  aA (aD prog w) A (fI.«zip.__next__» ⟨[.ref z],[]⟩) Q E s:=by
 show aA (aD prog w) _ (field (.ref z) 2 >>= _) _ _ _;refine wb9 (cQ y rfl (x:=.bool d_) rfl ?_);refine wb9 (cQ y rfl rfl (wb9 (cU gT rfl ?_)));refine wb9 ?_;refine wb9 (cQ y rfl rfl (wu9 ?_));refine wb9 (fS (wb9 (cQ y rfl rfl (wb9 (bG y (by simp) λh1 g s1=>?_)))));replace g :=g;refine wb9 ?_;simp only[tK,Mg,vx,Ph];refine wb9 (wb9 (tG ?_))
 cases Z:p.cps[m]? with
 |none=>
   refine wb9 (B5 W (Y.keep λo e=>s1.extBut _ o P.iz e) Z λh2 e s2 D=>?_);obtain⟨J,l,v⟩:=D;have L :=s2 _ _ P.iz.symm g;have M:e≠z:=λq=>by grind
   exact bG L (by simp) λh3 _ s3=>k h3 e (λc o c1 _ O _ q=>s3.extBut _ _ c1 (s2 _ _ O (s1.extBut _ _ c1 q))) ⟨J,s3.extBut _ _ M l,v⟩ _
 |some x=>
   have gy:ys[n]?=b_:=by
    grind
   refine wb9 (xS (Y.keep λo e=>s1.extBut _ o P.iz e) Z λh2 gi2 s2=>wu9 ?_);have B :=s2.extBut _ _ P.Ui (s1.extBut _ _ P.Uz gU);refine wb9 (cU B rfl (wb9 (rd B λh3 gU3 s3=>wb9 (lD (wu9 ?_)))));refine wb9 (wb9 (tG ?_));refine wb9 (SH W (gj.keep λo e=>s3.extBut _ o P.Uj.symm (s2.extBut _ o P.ij.symm (s1.extBut _ o P.jz e))) (gb.keep λo e=>s3.extBut _ o P.bU (s2.extBut _ o P.bi (s1.extBut _ o P.bz e))) gy λh4 e s4 D=>?_);obtain⟨J,l,v⟩:=D;have R :=s4 _ _ P.jz.symm (s3.extBut _ _ P.Uz.symm (s2.extBut _ _ P.iz.symm g));have M:e≠z:=λq=>by grind
   exact bG R (by simp) λh5 _ s5=>k h5 e (λc o c1 c2 O c4 q=>s5.extBut _ _ c1 (s4 _ _ c4 (s3.extBut _ _ c2 (s2.extBut _ _ O (s1.extBut _ _ c1 q))))) ⟨J,s5.extBut _ _ M l,v⟩ _
def Jc{T U:aF}(P:Xs z T U i j b)(g:BR s.heap z T U .none)(gT:jR s.heap T (.ref i) (.ref j))(l:jR s.heap U c d)
  (q:mr s.heap i p tp m)(v:oI c_ s.heap j b n)(B:oH c_ s.heap b ys)(D:p.cps[m]?=a_ x)(J:ys[n]?=a_ y)
  (k:∀h',BR h' z T U (rawInt s.heap.objs.size)->jR h' U (.str ⟨#[x]⟩ s.toks) y->mr h' i p tp (m+1)->oI c_ h' j b (n+1)->jR h' s.heap.objs.size (.str ⟨#[x]⟩ s.toks) y->h'.objs.size=s.heap.objs.size+1->
   (∀e o,e≠z->e≠U->e≠i->e≠j->s.heap.get? e=a_ o->h'.get? e=a_ o)->Q (a_ (.ref s.heap.objs.size)) { s with heap:=h',toks:=s.toks+1 }):aA (aD prog w) A (pyNext (.ref z)) Q E s:=by
 have ty:s.TypeIs (.ref z) "zip":=⟨_,g,rfl⟩
 exact wb9 (iR (cx ty jH (bH jH ty xM (Mj P g gT l q v B D J λh' L M O R W Y Z=>wu9 (k h' L M O R W Y Z)) (wa _))))
def Nh{T U:aF}(q:A.handled=b_)(P:Xs z T U i j b)(g:BR s.heap z T U .none)(gT:jR s.heap T (.ref i) (.ref j))(v:jR s.heap U c d)
  (y:mr s.heap i p tp m)(B:oI c_ s.heap j b n)(D:oH c_ s.heap b ys)(ge:p.cps[m]?=b_\/ys[n]?=b_)
  (k:∀h',(∀e o,e≠z->e≠U->e≠i->e≠j->s.heap.get? e=a_ o->h'.get? e=a_ o)->∀l,Q b_ { s with heap:=h',toks:=l }):aA (aD prog w) A (pyNext (.ref z)) Q E s:=by
 have ty:s.TypeIs (.ref z) "zip":=⟨_,g,rfl⟩
 refine wb9 (iR (cx ty jH (bH jH ty xM (Qx q P g gT v y B D ge λh' e J L l=>?_) (wa _))));obtain⟨o,ho,M⟩:=L;exact wb9 (dq ⟨o,ho,M⟩ BM (wu9 (k _ J _)))
end
abbrev XD(h:cc)(x:bc)(t:DD)(b:aF):cc:=((h.push (o5 x t)).push (CY c_ b)).push { cls:=.type "tuple",data:=.seq #[.ref h.objs.size,.ref (h.push (o5 x t)).objs.size] }
abbrev XC(h:cc)(x:bc)(t:DD)(b:aF):cc:=(XD h x t b).push { cls:=.type "tuple",data:=.seq #[.none,.none] }
abbrev UU(h:cc)(x:bc)(t:DD)(b:aF):cc:=(XC h x t b).push { cls:=.type "zip",data:=.fields #[.none,.bool d_,.bool d_,.ref ((h.push (o5 x t)).push (CY c_ b)).objs.size,.ref (XD h x t b).objs.size] }
def Qw(x:bc)(t:DD)(b:aF)(ys:Array ah):Meets (fI.«zip.__new__» ⟨[.type "zip",.str x t,.ref b],[]⟩) (λ_ R s=>oH c_ s.heap b ys/\R (.ok (.ret (.ref (XC s.heap x t b).objs.size))) { s with heap:=UU s.heap x t b }):=
 .of_wp λprog w A R s q=>by
  obtain⟨hp,g,d,c,os⟩:=s;obtain⟨j,q⟩:=q;have sz:=PySem.sub_zip;have e2:oH c_ (Shared.heap ⟨hp.push { cls:=.type (strIterType x),data:=.fields #[.str x t,.int 0 0] },g,d,c,os⟩) b ys:=oH.keep j λo e=>hp9 _ e
  wp_walk using n3 (x:=x) (t:=t),GH e2
  exact⟨_,rfl,q⟩
section
variable{s:ai}
def Ml
  (D:oH c_ s.heap b ys)(k:∀h',BR h' (s.heap.objs.size+4) (s.heap.objs.size+2) (s.heap.objs.size+3) .none->jR h' (s.heap.objs.size+2) (.ref s.heap.objs.size) (.ref (s.heap.objs.size+1))->jR h' (s.heap.objs.size+3) .none .none->
   mr h' s.heap.objs.size x t 0->oI c_ h' (s.heap.objs.size+1) b 0->(∀c o,s.heap.get? c=a_ o->h'.get? c=a_ o)->Q (.ref (s.heap.objs.size+4)) { s with heap:=h' }):aA (aD prog w) A (call (.type "zip") [.str x t,.ref b]) Q E s:=by
 refine HP PySem.F.called_zip (by decide) (PySem.F.typeCall_zip_2 _ _) (PySem.F.newCall_zip_2 _ _) (λJ=>PySem.F.args_object_init_3 J _ _) PySem.F.entry_zip_new (Qw x t b ys) ⟨D,?_⟩;have d:(s.heap.push (o5 x t)).objs.size=s.heap.objs.size+1:=eh ..;have g:((s.heap.push (o5 x t)).push (CY c_ b)).objs.size=s.heap.objs.size+2:=by rw[eh,d]
 have j:(XD s.heap x t b).objs.size=s.heap.objs.size+3:=by rw[eh,g]
 have v:(XC s.heap x t b).objs.size=s.heap.objs.size+4:=by rw[eh,j]
 have l:(UU s.heap x t b).get? (XC s.heap x t b).objs.size=a_ _:=aG _ rfl;have y:(UU s.heap x t b).get? (XD s.heap x t b).objs.size=a_ _:=hp9 _ (aG _ rfl);have z:(UU s.heap x t b).get? ((s.heap.push (o5 x t)).push (CY c_ b)).objs.size=a_ _:=hp9 _ (hp9 _ (aG _ rfl));have B:(UU s.heap x t b).get? (s.heap.push (o5 x t)).objs.size=a_ (CY c_ b):=hp9 _ (hp9 _ (hp9 _ (aG _ rfl)));have L:(UU s.heap x t b).get? s.heap.objs.size=a_ (o5 x t):=hp9 _ (hp9 _ (hp9 _ (hp9 _ (aG _ rfl))));rw[g,j,v]at l;rw[d,g]at z;rw[j]at y;rw[d]at B;rw[v];exact⟨⟨_,l,rfl⟩,k _ l z y (DW L) (Oc B) λc o q=>hp9 _ (hp9 _ (hp9 _ (hp9 _ (hp9 _ q))))⟩
end
noncomputable def Itm(K:aJ)(x:bc)(b:aF):It:=
 ⟨λi H=>∃c ys y,x.cps[i]?=a_ c/\Dz c_ K H b ys/\ys[i]?=a_ y,
  λi H v H'=>∃T,H T=b_/\v=.ref T/\∃c y,x.cps[i]?=a_ c/\(∀ys,Dz c_ K H b ys->ys[i]?=a_ y)/\H'=upd H T (.tup [.str ⟨#[c]⟩,y]),
  λi H=>∃ys,Dz c_ K H b ys/\(x.cps[i]?=b_\/ys.length<=i)⟩
def F9{K:aJ}(x:bc)(t:DD)(b z TI TO B i2:aF)(D:Xs z TI TO B i2 b) :
  Turn P w K (.Tuple elts k pos) (Itm K x b) [z,TI,TO,B,i2] z (λi h=>BR h z TI TO .none/\jR h TI (.ref B) (.ref i2)/\(∃u v,jR h TO u v)/\mr h B x t i/\oI c_ h i2 b i) where
 mem:=by simp
 obj:=λi h st c d=>by
  obtain⟨q,j,⟨u,v,l⟩,⟨o1,e1,_,d1⟩,h2⟩:=st;obtain⟨o2,e2,_,d2⟩:=h2.obj;simp only[au,bf,or_false]at d
  rcases d with rfl|rfl|rfl|rfl|rfl
  ·exact⟨_,q,λv z=>nomatch z⟩
  ·exact⟨_,j,λv z=>nomatch z⟩
  ·exact⟨_,l,λv z=>nomatch z⟩
  ·exact⟨_,e1,λv z=>by rw[d1]at z;cases z⟩
  ·exact⟨_,e2,λv z=>by rw[d2]at z;cases z⟩
 keep:=λi h h' st k=>by
  obtain⟨q,j,⟨u,v,l⟩,h1,h2⟩:=st;exact⟨k z (by simp) _ q,k TI (by simp) _ j,⟨u,v,k TO (by simp) _ l⟩,h1.keep λo e=>k B (by simp) o e,h2.keep λo e=>k i2 (by simp) o e⟩
 item:=by
  intro X R U W d i h_ s σ H E I hf st L;subst R U W;obtain⟨c1,ys,y,hx,hb,hy⟩:=L;obtain⟨j_,J,Y⟩:=Dz.at I hb;obtain⟨Z,hu2,ru2⟩:=J.get hy;obtain⟨q,j,⟨w1,w2,l⟩,h1,h2⟩:=st;refine Jc D q j l h1 h2 Y hx (y:=Z) (by simpa using hu2) λh' g1 g2 g3 g4 g5 g6 O=>?_;refine⟨_,rfl,wpAny_letOwnedTupleGo_zip g1 λh'' g1' g=>?_⟩
  have fc:∀c∈[z,TO,B,i2],qP X h_ H c:=λc d=>hf c (by
   simp only[au,bf,or_false]at d ⊢
   rcases d with rfl|rfl|rfl|rfl<;>simp)
  have kk:∀c o,c∉[z,TO,B,i2]->s.heap.get? c=a_ o->h''.get? c=a_ o:=λc o d e=>by
   simp only[au,bf,or_false,not_or]at d;exact g.extBut c o d.1 (O c o d.1 d.2.1 d.2.2.1 d.2.2.2 e)
  have I1:Inv X h_ σ H { s with heap:=h'',toks:=s.toks+1 }:=I.tO (t':=s.toks+1) kk fc;have nz:s.heap.objs.size≠z:=lG (hl9 q);have hT:h''.get? s.heap.objs.size=a_ { cls:=.type "tuple",data:=.seq #[.str ⟨#[c1]⟩ s.toks,Z] }:=g.extBut _ _ nz g5;have M:H s.heap.objs.size=b_:=I.hok.fresh (ao _)
  have I2:Inv X h_ σ (upd H s.heap.objs.size (.tup [.str ⟨#[c1]⟩,y])) { s with heap:=h'',toks:=s.toks+1 }:=by
   refine I1.Io (I.vV (ao _) M) I.sz ⟨by rw[gD];show 2<=16777216;decide,[.str ⟨#[c1]⟩ s.toks,Z],.cons ⟨_,rfl⟩ (.cons ru2 .nil),?_⟩;exact⟨_,hT,rfl,_,rfl⟩
  refine⟨.ref s.heap.objs.size,_,I2,rfl,⟨_,M,rfl,c1,y,hx,λys' h1=>by rw[Dz.inj I h1 hb];exact hy,rfl⟩,⟨g1',?_,⟨_,_,g.extBut _ _ D.Uz g2⟩,g3.keep λo e=>g.extBut _ o D.iz e,g4.keep λo e=>g.extBut _ o D.jz e⟩,λc d=>?_⟩
  ·exact g.extBut _ _ D.Tz (O _ _ D.Tz D.TU D.Ti D.Tj j)
  ·rw[cD ?_]
   ·exact(hf c d).1
   ·have:c<s.heap.objs.size:=by
     simp only[au,bf,or_false]at d
     rcases d with rfl|rfl|rfl|rfl|rfl
     ·exact hl9 q
     ·exact hl9 j
     ·exact hl9 l
     ·obtain⟨_,e,_⟩:=h1;exact hl9 e
     ·obtain⟨_,e,_⟩:=h2.obj;exact hl9 e
    exact bo this
 done:=by
  intro X R U W d i h_ s σ H E I hf st L;subst R U W;obtain⟨q,j,⟨w1,w2,l⟩,h1,h2⟩:=st;obtain⟨ys,hb,L⟩:=L;obtain⟨j_,J,Y⟩:=Dz.at I hb;refine Nh (I.ok.hd d) D q j l h1 h2 Y (L.imp id λh=>by simpa [J.length]using h) λh' O tk=>⟨rfl,I.tO (t':=tk) (ch:=[z,TO,B,i2]) (λc o d e=>?_) λc d=>hf c ?_⟩
  ·simp only[au,bf,or_false,not_or]at d;exact O c o d.1 d.2.1 d.2.2.1 d.2.2.2 e
  ·simp only[au,bf,or_false]at d ⊢
   rcases d with rfl|rfl|rfl|rfl<;>simp
 self:=λ_ _ _ _ _ st h=>wpAny_pyIter_zip st.1 h
end L2
namespace M
open PySem PySem.Spec PyProof.Rows L2
section
variable{X:Cx}{a b:aX}{pos:xI}{σ:St}{F H:Hp}{iter:aX}
theorem zw:∀(xs ys:List Dat) (i:Nat),(oh xs ys)[i]?=match xs[i]?,ys[i]? with
  |some x,a_ y=>a_ (.tup [x,y])
  |_,_=>b_
 |[],_,_=>by simp[oh]
 |_::_,[],i=>by
   simp[oh]
 |x::xs,y::ys,0=>by simp[oh]
 |x::xs,y::ys,i+1=>by exact zw xs ys i
theorem zv:∀(xs ys:List Dat),(oh xs ys).length=min xs.length ys.length
 |[],_=>by simp[oh]
 |_::_,[]=>by simp[oh]
 |x::xs,y::ys=>by simp only[oh,ba,zv xs ys];simp
def XX(tp:Bool)(K:Fg)(F:Hp)(a:aF)(vs:List V):Prop:=match tp with
 |true=>Tq K F a vs
 |false=>mo K F a vs
def XX.up{tp:Bool}{K:Fg}{F F' H:Hp}{a:aF}{vs:List V}(h:XX tp K F a vs)(s:bT F F')(g:Good F' H):Dz tp K H a vs:=by
 cases tp
 ·exact g.sub.seq (s.seq h)
 ·exact((Tq.mono s h).mono g.sub).sq
def WL(K:Fg)(ta:TA):TI:=λσ H R=>ta σ H λvs c=>∃x b,vs=[.str x,.ref b]/\(∃ys,Dz c_ K c b ys)/\R (L2.Itm K x b) c
def Nr(D:Gl X "zip")(J:X.mg "zip"=b_)(ha:PA X [a,b] ta)(hs:aO [a,b] X.env=[(d_,eval a X.env),(d_,eval b X.env)])(d:aO [b] X.env=[(d_,eval b X.env)]) :
  PI X (.Tuple elts k tpos) (.Call (.Name "zip" p) [a,b] [] pos) (WL X.K ta):=by
 intro h_ s σ H R I h;refine Call_ (k9 I D J (by decide +kernel:bootBuiltins "zip"=a_ (.type "zip")) (c6 (iL (ha pos h_ s σ H _ I h) λus s1 ⟨vs,y,l,L,M⟩=>?_) (by rw[hs,d]) (by rw[d];rfl)));obtain⟨x,b,e,⟨ys,O⟩,q⟩:=M;subst e
 cases L with
 |cons r v=>
   cases v with
   |cons U v=>
     cases v;obtain⟨t,rfl⟩:=r;cases U;obtain⟨j_,W,g⟩:=Dz.at l O;have n2:@LT.lt Nat _ b s1.heap.objs.size:=by obtain⟨_,e,_⟩:=g.obj;exact hl9 e
     refine Ml g λh' z Y Z g4 g5 kk=>?_;have I2:Inv X h_ σ y { s1 with heap:=h' }:=l.kept kk
     refine wpAny_pyIter_zip z ⟨_,[s1.heap.objs.size+4,s1.heap.objs.size+2,s1.heap.objs.size+3,s1.heap.objs.size,s1.heap.objs.size+1],_,_,y,rfl,I2,
      F9 x t b _ _ _ _ _ ⟨?_,?_,?_,?_,?_,?_,?_,?_,?_,?_,?_,?_,?_,?_⟩,⟨z,Y,⟨_,_,Z⟩,g4,g5⟩,λc B=>?_,q⟩
     all_goals try grind
     have j:s1.heap.objs.size<=c:=by
      simp only[au,bf,or_false]at B
      rcases B with rfl|rfl|rfl|rfl|rfl<;>first|simp|exact ao _
     exact l.vV j (l.hok.fresh j)
def signs_get(x:bc)(i:Nat):((eB x).map Dat.str)[i]?=(x.cps[i]?).map λc=>.str ⟨#[c]⟩:=by
 unfold eB;rw[aM,aM,ip];cases x.cps[i]?<;>rfl
def GY{K:Fg}{F1:Hp}(x:bc){b:aF}{us:List V}{es:List Dat}(h':Tq K F1 b us)(k:cO K F1 es us):j2 K F1 (L2.Itm K x b) (oh ((eB x).map .str) es):=λF H g s=>by
 have c:Dz c_ K H b us:=XX.up h' s g;refine⟨λi d hd=>?_,λi hi=>⟨us,c,?_⟩⟩
 ·rw[zw,signs_get]at hd
  cases e1:x.cps[i]? with
  |none=>rw[e1]at hd;cases hd
  |some c1=>
    cases e2:es[i]? with
    |none=>simp_all
    |some d2=>
      rw[e1,e2]at hd;cases hd;obtain⟨j,l,B⟩:=k.get e2;refine⟨⟨c1,us,j,e1,c,l⟩,λv H' z=>?_⟩;obtain⟨T,q,rfl,d1,M,y,D,rfl⟩:=z;rw[e1]at y;cases y;have J:=bx (l.symm.trans (D us c));subst J;refine⟨_,Step.alloc g q,⟨T,_,rfl,.inl cu,?_⟩⟩;have L:bT F1 (upd F T (.tup [.str ⟨#[c1]⟩,j])):=s.trans (bT.upd (g.sub.free q));exact⟨_,_,rfl,rfl,j,[],rfl,B.mono L,rfl⟩
 ·rw[zv]at hi;simp only[eB,aw,aY]at hi;rw[k.length]
  grind
def Qy(h:Pq ds=a_ items):∃x ys,ds=[.str x,.tup ys]/\items=oh ((eB x).map .str) ys:=by
 obtain⟨a,b,rfl⟩:∃a b,ds=[a,b]:=by
  cases ds with
  |nil=>cases h
  |cons a r=>
    cases r with
    |nil=>cases h
    |cons b r=>
      cases r with
      |nil=>exact⟨a,b,rfl⟩
      |cons _ _=>cases h
 cases a with
 |str x=>
   cases b with
   |tup ys=>cases h;exact⟨_,_,rfl,rfl⟩
   |_=>cases h
 |_=>cases h
def Ra(q:Gl X "zip")(y:X.mg "zip"=b_)(ha:SA X C [a,b] [xa,xb])(hs:aO [a,b] X.env=[(d_,eval a X.env),(d_,eval b X.env)])(c:aO [b] X.env=[(d_,eval b X.env)]) :
  SI X C (.Tuple elts k tp) (.Call (.Name "zip" p) [a,b] [] pos) (.zip [xa,xb]):=λh_ s σ H R I z=>by
 obtain⟨ρ,items,F,hi,g,B,kk⟩:=z;obtain⟨ds,h1,h2⟩:=cR hi;obtain⟨x,ys,rfl,rfl⟩:=Qy h2;refine Nr q y ha hs c h_ s σ H R I ⟨ρ,_,h1,F,g,B,λvs F1 D st r=>?_⟩;obtain⟨v,w,rfl,J,O,U,rfl,L,e3⟩:=r;cases e3;cases J;obtain⟨M,d,rfl,l,j⟩:=L;exact⟨x,M,rfl,⟨d,XX.up l (bT.refl _) st.good⟩,kk _ F1 D st (GY x l j)⟩
theorem A7:∀(xs:List Dat)(k i:Nat),(vW k xs)[i]?=(xs[i]?).map λx=>.tup [.int (k+i:Nat),x]
 |[],_,_=>by simp[vW]
 |x::xs,k,0=>by simp[vW]
 |x::xs,k,i+1=>by
   simp only[vW,dc];rw[A7 xs (k+1) i]
   congr 2
   funext y;rw[show k+1+i=k+(i+1)from(rp _ _ _)]
theorem A5:∀(xs:List Dat)(k:Nat),(vW k xs).length=xs.length
 |[],_=>rfl
 |x::xs,k=>by simp only[vW,ba,A5 xs (k+1)]
def iEs(ta:TA):TI:=λσ H R=>ta σ H λvs c=>∃x,vs=[.str x]/\R (UM x) c
def V5(y:Gl X "enumerate")(z:X.mg "enumerate"=b_)(ha:PA X [a] ta)(hs:aO [a] X.env=[(d_,eval a X.env)]) :
  PI X (.Tuple elts k tpos) (.Call (.Name "enumerate" p) [a] [] pos) (iEs ta):=by
 intro h_ s σ H R I h;refine Call_ (k9 I y z (by decide +kernel:bootBuiltins "enumerate"=a_ (.type "enumerate")) (c6 (iL (ha pos h_ s σ H _ I h) λus s1 ⟨vs,j,g,B,D⟩=>?_) (by rw[hs];rfl) (by rfl)));obtain⟨x,e,q⟩:=D;subst e;obtain⟨u,rfl,t,rfl⟩:=vals1 B;refine OB λh' l J kk=>?_;have L:Inv X h_ σ j { s1 with heap:=h' }:=g.kept kk;refine wpAny_pyIter_enum l ⟨_,[s1.heap.objs.size+1,s1.heap.objs.size],_,_,j,rfl,L,Mq x t _ _ ?_,⟨⟨_,l⟩,J⟩,λc v=>?_,q⟩
 ·simp
 have d:s1.heap.objs.size<=c:=by
  simp only[au,bf,or_false]at v
  rcases v with rfl|rfl<;>first|simp|exact ao _
 exact g.vV d (g.hok.fresh d)
def Ob{K:Fg}{F1:Hp}:j2 K F1 (UM x) (vW 0 (x.cps.toList.map λc=>Dat.str ⟨#[c]⟩)):=λF H g s=>by
 refine⟨λi d hd=>?_,λi hi=>?_⟩
 ·rw[A7,aM,LH]at hd;obtain⟨c,k,rfl⟩:=dZ hd;have j:x.cps[i]?=a_ c:=by simpa using k
  have hi :=(bO.mp j).1;refine⟨hi,λv H' y=>?_⟩;obtain⟨T,l,rfl,c2,h2,rfl⟩:=y;rw[j]at h2;cases h2;refine⟨_,Step.alloc g l,⟨T,_,rfl,.inl cu,?_⟩⟩;exact⟨.int i,[.str ⟨#[c]⟩],rfl,by rw[jS];exact rfl,.str ⟨#[c]⟩,[],rfl,rfl,rfl⟩
 ·rw[A5]at hi;show x.cps.size<=i;simpa using hi
def Rf(c:Gl X "enumerate")(j:X.mg "enumerate"=b_)(ha:SA X C [a] [xa])(hs:aO [a] X.env=[(d_,eval a X.env)]) :
  SI X C (.Tuple elts k tp) (.Call (.Name "enumerate" p) [a] [] pos) (.enu xa):=λh_ s σ H R I l=>by
 obtain⟨ρ,items,F,hi,g,q,kk⟩:=l;obtain⟨⟨d,fr⟩,h1,h2⟩:=cR hi;obtain⟨xs,h3,y⟩:=dZ h2;subst y
 obtain⟨z,rfl⟩:∃z,d=.str z:=by
  cases d with
  |str z=>exact⟨z,rfl⟩
  |_=>cases h3
 cases h3;refine V5 c j ha hs h_ s σ H R I ⟨ρ,[.str z],by simp only[mR,h1,bw,bV],F,g,q,λvs F1 B st r=>?_⟩;obtain⟨v,w,rfl,D,e3⟩:=r;cases e3;cases D;exact⟨z,rfl,kk _ F1 B st Ob⟩
def pN{f:List Dat->g_}{K:Fg}{xs:List V}{H:Hp}{Q:VK}(hf:∀ds d fr,f ds=a_ (d,fr)->ds.length=1)(h:gL K f xs H Q) :
  ∃da d fr F v,f [da]=a_ (d,fr)/\xs=[v]/\Good F H/\Rep K F da v/\∀w F' H',Step F H F' H'->Rep K F' d w->(fr=c_->fX K H H' d w)->Q w H':=by
 obtain⟨ds,d,fr,h1,F,g,r,k⟩:=h
 match ds,hf ds d fr h1 with
 |[da],_=>
   obtain⟨v,w,rfl,j,c⟩:=r;cases c;exact⟨da,d,fr,F,v,h1,rfl,g,j,k⟩
def Lr:∀{ds:List Dat}{r:Dat×Bool},b1 f ds=a_ r->ds.length=1
 |[_],_,_=>rfl
 |[],_,h=>by cases h
 |_::_::_,_,h=>by cases h
def mS{b:XB}:∀ds d fr,fQ b ds=a_ (d,fr)->ds.length=1:=λds d fr h=>by
 cases b<;>first|exact Lr h|cases h
set_option tactic.hygienic true
def Hl:km X (.builtin "len") (gL X.K (fQ .len)):=λh_ s σ H xs us Q I r h=>by
 obtain⟨da,d,fr,F,v,h1,rfl,g,c,k⟩:=pN mS h
 cases da with
 |lst ds=>
   cases h1;obtain⟨p,vs,rfl,t,j⟩:=c;refine qI h_ s σ H _ us Q I r ⟨p,vs,rfl,.inl (g.sub.seq t),?_⟩;rw[j.length];exact k _ F H (Step.refl g) rfl a8
 |tup ds=>
   cases h1;obtain⟨p,vs,rfl,t,j⟩:=c;refine qI h_ s σ H _ us Q I r ⟨p,vs,rfl,.inr (t.mono g.sub).sq,?_⟩;rw[j.length];exact k _ F H (Step.refl g) rfl a8
 |str z=>
   simp only[fQ,b1,UA]at h1;split at h1
   ·rename_i l;cases h1;cases c;exact yP h_ s σ H _ us Q I r ⟨z,rfl,l,k _ F H (Step.refl g) rfl a8⟩
   ·cases h1
 |dct ks ds=>
   cases h1;obtain⟨p,k_,rfl,q,rfl,B⟩:=c;obtain⟨u,rfl,y⟩:=vals1 r;cases y;refine W3 I (.inl (g.sub _ _ q)) λt s' I'=>⟨.int _,H,I',⟨t,rfl⟩,?_⟩
   have e1:k_.length=(k_.map (·.1)).length:=(aw ..).symm;rw[e1];exact k _ F H (Step.refl g) rfl a8
 |_=>cases h1
def Hn:km X (.type "int") (gL X.K (fQ .int)):=λh_ s σ H xs us Q I r h=>by
 obtain⟨da,d,fr,F,v,h1,rfl,g,c,k⟩:=pN mS h
 cases da with
 |int i=>
   cases h1;cases c;exact Ho h_ s σ H _ us Q I r (.inl ⟨i,rfl,k _ F H (Step.refl g) rfl a8⟩)
 |bl b=>
   cases h1;cases c;obtain⟨u,rfl,j⟩:=vals1 r;cases j;exact call_int_bool ⟨.int _,H,I.tok _,⟨_,rfl⟩,k _ F H (Step.refl g) rfl a8⟩
 |str x=>
   simp only[fQ,b1,UA,Qn,Xo,Xn,bL,UB,Xq,Uy]at h1;split at h1
   ·rename_i hl;obtain⟨i,h2,h1⟩:=dZ h1;cases h1;cases c;obtain⟨u,rfl,t,rfl⟩:=vals1 r;exact PySem.W.KIN.call_text h2 hl ⟨.int i,H,I.tok _,⟨_,rfl⟩,k _ F H (Step.refl g) rfl a8⟩
   ·cases h1
 |_=>cases h1
def Hk:km X (.type "str") (gL X.K (fQ .str)):=λh_ s σ H xs us Q I r h=>by
 obtain⟨da,d,fr,F,v,h1,rfl,g,c,k⟩:=pN mS h
 cases da with
 |int i=>
   simp only[fQ,b1,Uy]at h1;split at h1
   ·rename_i hl;cases h1;cases c;exact yN h_ s σ H _ us Q I r ⟨i,rfl,hl,k _ F H (Step.refl g) rfl a8⟩
   ·cases h1
 |_=>cases h1
set_option tactic.hygienic false
def Dp:km X (.type "list") (gL X.K (fQ .list)):=λh_ s σ H xs us Q I r h=>by
 obtain⟨da,d,fr,F,v,h1,rfl,g,j,k⟩:=pN mS h
 have fin:∀{vs:List V}{ds:List Dat},cO X.K F ds vs->(d,fr)=(Dat.lst ds,jF ds)->∀l,H l=b_->Q (.ref l) (upd H l (.lst vs)):=λ{vs ds}c e l hl=>by
  cases e;have q:=c.mono (bT.upd (o:=.lst vs) (g.sub.free hl));exact k _ _ _ (Step.alloc g hl) ⟨l,vs,rfl,.inl (.inl cu),q⟩ λz=>.lst (bT.refl _) hl (.jO g z c)
 cases da with
 |lst ds=>
   obtain⟨p,vs,rfl,t,c⟩:=j;exact qH h_ s σ H _ us Q I r ⟨p,vs,rfl,.inl (g.sub.seq t),fin c (bx h1).symm⟩
 |tup ds=>
   obtain⟨p,vs,rfl,t,c⟩:=j;exact qH h_ s σ H _ us Q I r ⟨p,vs,rfl,.inr (t.mono g.sub).sq,fin c (bx h1).symm⟩
 |_=>cases h1
def Bh:km X (.type "tuple") (gL X.K (fQ .tuple)):=λh_ s σ H xs us Q I r h=>by
 obtain⟨da,d,fr,F,v,h1,rfl,g,j,k⟩:=pN mS h
 cases da with
 |lst ds=>
   cases h1;obtain⟨p,vs,rfl,t,c⟩:=j;exact pA h_ s σ H _ us Q I r ⟨p,vs,rfl,.inl ⟨g.sub.seq t,λl hl=>k _ _ _ (Step.alloc g hl) ⟨l,vs,rfl,.inl cu,c.mono (bT.upd (g.sub.free hl))⟩ a8⟩⟩
 |tup ds=>
   cases h1;obtain⟨p,vs,rfl,t,c⟩:=j;exact pA h_ s σ H _ us Q I r ⟨p,vs,rfl,.inr ⟨(t.mono g.sub).sq,k _ F H (Step.refl g) ⟨p,vs,rfl,t,c⟩ a8⟩⟩
 |_=>cases h1
theorem wY{K:Fg}:∀{ds:List Dat}{is:List Int}{vs:List V}{us:List ah},sP ds=a_ is->cO K F ds vs->cF vs us->Bz us is
 |[],is,vs,us,h,r,w=>by
   cases h;rw[r]at w;cases w;exact .nil
 |d::ds,is,vs,us,h,c,w=>by
   obtain⟨v,r,e,h1,h2⟩:=c;subst e
   cases d with
   |int i=>
     obtain⟨g,hb,h⟩:=dZ h;cases h;cases h1
     cases w with
     |cons q w=>obtain⟨t,rfl⟩:=q;exact .cons i t (wY hb h2 w)
   |_=>cases h
def kF(o:Vg):List Dat->g_
 |[x,y]=>iH o x y
 |_=>b_
end
section
variable{X:Cx}{pos:xI}{xs:List Ex}{F H:Hp}{iter:aX}
noncomputable def tyName:Ty->String
 |.int=>"int"
 |.bool=>"bool"
 |.str=>"str"
 |.tuple=>"tuple"
 |.list=>"list"
noncomputable def WA:Dat->String
 |.non=>"NoneType"
 |.bl _=>"bool"
 |.int _=>"int"
 |.str _=>"str"
 |.tup _=>"tuple"
 |.lst _=>"list"
 |.dct _ _=>"dict"
 |.dcn _=>"dict"
def Tf(K:Fg)(t:Ty)(d:Dat):PySem.W.kitOne K (.type (WA d)) (.type (tyName t))=a_ (Ke t d):=by
 cases t<;>cases d<;>rfl
def Yy(K:Fg)(t:Ty):List V->Hp->VK->Prop:=λxs H Q=>∃da F v,xs=[v,.ty (tyName t)]/\Good F H/\Rep K F da v/\Q (.bl (Ke t da)) H
def Hm:km X (.builtin "isinstance") (Yy X.K t):=λh_ s σ H xs us Q I r h=>by
 obtain⟨da,F,v,rfl,g,d,q⟩:=h;obtain⟨u,w,rfl,j,k⟩:=vals2 r;obtain rfl:w=.type (tyName t):=k;have e:=Tf X.K t da;have fin:∀l,EP X h_ σ Q (.bool (Ke t da)) { s with toks:=l }:=λl=>⟨.bl _,H,I.tok l,rfl,q⟩
 cases da with
 |non=>cases d;obtain rfl:u=.none:=j;exact fN PySem.W.kitx_none I.CU kn e (λz=>nomatch z) fin
 |bl y=>cases d;obtain rfl:u=.bool y:=j;exact fN PySem.W.kitx_bool I.CU kn e (λz=>nomatch z) fin
 |int y=>cases d;obtain⟨c,rfl⟩:=j;exact fN PySem.W.kitx_int I.CU kn e (λz=>nomatch z) fin
 |str y=>cases d;obtain⟨c,rfl⟩:=j;exact fN PySem.W.kitx_str I.CU kn e (λz=>nomatch z) fin
 |tup ds=>
   obtain⟨p,vs,rfl,c,_⟩:=d;obtain rfl:u=.ref p:=j;obtain⟨its,_,⟨o,h1,h2,_⟩,_⟩:=I.tupR g c;exact fN PySem.W.kitx_tuple I.CU ⟨o,h1,h2⟩ e (λz=>nomatch z) fin
 |lst ds=>
   obtain⟨p,vs,rfl,c,_⟩:=d;obtain rfl:u=.ref p:=j;obtain⟨its,_,⟨o,n,h1,h2,_⟩,_⟩:=I.lstR g c;exact fN PySem.W.kitx_list I.CU ⟨o,h1,h2⟩ e (λz=>nomatch z) fin
 |dct ks ds=>
   obtain⟨p,k_,rfl,c,_⟩:=d;obtain rfl:u=.ref p:=j;obtain⟨_,_,_,_,o,es,ep,h1,h2,_⟩:=I.hok p _ (g.sub _ _ c);exact fN DC I.CU ⟨o,h1,h2.1⟩ e (λz=>nomatch z) fin
 |dcn ks=>
   obtain⟨p,xs,rfl,c,_⟩:=d;obtain rfl:u=.ref p:=j;obtain⟨_,_,o,es,ep,h1,h2,_⟩:=I.hok p _ (g.sub _ _ c);exact fN DC I.CU ⟨o,h1,h2.1⟩ e (λz=>nomatch z) fin
def Rw(t:Ty)(B:Gl X "isinstance")(D:X.mg "isinstance"=b_)(c:Gl X x)(j:X.mg x=b_)(l:bootBuiltins x=a_ (.type (tyName t)))(ha:SE X C a xa)(J:x≠"__name__")(q:(x == ("__debug__":bc))=d_)
  (z:aO [a,.Name x p2] X.env=(d_,eval a X.env)::aO [.Name x p2] X.env)(y:(backTo pos (aO [.Name x p2] X.env)).any (·.1)=d_) :
  SE X C (.Call (.Name "isinstance" p) [a,.Name x p2] [] pos) (.blt (.isi t) [xa]):=
 PE.imp (Aa Hm B D (by decide +kernel) (qm ha (qm (Nx c j l (v:=.ty (tyName t)) rfl J q) x8) z) (by decide) (by decide) z y) λσ H Q L=>by
  obtain⟨ρ,d,fr,h,F,g,R,k⟩:=L;obtain⟨ds,h1,h2⟩:=cR h;obtain⟨⟨da,M⟩,h3,h1⟩:=cR h1;cases h1;cases h2;exact⟨ρ,da,M,h3,F,g,R,λv F1 O st r _=>⟨da,F1,v,rfl,st.good,r,k _ F1 O st rfl a8⟩⟩
end
end M
namespace L2
open PySem PySem.Spec PyProof.Rows
def zI:L7 "reversed" "__init__" "object.__init__":=.of (owner:="object") (n:="__init__") (by kernel_rfl) (by decide +kernel) (by decide +kernel) (by decide +kernel) (.inl (by decide +kernel)) (by kernel_rfl)
def Dn:TypeCalled "reversed" "reversed.__new__" "object.__init__":=⟨by decide +kernel,PySem.F.create_reversed,⟨_,_,PySem.F.mro_reversed⟩,PySem.F.made_reversed,by decide +kernel,PySem.F.sub_reversed_self,zI⟩
section
end
def sS:entryFor table "reversed.__next__"=a_ fI.«reversed.__next__» :=entryFor_of_tree (by kernel_rfl)
def kh:L7 "reversed" "__next__" "reversed.__next__":=.of (owner:="reversed") (n:="__next__") (by kernel_rfl) (by decide +kernel) (by decide +kernel) (by decide +kernel) (.inl (by decide +kernel)) (by kernel_rfl)
def YC:FT.lookup (L3 ['d','e','s','r','e','v','e','r'].reverse)=a_ Manifest.sig_reversed:=by kernel_rfl
def tf(a:ah):argsOk "reversed.__next__" ⟨[a],[]⟩:=by
 kernel_rfl
def A9:entryFor table "reversed.__iter__"=a_ fI.«dict_keyiterator.__iter__» :=BN (id':="dict_keyiterator.__iter__") (by kernel_rfl) rfl (by decide +kernel) (by kernel_rfl)
def sE:L7 "reversed" "__iter__" "reversed.__iter__":=.of (owner:="reversed") (n:="__iter__") (by kernel_rfl) (by decide +kernel) (by decide +kernel) (by decide +kernel) (.inl (by decide +kernel)) (by kernel_rfl)
def Bq(a:ah):argsOk "reversed.__iter__" ⟨[a],[]⟩:=by
 kernel_rfl
section
end
def CP:typeLookup (.type "tuple") "__reversed__"=pure b_:=by kernel_rfl
def zE:isSubtype (.type "tuple") (.type "dict")=pure d_:=by kernel_rfl
noncomputable abbrev M8(p:aF)(i:Int):kL:={ cls:=.type "reversed",data:=.fields #[.ref p,rawInt i] }
def RM(p:aF)(its:Array ah)(c:¬(its.size:Int)>=2 ^ 63):Meets (fI.«reversed.__new__» ⟨[.type "reversed",.ref p],[]⟩) (λ_ R s=>y7 s.heap p its/\∀d,R (.ok (.ret (.ref s.heap.objs.size))) { s with heap:=s.heap.push (M8 p ((its.size:Int) - 1)),toks:=d }):=
 .of_wp λprog w A R s g=>by
  obtain⟨ht,q⟩:=g;refine wb9 (j3 (newClass_reversed _) ?_);refine wb9 (j3 (by first|rfl|kernel_rfl) ?_);refine wb9 (j3 (by first|rfl|kernel_rfl) ?_);refine wb9 (fi ht.typeIs CP ?_);refine wb9 ?_;refine wb9 (dq ht.typeIs zE ?_);refine wb9 (fi ht.typeIs t6.lookup ?_);refine j3 (by first|rfl|kernel_rfl) ?_;refine wb9 (tJ ht (rA.mp c) ?_);show aA (aD prog w) _ (newObj (.type "reversed") (.fields [cW p,rawInt ((its.size) - 1)].toArray) >>= _) _ _ _;refine wb9 (df ?_ (by size_fits));exact wu9 ⟨_,rfl,q _⟩
section
variable{s:ai}
def M7(ht:y7 s.heap p its)(d:¬(its.size:Int)>=2 ^ 63)(k:∀c,Q (.ref s.heap.objs.size) { s with heap:=s.heap.push (M8 p ((its.size:Int) - 1)),toks:=c }):aA (aD prog w) A (call (.type "reversed") [.ref p]) Q E s:=by
 refine HP Dn (by decide) (PySem.F.typeCall_reversed_1 _) (PySem.F.newCall_reversed_1 _) (λg=>t7 g _) PySem.F.entry_reversed_new (RM p its d) ?_;exact⟨ht,λc=>⟨⟨_,aG _ rfl,rfl⟩,k c⟩⟩
end
section
variable{A:bP}{s:ai}{its:Array ah}
def uC(y:s.heap.get? I=a_ (M8 p i)):s.TypeIs (.ref I) "reversed":=⟨_,y,rfl⟩
def M6(d:its.size<=ax)(c:j<its.size)(ht:y7 s.heap p its)(y:s.heap.get? I=a_ (M8 p j))(k:∀h' l,h'.get? I=a_ (M8 p ((j:Int) - 1))->cj I s.heap h'->Q (a_ its[j]) { s with heap:=h',toks:=l }) :
  aA (aD prog w) A (pyNext (.ref I)) Q E s:=by
 refine wb9 (iR (cx (uC y) kh (bH kh (uC y) sS ?_ (tf _))));show aA (aD prog w) _ (field (.ref I) 0 >>= _) _ _ s;refine wb9 (cQ y rfl (x:=.ref p) rfl ?_);refine wb9 (cQ y rfl rfl ?_);refine wb9 (fi ht.typeIs t6.lookup ?_);refine wb9 (wpAny_mkInt ?_);have q :=d
 have hs:seqIndex? (j) its.size=a_ j:=by
  unfold seqIndex?;have v:¬(j:Int)<0:=by omega
  simp[c,v]
 refine wb9 (iR (qS ht (by simp) (fu (Int.ofNat_lt.mpr (ab c q)) (by decide)) hs (aS c) ?_));refine wb9 (cQ y rfl rfl ?_);refine wb9 (bG y (by simp) λh' g z=>?_);exact wu9 ⟨_,rfl,wu9 (k h' _ g z)⟩
def RN(c:A.handled=b_)(y:s.heap.get? I=a_ (M8 p (-1)))(k:∀h',(∀b o,b≠I->s.heap.get? b=a_ o->h'.get? b=a_ o)->Q b_ { s with heap:=h' }) :
  aA (aD prog w) A (pyNext (.ref I)) Q E s:=by
 refine wb9 (iR (cx (uC y) kh (bH kh (uC y) sS ?_ (tf _))));show aA (aD prog w) _ (field (.ref I) 0 >>= _) _ _ s;refine wb9 (cQ y rfl (x:=.ref p) rfl ?_);refine wb9 (cQ y rfl rfl ?_);refine wb9 (fS ?_);refine wb9 ?_;refine wb9 (bG y (by simp) λh1 d s1=>bG d (by simp) λh2 l s2=>?_);refine wb9 (tP c λh' e kp g=>?_);obtain⟨o,ho,j⟩:=g;exact wb9 (dq ⟨o,ho,j⟩ BM (wu9 (k _ λb o n q=>kp _ _ (s2.extBut _ _ n (s1.extBut _ _ n q)))))
end
end L2
namespace M
open PySem PySem.Spec PyProof.Rows L2
theorem wz:∀{us:List ah}{is:List bc},pI us is->cF (is.map V.str) us
 |_,_,.nil=>.nil
 |_,_,.cons n t h=>.cons ⟨t,rfl⟩ (wz h)
theorem Yq{K:Fg}:∀(is:List bc),cO K F (is.map Dat.str) (is.map V.str)
 |[]=>rfl
 |i::is=>⟨_,_,rfl,rfl,Yq is⟩
theorem WJ:∀(is:List bc),jF (is.map Dat.str)=c_
 |[]=>rfl
 |i::is=>by exact WJ is
section
end
section
end
section
variable{X:Cx}{iter:aX}{ifs:List aX}
def M0(j:X.calm=c_)(S:jh X scope tn cn caps)(hi:SI X C tg iter it)(k:pC tn.length g)(l:UG X.K tn.length one g)
  (q:∀(cl:List (bc×aF))(c:ai)(d:Hp)(Ca:aF)(ex:List aF),PG (eN X scope cl (tn++cn) c d Ca ex) tg g)
  (ht:∀(cl:List (bc×aF))(c:ai)(d:Hp)(Ca:aF)(ex:List aF),LZ (eN X scope cl (tn++cn) c d Ca ex) ifs (U4 X.K C xs))
  (v:∀(cl:List (bc×aF))(c:ai)(d:Hp)(Ca:aF)(ex:List aF),SE (eN X scope cl (tn++cn) c d Ca ex) C elt xe)
  (hs:∀x,foldedSetIterable iter X.env x=pure x):SE X C (.ListComp elt [⟨tg,iter,ifs,0⟩] scope pos) (.comp tn.length one caps it xs xe):=
 PE.imp (Nu j S hi q k ht v hs) (xq l λ_ _ _=>trivial)
def B9{j:xI}(z:X.N.Nodup)(q:X.N[i]?=a_ x)(B:Loc X.env.scope x)(k:X.calm=c_)(S:jh X scope tn cn caps)(hi:SI X C tg iter it)(l:pC tn.length g)(v:UG X.K tn.length one g)
  (D:∀(cl:List (bc×aF))(c:ai)(d:Hp)(Ca:aF)(ex:List aF),PG (eN X scope cl (tn++cn) c d Ca ex) tg g)
  (ht:∀(cl:List (bc×aF))(c:ai)(d:Hp)(Ca:aF)(ex:List aF),LZ (eN X scope cl (tn++cn) c d Ca ex) ifs (U4 X.K C xs))
  (J:∀(cl:List (bc×aF))(c:ai)(d:Hp)(Ca:aF)(ex:List aF),SE (eN X scope cl (tn++cn) c d Ca ex) C elt xe)
  (y:swapsWith (.ListComp elt [⟨tg,iter,ifs,0⟩] scope pos) (a_ (.Name x pos')) j.line X.env=pure c_)
  (hs:∀x,foldedSetIterable iter X.env x=pure x)(hf:X.fn x=c_\/X.env.scope.names.lookup x=a_ .local) :
  SS X C (.Assign [.Name x pos'] (.ListComp elt [⟨tg,iter,ifs,0⟩] scope pos) j) (.set i (.comp tn.length one caps it xs xe)):=
 PS.imp (Ct z q B k S hi D l ht J y hs hf) (zM (xq v λ_ _ _=>trivial))
end
def UE(K:Fg)(one:Bool)(j:List Nat)(g:TG):Prop:=∀Fz H₀ F H σ ρ d x ρ1 Q,Rl K Fz H₀ F H σ ρ->Rep K F d x->gH one j d ρ=a_ ρ1->(∀c,Rl K Fz H₀ F H c ρ1->Q c H)->g x σ H Q
def Ms{K:Fg}:UE K c_ [i] (kH i):=λFz H₀ F H σ ρ d x ρ1 Q R r hb k=>by
 simp only[gH,gP]at hb;subst hb;exact k _ (R.Ci r)
def XN:List Nat->Qs
 |[]=>Hb
 |i::is=>w5 (kH i) (XN is)
theorem Ky{K:Fg}:∀(j:List Nat){σ:St}{ρ:dv},Rl K Fz H₀ F H σ ρ->∀ds:List Dat,ds.length=j.length->(∀c,Rl K Fz H₀ F H c (oO j ds ρ)->Q c H)->∀vs,cO K F ds vs->XN j vs σ H Q
 |[],σ,ρ,R,ds,g,k,vs,r=>by
   cases ds with
   |nil=>exact⟨r,k _ R⟩
   |cons _ _=>cases g
 |i::is,σ,ρ,R,ds,g,k,vs,r=>by
   cases ds with
   |nil=>cases g
   |cons d ds=>
     obtain⟨v,w,e,l,q⟩:=r;subst e;exact⟨v,w,rfl,Ky is (R.Ci l) ds (by simpa using g) k w q⟩
set_option tactic.hygienic true in
def Iq{K:Fg}:UE K d_ ts (Kx K ts.length (XN ts)):=λFz H₀ F H σ ρ d x ρ1 Q R r hb k=>by
 simp only[gH]at hb
 cases d with
 |tup ds=>
   dsimp only at hb;split at hb
   ·rename_i c;cases hb;obtain⟨a,vs,rfl,t,r⟩:=r;refine⟨a,vs,rfl,(t.mono R.step.good.sub).sq,by rw[r.length];exact c,?_⟩;exact Ky ts R ds c k vs r
   ·cases hb
 |_=>cases hb
section
variable{X:Cx}{iter:aX}{pos:xI}
def KP{K:Fg}(R:Rl K Fz H₀ F H σ ρ)(h:WX C (.rng es) ρ=a_ (items,ρ'))
  (k:∀J F1 d,bT F F1->Rl K Fz H₀ F1 d σ ρ'->j2 K (vb (.rng es) F1) J items->Q J d):gI K C (.rng es) σ H Q:=by
 obtain⟨ds,h1,h⟩:=dZ h;cases h;obtain⟨j,sp,g⟩:=R.jg;refine⟨_,_,j,h1,g.step.good,g.full,λJ F1 d st ok=>?_⟩;have c:=Step.shrink R.step.good sp st;exact k J _ d c.ff (R.moved c) ok
def vc{K:Fg}(R:Rl K Fz H₀ F H σ ρ)(h:(yF C it (zz (mD is ρ))).map (λds=>(ds,mD is ρ))=a_ (items,ρ'))
  (k:∀J F1 c,bT F F1->Rl K Fz H₀ F1 c σ ρ'->j2 K (vb it F1) J items->Q J c):gI K C it σ H Q:=by
 obtain⟨ds,h1,h⟩:=dZ h;cases h;obtain⟨d,s2,R2⟩:=R.freeze is;exact⟨_,_,d,h1,R2.step.good,R2.zz,λJ F1 c st ok=>k J F1 c (s2.trans st.ff) (R2.moved st) ok⟩
def qr{K:Fg}{F1:Hp}{D:Ends}(Y:UE K one ts g)(s1:bT F F1)(R1:Rl K Fz H₀ F1 H1 σ ρ')(le:∀y,bT F1 y->bT F0 y)(ok:j2 K F0 J items)
  (h:i8 (gH one ts) (dX C xs) items ρ'=a_ out)(k:u9 K Fz H₀ F D out):∃W:Nat->Nat->St->Hp->Prop,(∃m,W 0 m σ H1)/\∀i m σ H,W i m σ H->
   (J.stop i H/\D.nx σ H)\/(J.go i H/\∃N:St->Hp->Prop,(∀c H',N c H'->∃B,B<m/\W (i+1) B c H')/\∀x H',J.yld i H x H'->g x σ H' λσ2 H2=>ZW K C xs { D with nx:=N,ct:=N,bk:=D.nx } σ2 H2):=by
 refine⟨λi m σ H=>∃F ρ,Rl K Fz H₀ F H σ ρ/\bT F1 F/\i8 (gH one ts) (dX C xs) (items.drop i) ρ=a_ out/\m=items.length - i/\i<=items.length,⟨items.length,F1,ρ',R1,bT.refl _,h,rfl,aP _⟩,?_⟩;rintro i m σ2 H2 ⟨y,Z,R2,s2,hl,rfl,hi'⟩;obtain⟨okg,Wg⟩:=ok y H2 R2.step.good (le y s2);by_cases j:i<items.length
 ·obtain⟨go,yl⟩:=okg i items[i] (ae j);refine .inr ⟨go,λc H'=>∃B,B<items.length - i/\∃F ρ,Rl K Fz H₀ F H' c ρ/\bT F1 F/\i8 (gH one ts) (dX C xs) (items.drop (i+1)) ρ=a_ out/\B=items.length - (i+1)/\i+1<=items.length,λc H' z=>z,λx H3 y3=>?_⟩;obtain⟨F3,L,r3⟩:=yl x H3 y3;rw[fR j]at hl;obtain⟨M,hb3,hl⟩:=cR hl;obtain⟨o,ho,hl⟩:=cR hl;refine Y Fz H₀ F3 H3 σ2 Z _ x M _ (R2.moved L) r3 hb3 λσ4 R4=>?_;have l :=s2.trans L.ff;refine⟨Fz,H₀,F3,M,o,ho,R4,?_⟩
  cases o with
  |nx q=>exact λO H5 v R U=>⟨items.length - (i+1),by omega,O,q,U,l.trans R,hl,rfl,j⟩
  |ct q=>exact λO H5 v R U=>⟨items.length - (i+1),by omega,O,q,U,l.trans R,hl,rfl,j⟩
  |bk q=>
    cases hl;exact λO H5 v R U=>k O H5 v ((s1.trans l).trans R) U
  |rt d fr=>
    cases hl;exact k
 ·have e :=bI hi' (cy j);subst e;rw[LL]at hl;cases hl;exact .inl ⟨Wg _ (ao _),k y H2 σ2 (s1.trans s2) R2⟩
def xT(hp:Hx (aD X.prog X.w) X.A X.env X.xe)(l:X.calm=c_)(hi:SI X C tg iter it)(c:∀a,it≠.itv a)(q:PG X tg g)(d:UE X.K one ts g)(hb:O2 X C body xs)
  (hs:∀x,foldedSetIterable iter X.env x=pure x):SS X C (.For tg iter body [] pos) (.loop one ts it xs):=
 PS.imp (Jg hp l hi q hb hs) λD σ H v=>by
  obtain⟨Fz,H₀,F,ρ,out,h,R,k⟩:=v;obtain⟨⟨items,ρ'⟩,h1,h⟩:=cR h;have fin:∀J F1 j,bT F F1->Rl X.K Fz H₀ F1 j σ ρ'->j2 X.K (vb it F1) J items->_:=λJ F1 j s1 y ok=>qr d s1 y (λz s=>AO s) ok h k
  cases it with
  |itv a=>exact absurd rfl (c a)
  |rng es=>exact KP R h1 fin
  |zip es=>exact vc R h1 fin
  |enu a=>exact vc R h1 fin
  |rev a=>exact vc R h1 fin
def MG(hp:Hx (aD X.prog X.w) X.A X.env X.xe)(J:X.calm=c_)(y:SE X C iter xe)(L:PG X tg g)(c:UE X.K one ts g)(hb:O2 X C body xs)
  (hs:∀x,foldedSetIterable iter X.env x=pure x):SS X C (.For tg iter body [] pos) (.loop one ts (.itv xe) xs):=
 PS.imp (Jg hp J (PI.or (PI.or (Ej y) (Jj y)) (Jk y)) L hb hs) λD σ H M=>by
  obtain⟨Fz,H₀,F,ρ,out,h,R,k⟩:=M;obtain⟨⟨items,ρ'⟩,h1,h⟩:=cR h;obtain⟨⟨d,fr,ρ1⟩,h2,h3⟩:=cR h1;obtain⟨ds,q,h5⟩:=dZ h3;cases h5
  cases d with
  |lst es=>
    cases q;refine .inl (.inl (yE R h2 λv Fm F' H' j l st r f=>?_));obtain⟨p,vs,rfl,t,z⟩:=r;exact⟨p,rfl,⟨vs,st.good.sub.seq t⟩,qr c (j.trans st.ff) (l.moved st) (λB s=>s) (wU t z) h k⟩
  |tup es=>
    cases q;refine .inl (.inr (yE R h2 λv Fm F' H' j l st r f=>?_));obtain⟨p,vs,rfl,t,z⟩:=r;exact⟨p,rfl,⟨vs,(t.mono st.good.sub).sq⟩,qr c (j.trans st.ff) (l.moved st) (λB s=>s) (Ax t z) h k⟩
  |str x=>
    cases q;refine .inr (yE R h2 λv Fm F' H' j l st r f=>?_);cases r;exact⟨x,rfl,qr c (j.trans st.ff) (l.moved st) (λB s=>s) Ay h k⟩
  |_=>cases q
set_option tactic.hygienic true in
def QR(j:SE X C e xe)(c:UE X.K d_ ts tg')(l:PG X tgt tg')
  (hs:swapsWithSole [tgt] e pos.line X.env=pure d_)(q:swappedStores [tgt] e X.env=pure b_)(h1:(assignEach [tgt] X.env).map (·.2)=[assign tgt X.env]):SS X C (.Assign [tgt] e pos) (.Vi ts xe):=
 PS.imp (Cu j l hs q h1) λD σ H y=>by
  obtain⟨Fz,H₀,F,ρ,out,h,R,k⟩:=y;obtain⟨⟨d,fr,ρ'⟩,h1,h⟩:=cR h
  cases d with
  |tup ds=>
    have h:(if ds.length=ts.length then a_ (Out.nx (oO ts ds ρ'))else b_)=a_ out:=h;split at h
    ·rename_i z;cases h;refine yE R h1 λv Fm F' H' B J st r f=>?_;refine c Fz H₀ F' H' σ ρ' (.tup ds) v (oO ts ds ρ') _ (J.moved st) r ?_ λg L=>k F' H' g (B.trans st.ff) L;simp only[gH];rw[if_pos z]
    ·cases h
  |_=>cases h
end
section
variable{K:Fg}{base:cc}
set_option tactic.hygienic true in
def TQ{st:kK}(F:X4 K x qual st f fd)(S:qQ N ps (dG st))(z:ps.length<=N.length)
  (l:∀(cdv:ah)(A:bP)(outer:List Pe)(s:ai)(H:Hp)(E:XK),mU k (A.deeper (envOfC qual (dG st) s.heap.objs.size f cdv))->
   O2 (Bb Hv P w K mg base N qual (dG st) f cdv A outer s H E).UY C (oS st) body):nK P w K mg base Hv (k+1) f fd ps (Q5 K ps.length (Oy C ps.length N.length body)):=by
 refine F.ok S (λvs H Q E h=>h.1) λcdv A outer s H vs Q E B h=>⟨_,l cdv A outer s H E B,?_⟩
 obtain⟨hl,ds,d,fr,c,Fz,g,r,y⟩:=h;unfold Oy at c;split at c
 ·rename_i D;obtain⟨o,ho,c⟩:=cR c;refine⟨Fz,H,Fz,_,o,ho,⟨Step.refl g,?_,λi d' q=>?_,λ_=>[],λi d' q=>?_,λi j d1 d2 J U W=>?_⟩,?_⟩
  ·unfold L2.start;simp[hl,D]
  ·have hi:i<ds.length:=by
    by_cases hi:i<ds.length
    ·exact hi
    ·rw[aQ (by simpa using hi),eW]at q;split at q<;>cases q
   rw[aU (by simpa using hi),aM]at q;obtain⟨d2,e1,e2⟩:=dZ q;cases e2;obtain⟨v,e3,L⟩:=r.get e1;refine⟨v,?_,L⟩;unfold L2.start;rw[aU (by simp_all),aM,e3];rfl
  ·exfalso;by_cases hi:i<ds.length
   ·rw[aU (by simpa using hi),aM]at q
    simp_all
   ·rw[aQ (by simpa using hi),eW]at q;split at q<;>cases q
  ·simp
  ·cases o with
   |nx ρ'=>
     cases c;exact λF' H' M s' R=>y _ F' H' R.step rfl a8
   |rt d' O=>
     cases c;exact y
   |bk _=>cases c
   |ct _=>cases c
 ·cases c
end
theorem cV.take{K:Fg}:∀(n:Nat){ds:List Dat}{vs:List V}{S:List aF},cV K H ds vs S->∃c g,cV K H (ds.take n) (vs.take n) c/\cV K H (ds.drop n) (vs.drop n) g/\S=c++g
 |0,ds,vs,S,h=>⟨[],S,⟨rfl,rfl⟩,h,rfl⟩
 |n+1,[],vs,S,h=>by
   obtain⟨rfl,rfl⟩:=h;exact⟨[],[],⟨rfl,rfl⟩,⟨rfl,rfl⟩,rfl⟩
 |n+1,d::ds,vs,S,k=>by
   obtain⟨v,r,c,g,e,h1,h2,q⟩:=k;subst e q;obtain⟨j,l,y,z,B⟩:=cV.take n h2;exact⟨c++j,l,⟨v,r.take n,c,j,rfl,h1,y,rfl⟩,z,by simp_all⟩
theorem cV.setAt{K:Fg}{T:List aF}(h':lK K H d' v' T):∀(n:Nat){ds:List Dat}{vs:List V}{S:List aF},n<ds.length->cV K H ds vs S->∃c g l,cV K H (ds.set n d') (vs.set n v') (c++T++l)/\S=c++g++l
 |n,[],vs,S,j,h=>absurd j (by simp)
 |0,d::ds,vs,S,_,k=>by
   obtain⟨v,r,c,g,e,h1,h2,q⟩:=k;subst e q;exact⟨[],c,g,⟨v',r,T,g,rfl,h',h2,by simp⟩,by simp⟩
 |n+1,d::ds,vs,S,j,k=>by
   obtain⟨v,r,c,g,e,h1,h2,q⟩:=k;subst e q;obtain⟨y,B,z,D,J⟩:=cV.setAt h' n (by simpa using j) h2;refine⟨c++y,B,z,⟨v,r.set n v',c,y++T++z,rfl,h1,D,by simp⟩,by rw[J];simp⟩
section
variable{K:Fg}
def Rl.mut(R:Rl K Fz H₀ F H σ ρ)(O:Ow K H₀ F H σ ρ Ss)(hi:ρ[i]?=a_ (a_ (d,c_)))(J:σ[i]?=a_ (a_ v))
  (hl:l∈Ss i)(Y:Hu o')(o:lK K (upd H l o') d' v S')(nd:S'.Nodup)(L:∀a∈S',a∈Ss i\/(F a=b_/\H₀ a=b_/\∀(j:Nat)d2,ρ[j]?=a_ (a_ (d2,c_))->a∉Ss j)) :
  Rl K Fz H₀ F (upd H l o') σ (ρ.set i (a_ (d',c_))):=by
 obtain⟨w,e1,e2,e3,M⟩:=O.own i d hi;have Z :=(M l hl).1;have h0 :=(M l hl).2;obtain⟨ol,U,mul⟩:=e2.vd _ l hl;have nt:∀vs,H l≠a_ (.tup vs):=λvs z=>by rw[U]at z;cases z;exact mul
 refine⟨⟨⟨λa u q=>?_,λa us q=>?_⟩,R.step.ff,λa u q=>?_,R.step.un⟩,by simpa using R.len,λj d2 q=>?_,λj=>if j=i then S' else Ss j,λj d2 q=>?_,λj k d1 d2 B q1 W=>?_⟩
 ·rw[cD (ee q Z)];exact R.step.good.sub a u q
 ·by_cases ha:a=l
  ·subst ha;rw[cu]at q;cases q;exact Y.elim
  ·rw[cD ha]at q;exact R.step.good.tup a us q
 ·rw[cD (ee q h0)];exact R.step.hh a u q
 ·rcases iP q with⟨rfl,e⟩|⟨g,D⟩
  ·cases e
  ·exact R.val j d2 D
 ·rcases iP q with⟨rfl,e⟩|⟨g,D⟩
  ·cases e;rw[if_pos rfl];refine⟨v,J,o,nd,λa m=>?_⟩
   rcases L a m with m|m
   ·exact M a m
   ·exact⟨m.1,m.2.1⟩
  ·rw[if_neg (eQ g)];obtain⟨w,g1,g2,g3,g4⟩:=O.own j d2 D;exact⟨w,g1,g2.upd nt d2 (O.sep i j d d2 g hi D l hl),g3,g4⟩
 ·intro a m
  rcases iP q1 with⟨rfl,e⟩|⟨h1,y⟩
  ·rw[if_pos rfl]at m
   rcases iP W with⟨e2,_⟩|⟨h2,c⟩
   ·exact absurd e2 B
   ·rw[if_neg (eQ h2)]
    rcases L a m with m|m
    ·exact O.sep _ k d d2 h2 hi c a m
    ·exact m.2.2 k d2 c
  ·rw[if_neg (eQ h1)]at m
   rcases iP W with⟨rfl,e⟩|⟨h2,c⟩
   ·rw[if_pos rfl];intro m2
    rcases L a m2 with m2|m2
    ·exact O.sep _ j d d1 h1 hi y a m2 m
    ·exact m2.2.2 j d1 y m
   ·rw[if_neg (eQ h2)];exact O.sep j k d1 d2 B y c a m
def Step.Vj(st:Step F H F' H')(g:Good F H)(d:∀a∈S,H a=b_)(o:cV K H' ds vs S):Step F H (uz F' S) H':=by
 refine⟨⟨λa o' q=>?_,λa vs q=>?_⟩,λa o' q=>?_,st.hh,λa o' q n=>?_⟩
 ·by_cases m:a∈S
  ·rw[wo m]at q;cases q
  ·rw[om m]at q;exact st.good.sub a o' q
 ·rw[om λm=>?_]
  ·exact st.good.tup a vs q
  ·obtain⟨u,c,j⟩:=o.vd _ a m;rw[q]at c;cases c;exact j
 ·rw[om λm=>?_]
  ·exact st.ff a o' q
  ·rw[g.sub.free (d a m)]at q;cases q
 ·by_cases m:a∈S
  ·exact wo m
  ·rw[om m];exact st.un a o' q n
def yG(R:Rl K Fz H₀ F H σ ρ)(h:mP C es (M.full ρ)=a_ (ds,c_))
  (k:∀vs F' H' S,Step F H F' H'->cV K H' ds vs S->S.Nodup->(∀a∈S,H a=b_/\F' a=b_)->Q vs H'):gF K C es σ H Q:=by
 obtain⟨g,sp,d⟩:=R.jg;refine⟨_,ds,c_,h,g,d.step.good,d.full,λvs F1 j st r f=>?_⟩;obtain⟨S,n,e1,o⟩:=f rfl;have c:=Step.shrink R.step.good sp st;exact k vs _ j S (Step.Vj c R.step.good e1 o) o n λa m=>⟨e1 a m,wo m⟩
end
noncomputable def Tr:V->Option Key
 |.int i=>a_ (.inl i)
 |.str x=>a_ (.inr x)
 |_=>b_
def J9(h:Tr v=a_ k):v=kV k:=by
 cases v<;>first|(cases h;rfl)|cases h
def Oa(k:Key):Tr (kV k)=a_ k:=by cases k<;>rfl
noncomputable def rH(k:Key)(y:V):List (Key×V)->List (Key×V)
 |[]=>[(k,y)]
 |p::r=>if p.1=k then(p.1,y)::r else p::rH k y r
theorem D5:∀(r:List (Key×V)),(r.any λc=>decide (c.1=k))=d_->r.map (λc=>if c.1=k then(c.1,y)else c)=r
 |[],_=>rfl
 |p::r,h=>by
   rw[mY,Bool.or_eq_false_iff]at h;rw[aq,if_neg (of_decide_eq_false h.1),D5 r h.2]
theorem Ec:∀(k_:List (Key×V)),Ac k (k_.map (·.1))=c_->putK k_ k y=rH k y k_
 |[],_=>rfl
 |p::r,h=>by
   simp only[aq,Ac]at h;by_cases e:p.1=k
   ·rw[if_pos e]at h
    have h2:(r.any λc=>decide (c.1=k))=d_:=by
     simp only[mH]at h;rw[List.any_map]at h;exact h
    unfold putK rH;rw[if_pos e,if_pos (by rw[mY,decide_eq_true e];rfl),aq,if_pos e,D5 r h2]
   ·rw[if_neg e]at h;have d:=Ec (y:=y) r h;unfold rH;rw[if_neg e,<-d];unfold putK;rw[mY,decide_eq_false e,Bool.false_or];split
    ·rw[aq,if_neg e]
    ·rfl
theorem wF:∀(k_:List (Key×V))(ds:List Dat),ds.length=k_.length->(rH k y k_).map (·.1)=(putD k d (k_.map (·.1)) ds).1
 |[],ds,h=>by
   cases ds with
   |nil=>rfl
   |cons _ _=>cases h
 |p::r,[],h=>by cases h
 |p::r,e::ds,h=>by
   have c:=wF (k:=k) (y:=y) (d:=d) r ds (by simpa using h);simp only[rH,aq,putD];by_cases q:p.1=k
   ·rw[if_pos q,if_pos q];rfl
   simp_all
theorem cV.put{K:Fg}{T:List aF}(o:lK K H d y T)(B:T.Nodup):∀(k_:List (Key×V)) (ds:List Dat) (S:List aF),cV K H ds (k_.map (·.2)) S->S.Nodup->(∀a∈S,a∉T)->
  ∃S',cV K H (putD k d (k_.map (·.1)) ds).2 ((rH k y k_).map (·.2)) S'/\S'.Nodup/\∀a∈S',a∈S\/a∈T
 |[],[],S,os,g,c=>⟨T,.one o,B,λa m=>.inr m⟩
 |[],e::ds,S,os,g,c=>by
   obtain⟨v,r,D,j,q,_⟩:=os;cases q
 |p::r,[],S,os,g,c=>by
   obtain⟨q,_⟩:=os;cases q
 |p::r,e::ds,S,os,g,c=>by
   obtain⟨v,U,D,j,q,L,J,rfl⟩:=os;cases q;have l:=bW.mp g;simp only[rH,aq,putD];by_cases q:p.1=k
   ·rw[if_pos q,if_pos q];refine⟨T++j,⟨y,r.map (·.2),T,j,rfl,o,J,rfl⟩,bW.mpr ⟨B,l.2.1,λa m b m2 z=>c b (ak _ m2) (z▸m)⟩,λa m=>?_⟩
    grind
   ·rw[if_neg q,if_neg q];obtain⟨S',M,O,R⟩:=cV.put o B r ds j J l.2.1 λa m=>c a (ak _ m);refine⟨D++S',⟨p.2,(rH k y r).map (·.2),D,S',rfl,L,M,rfl⟩,bW.mpr ⟨l.1,O,λa m b m2 z=>?_⟩,λa m=>?_⟩
    ·subst z
     rcases R a m2 with z|z
     ·exact l.2.2 a m a z rfl
     ·exact c a (aH _ m) z
    grind
noncomputable def SG:HO->List V->Option HO
 |.lst xs,[y]=>if xs.length<ax then a_ (.lst (xs++[y]))else b_
 |_,_=>b_
def Wi:HO->List V->Option HO
 | .lst xs,l=>match l with
   |[.int i,y]=>if xs.length<ax/\-1000000<=i/\i<=1000000 then a_ (.lst (insI y i xs))else b_
   |_=>b_
 |_,_=>b_
def JB:HO->List V->Option HO
 | .lst xs,l=>match l with
   |[y,.int i]=>if -1000000<=i/\i<=1000000 then(Ri y i xs).map .lst else b_
   |_=>b_
 | .dK k_,l=>match l with
   |[y,v]=>(Tr v).bind λk=>if k_.length<ax then a_ (.dK (putK k_ k y))else b_
   |_=>b_
 |_,_=>b_
def zi:Ht->HO->List V->Option HO
 |.app,a,l=>SG a l
 |.ins,a,l=>Wi a l
 |.seti,a,l=>JB a l
 |_,_,_=>b_
def jW{T:List aF}(nd:(S++T).Nodup):S.Nodup/\T.Nodup/\∀a∈S,a∉T:=by
 obtain⟨h1,h2,h3⟩:=bW.mp nd;exact⟨h1,h2,λa m n=>h3 a m a n rfl⟩
def iE{S T:List aF}(h1:S.Nodup)(h2:T.Nodup)(h3:∀a∈S,a∉T):(S++T).Nodup:=bW.mpr ⟨h1,h2,λa m b n z=>h3 a m (z▸n)⟩
def Bu(K:Fg)(H:Hp)(op:Ht)(d':Dat)(v:V)(vs:List V)(S T:List aF):Prop:=
 ∃l c ob' S',v=.ref l/\l∈S/\H l=a_ c/\zi op c vs=a_ ob'/\Hu ob'/\lK K (upd H l ob') d' v S'/\S'.Nodup/\∀a∈S',a∈S\/a∈T
section
variable{K:Fg}{T:List aF}
def NT{d1:Dat}(hl:H l=a_ (.lst xs))(os:cV K H es xs S')(nd:(l::S').Nodup)(q:lK K H d1 y T)(nt:T.Nodup)(k:∀a∈l::S',a∉T)(v:es.length<ax):Bu K H .app (.lst (es++[d1])) (.ref l) [y] (l::S') T:=by
 have j:=aT.mp nd;have c:∀vs,H l≠a_ (.tup vs):=λvs z=>by rw[hl]at z;cases z
 have d :=k l jE;have g:=os.length;refine⟨l,_,.lst (xs++[y]),l::(S'++T),rfl,jE,hl,by simp only[zi,SG];rw[if_pos (by rw[g];exact v)],trivial,⟨l,xs++[y],S'++T,rfl,cu,(os.upd c _ j.1).append (.one (q.upd c _ d)),rfl⟩,?_,λb m=>?_⟩
 ·refine aT.mpr ⟨λm=>?_,iE j.2 nt λb m=>k b (kD _ m)⟩
  rcases aE.mp m with m|m
  ·exact j.1 m
  ·exact d m
 ·rcases au.mp m with rfl|m
  ·exact .inl jE
  ·rcases aE.mp m with m|m
   ·exact .inl (kD _ m)
   ·exact .inr m
def NS{d1:Dat}(hl:H l=a_ (.lst xs))(os:cV K H es xs S')(nd:(l::S').Nodup)(L:lK K H d1 y T)(nt:T.Nodup)(v:∀a∈l::S',a∉T)(Y:es.length<ax/\-1000000<=i/\i<=1000000):Bu K H .ins (.lst (insI d1 i es)) (.ref l) [.int i,y] (l::S') T:=by
 have j:=aT.mp nd;have c:∀vs,H l≠a_ (.tup vs):=λvs z=>by rw[hl]at z;cases z
 have k :=v l jE;have d:=os.length;obtain⟨B,D,M,O,R⟩:=os.take (HT.iD es.length 0 (a_ i));subst R;have q:HT.iD xs.length 0 (a_ i)=HT.iD es.length 0 (a_ i):=by rw[d]
 have g:=jW j.2;refine⟨l,_,.lst (insI y i xs),l::(B++(T++D)),rfl,jE,hl,by simp only[zi,Wi];simp_all,trivial,⟨l,insI y i xs,B++(T++D),rfl,cu,?_,rfl⟩,?_,λb m=>?_⟩
 ·have U:=O.upd (o:=.lst (insI y i xs)) c _ (λm=>j.1 (ak _ m));have W:=(cV.one (L.upd c _ k)).append U;have J:=(M.upd c _ (λm=>j.1 (aH _ m))).append W;have e2:insI y i xs=xs.take (HT.iD es.length 0 (a_ i))++([y]++xs.drop (HT.iD es.length 0 (a_ i))):=by unfold insI;rw[q];rfl
  generalize Z:L2.upd H l (.lst (insI y i xs))=H2 at J ⊢;rw[e2];exact J
 ·refine aT.mpr ⟨λm=>?_,iE g.1 (iE nt g.2.1 λb m m2=>v b (kD _ (ak _ m2)) m) λb m m2=>?_⟩
  ·grind
  grind
 grind
def Tx(h:zj n i=a_ k):k<n:=(yu h).2.1
def NR{d1:Dat}(hl:H l=a_ (.lst xs))(os:cV K H es xs S')(nd:(l::S').Nodup)(D:lK K H d1 y T)(nt:T.Nodup)(v:∀a∈l::S',a∉T)(J:-1000000<=i/\i<=1000000)(h2:zj es.length i=a_ k):Bu K H .seti (.lst (es.set k d1)) (.ref l) [y,.int i] (l::S') T:=by
 have L:=aT.mp nd;have g:∀vs,H l≠a_ (.tup vs):=λvs z=>by rw[hl]at z;cases z
 have M :=v l jE;have c:=os.length;obtain⟨j,W,q,O,R⟩:=os.setAt D k (Tx h2);subst R;have B:=jW L.2;have U:=jW B.1
 have d:l∉j++T++q:=λm=>by
  grind
 refine⟨l,_,.lst (xs.set k y),l::(j++T++q),rfl,jE,hl,?_,trivial,⟨l,xs.set k y,j++T++q,rfl,cu,O.upd g _ d,rfl⟩,?_,λb m=>?_⟩
 ·simp only[zi,JB];rw[if_pos J];unfold Ri;rw[c,h2];rfl
 ·refine aT.mpr ⟨d,iE (iE U.1 nt λb m=>v b (kD _ (aH _ (aH _ m)))) B.2.1 λb m m2=>?_⟩
  grind
 grind
end
def JL{K:Fg}{T:List aF}{d1:Dat}(hl:H l=a_ (.dK k_))(os:cV K H ds (k_.map (·.2)) S')(nd:(l::S').Nodup)(J:lK K H d1 y T)(nt:T.Nodup)(v:∀a∈l::S',a∉T)(B:(k_.map (·.1)).length<ax/\Ac k (k_.map (·.1))=c_) :
  Bu K H .seti (.dct (putD k d1 (k_.map (·.1)) ds).1 (putD k d1 (k_.map (·.1)) ds).2) (.ref l) [y,kV k] (l::S') T:=by
 have D:=aT.mp nd;have g:∀vs,H l≠a_ (.tup vs):=λvs z=>by rw[hl]at z;cases z
 have j :=v l jE;have c:ds.length=k_.length:=by have:=os.length;simpa using this.symm
 obtain⟨q,L,M,O⟩:=cV.put J nt k_ ds S' os D.2 λa m=>v a (kD _ m)
 have d:l∉q:=λm=>by
  rcases O l m with z|z
  ·exact D.1 z
  ·exact j z
 refine⟨l,_,.dK (rH k y k_),l::q,rfl,jE,hl,?_,trivial,⟨l,rH k y k_,q,rfl,cu,wF k_ ds c,L.upd g _ d,rfl⟩,aT.mpr ⟨d,M⟩,λb m=>?_⟩
 ·simp only[zi,JB,Oa,bw];rw[if_pos (by simpa using B.1),Ec k_ B.2]
 grind
set_option tactic.hygienic true in
def yh{K:Fg}{T:List aF}(h1:op≠.ext)(h2:op≠.dput)(h:kj op d ds=a_ d')(o:lK K H d v S)(nd:S.Nodup)(a:cV K H ds vs T)(nt:T.Nodup)(M:∀a∈S,a∉T):Bu K H op d' v vs S T:=by
 have hd:(∃es,d=.lst es)\/(op=.seti/\∃ks ws,d=.dct ks ws):=by
  cases d with
  |lst es=>exact .inl ⟨es,rfl⟩
  |dct ks ws=>cases op<;>first|exact absurd rfl h1|exact absurd rfl h2|exact .inr ⟨rfl,ks,ws,rfl⟩|cases h
  |dcn _=>cases op<;>first|exact absurd rfl h1|exact absurd rfl h2|cases h
  |_=>cases op<;>cases h
 rcases hd with hd|⟨rfl,ks,ws,rfl⟩
 rotate_left
 ·obtain⟨l,k_,S',rfl,hl,rfl,os,rfl⟩:=o
  cases ds with
  |nil=>cases h
  |cons d1 ds=>
    cases ds with
    |nil=>cases h
    |cons d0 ds=>
      cases ds with
      |cons _ _=>cases h
      |nil=>
        obtain⟨k,O,h⟩:=cR h;split at h
        ·rename_i c;cases h;obtain⟨y,r,R,U,e,g,D,q⟩:=a;obtain⟨W,r0,Y,J,L,B,j,z⟩:=D;obtain⟨rfl,rfl⟩:=j
         have hy:W=kV k/\Y=[]:=by
          cases d0 with
          |int i=>cases O;exact B
          |str x=>cases O;exact B
          |_=>cases O
         obtain⟨rfl,rfl⟩:=hy;rw[az]at z;subst e L z;rw[az]at q;subst q;exact JL hl os nd g nt M c
        ·cases h
 obtain⟨es,rfl⟩:=hd;obtain⟨l,xs,S',rfl,hl,os,rfl⟩:=o
 cases op with
 |ext=>exact absurd rfl h1
 |dput=>exact absurd rfl h2
 |app=>
   cases ds with
   |nil=>cases h
   |cons d1 ds=>
     cases ds with
     |cons _ _=>cases h
     |nil=>
       obtain⟨y,r,R,U,e,g,j,q⟩:=a;obtain⟨rfl,rfl⟩:=j;rw[az]at q;subst e q;simp only[kj,Vm]at h;split at h
       ·rename_i c;cases h;exact NT hl os nd g nt M c
       ·cases h
 |ins=>
   cases ds with
   |nil=>cases h
   |cons d0 ds=>
     cases ds with
     |nil=>cases d0<;>cases h
     |cons d1 ds=>
       cases ds with
       |cons _ _=>cases d0<;>cases h
       |nil=>
         cases d0 with
         |int i=>
           obtain⟨W,r0,Y,J,L,B,D,z⟩:=a;obtain⟨y,r,R,U,e,g,j,q⟩:=D;obtain⟨rfl,rfl⟩:=j;obtain⟨rfl,rfl⟩:=B;rw[az]at q;subst e L q;subst z;simp only[kj,Vl]at h;split at h
           ·rename_i c;cases h;exact NS hl os nd g nt M c
           ·cases h
         |_=>cases h
 |pop=>cases h
 |clr=>cases h
 |seti=>
   cases ds with
   |nil=>cases h
   |cons d1 ds=>
     cases ds with
     |nil=>cases h
     |cons d0 ds=>
       cases ds with
       |cons _ _=>cases d0<;>cases h
       |nil=>
         cases d0 with
         |int i=>
           obtain⟨y,r,R,U,e,g,D,q⟩:=a;obtain⟨W,r0,Y,J,L,B,j,z⟩:=D;obtain⟨rfl,rfl⟩:=j;obtain⟨rfl,rfl⟩:=B;rw[az]at z;subst e L z;rw[az]at q;subst q;simp only[kj,Vk]at h;split at h
           ·rename_i c;obtain⟨es',Z,h⟩:=dZ h;cases h;obtain⟨k,g2,Z⟩:=dZ Z;subst Z;exact NR hl os nd g nt M c g2
           ·cases h
         |_=>cases h
section
variable{X:Cx}{K:Fg}
def TL(h:gF K C [xa,xb] σ H Q):gE K C xa σ H λx q=>gE K C xb σ q λy H2=>Q [x,y] H2:=by
 obtain⟨ρ,ds,al,h,F,g,R,k⟩:=h;obtain⟨⟨d,fr⟩,h1,h⟩:=cR h;obtain⟨⟨r,U⟩,h2,h⟩:=dZ h;cases h;obtain⟨⟨d2,l⟩,h3,J⟩:=cR h2;cases J;refine⟨ρ,d,fr,h1,F,g,R,λv F1 q c B L=>⟨ρ,d2,l,h3,F1,c.good,R.mono c.ff,λw M H2 j D O=>k [v,w] M H2 (c.trans j) ⟨v,[w],rfl,B.mono j.ff,w,[],rfl,D,rfl⟩ λz=>?_⟩⟩;simp only[eO,kQ,aj]at z;refine e8.cons c.hh j.hh ?_ (e8.cons j.hh (bT.refl _) ?_ .nil)
 ·rcases z.1 with z|z
  ·exact L z
  ·exact .jO c.good z B
 ·rcases z.2 with z|z
  ·exact O z
  ·exact .jO j.good z D
def lU(h:gE K C x σ H Q)(f:∀v c,bT H c->Q v c->Q' v c):gE K C x σ H Q':=by
 obtain⟨ρ,d,fr,h,F,g,R,k⟩:=h;exact⟨ρ,d,fr,h,F,g,R,λv F' H' st r fr=>f v H' st.hh (k v F' H' st r fr)⟩
def Aj(h:nE C (.mut op i es) ρ=a_ out) :
  ∃ds d d',mP C es (full ρ)=a_ (ds,c_)/\ρ[i]?=a_ (a_ (d,c_))/\kj op d ds=a_ d'/\out=.nx (ρ.set i (a_ (d',c_))):=by
 obtain⟨⟨ds,al⟩,h3,h⟩:=cR h;by_cases c:al=c_
 ·subst c
  cases q:ρ[i]? with
  |none=>rw[q]at h;cases h
  |some z=>
    rw[q]at h
    match z,h with
    |some (d,c_),h=>
      obtain⟨d',g,h5⟩:=dZ h;exact⟨ds,d,d',h3,rfl,g,h5.symm⟩
 simp_all
def Ai(h1:op≠.ext)(h2:op≠.dput){D:Ends}(h:gS K C (.mut op i es) D σ H) :
  ∃l c,σ[i]?=a_ (a_ (.ref l))/\H l=a_ c/\(op≠.seti->∃xs,c=.lst xs)/\gF K C es σ H λvs Z=>∃g ob',Z l=a_ g/\zi op g vs=a_ ob'/\D.nx σ (upd Z l ob'):=by
 obtain⟨Fz,H₀,F,ρ,out,h,R,k⟩:=h;obtain⟨ds,d,d',h3,hi,y,rfl⟩:=Aj h;obtain⟨Ss,O⟩:=R.ow;obtain⟨v,e1,e2,e3,e4⟩:=O.own i d hi
 have z:∃l c,v=.ref l/\H l=a_ c/\(op≠.seti->∃xs,c=.lst xs):=by
  cases d with
  |lst es=>
    obtain⟨l,xs,S',rfl,hl,os,eS⟩:=id e2;exact⟨l,_,rfl,hl,λ_=>⟨xs,rfl⟩⟩
  |dct ks ws=>
    obtain⟨l,k_,S',rfl,hl,_⟩:=id e2;refine⟨l,_,rfl,hl,λB=>?_⟩
    cases op<;>first|exact absurd rfl h1|exact absurd rfl h2|exact absurd rfl B|cases y
  |dcn _=>cases op<;>first|exact absurd rfl h1|exact absurd rfl h2|cases y
  |_=>cases op<;>cases y
 obtain⟨l,c,rfl,hl,J⟩:=z;refine⟨l,c,e1,hl,J,yG R h3 λvs F' H' T st ow nT hT=>?_⟩;have O':=O.moved st;have R':=R.moved st
 have dj:∀a∈Ss i,a∉T:=λa m m2=>by
  obtain⟨u,hu,_⟩:=e2.vd _ a m
  simp_all
 obtain⟨l2,g,ob',S2,ev,L,M,U,mu,o2,W,Y⟩:=yh h1 h2 y (e2.mono st.hh) e3 ow nT dj;cases ev;refine⟨g,ob',M,U,k F' _ σ st.ff (R'.mut O' hi e1 L mu o2 W λa m=>?_)⟩
 rcases Y a m with m|m
 ·exact .inl m
 ·refine .inr ⟨(hT a m).2,R.step.hh.free (hT a m).1,λj d2 q m2=>?_⟩;obtain⟨w,_,g2,_⟩:=O.own j d2 q;obtain⟨u,hu,_⟩:=g2.vd _ a m2
  simp_all
def MF{st:kK}(h1:op≠.ext)(h2:op≠.dput)(h3:op≠.seti)(j:∀l c ob' vs H Q,H l=a_ c->zi op c vs=a_ ob'->(∀u,Q u (upd H l ob'))->r (.ref l) vs H Q)
  (q:PS X st (zC (QD X.K "list" r (B4 i) (gF X.K C es)))):SS X C st (.mut op i es):=PS.imp q λD σ H h=>by
 obtain⟨l,v,e1,hl,d,g⟩:=Ai h1 h2 h;obtain⟨xs,rfl⟩:=d h3;refine⟨.ref l,e1,.inl ⟨rfl,xs,mo.of hl⟩,?_⟩;obtain⟨ρ,ds,al,h,F,y,R,k⟩:=g;exact⟨ρ,ds,al,h,F,y,R,λvs F' H' st r f=>let ⟨c,ob',q1,q2,q3⟩:=k vs F' H' st r f;j l c ob' vs H' _ q1 q2 λ_=>q3⟩
def Ja:V->V->V->Hp->(Hp->Prop)->Prop:=λo i v H Q=>∃p k_ k,o=.ref p/\i=kV k/\H p=a_ (.dK k_)/\k_.length<ax/\Q (upd H p (.dK (putK k_ k v)))
def DZ(j:X.A.units+1<dh):UH X (λo i v H Q=>D8 o i v H Q\/Ja o i v H Q):=λh_ s σ H o i v l y u Q I c d g h=>by
 rcases h with h|⟨p,k_,k,rfl,rfl,hp,z,q⟩
 ·exact set_list h_ s σ H o i v l y u Q I c d g h
 ·cases c;exact Hf j I (O8.k hp z) d g λs' I'=>⟨_,I',q⟩
set_option tactic.hygienic true in
def MD{st:kK}(z:PS X st (Gg (gE X.K C xe) (TK (B4 i) (gE X.K C xi) (λo i v H Q=>D8 o i v H Q\/Ja o i v H Q)))):SS X C st (.mut .seti i [xe,xi]):=PS.imp z λD σ H h=>by
 obtain⟨l,B,e1,hl,_,g⟩:=Ai (by simp) (by simp) h;have J:=TL g;refine lU J λx H1 s1 L=>⟨.ref l,e1,lU L λy H2 s2 M=>?_⟩
 obtain⟨O,ob',d,c,q⟩:=M
 cases O with
 |lst ys=>
   cases y with
   |int k=>
     simp only[zi,JB]at c;split at c
     ·obtain⟨zs,R,U⟩:=dZ c;cases U;obtain⟨j,W,Y⟩:=dZ R;subst Y;exact .inl ⟨l,ys,k,j,rfl,rfl,d,W,q⟩
     ·cases c
   |_=>cases c
 |dK k_=>
   obtain⟨k,Z,c⟩:=cR c;split at c
   ·rename_i hz;cases c;exact .inr ⟨l,k_,k,rfl,J9 Z,d,hz,q⟩
   ·cases c
 |_=>cases c
end
section
set_option tactic.hygienic true in
def C2:∀l c ob' vs H(Q:VK),H l=a_ c->zi .app c vs=a_ ob'->(∀u,Q u (upd H l ob'))->D9 (.ref l) vs H Q:=λl c ob' vs H Q h1 h2 h3=>by
 cases c with
 |lst xs=>
   cases vs with
   |nil=>cases h2
   |cons y vs=>
     cases vs with
     |cons _ _=>cases h2
     |nil=>
       simp only[zi,SG]at h2;split at h2
       ·rename_i d;cases h2;exact⟨l,xs,y,rfl,rfl,h1,d,h3 _⟩
       ·cases h2
 |_=>cases h2
end
def AY{items c:Array ah}(d:items.size+c.size<=ax):¬(!items.isEmpty && fF (items.size+c.size))=c_:=by
 rw[Ae d];simp
def KG(l:aF)(items:Array ah)(n:Nat)(b:aF)(c:Array ah)(k:Nat)(j:Option aF)(xW:Array (Option ah))(q:¬(!items.isEmpty && fF (items.size+c.size))=c_)(v:items.size<=ax)(y:items.size+c.size<=ax+1) :
  Meets (fI.«list.extend» ⟨[.ref l,.ref b],[]⟩) (λ_ R s=>s.heap.get? l=a_ { cls:=.type "list",dict:=b_,data:=.seq items n,slots:=#[] }/\s.heap.get? b=a_ { cls:=.type "tuple",dict:=j,data:=.seq c k,slots:=xW }/\R (.ok (.ret eU)) { s with heap:=s.heap.update l (eL λx=>x++c),toks:=s.toks }):=
 .of_wp λprog w A R s h=>by
  obtain⟨hp,g,d,z,os⟩:=s;obtain⟨hl,hb,h⟩:=h
  wp_walk using(iM hl rfl ),pW hl,pW hb
  exact⟨_,rfl,h⟩
def KJ(l:aF)(items:Array ah)(n:Nat)(b:aF)(c:Array ah)(k:Nat)(j:Option aF)(xW:Array (Option ah))(q:¬(!items.isEmpty && fF (items.size+c.size))=c_)(v:items.size<=ax)(y:items.size+c.size<=ax+1) :
  Meets (fI.«list.extend» ⟨[.ref l,.ref b],[]⟩) (λ_ R s=>s.heap.get? l=a_ { cls:=.type "list",dict:=b_,data:=.seq items n,slots:=#[] }/\s.heap.get? b=a_ { cls:=.type "list",dict:=j,data:=.seq c k,slots:=xW }/\R (.ok (.ret eU)) { s with heap:=s.heap.update l (eL λx=>x++c),toks:=s.toks }):=
 .of_wp λprog w A R s h=>by
  obtain⟨hp,g,d,z,os⟩:=s;obtain⟨hl,hb,h⟩:=h
  wp_walk using(iM hl rfl ),pW hl,pW hb
  exact⟨_,rfl,h⟩
section
variable{K:Fg}
def VZ(K:Fg):V->List V->Hp->VK->Prop:=λx vs H Q=>∃l b xs c,x=.ref l/\vs=[.ref b]/\H l=a_ (.lst xs)/\(mo K H b c\/sk K H b c)/\xs.length+c.length<=ax/\Q .non (upd H l (.lst (xs++c)))
def SU:Zz X "list.extend" (VZ X.K):=by
 intro h_ s σ H x vs v us Q I R U h;obtain⟨l,b,xs,L,rfl,rfl,M,j,W,q⟩:=h;cases R;obtain⟨u,rfl,Y⟩:=U.one;cases Y;obtain⟨z,its,n,r,hl,e⟩:=I.GS M
 have fin:∀(c:List ah)(O:Nat),cF L c->EP X h_ σ Q .none { s with heap:=s.heap.update l (eL λx=>x++c.toArray),toks:=O }:=λc O d=>
  ⟨.non,_,I.Tc M e (by simp) (r.append d) (by simp_all),rfl,q⟩
 have g:∀{c:List ah},cF L c->its.toArray.size+c.toArray.size<=ax:=λd=>by rw[bp,bp,<-r.length,<-d.length];exact W
 rcases j with j|j
 ·obtain⟨c,d,⟨B,D,e2,J,hd,hs⟩,_⟩:=I.list j;obtain⟨k,y,data2,xW⟩:=B;subst J hd hs;exact t4 iZ ⟨_,e,rfl⟩ rk (p8 _ _) (KJ l its.toArray n b c.toArray D _ xW (AY (g d)) (by simp_all) (cT (g d))) ⟨e,e2,fin c _ d⟩
 ·obtain⟨c,d,⟨B,e2,J,D,hd⟩,_⟩:=I.tuple j;obtain⟨k,y,data2,xW⟩:=B;subst J hd;exact t4 iZ ⟨_,e,rfl⟩ rk (p8 _ _) (KG l its.toArray n b c.toArray D y xW (AY (g d)) (by have:=g d;omega) (by have:=g d;omega)) ⟨e,e2,fin c _ d⟩
def Qu(K:Fg)(H:Hp)(d':Dat)(v:V)(vs:List V)(S T:List aF):Prop:=
 ∃l xs b c S',v=.ref l/\l∈S/\H l=a_ (.lst xs)/\vs=[.ref b]/\(mo K H b c\/sk K H b c)/\xs.length+c.length<=ax/\lK K (upd H l (.lst (xs++c))) d' v S'/\S'.Nodup/\∀a∈S',a∈S\/a∈T
def KI{T:List aF}(hl:H l=a_ (.lst xs))(os:cV K H es xs S')(nd:(l::S').Nodup)(hb:mo K H b zs\/sk K H b zs)(of:cV K H fs zs T')(g:∀a∈T',a∈T)(nt:T'.Nodup)(j:∀a∈l::S',a∉T)(q:es.length+fs.length<=ax) :
  Qu K H (.lst (es++fs)) (.ref l) [.ref b] (l::S') T:=by
 have k:=aT.mp nd;have c:∀vs,H l≠a_ (.tup vs):=λvs z=>by rw[hl]at z;cases z
 have d :=λm=>j l jE (g l m);refine⟨l,xs,b,zs,l::(S'++T'),rfl,jE,hl,rfl,hb,by rw[os.length,of.length];exact q,⟨l,xs++zs,S'++T',rfl,cu,(os.upd c _ k.1).append (of.upd c _ d),rfl⟩,?_,λa m=>?_⟩
 ·refine aT.mpr ⟨λm=>?_,iE k.2 nt λa m m2=>j a (kD _ m) (g a m2)⟩
  grind
 grind
set_option tactic.hygienic true in
def Ou{T:List aF}(h:kj .ext d ds=a_ d')(o:lK K H d v S)(nd:S.Nodup)(a:cV K H ds vs T)(nt:T.Nodup)(g:∀a∈S,a∉T):Qu K H d' v vs S T:=by
 cases d with
 |lst es=>
   obtain⟨l,xs,S',rfl,hl,os,rfl⟩:=o
   cases ds with
   |nil=>cases h
   |cons d1 ds=>
     cases ds with
     |cons _ _=>cases d1<;>cases h
     |nil=>
       obtain⟨y,r,B,D,e,j,k,q⟩:=a;obtain⟨rfl,rfl⟩:=k;rw[az]at q;subst e q
       cases d1 with
       |lst fs=>
         simp only[kj,QB]at h;split at h
         ·rename_i c;cases h;obtain⟨b,z,J,rfl,hb,of,rfl⟩:=j;exact KI hl os nd (.inl (.inl (.inl hb))) of (λa m=>kD _ m) (aT.mp nt).2 g c
         ·cases h
       |tup fs=>
         simp only[kj,QB]at h;split at h
         ·rename_i c;cases h;obtain⟨b,z,rfl,hb,of⟩:=j;exact KI hl os nd (.inr hb.sq) of (λa m=>m) nt g c
         ·cases h
       |_=>cases h
 |_=>cases h
def KH{D:Ends}(h:gS K C (.mut .ext i es) D σ H) :
  ∃l c,σ[i]?=a_ (a_ (.ref l))/\H l=a_ (.lst c)/\gF K C es σ H λvs y=>∃xs b g,y l=a_ (.lst xs)/\vs=[.ref b]/\(mo K y b g\/sk K y b g)/\xs.length+g.length<=ax/\D.nx σ (upd y l (.lst (xs++g))):=by
 obtain⟨Fz,H₀,F,ρ,out,h,R,k⟩:=h;obtain⟨ds,d,d',h3,hi,W,rfl⟩:=Aj h;obtain⟨Ss,O⟩:=R.ow;obtain⟨v,e1,e2,e3,e4⟩:=O.own i d hi
 have z:∃l c,v=.ref l/\H l=a_ (.lst c):=by
  cases d with
  |lst es=>
    obtain⟨l,xs,S',rfl,hl,os,eS⟩:=id e2;exact⟨l,xs,rfl,hl⟩
  |_=>cases W
 obtain⟨l,c,rfl,hl⟩:=z;refine⟨l,c,e1,hl,yG R h3 λvs F' H' T st ow Z Y=>?_⟩;have O':=O.moved st;have R':=R.moved st
 have dj:∀a∈Ss i,a∉T:=λa m m2=>by
  obtain⟨u,hu,_⟩:=e2.vd _ a m
  simp_all
 obtain⟨l2,xs,b,g,S2,ev,B,J,L,hq,hz,o2,M,U⟩:=Ou W (e2.mono st.hh) e3 ow Z dj;cases ev;refine⟨xs,b,g,J,L,hq,hz,k F' _ σ st.ff (R'.mut O' hi e1 B trivial o2 M λa m=>?_)⟩
 rcases U a m with m|m
 ·exact .inl m
 ·refine .inr ⟨(Y a m).2,R.step.hh.free (Y a m).1,λj d2 q m2=>?_⟩;obtain⟨w,_,g2,_⟩:=O.own j d2 q;obtain⟨u,hu,_⟩:=g2.vd _ a m2
  simp_all
def QX{st:kK}(d:PS X st (zC (QD X.K "list" (VZ X.K) (B4 i) (gF X.K C es)))):SS X C st (.mut .ext i es):=PS.imp d λD σ H h=>by
 obtain⟨l,c,e1,hl,g⟩:=KH h;refine⟨.ref l,e1,.inl ⟨rfl,c,mo.of hl⟩,?_⟩;obtain⟨ρ,ds,al,h,F,j,R,k⟩:=g;exact⟨ρ,ds,al,h,F,j,R,λvs F' H' st r f=>let ⟨xs,b,zs,q1,q2,q3,q4,q5⟩:=k vs F' H' st r f;⟨l,b,xs,zs,rfl,q2,q1,q3,q4,q5⟩⟩
end
section
variable{X:Cx}{K:Fg}
def _root_.L2.Inv.noNT(I:Inv X h_ σ H s)(g:Good F H)(h:F a=a_ (.dN xs))(h':Tq X.K F a ws):False:=by
 obtain⟨_,_,o,es,ep,h1,h2,_⟩:=I.hok a _ (g.sub _ _ h);obtain⟨its,_,⟨o',h3,c,_⟩,_⟩:=I.tupR g h'
 grind
def _root_.L2.Inv.noNL(I:Inv X h_ σ H s)(g:Good F H)(h:F a=a_ (.dN xs))(h':mo X.K F a ws):False:=by
 obtain⟨_,_,o,es,ep,h1,h2,_⟩:=I.hok a _ (g.sub _ _ h);obtain⟨its,_,pl,_⟩:=I.lstR g h';obtain⟨o',h3,c,_⟩:=pl.isList
 grind
theorem wO:∀{ds:List Dat}{q:List Key}{vs:List V},Aw ds=a_ q->cO K F ds vs->vs=q.map kV
 |[],_,_,h,r=>by cases h;exact r
 |d::ds,_,_,h,g=>by
   obtain⟨v,w,e,h1,h2⟩:=g;obtain⟨k,c,h⟩:=cR h;obtain⟨q,j,h⟩:=dZ h;cases h;subst e;rw[aq,<-wO j h2]
   congr 1
   cases d with
   |int i=>cases c;exact h1
   |str x=>cases c;exact h1
   |_=>cases c
theorem Ey:∀{ds:List Dat}{q:List N2}{vs:List V},PX ds=a_ q->cO K F ds vs->L1 K F q vs
 |[],_,_,h,r=>by cases h;exact r
 |d::ds,_,_,h,l=>by
   obtain⟨v,w,e,h1,h2⟩:=l;obtain⟨k,c,h⟩:=cR h;obtain⟨q,y,h⟩:=dZ h;cases h;subst e;have g:=Ey y h2
   cases d with
   |int i=>cases c;cases h1;exact⟨w,rfl,g⟩
   |str x=>cases c;cases h1;exact⟨w,rfl,g⟩
   |tup es=>
     obtain⟨z,j,c⟩:=dZ c;cases c;obtain⟨a,vs,rfl,t,r⟩:=h1;rw[wO j r]at t;exact⟨a,w,rfl,t,g⟩
   |_=>cases c
theorem Es:∀{ds:List Dat}{q:List NK}{vs:List V},UZ ds=a_ q->cO K F ds vs->L0 K F q vs
 |[],_,_,h,r=>by cases h;exact r
 |d::ds,_,_,h,l=>by
   obtain⟨v,w,e,h1,h2⟩:=l;obtain⟨k,c,h⟩:=cR h;obtain⟨q,y,h⟩:=dZ h;cases h;subst e;have g:=Es y h2
   cases d with
   |int i=>cases c;cases h1;exact⟨w,rfl,g⟩
   |str x=>cases c;cases h1;exact⟨w,rfl,g⟩
   |tup es=>
     obtain⟨z,j,c⟩:=dZ c;cases c;obtain⟨a,vs,rfl,t,r⟩:=h1;exact⟨a,w,vs,rfl,t,Ey j r,g⟩
   |_=>cases c
def NO(h:NP da=a_ k)(r:Rep K F da v):∃a,v=.ref a/\XZ K F k a:=by
 cases da with
 |tup ds=>
   obtain⟨a,vs,rfl,t,r⟩:=r;exact⟨a,rfl,vs,t,Es h r⟩
 |_=>cases h
theorem EO:∀{q:List Key}{us:List ah},cF (q.map kV) us->∀h:cc,qY (GV X.prog X.w) h q us
 |[],_,w,_=>by cases w;exact .nil
 |k::q,_,w,h=>by
   cases w with
   |cons a b=>exact .cons (wR a) (EO b h)
theorem rN(I:Inv X h_ σ H s)(g:Good F H):∀{k:List N2}{vs:List V}{us:List ah},L1 X.K F k vs->cF vs us->qY (i2 X.prog X.w) s.heap k us
 |[],_,_,h,w=>by rw[h]at w;cases w;exact .nil
 |.inl k::ks,_,_,h,w=>by
   obtain⟨r,e,h⟩:=h;subst e
   cases w with
   |cons q w=>exact .cons (wR q) (rN I g h w)
 |.inr q::ks,_,_,h,w=>by
   obtain⟨b,r,e,t,h⟩:=h;subst e
   cases w with
   |cons c w=>
     refine .cons ?_ (rN I g h w);cases(c);obtain⟨its,d,⟨o,h1,h2,n,h3⟩,_⟩:=I.tupR g t;exact⟨b,rfl,o,its.toArray,n,h1,h2,h3,by simpa using EO d s.heap⟩
theorem rM(I:Inv X h_ σ H s)(g:Good F H):∀{k:List NK}{vs:List V}{us:List ah},L0 X.K F k vs->cF vs us->UJ X.prog X.w s.heap k us
 |[],_,_,h,w=>by rw[h]at w;cases w;exact .nil
 |.inl k::ks,_,_,h,w=>by
   obtain⟨r,e,h⟩:=h;subst e
   cases w with
   |cons q w=>exact .cons (wR q) (rM I g h w)
 |.inr q::ks,_,_,h,w=>by
   obtain⟨b,r,us,e,t,c,h⟩:=h;subst e
   cases w with
   |cons d w=>
     refine .cons ?_ (rM I g h w);cases(d);obtain⟨its,j,⟨o,h1,h2,n,h3⟩,_⟩:=I.tupR g t;exact⟨b,rfl,o,its.toArray,n,h1,h2,h3,by simpa using rN I g c j⟩
def JH(I:Inv X h_ σ H s)(g:Good F H)(h:XZ X.K F k a):(PV X.prog X.w).is s.heap k a:=by
 obtain⟨vs,t,r⟩:=h;obtain⟨its,c,⟨o,h1,h2,n,h3⟩,_⟩:=I.tupR g t;exact⟨o,its.toArray,n,h1,h2,h3,by simpa using rM I g r c⟩
end
section
variable{X:Cx}
def _root_.L2.Inv.noDT(I:Inv X h_ σ H s)(g:Good F H)(h:F a=a_ (.dK k_))(h':Tq X.K F a ws):False:=by
 obtain⟨_,_,_,_,o,es,ep,h1,h2,_⟩:=I.hok a _ (g.sub _ _ h);obtain⟨its,_,⟨o',h3,c,_⟩,_⟩:=I.tupR g h'
 grind
def _root_.L2.Inv.noDL(I:Inv X h_ σ H s)(g:Good F H)(h:F a=a_ (.dK k_))(h':mo X.K F a ws):False:=by
 obtain⟨_,_,_,_,o,es,ep,h1,h2,_⟩:=I.hok a _ (g.sub _ _ h);obtain⟨its,_,pl,_⟩:=I.lstR g h';obtain⟨o',h3,c,_⟩:=pl.isList
 grind
mutual
theorem D6(I:Inv X h_ σ H s)(g:Good F H):∀(da l:Dat){x:V},Rep X.K F da x->Rep X.K F l x->da=l
 |.non,l,x,v,d=>by
   rw[v]at d
   cases l with
   |non=>rfl
   |tup _=>obtain⟨_,_,z,_⟩:=d;cases z
   |lst _=>obtain⟨_,_,z,_⟩:=d;cases z
   |dct _ _=>obtain⟨_,_,z,_⟩:=d;cases z
   |dcn _=>obtain⟨_,_,z,_⟩:=d;cases z
   |_=>cases d
 |.bl b,l,x,v,d=>by
   rw[v]at d
   cases l with
   |bl c=>cases d;rfl
   |tup _=>obtain⟨_,_,z,_⟩:=d;cases z
   |lst _=>obtain⟨_,_,z,_⟩:=d;cases z
   |dct _ _=>obtain⟨_,_,z,_⟩:=d;cases z
   |dcn _=>obtain⟨_,_,z,_⟩:=d;cases z
   |_=>cases d
 |.int i,l,x,v,d=>by
   rw[v]at d
   cases l with
   |int c=>cases d;rfl
   |tup _=>obtain⟨_,_,z,_⟩:=d;cases z
   |lst _=>obtain⟨_,_,z,_⟩:=d;cases z
   |dct _ _=>obtain⟨_,_,z,_⟩:=d;cases z
   |dcn _=>obtain⟨_,_,z,_⟩:=d;cases z
   |_=>cases d
 |.str i,l,x,v,d=>by
   rw[v]at d
   cases l with
   |str c=>cases d;rfl
   |tup _=>obtain⟨_,_,z,_⟩:=d;cases z
   |lst _=>obtain⟨_,_,z,_⟩:=d;cases z
   |dct _ _=>obtain⟨_,_,z,_⟩:=d;cases z
   |dcn _=>obtain⟨_,_,z,_⟩:=d;cases z
   |_=>cases d
 |.tup ds,l,x,y,d=>by
   obtain⟨p,vs,e,t,r⟩:=y;subst e
   cases l with
   |tup es=>
     obtain⟨q,us,j,t',k⟩:=d;cases j;have ev :=I.mJ (t.mono g.sub).sq (t'.mono g.sub).sq;subst ev;rw[qi I g ds es r k]
   |lst es=>
     obtain⟨q,us,j,t',k⟩:=d;cases j;exact(I.noLT g t' t).elim
   |dct ks es=>
     obtain⟨q,us,j,t',k⟩:=d;cases j;exact(I.noDT g t' t).elim
   |dcn ks=>
     obtain⟨q,us,j,t',k⟩:=d;cases j;exact(I.noNT g t' t).elim
   |_=>cases d
 |.lst ds,l,x,y,d=>by
   obtain⟨p,vs,e,t,r⟩:=y;subst e
   cases l with
   |lst es=>
     obtain⟨q,us,j,t',k⟩:=d;cases j;have ev :=I.mO (g.sub.seq t) (g.sub.seq t');subst ev;rw[qi I g ds es r k]
   |tup es=>
     obtain⟨q,us,j,t',k⟩:=d;cases j;exact(I.noLT g t t').elim
   |dct ks es=>
     obtain⟨q,us,j,t',k⟩:=d;cases j;exact(I.noDL g t' t).elim
   |dcn ks=>
     obtain⟨q,us,j,t',k⟩:=d;cases j;exact(I.noNL g t' t).elim
   |_=>cases d
 |.dct ks ds,l,x,y,d=>by
   obtain⟨p,k_,e,t,kk,r⟩:=y;subst e
   cases l with
   |dct B es=>
     obtain⟨q,us,j,t',k',k⟩:=d;cases j;rw[t]at t';cases t';rw[<-kk,<-k',qi I g ds es r k]
   |lst es=>
     obtain⟨q,us,j,t',k⟩:=d;cases j;exact(I.noDL g t t').elim
   |tup es=>
     obtain⟨q,us,j,t',k⟩:=d;cases j;exact(I.noDT g t t').elim
   |dcn _=>
     obtain⟨q,us,j,t',k⟩:=d;cases j;rw[t]at t';cases t'
   |_=>cases d
 |.dcn ks,l,x,y,d=>by
   obtain⟨p,xs,e,t,r⟩:=y;subst e
   cases l with
   |dcn B=>
     obtain⟨q,us,j,t',k⟩:=d;cases j;rw[t]at t';cases t';rw[<-r.1,<-k.1]
   |dct _ _=>
     obtain⟨q,us,j,t',k⟩:=d;cases j;rw[t]at t';cases t'
   |lst es=>
     obtain⟨q,us,j,t',k⟩:=d;cases j;exact(I.noNL g t t').elim
   |tup es=>
     obtain⟨q,us,j,t',k⟩:=d;cases j;exact(I.noNT g t t').elim
   |_=>cases d
theorem qi(I:Inv X h_ σ H s)(g:Good F H):∀(ds es:List Dat){vs:List V},cO X.K F ds vs->cO X.K F es vs->ds=es
 |[],es,vs,h,h'=>by
   rw[show vs=[]from h]at h'
   cases es with
   |nil=>rfl
   |cons _ _=>obtain⟨_,_,z,_⟩:=h';cases z
 |d::ds,es,vs,k,h'=>by
   obtain⟨v,r,e,h1,h2⟩:=k;subst e
   cases es with
   |nil=>exact nomatch (show v::r=[]from h')
   |cons f fs=>
     obtain⟨q,y,l,c,j⟩:=h';cases l;rw[D6 I g d f h1 c,qi I g ds fs h2 j]
end
noncomputable def HI(da:Dat)(ds:List Dat)(its:List ah)(w:ah):Bool:=@decide (∃(i:Nat) (d:Dat),its[i]?=a_ w/\ds[i]?=a_ d/\oD d da=c_) (lZ _)
def Di(I:Inv X h_ σ H s)(g:Good F H){da:Dat}{ds:List Dat}{vs:List V}{its:List ah}(r:cO X.K F ds vs)(w:cF vs its){i:Nat}{d:Dat}{u:ah}(h1:its[i]?=a_ u)(h2:ds[i]?=a_ d):HI da ds its u=oD d da:=by
 have one:∀(j:Nat)d',its[j]?=a_ u->ds[j]?=a_ d'->d'=d:=λj d' k l=>by
  obtain⟨v,e1,e2⟩:=r.get h2;obtain⟨L,q,y⟩:=r.get l;obtain⟨M,B,J⟩:=w.get e1;obtain⟨O,c,z⟩:=w.get q;rw[h1]at B;cases B;rw[k]at c;cases c;have:=J.inj z;subst this;exact(D6 I g d d' e2 y).symm
 by_cases hd:oD d da=c_
 ·rw[hd];exact@decide_eq_true _ (lZ _) ⟨i,d,h1,h2,hd⟩
 ·have:oD d da=d_:=by simpa using hd
  rw[this];refine@decide_eq_false _ (lZ _) λ⟨j,d',k,l,D⟩=>?_;rw[one j d' k l]at D;exact hd D
def yS(I:Inv X h_ σ H s)(g:Good F H)(r:cO X.K F ds vs)(w:cF vs its):its.any (HI da ds its)=ds.any λy=>oD y da:=by
 have hl:its.length=ds.length:=by rw[<-w.length,r.length]
 rw[Bool.eq_iff_iff,tM,tM];constructor
 ·rintro⟨u,hu,h⟩;obtain⟨i,hi,e⟩:=kT hu;have c :=ab hi (af hl);refine⟨ds[i],bA c,?_⟩;rw[<-Di I g r w (by rw[ae hi,e]) (ae c)];exact h
 ·rintro⟨d,hd,h⟩;obtain⟨i,hi,e⟩:=kT hd;have c :=ab hi (af hl.symm);refine⟨its[i],bA c,?_⟩;rw[Di I g r w (ae c) (by rw[ae hi,e])];exact h
def Dh(I:Inv X h_ σ H s)(g:Good F H)(A:bP)(j:A.units+20<dh)(sa:iC 20 da=c_)(ss:eA 20 ds=c_)(k:Rep X.K F da x)(l:RelV x u)(r:cO X.K F ds vs)(w:cF vs its) :
  ∀y∈its,vH A s y u (HI da ds its y):=λy q=>by
 obtain⟨i,hi,e⟩:=kT q;have hl:its.length=ds.length:=by rw[<-w.length,r.length]
 have c :=ab hi (af hl);have h1:its[i]?=a_ y:=by rw[ae hi,e]
 have h2:=ae c;rw[Di I g r w h1 h2];obtain⟨v,e1,e2⟩:=r.get h2;obtain⟨B,d,z⟩:=w.get e1;rw[h1]at d;cases d;exact(qE I g 20 A ds[i] da j (oN ss h2) sa e2 k z l).1
set_option tactic.hygienic true
def So(O:X.A.units+21<dh):j7 X (compareOp .In) (gB X.K (qG .isin)):=λh_ s σ H x y v u Q I l q B=>by
 obtain⟨da,M,d,fr,h,F,g,D,J,k⟩:=B;obtain⟨b,hd,rfl,rfl⟩:=jY h;have j:X.A.in1.units+20<dh:=by omega
 cases M with
 |str z=>
   cases da with
   |str R=>
     cases hd;exact GN h_ s σ H x y v u Q I l q ⟨_,_,D,J,k _ F H (Step.refl g) rfl a8⟩
   |_=>cases hd
 |lst ds=>
   have c:(if iC 20 da && eA 20 ds then a_ (ds.any λy=>oD y da)else b_)=a_ b:=by cases da<;>exact hd
   split at c
   ·rename_i hs;rw[aj]at hs;cases c;obtain⟨p,vs,rfl,t,r⟩:=J;obtain rfl:u=.ref p:=q;obtain⟨its,w,pl,_⟩:=I.lstR g t;refine SeqAt.in_listAt (HI da ds its) pl.isList (λy L=>Dh I g _ j hs.1 hs.2 D l r w y (by simpa using L)) ⟨.bl _,H,I,rfl,?_⟩;rw[show its.toArray.any (HI da ds its)=its.any (HI da ds its) by simp,yS I g r w];exact k _ F H (Step.refl g) rfl a8
   ·cases c
 |tup ds=>
   have c:(if iC 20 da && eA 20 ds then a_ (ds.any λy=>oD y da)else b_)=a_ b:=by cases da<;>exact hd
   split at c
   ·rename_i hs;rw[aj]at hs;cases c;obtain⟨p,vs,rfl,t,r⟩:=J;obtain rfl:u=.ref p:=q;obtain⟨its,w,pl,_⟩:=I.tupR g t;refine SeqAt.in_tupleAt (HI da ds its) pl (λy L=>Dh I g _ j hs.1 hs.2 D l r w y (by simpa using L)) ⟨.bl _,H,I,rfl,?_⟩;rw[show its.toArray.any (HI da ds its)=its.any (HI da ds its) by simp,yS I g r w];exact k _ F H (Step.refl g) rfl a8
   ·cases c
 |_=>cases da<;>cases hd
def NA(O:X.A.units+21<dh):j7 X (compareOp .NotIn) (gB X.K (qG .nin)):=λh_ s σ H x y v u Q I q B j=>by
 obtain⟨da,L,d,fr,h,F,g,D,J,k⟩:=j;obtain⟨b,hd,rfl,rfl⟩:=jY h;have l:X.A.in1.units+20<dh:=by omega
 cases L with
 |str z=>
   cases da with
   |str R=>
     cases hd;exact x9 h_ s σ H x y v u Q I q B ⟨_,_,D,J,k _ F H (Step.refl g) rfl a8⟩
   |_=>cases hd
 |lst ds=>
   have c:(if iC 20 da && eA 20 ds then a_ (!(ds.any λy=>oD y da))else b_)=a_ b:=by cases da<;>exact hd
   split at c
   ·rename_i hs;rw[aj]at hs;cases c;obtain⟨p,vs,rfl,t,r⟩:=J;obtain rfl:u=.ref p:=B;obtain⟨its,w,pl,_⟩:=I.lstR g t;refine SeqAt.notIn_listAt (HI da ds its) pl.isList (λy M=>Dh I g _ l hs.1 hs.2 D q r w y (by simpa using M)) ⟨.bl _,H,I,rfl,?_⟩;rw[show its.toArray.any (HI da ds its)=its.any (HI da ds its) by simp,yS I g r w];exact k _ F H (Step.refl g) rfl a8
   ·cases c
 |_=>cases da<;>cases hd
set_option tactic.hygienic false
end
def gM(K:Fg)(f:Dat->List Dat->g_):V->List V->Hp->VK->Prop:=λx xs H Q=>∃da ds d fr F,f da ds=a_ (d,fr)/\Good F H/\Rep K F da x/\cO K F ds xs/\∀v F' H',Step F H F' H'->Rep K F' d v->(fr=c_->fX K H H' d v)->Q v H'
section
variable{X:Cx}
def wL(hs:∀da ds r,ic m da ds=a_ r->∃z,da=.str z):∀σ H Q,gE X.K C (.gp m xo xs) σ H Q->QD X.K "str" (gM X.K (ic m)) (gE X.K C xo) (gA X.K C xs) σ H Q:=λσ H Q B=>by
 obtain⟨ρ,d,fr,h,F,g,R,k⟩:=B;obtain⟨⟨da,D⟩,h1,h⟩:=cR h;obtain⟨ds,h2,h3⟩:=cR h;obtain⟨z,J⟩:=hs da ds _ h3;refine⟨ρ,da,D,h1,F,g,R,λv F1 Z c l _=>⟨?_,ρ,ds,h2,F1,c.good,R.mono c.ff,λvs L H2 j M=>⟨da,ds,d,fr,L,h3,j.good,l.mono j.ff,M,λw O U y W Y=>k w O U ((c.trans j).trans y) W λq=>(Y q).back (F:=F) (c.hh.trans j.hh)⟩⟩⟩;rw[J]at l;rw[l];exact rfl
def CI(hs:∀da ds r,ic m da ds=a_ r->∃z,da=.str z):∀σ H Q,gE X.K C (.gp m xo []) σ H Q->Vv X.K "str" (gM X.K (ic m)) (gE X.K C xo) σ H Q:=λσ H Q y=>by
 obtain⟨ρ,d,fr,h,F,g,R,k⟩:=y;obtain⟨⟨da,B⟩,h1,h⟩:=cR h;obtain⟨ds,h2,h3⟩:=cR h;cases h2;obtain⟨z,D⟩:=hs da [] _ h3;refine⟨ρ,da,B,h1,F,g,R,λv F1 U c j _=>⟨?_,da,[],d,fr,F1,h3,c.good,j,rfl,λw J L l M O=>k w J L (c.trans l) M λq=>(O q).back (F:=F) c.hh⟩⟩;rw[D]at j;rw[j];exact rfl
def Ib(r:cO X.K F [] vs)(w:cF vs us):us=[]:=by
 rw[r]at w;cases w;rfl
section
def oA(h:ic .startswith da ds=a_ r):∃x y i,da=.str x/\ds=[.str y,.int i]/\r=(.bl (gQ x y i),d_):=by
 have h:YQ da ds=a_ r:=h;unfold YQ at h;split at h
 ·cases h;exact⟨_,_,_,rfl,rfl,rfl⟩
 ·cases h
def wW(h:ic .upper da ds=a_ r):∃x,da=.str x/\ds=[]/\ic .upper (.str x) []=a_ r:=by
 cases da with
 |str x=>
   cases ds with
   |nil=>exact⟨x,rfl,rfl,h⟩
   |cons d1 ds=>cases ds<;>cases d1<;>cases h
 |_=>cases ds<;>first|cases h|simp
set_option tactic.hygienic true
def AA(h:ic .join da ds=a_ r):∃x es,da=.str x/\ds=[.lst es]/\ic .join (.str x) [.lst es]=a_ r:=by
 cases da with
 |str x=>
   cases ds with
   |nil=>cases h
   |cons d1 ds=>
     cases ds with
     |nil=>
       cases d1 with
       |lst y=>exact⟨x,y,rfl,rfl,h⟩
       |_=>cases h
     |cons _ _=>cases d1<;>cases h
 |_=>cases ds<;>first|cases h|(rename_i d1 ds;cases ds<;>cases d1<;>cases h)
def Mp(r:cO X.K F [.str y,.int i] vs)(w:cF vs us):∃t u,us=[.str y t,.int i u]:=by
 obtain⟨v,q,rfl,c,j,k,rfl,d,g⟩:=r;rw[g,c,d]at w;obtain⟨l,z,rfl,⟨t,rfl⟩,⟨B,rfl⟩⟩:=vals2 w;exact⟨_,_,rfl⟩
def vQ:O4 X "str.startswith" (gM X.K (ic .startswith)):=λh_ s σ H x xs v us Q I j l c=>by
 obtain⟨da,ds,d,fr,F,h,g,q,z,k⟩:=c;obtain⟨x',y,i,rfl,rfl,h⟩:=oA h;cases h;rw[q]at j;obtain⟨t,rfl⟩:=j;obtain⟨u,B,rfl⟩:=Mp z l;exact SC.startswith3 ⟨.bl _,H,I,rfl,k _ F H (Step.refl g) rfl a8⟩
def JP:O4 X "str.upper" (gM X.K (ic .upper)):=λh_ s σ H x xs v us Q I j l c=>by
 obtain⟨da,ds,d,fr,F,h,g,q,y,k⟩:=c;obtain⟨x',rfl,rfl,h⟩:=wW h;simp only[ic,XJ]at h;split at h
 ·rename_i z;cases h;rw[q]at j;obtain⟨t,rfl⟩:=j;obtain rfl:=Ib y l;exact SCL.upper (ab z (by decide)) λ_=>⟨.str _,H,I.tok _,⟨_,rfl⟩,k _ F H (Step.refl g) rfl a8⟩
 ·cases h
theorem uh:∀{es:List Dat}{ys:List bc}{vs:List V}{us:List ah},sD es=a_ ys->cO X.K F es vs->cF vs us->pI us ys
 |[],ys,vs,us,h,r,w=>by
   cases h;rw[r]at w;cases w;exact .nil
 |d::es,ys,vs,us,h,r,w=>by
   cases d with
   |str x=>
     obtain⟨l,h1,h⟩:=dZ h;cases h;obtain⟨v,q,e,c,g⟩:=r;subst e;rw[c]at w
     cases w with
     |cons j k=>
       obtain⟨t,rfl⟩:=j;exact .cons x t (uh h1 g k)
   |_=>cases h
def NX:O4 X "str.join" (gM X.K (ic .join)):=λh_ s σ H x xs v us Q I j l c=>by
 obtain⟨da,ds,d,fr,F,h,g,y,z,k⟩:=c;obtain⟨x',es,rfl,rfl,h⟩:=AA h;obtain⟨ys,h1,h⟩:=cR h;split at h
 ·rename_i B;cases h;rw[y]at j;obtain⟨t,rfl⟩:=j;obtain⟨R,q,e,⟨p,vs,e1,D,J⟩,L⟩:=z;rw[L]at e;subst e e1;obtain⟨u,rfl,M⟩:=vals1 l;obtain rfl:u=.ref p:=M;obtain⟨its,O,pl,_⟩:=I.lstR g D;exact join_list pl.isList (by simpa using uh h1 J O) (ab B (by decide)) λt' k'=>⟨.str _,H,I.tok _,⟨_,rfl⟩,k _ F H (Step.refl g) rfl a8⟩
 ·cases h
set_option tactic.hygienic false
end
end
section
variable{X:Cx}
noncomputable def XM(y:bc):ah->Bool
 |.str x _=>x == y
 |_=>d_
def wX(h:ic .index da ds=a_ r):∃es y xs j,da=.lst es/\ds=[.str y]/\sD es=a_ xs/\xs.findIdx? (·== y)=a_ j/\r=(.int (j:Nat),d_):=by
 have hsh:∃es y,da=.lst es/\ds=[.str y]:=by
  match da,ds,h with
  |.lst es,[.str y],_=>exact⟨es,y,rfl,rfl⟩
 obtain⟨es,y,rfl,rfl⟩:=hsh;obtain⟨xs,h1,h⟩:=cR (h);obtain⟨j,h2,h3⟩:=dZ h;exact⟨es,y,xs,j,rfl,rfl,h1,h2,h3.symm⟩
theorem zF:∀{es:List Dat}{xs:List bc}{i:Nat}(h:sD es=a_ xs)(hi:i<es.length),∃x,xs[i]?=a_ x/\es[i]=.str x
 |[],_,_,_,hi=>absurd hi (vK _)
 |.str x::es,xs,i,h,hi=>by
   obtain⟨ys,h1,rfl⟩:=dZ (h)
   cases i with
   |zero=>exact⟨x,rfl,rfl⟩
   |succ i=>exact zF h1 (Nat.lt_of_succ_lt_succ hi)
def SR(hu:X.A.units+1<dh):O4 X "list.index" (gM X.K (ic .index)):=λh_ s σ H x xs v us Q I rx rv O=>by
 obtain⟨da,ds,d,fr,F,h,g,ra,rs,k⟩:=O;obtain⟨es,y,ys,j,rfl,rfl,J,hj,hr⟩:=wX h;cases hr;obtain⟨p,ws,rfl,t,R⟩:=ra;obtain⟨v1,w1,rfl,r1,L⟩:=rs;cases L;obtain⟨u,rfl,ru⟩:=vals1 rv;obtain⟨its,M,pl,hz⟩:=I.lstR g t;cases rx;have hl:its.length=es.length:=by rw[<-M.length,R.length]
 have hlen:its.length<=ax:=by rw[<-M.length];exact hz
 have q :=(uh J R M).length.symm.trans hl
 have c:∀i(hi:i<its.toArray.size),∃hd:i<ys.length,XM y its.toArray[i]=(ys[i] == y)/\vH X.A.in1 s its.toArray[i] u (XM y its.toArray[i]):=λi hi=>by
  have l:i<es.length:=by rw[<-hl];simpa using hi
  obtain⟨z,e1,L⟩:=xP M hi;obtain⟨z',e2,U⟩:=R.get (ae l);rw[e1]at e2;cases e2;obtain⟨b,hb,eb⟩:=zF J l;have hd:i<ys.length:=by rw[q];exact l
  have W:ys[i]=b:=by rw[ae hd]at hb;exact bx hb
  rw[eb]at U;have q3:=U;cases U
  have B:XM y its.toArray[i]=(b == y):=by
   obtain⟨tk,ht⟩:=L;rw[ht];rfl
  refine⟨hd,by rw[B,W],?_⟩;rw[B];exact(qE I g 0 X.A.in1 (.str b) (.str y) (by omega) rfl rfl q3 r1 L ru).1
 obtain⟨⟨oc,od,dt,sl⟩,n,e1,e2,e3,e4⟩:=pl;subst e2 e3 e4;obtain⟨Y,Z,hjn⟩:=rz.mp hj;have D:j<its.toArray.size:=by simpa [hl,<-q]using Y
 refine t4 v7 ⟨_,e1,rfl⟩ PySem.F.entry_list_index (PySem.F.args_list_index_2 _ _) (SeqAt.list_indexAt p _ n b_ sl u (XM y) j D ?_ ?_ ?_) ⟨e1,λy J=>?_,?_⟩
 ·rw[gD]at hlen;omega
 ·obtain⟨_,f1,_⟩:=c j D;rw[f1];exact Z
 ·intro m hm hmj;obtain⟨_,f1,_⟩:=c m hm;rw[f1];simpa using hjn m hmj
 ·obtain⟨i,hi,rfl⟩:=BD.mp J;obtain⟨_,_,f2⟩:=c i hi;exact f2
 ·exact⟨.int _,H,I.tok _,⟨_,rfl⟩,k _ F H (Step.refl g) rfl a8⟩
end
section
variable{X:Cx}{es:List aX}
def fX.qF{K:Fg}(hp:H p=b_):fX K H (L2.upd H p (.dK [])) (.dct [] []) (.ref p):=
 ⟨[p],by simp,λa m=>by simp_all,p,[],[],rfl,cu,rfl,⟨rfl,rfl⟩,rfl⟩
def MZ:SE X C (.Dict [] [] pos) .qF:=PE.imp Js λσ H Q c p hp=>by
 obtain⟨ρ,d,fr,h,F,g,R,k⟩:=c;cases h;exact k _ _ _ (Step.alloc g hp) ⟨p,[],rfl,cu,rfl,rfl⟩ λ_=>.qF hp
noncomputable def baseOk:aX->Bool
 |.Call (.Name _ _) [] [] _=>d_
 |_=>c_
def oW(h:baseOk o=c_):attributeBase o m env w=w:=by
 cases o with
 |Call f a k p=>
   cases f with
   |Name x q=>
     cases a with
     |nil=>
       cases k with
       |nil=>cases h
       |cons _ _=>rfl
     |cons _ _=>rfl
   |_=>rfl
 |_=>rfl
def VL{id:String}{ap cp:xI}(slot:L7 "str" name id)(ty:typeOf (.builtin id)=pure (.type "method_descriptor"))(c:O4 X id (gM X.K (ic m)))(hs:∀da ds r,ic m da ds=a_ r->∃z,da=.str z)
  (ho:SE X C o xo)(ha:SA X C [e] [xa])(hb:baseOk o=c_)(hl:(ap.endLine == cp.line)=c_)(h1:aO [e] X.env=(d_,eval e X.env)::aO [] X.env):SE X C (.Call (.Attribute o name ap) [e] [] cp) (.gp m xo [xa]):=
 PE.imp (uH m7 slot ty c ho ha (oW hb) (by rw[h1];rfl) hl h1 rfl) (wL hs)
def VJ{id:String}{ap cp:xI}(slot:L7 "str" name id)(ty:typeOf (.builtin id)=pure (.type "method_descriptor"))(c:O4 X id (gM X.K (ic m)))(hs:∀da ds r,ic m da ds=a_ r->∃z,da=.str z)
  (ho:SE X C o xo)(ha:SA X C [e,e2] [xa,xb])(hb:baseOk o=c_)(hl:(ap.endLine == cp.line)=c_)(h1:aO [e,e2] X.env=(d_,eval e X.env)::aO [e2] X.env)(h2:aO [e2] X.env=[(d_,eval e2 X.env)]):SE X C (.Call (.Attribute o name ap) [e,e2] [] cp) (.gp m xo [xa,xb]):=
 PE.imp (uH m7 slot ty c ho ha (oW hb) (by rw[h1,h2];rfl) hl h1 (by rw[h2];rfl)) (wL hs)
def VM{id:String}{ap cp:xI}(slot:L7 "str" name id)(ty:typeOf (.builtin id)=pure (.type "method_descriptor"))(c:O4 X id (gM X.K (ic m)))(hs:∀da ds r,ic m da ds=a_ r->∃z,da=.str z)
  (ho:SE X C o xo)(hb:baseOk o=c_)(hl:(ap.endLine == cp.line)=c_):SE X C (.Call (.Attribute o name ap) [] [] cp) (.gp m xo []):=
 PE.imp (Se m7 slot ty c ho (oW hb) hl) (CI hs)
def CH(hs:∀da ds r,ic m da ds=a_ r->∃es,da=.lst es):∀σ H Q,gE X.K C (.gp m xo xs) σ H Q->QD X.K "list" (gM X.K (ic m)) (gE X.K C xo) (gA X.K C xs) σ H Q:=λσ H Q z=>by
 obtain⟨ρ,d,fr,h,F,g,R,k⟩:=z;obtain⟨⟨da,B⟩,h1,h⟩:=cR h;obtain⟨ds,h2,h3⟩:=cR h;obtain⟨es,D⟩:=hs da ds _ h3;refine⟨ρ,da,B,h1,F,g,R,λv F1 Y c l _=>⟨?_,ρ,ds,h2,F1,c.good,R.mono c.ff,λvs J H2 j L=>⟨da,ds,d,fr,J,h3,j.good,l.mono j.ff,L,λw M O y U W=>k w M O ((c.trans j).trans y) U λq=>(W q).back (F:=F) (c.hh.trans j.hh)⟩⟩⟩;rw[D]at l;obtain⟨p,ws,rfl,t,_⟩:=l;exact .inl ⟨rfl,ws,c.good.sub.seq t⟩
def Ru{ap cp:xI}(c:X.A.units+1<dh)(ho:SE X C o xo)(ha:SA X C [e] [xa])(hb:baseOk o=c_)(hl:(ap.endLine == cp.line)=c_)(h1:aO [e] X.env=(d_,eval e X.env)::aO [] X.env):SE X C (.Call (.Attribute o "index" ap) [e] [] cp) (.gp .index xo [xa]):=
 PE.imp (uH gh v7 PySem.F.type_list_index (SR c) ho ha (oW hb) (by rw[h1];rfl) hl h1 rfl) (CH λda ds r h=>let ⟨es,_,_,_,q,_⟩:=wX h;⟨es,q⟩)
noncomputable def Ue(m:bc)(k:Nat):Option X0:=
 if m="join"/\k=1 then a_ .join else if m="index"/\k=1 then a_ .index else if m="startswith"/\k=2 then a_ .startswith else if m="upper"/\k=0 then a_ .upper else b_
set_option tactic.hygienic true in
def OO{k:X0}{ap cp:xI}(l:X.A.units+21<dh)(h:Ue m es.length=a_ k)(ho:SE X C o xo)(ha:SA X C es xs)(hlen:xs.length=es.length)(g:∀e,es=[e]->aO [e] X.env=(d_,eval e X.env)::aO [] X.env)(d:∀e e2,es=[e,e2]->aO [e,e2] X.env=(d_,eval e X.env)::aO [e2] X.env/\aO [e2] X.env=[(d_,eval e2 X.env)])(hb:baseOk o=c_)(hl:(ap.endLine == cp.line)=c_) :
  SE X C (.Call (.Attribute o m ap) es [] cp) (.gp k xo xs):=by
 have one:es.length=1->∃e c,es=[e]/\xs=[c]:=λq=>by
  match es,xs,hlen,q with
  |[e],[c],_,_=>exact⟨e,c,rfl,rfl⟩
 have nil:es.length=0->es=[]/\xs=[]:=λq=>by
  match es,xs,hlen,q with
  |[],[],_,_=>exact⟨rfl,rfl⟩
 unfold Ue at h;split at h
 ·rename_i q;cases h;obtain⟨rfl,q⟩:=q;obtain⟨e,c,rfl,rfl⟩:=one q;exact VL PySem.F.slot_str_join PySem.F.type_str_join NX (λ_ _ _ h=>let ⟨x,_,q,_⟩:=AA h;⟨x,q⟩) ho ha hb hl (g e rfl)
 split at h
 ·rename_i q;cases h;obtain⟨rfl,q⟩:=q;obtain⟨e,c,rfl,rfl⟩:=one q;exact Ru (by omega) ho ha hb hl (g e rfl)
 split at h
 ·rename_i q;cases h;obtain⟨rfl,q⟩:=q
  obtain⟨e,e2,c,j,rfl,rfl⟩:∃e e2 c j,es=[e,e2]/\xs=[c,j]:=by
   match es,xs,hlen,q with
   |[e,e2],[c,j],_,_=>exact⟨e,e2,c,j,rfl,rfl⟩
  exact VJ PySem.F.slot_str_startswith PySem.F.type_str_startswith vQ (λ_ _ _ h=>let ⟨x,_,_,q,_⟩:=oA h;⟨x,q⟩) ho ha hb hl (d e e2 rfl).1 (d e e2 rfl).2
 split at h
 ·rename_i q;cases h;obtain⟨rfl,q⟩:=q;obtain⟨rfl,rfl⟩:=nil q;exact VM PySem.F.slot_str_upper PySem.F.type_str_upper JP (λ_ _ _ h=>let ⟨x,q,_⟩:=wW h;⟨x,q⟩) ho hb hl
 ·cases h
end
structure LO{α:Type}(lt:α->α->Bool):Prop where
 irr:∀x,lt x x=d_
 tr:∀x y z,lt x y=c_->lt y z=c_->lt x z=c_
 tot:∀x y,lt x y=d_->lt y x=d_->x=y
def LO.OX (o:LO lt)(h:lt x y=c_):lt y x=d_:=by
 cases q:lt y x with
 |false=>rfl
 |true=>have:=o.tr _ _ _ h q;rw[o.irr]at this;cases this
def LO.Ww (o:LO lt)(h:lt y x=d_)(h':lt z y=d_):lt z x=d_:=by
 cases q:lt z x with
 |false=>rfl
 |true=>
   cases r:lt y z with
   |true=>have:=o.tr _ _ _ r q;rw[h]at this;cases this
   |false=>have:=o.tot _ _ r h';subst this;rw[h]at q;cases q
def loI:LO ltI:=⟨λx=>by simp[ltI],λx y z h h'=>by simp[ltI]at *;omega,λx y h h'=>by simp[ltI]at *;exact Int.le_antisymm h' h⟩
def P0:LO vA:=⟨λx=>by simp[vA],λx y z h h'=>by
  simp only[vA,decide_eq_true_eq]at *
  exact List.lt_trans h h',λx y h h'=>by
  simp only[vA,decide_eq_false_iff_not]at *;have :=List.le_antisymm (List.not_lt.mp h') (List.not_lt.mp h);obtain⟨a⟩:=x
  simp_all⟩
section
variable{α:Type}
set_option tactic.hygienic true
theorem uR(o:LO lt):∀{l:List α},z∈uY lt x l↔z=x\/z∈l
 |[]=>by simp[uY]
 |y::ys=>by
   unfold uY;split
   ·rw[au]
   ·rename_i h1;split
    ·rw[au,uR o,au];constructor
     ·grind
     grind
    ·rename_i h2;have:=o.tot x y (by simpa using h1) (by simpa using h2)
     simp_all
theorem jf(o:LO lt):∀{l:List α},z∈gY lt l↔z∈l
 |[]=>LN
 |x::l=>by rw[gY,uR o,jf o,au]
theorem Eb(o:LO lt):∀{l:List α},l.Pairwise (λa b=>lt a b=c_)->(uY lt x l).Pairwise (λa b=>lt a b=c_)
 |[],_=>by simp[uY]
 |y::ys,h=>by
   obtain⟨h1,h2⟩:=bZ.mp h;unfold uY;split
   ·rename_i q;refine bZ.mpr ⟨λz c=>?_,h⟩
    rcases au.mp c with rfl|c
    ·exact q
    ·exact o.tr _ _ _ q (h1 z c)
   ·split
    ·rename_i q;refine bZ.mpr ⟨λz c=>?_,Eb o h2⟩
     rcases(uR o).mp c with rfl|c
     ·exact q
     ·exact h1 z c
    ·exact h
theorem jw(o:LO lt):∀(l:List α),(gY lt l).Pairwise (λa b=>lt a b=c_)
 |[]=>.nil
 |x::l=>Eb o (jw o l)
def mN(o:LO lt){l:List α}(h:l.Pairwise (λa b=>lt a b=c_)):l.Nodup:=h.imp λq e=>by subst e;rw[o.irr]at q;cases q
theorem rK:∀{l:List α},(vU lt x l).Perm (x::l)
 |[]=>.refl _
 |y::ys=>by
   unfold vU;split
   ·exact(rK.cons y).trans (.swap _ _ _)
   ·exact .refl _
theorem kX:∀(l:List α),(nR lt l).Perm l
 |[]=>.refl _
 |x::l=>rK.trans ((kX l).cons x)
theorem Ea(o:LO lt):∀{l:List α},l.Pairwise (λa b=>lt b a=d_)->(vU lt x l).Pairwise (λa b=>lt b a=d_)
 |[],_=>by simp[vU]
 |y::ys,h=>by
   obtain⟨h1,h2⟩:=bZ.mp h;unfold vU;split
   ·rename_i q;refine bZ.mpr ⟨λz c=>?_,Ea o h2⟩
    rcases au.mp (rK.mem_iff.mp c)with rfl|c
    ·exact o.OX q
    ·exact h1 z c
   ·rename_i q;have d:lt y x=d_:=by simpa using q
    refine bZ.mpr ⟨λz c=>?_,h⟩
    rcases au.mp c with rfl|c
    ·exact d
    ·exact o.Ww d (h1 z c)
set_option tactic.hygienic false
theorem zW(o:LO lt):∀(l:List α),(nR lt l).Pairwise (λa b=>lt b a=d_)
 |[]=>.nil
 |x::l=>Ea o (zW o l)
def HY(o:LO lt){r:List α}(hp:r.Perm l)(hs:r.Pairwise (λa b=>lt b a=d_)):r=nR lt l:=
 lH (λa b _ _ h h'=>o.tot _ _ h' h) hs (zW o l) (hp.trans (kX l).symm)
end
theorem IW:∀{l:List bc}{p:bc},risingS p l=c_->(p::l).Pairwise (λa b=>vA b a=d_)
 |[],p,_=>by simp
 |x::r,p,h=>by
   simp only[risingS,aj,mH]at h;obtain⟨h1,h2⟩:=h;rw[ltCps_eq]at h1;have c :=h1;have g:=IW h2;refine bZ.mpr ⟨λz d=>?_,g⟩
   rcases au.mp d with rfl|d
   ·exact c
   ·exact P0.Ww c ((bZ.mp g).1 z d)
def QZ(h:sortedS l=c_):l.Pairwise (λa b=>vA b a=d_):=by
 cases l with
 |nil=>exact .nil
 |cons x r=>exact IW h
section
variable{X:Cx}
def DS{h':cc}{out:List ah}(I:Inv X h_ σ H s)(ex:∀b o,s.heap.get? b=a_ o->h'.get? b=a_ o)(hl:s.heap.objs.size<=l)(g:h'.get? l=a_ (seqObj "list" out.toArray e))(w:cF vs out)(j:vs.length<=ax) :
  Inv X h_ σ (upd H l (.lst vs)) { s with heap:=h',drawn:=d,toks:=tk }:=by
 have c:Inv X h_ σ (upd H l (.lst vs)) { s with heap:=h',toks:=tk }:=I.laid ex hl ⟨j,out,e,w,g⟩;exact⟨c.ok,c.os,c.bare,c.base,c.loc,c.cell,c.free,c.freeC,c.pin,c.hok,c.len⟩
def Gm(h:ItemsOf (SignAt x) acc x.cps.size):pI acc.toList (eB x):=by
 obtain⟨h1,h2⟩:=h
 have e:acc.toList.map strOf=eB x:=by
  apply iX
  ·simp[eB,h1]
  ·intro n a b;have ha:n<acc.size:=by simpa using a
   obtain⟨c,u,d,g⟩:=h2 n acc[n] (aS ha);simp only[tL,oZ,eB];rw[g];have hb:n<x.cps.size:=by rw[<-h1];exact ha
   rw[aS hb]at d;cases d;rfl
 rw[<-e];refine strsAre_map _ λv j=>?_;obtain⟨n,k,rfl⟩:=cA.mp j;have ha:n<acc.size:=by simpa using k
 obtain⟨c,u,d,g⟩:=h2 n acc[n] (aS ha);exact⟨_,u,by simpa using g⟩
def Lb{A:bP}{x:bc}(hh:A.handled=b_)(d:x.cps.size<=ax):DB prog w A s (.str x tx) (λvs=>∃ss',pI vs ss'/\ss'.Perm (eB x)):=by
 intro j l Q' e k;exact Bd (e.trans hh) d λh1 g c ex sz it=>k c.toList h1 s.drawn g ex sz ⟨_,Gm it,.refl _⟩
def AV{Q:VK}{F:Hp}{d:Dat}{fr:Bool}{l:aF}{is:List bc}(g:Good F H)(c:H l=b_)(k:∀w F' H',Step F H F' H'->Rep X.K F' (.lst (is.map .str)) w->(c_=c_->fX X.K H H' (.lst (is.map .str)) w)->Q w H'):Q (.ref l) (upd H l (.lst (is.map V.str))):=
 k _ _ _ (Step.alloc g c) ⟨l,_,rfl,.inl (.inl cu),Yq is⟩ λ_=>.lst (bT.refl _) c (.jO g (WJ is) (Yq is))
def Cc(h:n<64):n<=ax:=by exact be (ab h (by decide))
def VD{js:List bc}(I:Inv X h_ σ H s)(j:js.length<64)(q:DB X.prog X.w X.A s v (λvs=>∃c,pI vs c/\c.Perm is))(y:∀r:List bc,r.Perm is->r.Pairwise (λa b=>vA b a=d_)->r=js)(hi:is.length=js.length)
  (k:∀l,H l=b_->Q (.ref l) (upd H l (.lst (js.map V.str)))):aA (aD X.prog X.w) X.A (call (.builtin "sorted") [v]) (EP X h_ σ Q) E s:=by
 refine IE (aB (af hi) j) q λh' d B l out c e ex hl g z i2 i3=>?_;obtain rfl:=y c i2 (QZ i3);exact⟨.ref l,_,DS I ex hl g (wz z) (by rw[aw];exact Cc j),rfl,k l (I.hok.fresh hl)⟩
end
def Aq:LO vS:=⟨nv.ir,nv.tr,λx y h h'=>by
 by_cases e:x=y
 ·exact e
 ·have:=nv.co _ _ e h;simp_all⟩
theorem Av:∀{ds:List Dat}{q:List Key},Aw ds=a_ q->q.all sK=c_->(q.map iK).map Dat.int=ds
 |[],_,h,_=>by cases h;rfl
 |d::ds,_,h,a=>by
   obtain⟨k,c,h⟩:=cR h;obtain⟨q,g,h⟩:=dZ h;cases h;simp only[dC,aj]at a;rw[aq,aq,Av g a.2]
   cases d with
   |int i=>cases c;rfl
   |str x=>cases c;cases a.1
   |_=>cases c
def OG(h:YL d=a_ x)(h3:s2 x<3):OF (s2 x) (c2 x)=d:=by
 cases d with
 |int i=>cases h;rfl
 |str y=>
   cases h;show Dat.str ⟨((y.cps.toList.map eM).map ub).toArray⟩=_;rw[bS,show(ub ∘ eM)=id from rfl,List.map_id]
 |tup es=>
   obtain⟨q,g,h⟩:=dZ h;cases h;simp only[s2]at h3 ⊢;by_cases c:q.all sK=c_
   ·rw[if_pos c];show Dat.tup ((q.map iK).map .int)=_;rw[Av g c]
   simp_all
 |_=>cases h
theorem Ba:∀{ds:List Dat}{k:List N2},PX ds=a_ k->(∀n∈k.map s2,n<3)->sx OF (k.map s2) (k.map c2)=ds
 |[],_,h,_=>by cases h;rfl
 |d::ds,_,h,h3=>by
   obtain⟨x,c,h⟩:=cR h;obtain⟨q,g,h⟩:=dZ h;cases h;rw[aq,aq,BA,OG c (h3 _ jE),Ba g λy j=>h3 y (kD _ j)]
theorem Ew:∀{ds:List Dat}{q:List N2},PX ds=a_ q->q.all sI=c_->(q.map U3).map Dat.int=ds
 |[],_,h,_=>by cases h;rfl
 |d::ds,_,h,a=>by
   obtain⟨k,c,h⟩:=cR h;obtain⟨q,g,h⟩:=dZ h;cases h;simp only[dC,aj]at a;rw[aq,aq,Ew g a.2]
   cases d with
   |int i=>cases c;rfl
   |str x=>cases c;cases a.1
   |tup es=>
     obtain⟨l,j,c⟩:=dZ c;cases c;cases a.1
   |_=>cases c
def OE(h:YG d=a_ x)(h3:Ad (sN x)=c_):T6 (sN x) (cN x)=d:=by
 cases d with
 |int i=>cases h;rfl
 |str y=>
   cases h;show Dat.str ⟨((y.cps.toList.map eM).map ub).toArray⟩=_;rw[bS,show(ub ∘ eM)=id from rfl,List.map_id]
 |tup es=>
   obtain⟨q,g,h⟩:=dZ h;cases h;simp only[sN,cN]at h3 ⊢;by_cases c:q.all sI=c_
   ·rw[if_pos c,if_pos c];show Dat.tup ((q.map U3).map .int)=_;rw[Ew g c]
   ·rw[if_neg c]at h3;rw[if_neg c,if_neg c];show Dat.tup _=_;rw[Ba g (Jz h3)]
 |_=>cases h
theorem Fk:∀{ds:List Dat}{k:List NK},UZ ds=a_ k->(∀x∈k,Ad (sN x)=c_)->sx T6 (k.map sN) (k.map cN)=ds
 |[],_,h,_=>by cases h;rfl
 |d::ds,_,h,h3=>by
   obtain⟨x,c,h⟩:=cR h;obtain⟨q,g,h⟩:=dZ h;cases h;rw[aq,aq,BA,OE c (h3 x jE),Fk g λy j=>h3 y (kD _ j)]
def Fl(h:NP d=a_ k)(h3:∀x∈k,Ad (sN x)=c_):Dl (k.map sN) (codeN k)=d:=by
 cases d with
 |tup ds=>show Dat.tup _=_;rw[Fk h h3]
 |_=>cases h
theorem uN:∀{ds:List Dat}{kk:List (List NK)},vP ds=a_ kk->kk.length=ds.length/\∀i,i<ds.length->NP (ds.getD i .non)=a_ (kk.getD i [])
 |[],_,h=>by cases h;exact⟨rfl,λi hi=>by cases hi⟩
 |d::ds,_,h=>by
   obtain⟨x,c,h⟩:=cR h;obtain⟨q,g,h⟩:=dZ h;cases h;obtain⟨l,a⟩:=uN g;refine⟨by simp[l],λi hi=>?_⟩
   cases i with
   |zero=>exact c
   |succ i=>simpa using a i (by simpa using hi)
theorem EN:∀{ds:List Dat}{q:List Key},Aw ds=a_ q->jF ds=c_
 |[],_,_=>rfl
 |d::ds,_,h=>by
   obtain⟨k,c,h⟩:=cR h;obtain⟨q,g,_⟩:=dZ h;have:=EN g
   cases d<;>first|(cases c;done)|simp[jF,im,this]
theorem JK:∀{ds:List Dat}{q:List N2},PX ds=a_ q->jF ds=c_
 |[],_,_=>rfl
 |d::ds,_,h=>by
   obtain⟨k,g,h⟩:=cR h;obtain⟨q,j,_⟩:=dZ h;have:=JK j
   cases d with
   |tup es=>
     obtain⟨l,c,_⟩:=dZ g;simp[jF,im,this,EN c]
   |int _=>simp[jF,im,this]
   |str _=>simp[jF,im,this]
   |_=>cases g
theorem JJ:∀{ds:List Dat}{q:List NK},UZ ds=a_ q->jF ds=c_
 |[],_,_=>rfl
 |d::ds,_,h=>by
   obtain⟨k,g,h⟩:=cR h;obtain⟨q,j,_⟩:=dZ h;have:=JJ j
   cases d with
   |tup es=>
     obtain⟨l,c,_⟩:=dZ g;simp[jF,im,this,JK c]
   |int _=>simp[jF,im,this]
   |str _=>simp[jF,im,this]
   |_=>cases g
def SM(h:NP d=a_ q):im d=c_:=by
 cases d with
 |tup es=>simp[im,JJ h]
 |_=>cases h
theorem zR{K:Fg}(r:cO K F ds vs):∀{js:List Nat},(∀j∈js,j<ds.length)->cO K F (js.map λj=>ds.getD j .non) (js.map λj=>vs.getD j .non)
 |[],_=>rfl
 |j::js,h=>by
   have c:=h j jE;obtain⟨v,e,q⟩:=r.get (ae c);refine⟨vs.getD j .non,_,rfl,?_,zR r λi hi=>h i (kD _ hi)⟩
   simp_all
def zN{kk:List (List NK)}(hsh:∀j,j<kk.length->(kk.getD j []).map sN=HG kk)(h3:∀x∈HG kk,Ad x=c_)(sl:Sel (λi=>kk.getD i []) kk.length js) :
  (js.map λj=>codeN (kk.getD j [])).Perm (gY vS (kk.map codeN)):=by
 have d:∀j,j<kk.length->∀k∈kk.getD j [],Ad (sN k)=c_:=λj c k g=>h3 _ (by rw[<-hsh j c];exact cH g)
 have q:(js.map λj=>codeN (kk.getD j [])).Nodup:=by
  have:=eV.mp sl.nd;refine eV.mpr (iA (λ{a b}l mb h e=>h ?_) this);exact code_inj ((hsh _ (sl.lt a l)).trans (hsh _ (sl.lt b mb)).symm) (d _ (sl.lt a l)) e
 rw[fG q (mN Aq (jw Aq _))];intro z;rw[jf Aq,bQ,bQ];constructor
 ·rintro⟨j,c,rfl⟩;have:=sl.lt j c;exact⟨kk.getD j [],by simp_all,rfl⟩
 ·rintro⟨k,g,rfl⟩;obtain⟨i,hi,rfl⟩:=cA.mp g;have:=sl.all i hi;obtain⟨j,c,e⟩:=bQ.mp this;refine⟨j,c,?_⟩
  simp_all
noncomputable def adr:V->aF
 |.ref a=>a
 |_=>0
theorem zA{av:Nat->aF}:∀(js:List Nat),cF (js.map λj=>V.ref (av j)) (js.map λj=>cW (av j))
 |[]=>.nil
 |j::js=>.cons rfl (zA js)
section
def Y5{h:cc}(hl:h.IsList l items):FI prog w h (.ref l) items.size (λi v=>items[i]?=a_ v):=by
 intro g j s1 Q1 sz ex k;have c :=hl.at λo e=>ex l o e;have lt:l<h.objs.size:=by obtain⟨o,e,_⟩:=hl;exact hl9 e
 have ne :=bo (c5 lt sz);refine vC c (k _ [s1.heap.objs.size,l] _ (λq d=>Walks.list d _ l ne items) (λb hb=>?_) ⟨⟨_,aG _ rfl,rfl,rfl⟩,c.push _⟩)
 rcases au.mp hb with z|z
 ·exact .inl z
 ·exact .inr (by simp_all)
end
section
variable{X:Cx}{vs:List V}{kk:List (List NK)}
abbrev XW(vs:List V)(j:Nat):aF:=adr (vs.getD j .non)
noncomputable abbrev WB(kk:List (List NK))(j:Nat):List NK:=kk.getD j []
def kZ(r:cO X.K F ds vs)(k:vP ds=a_ kk){j:Nat}(l:j<kk.length):vs.getD j .non=.ref (XW vs j)/\XZ X.K F (WB kk j) (XW vs j):=by
 obtain⟨y,d⟩:=uN k;have c:j<ds.length:=ab l (af y);obtain⟨v,e,q⟩:=r.get (ae c);have g:=d j c;rw[show ds.getD j Dat.non=ds[j] by simp[c]]at g;obtain⟨a,rfl,z⟩:=NO g q;unfold XW;rw[show vs.getD j V.non=.ref a by simp[e]];exact⟨rfl,z⟩
theorem ET(d:vP ds=a_ kk):∀js:List Nat,(∀j∈js,j<kk.length)->jF (js.map λj=>ds.getD j Dat.non)=c_
 |[],_=>rfl
 |j::js,h=>by
   obtain⟨g,c⟩:=uN d;simp only[aq,jF,aj];exact⟨SM (c j (ab (h j jE) (af g))),ET d js λi hi=>h i (kD _ hi)⟩
def zK(o:Jy kk)(c:j<kk.length):(WB kk j).map sN=HG kk:=by
 have:=br.mp o.2.2.1 (kk.getD j []) (by simp_all);simpa using this
def MI(room:X.A.units+8<dh)(I:Inv X h_ σ H s)(g:Good F H)(r:cO X.K F ds vs)(y:vP ds=a_ kk)(o:Jy kk)(hl:kk.length<=300)
  (Z:DB X.prog X.w X.A s v (λus=>∃js,us=js.map (λj=>cW (XW vs j))/\Sel (WB kk) kk.length js))
  (k:∀w F' H',Step F H F' H'->Rep X.K F' (.lst ((gY vS (kk.map codeN)).map (Dl (HG kk)))) w->(c_=c_->fX X.K H H' (.lst ((gY vS (kk.map codeN)).map (Dl (HG kk)))) w)->Q w H') :
  aA (aD X.prog X.w) X.A (call (.builtin "sorted") [v]) (EP X h_ σ Q) X.xe s:=by
 obtain⟨U,D⟩:=uN y;obtain⟨b,hb⟩:=mz.mp o.1;have h3 :=λx hx=>br.mp o.2.1 x hx;have J:∀j,j<kk.length->∀k∈WB kk j,Ad (sN k)=c_:=λj c k y=>h3 _ (by rw[<-zK o c];exact cH y)
 have n2:∀js,Sel (WB kk) kk.length js->js.length=(gY vS (kk.map codeN)).length:=λjs sl=>by
  have:=(zN (λj c=>zK o c) h3 sl).length_eq
  rwa [aw]at this
 refine sorted_N (by show X.A.units+1+1+2<=dh;omega) (λj c=>JH I g (kZ r y c).2) (λj c=>zK o c) h3 hb
  (λA' E' Q' e k'=>Z A' E' Q' e λL h1 d1 M x1 x2 z=>k' L h1 d1 M x1 x2 (by obtain⟨js,z1,W⟩:=z;exact⟨js,z1,W,by rw[n2 js W];exact o.2.2.2⟩)) λhp3 d3 tk3 O js e3 R B g3 sl pw=>?_
 have d :=I.hok.fresh B;refine⟨.ref O,_,DS I R B g3 (zA js) (by rw[aw];have:=sl.len;exact ab this (ab hl (by decide))),rfl,?_⟩
 have eu :=
  (lH (λa b _ _ h h'=>Aq.tot _ _ h' h) (pw.imp λq=>Aq.OX q) ((jw Aq _).imp λq=>Aq.OX q) (zN (λj c=>zK o c) h3 sl)).symm
 have ed:(gY vS (kk.map codeN)).map (Dl (HG kk))=js.map λj=>ds.getD j .non:=by
  rw[eu,bS];refine cJ λj c=>?_;have l:=sl.lt j c;rw[<-zK o l];exact Fl (D j (ab l (af U))) (J j l)
 have er :=cJ λj c=>(kZ r y (sl.lt j c)).1.symm;have Y:=zR r λj c=>(ab (sl.lt j c) (af U))
 rw[er];rw[ed]at k;exact k (.ref O) _ _ (Step.alloc g d) ⟨O,_,rfl,.inl (.inl cu),Y.mono (bT.upd (g.sub.free d))⟩ λ_=>.lst (bT.refl _) d (.jO g (ET y js sl.lt) Y)
set_option tactic.hygienic true in
def IA(hh:X.A.handled=b_)(room:X.A.units+8<dh)(I:Inv X h_ σ H s)(g:Good F H)(t:mo X.K F l vs)(r:cO X.K F ds vs)
  (B:vP ds=a_ kk)(h2:wC kk=a_ (d,fr))(k:∀w F' H',Step F H F' H'->Rep X.K F' d w->(fr=c_->fX X.K H H' d w)->Q w H')
  (fin:∀S s2,aA (aD X.prog X.w) X.A (call (.builtin "sorted") [.ref S]) (EP X h_ σ Q) X.xe s2->Q1 (.ref S) s2):aA (aD X.prog X.w) X.A (call (.type "set") [.ref l]) Q1 E s:=by
 unfold wC at h2;split at h2
 ·rename_i hb;cases h2;obtain⟨its,M,pl,hz⟩:=I.lstR g t;obtain⟨U,W⟩:=uN B;have Y:=r.length;have il:its.length=kk.length:=by have:=M.length;omega
  have D:∀s2:ai,(∀b o,s.heap.get? b=a_ o->s2.heap.get? b=a_ o)->s2.TypeIs (.ref l) "list":=λs2 ex=>by
   obtain⟨o,e1,e2,_⟩:=pl.isList;exact⟨o,ex _ _ e1,e2⟩
  have hsz:its.toArray.size=kk.length:=by simp_all
  have c:=Y5 (prog:=X.prog) (w:=X.w) pl.isList;rw[hsz]at c;refine Gq hh D PySem.F.sub_list_set PySem.F.sub_list_frozenset (by decide) c (λi v O=>?_) (λj Z=>JH I g (kZ r B Z).2) hb.1 (by exact be (be (be room))) λh' tk y ex=>fin _ _ ?_
  ·have hi:i<kk.length:=by
    have:i<its.toArray.size:=by rcases bO.mp O with⟨q,_⟩;exact q
    simp_all
   obtain⟨u,hu,R⟩:=M.get (ae ((ab hi (ab (af U) (af Y.symm)))));have e1:its[i]?=a_ v:=by simpa using O
   rw[hu]at e1;cases e1;have:=(kZ r B hi).1;rw[show vs.getD i V.non=vs[i]'(by omega) by simp[show i<vs.length by omega]]at this;rw[this]at R;exact R
  ·exact MI room (I.kept ex) g r B hb.2 hb.1 (λA' E' Q' e k'=>Hh hh y hb.1 A' E' Q' e λJ h1 d1 L x1 x2 z=>k' J h1 d1 L x1 x2 z) k
 ·cases h2
end
section
variable{X:Cx}
set_option tactic.hygienic true in
def yO(D:X.A.units+21<dh)(c:X.calm=c_):km X (.builtin "sorted") (gL X.K (fQ .sorted)):=λh_ s σ H xs us Q I r h=>by
 obtain⟨da,d,fr,F,v,h1,rfl,g,z,k⟩:=pN mS h;obtain⟨u,rfl,B⟩:=vals1 r
 cases da with
 |str x=>
   cases z;obtain⟨tx,rfl⟩:=B;simp only[fQ,b1,UB,DT]at h1;split at h1
   ·rename_i j;cases h1;have y:(nR vA (eB x)).length=(eB x).length:=(kX _).length_eq;have hsz:(eB x).length=x.cps.size:=by simp[eB]
    refine VD I (aB (af y) j) (Lb (I.ok.hd c) (by exact be (ab (aB (af hsz.symm) j) (by decide)))) (λr hp hs=>HY P0 hp hs) y.symm λl q=>AV (fr:=c_) (d:=.non) g q k
   ·cases h1
 |_=>simp only[fQ,b1,UB]at h1;cases h1
end
noncomputable def kI:Key->Int
 |.inl i=>i
 |.inr _=>0
noncomputable def kS:Key->bc
 |.inl _=>""
 |.inr x=>x
theorem DL:∀{vs:List ah}{ks:List Key},hJ (λv k=>sO k v=c_) vs ks->(∀k∈ks,∃i,k=ck i)->pI vs (ks.map kS)
 |_,_,.nil,_=>.nil
 |_,_,.cons p q,h=>by
   obtain⟨i,rfl⟩:=h _ (.head _)
   rcases cG p with⟨j,t,e,_⟩|⟨x,t,e,rfl⟩
   ·cases e
   ·cases e;exact .cons _ _ (DL q λk c=>h k (.tail _ c))
theorem uI{α β γ:Type}{R:β->γ->Prop}{f:α->β}:∀{l:List α}{ks:List γ},hJ (λa c=>R (f a) c) l ks->hJ R (l.map f) ks
 |_,_,.nil=>.nil
 |_,_,.cons p q=>.cons p (uI q)
def JE{ks:List Key}(h:ks.Nodup)(ha:∀k∈ks,∃i,k=ck i):(ks.map kS).Nodup:=by
 unfold List.Nodup at *;rw[eV];refine iA ?_ h;intro a b d mb c e;obtain⟨i,rfl⟩:=ha a d;obtain⟨j,rfl⟩:=ha b mb;exact c (by simp only[kS]at e;rw[e])
section
variable{A:bP}{s:ai}
def Hg{is:List bc}(hh:A.handled=b_)(y:nJ (cv prog w) (nZ w) s.heap S n (λq=>∃j,j<is.length/\ck (is.getD j "")=q))(Z:n<=4000) :
  DB prog w A s (.ref S) (λvs=>∃c,pI vs c/\c.Perm (gY vA is)):=by
 obtain⟨es,ep,t,ks,L,yb,D,M,ye,l⟩:=y;have len:=kY D;rw[aY]at len;intro A' E' Q' e k;refine sZ (e.trans hh) L (by rw[gD];omega) λh1 d O vs ex sz pm=>k vs h1 d O ex sz ?_;obtain⟨U,W,J⟩:=lS pm (uI (R:=λv k=>sO k v=c_) D)
 have ha:∀k∈ks,∃i,k=ck i:=λk B=>by
  obtain⟨j,_,e⟩:=(l k).mp B;exact⟨_,e.symm⟩
 refine⟨_,DL W λk B=>ha k (J.mem_iff.mp B),(J.map kS).trans ?_⟩;rw[fG (JE M ha) (mN P0 (jw P0 is))];intro z;rw[jf P0,bQ];constructor
 ·rintro⟨q,hq,rfl⟩;obtain⟨j,g,e⟩:=(l q).mp hq;subst e;simp only[kS,lR,ae g,sv];exact bA g
 ·intro Y;obtain⟨j,g,rfl⟩:=cA.mp Y;refine⟨ck is[j],(l _).mpr ⟨j,g,?_⟩,rfl⟩;simp only[lR,ae g,sv]
def Y4:FI prog w h (.str x tx) x.cps.size (SignAt x):=by
 intro c d s1 Q1 sz ex k;refine wpAny_pyIter_str λo St W st=>k o [s1.heap.objs.size] St W (λb hb=>.inl (aL.mp hb)) st
def B6:isSubtype (.type "str") (.type "set")=pure d_:=by kernel_rfl
def B7:isSubtype (.type "str") (.type "frozenset")=pure d_:=by kernel_rfl
end
section
variable{X:Cx}
set_option tactic.hygienic true in
def MW(hu:X.A.units+21<dh)(D:X.calm=c_)(hg:Gl X "sorted")(hm:X.mg "sorted"=b_)(W:Gl X "set")(Y:X.mg "set"=b_)(ha:SE X C a xa)
  (hs:aO [a] X.env=[(d_,eval a X.env)]) :
  SE X C (.Call (.Name "sorted" p) [.Call (.Name "set" p2) [a] [] pos2] [] pos) (.blt .sset [xa]):=by
 intro h_ s σ H Q I h;obtain⟨ρ,d,fr,h,F,g,R,k⟩:=h;obtain⟨ds,h1,h2⟩:=cR h;obtain⟨⟨da,fa⟩,h3,h1⟩:=cR h1;cases h1;refine eT (k9 I hg hm (by decide +kernel:bootBuiltins "sorted"=a_ (.builtin "sorted")) (o8 ?_ rfl rfl));show aA _ _ (spliced ((d_,eval (.Call (.Name "set" p2) [a] [] pos2) X.env)::backTo pos [])) _ _ s;refine FU ?_;refine eT (k9 I W Y (by decide +kernel:bootBuiltins "set"=a_ (.type "set")) (c6 ?_ (by rw[hs];rfl) rfl));have Z :=jv ha ot (by rw[hs];rfl);have hev:mR C [xa] ρ=a_ [da]:=by simp_all
 refine iL (Z pos2 h_ s σ H (λvs O=>∃F1,Step F H F1 O/\cO X.K F1 [da] vs) I ⟨ρ,[da],hev,F,g,R,λvs F1 O B r1=>⟨F1,B,r1⟩⟩) λus s1 ⟨vs,O,I1,rv,F1,B,r1⟩=>?_;have hh:=I.ok.hd D;obtain⟨v,w,rfl,J,e⟩:=r1;cases e;obtain⟨u,rfl,ru⟩:=vals1 rv
 have L:∀{is:List bc} {n:Nat} {h':cc} {U:Nat} {S:aF},(d,fr)=(Dat.lst ((gY vA is).map .str),c_)->(gY vA is).length<64->(∀b o,s1.heap.get? b=a_ o->h'.get? b=a_ o)->n<=4000->
   nJ (cv X.prog X.w) (nZ X.w) h' S n (λq=>∃j,j<is.length/\ck (is.getD j "")=q)->
   aA (aD X.prog X.w) X.A (call (.builtin "sorted") [.ref S]) (EP X h_ σ Q) X.xe { s1 with heap:=h',toks:=U }:=by
  intro is n h' U S e h64 ex hn y;cases e;have I2:Inv X h_ σ O { s1 with heap:=h',toks:=U }:=I1.kept ex
  exact VD I2 h64 (Hg hh y hn) (λr hp hs=>lH (λa b _ _ h h'=>P0.tot _ _ h' h) hs ((jw P0 is).imp λq=>P0.OX q) hp) rfl
   λl hfr=>AV (fr:=c_) (d:=.non) B.good hfr λw F' H' st r f=>k w F' H' (B.trans st) r λz=>fX.back (F:=F1) B.hh (f z)
 cases da with
 |lst ds=>
   obtain⟨l,vs,rfl,t,r'⟩:=J;cases ru;obtain⟨kk,M,q2⟩:=cR h2;exact IA hh (by omega) I1 B.good t r' M q2 (λw F' H' st r f=>k w F' H' (B.trans st) r λz=>fX.back (F:=F1) B.hh (f z)) λS s2 q=>rm q
 |str x=>
   cases J;obtain⟨tx,rfl⟩:=ru;simp only[fQ,b1,UB,DR]at h2;have hl:(eB x).length=x.cps.size:=by simp[eB]
   split at h2
   ·rename_i hb;refine IJ (knd:=cv X.prog X.w) hh (λs2 _=>rfl) B6 B7 (by decide) Y4 (λi=>ck ((eB x).getD i "")) (λi v hv=>?_) (by unfold xF;omega) λh' U y ex=>?_
    ·obtain⟨c,u,M,rfl⟩:=hv
     have e:(eB x).getD i ""=⟨#[c]⟩:=by
      have hi:i<x.cps.size:=by rcases bO.mp M with⟨q,_⟩;exact q
      rw[aS hi]at M;cases M;simp[eB,hi]
     rw[e];exact⟨wQ _ u,rfl⟩
    ·refine rm ?_;rw[<-hl]at y;exact L (bx h2).symm hb.2 ex (be hb.1) y
   ·cases h2
 |_=>simp only[fQ,b1,UB]at h2;cases h2
end
noncomputable def posK(k:Key):List Key->Option Nat
 |[]=>b_
 |j::ks=>if j=k then a_ 0 else(posK k ks).map (·+ 1)
def SQ(op:Ht)(c:Dat)(ds:List Dat):Dat->Option Dat
 |.dct ks ws=>(yr c).bind λk=>(posK k ks).bind λj=>(ws[j]?).bind λe=>(kj op e ds).map λd=>.dct ks (ws.set j d)
 |_=>b_
def Wo(op:Ht)(i:Nat)(ρ:dv)(c:Dat)(ds:List Dat):g_->Option Out
 |some (d,c_)=>(SQ op c ds d).map λd'=>.nx (ρ.set i (a_ (d',c_)))
 |_=>b_
def Sx.U0(op:Ht)(i:Nat)(c:Ex)(es:List Ex):Sx:={ ex:=λC ρ=>(bu C c (full ρ)).bind λy=>(mP C es (full ρ)).bind λx=>if x.2=c_ then Wo op i ρ y.1 x.1 (ρ[i]?).join else b_ }
theorem Ef:∀{k_:List (Key×V)}{j:Nat}{v:V},posK k (k_.map (·.1))=a_ j->(k_.map (·.2))[j]?=a_ v->oj k_ k=a_ v
 |[],_,_,h,_=>by cases h
 |p::r,j,v,h,e=>by
   simp only[aq,posK]at h;by_cases q:p.1=k
   ·rw[if_pos q]at h;cases h;cases e;simp[oj,q]
   ·rw[if_neg q]at h;obtain⟨j',h1,rfl⟩:=dZ h;have:=Ef h1 e;unfold oj at this ⊢;rw[List.find?_cons_of_neg (by simpa using q)];exact this
section
variable{X:Cx}{K:Fg}
def VY:R2:=λx y H Q=>∃a k_ k w,x=.ref a/\y=kV k/\H a=a_ (.dK k_)/\oj k_ k=a_ w/\Q w H
def Tv(c:X.A.units+1<dh):UL X VY:=by
 intro value slice h_ s σ H x y v u Q I d g h hs;obtain⟨a,k_,k,w,rfl,rfl,j,l,q⟩:=h;cases d;have dg:Bw H a (kV k) (a_ w):=by rw[<-l];exact Bw.k j
 exact Ma (sW I dg) vo.lookup (xp c I dg g λB s' I' z=>⟨w,H,I',z,q⟩) hs
def cV.at (o:cV K H ds vs S)(y:ds[k]?=a_ e) :
  ∃v g j l,vs[k]?=a_ v/\lK K H e v j/\S=g++(j++l)/\cV K H (ds.take k) (vs.take k) g/\cV K H (ds.drop (k+1)) (vs.drop (k+1)) l/\vs=vs.take k++v::vs.drop (k+1):=by
 obtain⟨g,L,z,q,rfl⟩:=o.take k;have c :=(aN.mp y).1
 have hd:ds.drop k=e::ds.drop (k+1):=by
  rw[fR c]
  simp_all
 rw[hd]at q;obtain⟨v,r,j,l,e1,B,D,rfl⟩:=q;have d:k<vs.length:=by rw[o.length];exact c
 have J :=fR d;rw[J]at e1;obtain⟨rfl,rfl⟩:=dQ e1;exact⟨_,g,j,l,ae d,B,rfl,z,D,by simp⟩
structure Chg(K:Fg)(H:Hp)(op:Ht)(p l:aF)(d':Dat)(ws:List V)(S T:List aF)(ob':HO)(S':List aF):Prop where
 own:lK K (upd H l ob') d' (.ref p) S'
 nd:S'.Nodup
 sub:∀a∈S',a∈S\/a∈T
def NW{T:List aF}(h1:op≠.ext)(h2:op≠.dput)(h0:op≠.seti)(D:bT H H')(hj:ws[j]?=a_ e)(J:kj op e ds=a_ e')(o:lK K H (.dct ks ws) v S)(nd:S.Nodup)
  (a:cV K H' ds us T)(nt:T.Nodup)(dj:∀a∈S,a∉T):∃p k_ l xs L ob' S',v=.ref p/\H p=a_ (.dK k_)/\k_.map (·.1)=ks/\(k_.map (·.2))[j]?=a_ (.ref l)/\H l=a_ (.lst xs)/\l∈S/\H' l=a_ L/\zi op L us=a_ ob'/\Hu ob'/\Chg K H' op p l (.dct ks (ws.set j e')) us S T ob' S':=by
 obtain⟨p,k_,S0,rfl,hp,rfl,os,rfl⟩:=o;obtain⟨vk,M,S2,O,f1,f2,f3,f4,f5,f6⟩:=os.at hj;subst f3
 have R:∃l xs,vk=.ref l/\H l=a_ (.lst xs):=by
  cases e with
  |lst ls=>obtain⟨l,xs,S',rfl,hl,_⟩:=id f2;exact⟨l,xs,rfl,hl⟩
  |dct ks ws=>cases op<;>first|exact absurd rfl h1|exact absurd rfl h2|exact absurd rfl h0|cases J
  |dcn _=>cases op<;>first|exact absurd rfl h1|exact absurd rfl h2|cases J
  |_=>cases op<;>cases J
 obtain⟨l,xs,rfl,hl⟩:=R;have d:=aT.mp nd;have U:=jW d.2;have W:=jW U.2.1
 have g:∀a,a∈M\/a∈S2\/a∈O->a∈p::(M++(S2++O)):=λa m=>kD _ (by
  rcases m with m|m|m
  ·exact aH _ m
  ·exact ak _ (aH _ m)
  ·exact ak _ (ak _ m))
 obtain⟨l2,L,ob',S',ev,c,k,y,mu,o2,Y,Z⟩:=yh h1 h2 J (f2.mono D) W.1 a nt λa m=>dj a (g a (.inr (.inl m)));cases ev
 have B:∀us,H' l≠a_ (.tup us):=λus z=>by rw[k]at z;cases z;cases op<;>first|exact absurd rfl h1|exact absurd rfl h2|cases y
 have hl1 :=λm=>U.2.2 l m (aH _ c);have hl3 :=λm=>W.2.2 l c m;have hpl:p≠l:=λz=>d.1 (z▸ak _ (aH _ c));refine⟨p,k_,l,xs,L,ob',p::(M++(S'++O)),rfl,hp,rfl,f1,hl,g l (.inr (.inl c)),k,y,mu,⟨p,k_,M++(S'++O),rfl,(cD hpl).trans (D _ _ hp),rfl,?_,rfl⟩,?_,λa m=>?_⟩
 ·have q:=((f4.mono D).upd B _ hl1).append ((cV.one o2).append ((f5.mono D).upd B _ hl3))
  have ed:ws.set j e'=ws.take j++([e']++ws.drop (j+1)):=by
   rw[rq,if_pos (aN.mp hj).1];rfl
  rw[ed];exact f6.symm▸q
 ·refine aT.mpr ⟨λm=>?_,iE U.1 (iE Y W.2.1 λa m m3=>?_) λa m m2=>?_⟩
  ·rcases aE.mp m with m|m
   ·exact d.1 (aH _ m)
   ·rcases aE.mp m with m|m
    ·rcases Z p m with z|z
     ·exact d.1 (ak _ (aH _ z))
     ·exact dj p jE z
    ·exact d.1 (ak _ (ak _ m))
  ·grind
  grind
 grind
def JO(h:nE C (.U0 op i ke es) ρ=a_ out) :
  ∃l y k ds ks ws j e v,bu C ke (full ρ)=a_ (l,y)/\yr l=a_ k/\mP C es (full ρ)=a_ (ds,c_)/\ρ[i]?=a_ (a_ (.dct ks ws,c_))/\posK k ks=a_ j/\ws[j]?=a_ e/\kj op e ds=a_ v/\out=.nx (ρ.set i (a_ (.dct ks (ws.set j v),c_))):=by
 obtain⟨⟨l,y⟩,B,h⟩:=cR h;obtain⟨⟨ds,al⟩,h3,h⟩:=cR h;by_cases g:al=c_
 ·subst g
  cases q:ρ[i]? with
  |none=>rw[q]at h;cases h
  |some z=>
    rw[q]at h
    match z,h with
    |some (d,c_),h=>
      obtain⟨d',c,h5⟩:=dZ h
      cases d with
      |dct ks ws=>
        obtain⟨k,D,c⟩:=cR c;obtain⟨j,J,c⟩:=cR c;obtain⟨e,L,c⟩:=cR c;obtain⟨v,M,rfl⟩:=dZ c;exact⟨l,y,k,ds,ks,ws,j,e,v,B,D,h3,rfl,J,L,M,h5.symm⟩
      |_=>cases c
 ·rw[if_neg g]at h;cases h
def JN(h1:op≠.ext)(h2:op≠.dput)(h0:op≠.seti){D:Ends}(h:gS K C (.U0 op i ke es) D σ H) :
  ∃p,σ[i]?=a_ (a_ (.ref p))/\gE K C ke σ H λY d=>∃k_ k l xs,Y=kV k/\d p=a_ (.dK k_)/\oj k_ k=a_ (.ref l)/\d l=a_ (.lst xs)/\gF K C es σ d λws H2=>∃g ob',H2 l=a_ g/\zi op g ws=a_ ob'/\D.nx σ (upd H2 l ob'):=by
 obtain⟨Fz,H₀,F,ρ,out,h,R,kq⟩:=h;obtain⟨kd,fk,k,ds,ks,ws,j,e,e',g1,J,g3,hi,g4,Z,y,rfl⟩:=JO h;obtain⟨Ss,O⟩:=R.ow;obtain⟨v,e1,e2,e3,e4⟩:=O.own i _ hi;obtain⟨p,k_,S0,rfl,hp,L,os,eS⟩:=id e2;obtain⟨Fp,sp,Rp⟩:=R.jg;refine⟨p,e1,_,kd,fk,g1,Fp,Rp.step.good,Rp.full,λY F1 d M r1 _=>?_⟩;obtain rfl:=uW J r1;have c:=Step.shrink R.step.good sp M;have U:=R.moved c;have O1:=O.moved c;obtain⟨vk,S1,S2,S3,f1,f2,f3,f4,f5,f6⟩:=os.at Z
 have W:∃l xs,vk=.ref l/\H l=a_ (.lst xs):=by
  cases e with
  |lst ls=>obtain⟨l,xs,S',rfl,hl,_⟩:=id f2;exact⟨l,xs,rfl,hl⟩
  |dct ks ws=>cases op<;>first|exact absurd rfl h1|exact absurd rfl h2|exact absurd rfl h0|cases y
  |dcn _=>cases op<;>first|exact absurd rfl h1|exact absurd rfl h2|cases y
  |_=>cases op<;>cases y
 obtain⟨l,xs,rfl,hl⟩:=W;refine⟨k_,k,l,xs,rfl,c.hh _ _ hp,Ef (by rw[L];exact g4) f1,c.hh _ _ hl,yG U g3 λus F' H' T st ow nT z=>?_⟩;have O':=O1.moved st;have R':=U.moved st
 have dj:∀a∈Ss i,a∉T:=λa m m2=>by
  obtain⟨u,B,_⟩:=e2.vd _ a m;have:=c.hh _ _ B;rw[(z a m2).1]at this;cases this
 obtain⟨p',kvs',l',xs',g,ob',S',q1,q2,q3,q4,q5,q6,q7,q8,q9,ch⟩:=NW h1 h2 h0 (c.hh.trans st.hh) Z y e2 e3 ow nT dj;cases q1;rw[hp]at q2;cases q2;rw[f1]at q4;cases q4;refine⟨g,ob',q7,q8,kq F' _ σ (c.ff.trans st.ff) (R'.mut O' hi e1 q6 q9 ch.own ch.nd λa m=>?_)⟩
 rcases ch.sub a m with m|m
 ·exact .inl m
 ·refine .inr ⟨(z a m).2,?_,λj d2 q m2=>?_⟩
  ·exact U.step.hh.free (z a m).1
  ·obtain⟨w,_,J,_⟩:=O1.own j d2 q;obtain⟨u,B,_⟩:=J.vd _ a m2;rw[(z a m).1]at B;cases B
def QU{st:kK}(h1:op≠.ext)(h2:op≠.dput)(h3:op≠.seti)(v:∀l c ob' vs H Q,H l=a_ c->zi op c vs=a_ ob'->(∀u,Q u (upd H l ob'))->r (.ref l) vs H Q)
  (y:PS X st (zC (QD X.K "list" r (Pr VY (B4 i) (gE X.K C ke)) (gF X.K C es)))):SS X C st (.U0 op i ke es):=PS.imp y λD σ H h=>by
 obtain⟨p,e1,g⟩:=JN h1 h2 h3 h;refine⟨.ref p,e1,lU g λL M s1 z=>?_⟩;obtain⟨k_,k,l,xs,rfl,d,j,q,B⟩:=z;refine⟨p,k_,k,.ref l,rfl,rfl,d,j,.inl ⟨rfl,xs,mo.of q⟩,?_⟩;obtain⟨ρ,ds,al,h,F,J,R,k⟩:=B;exact⟨ρ,ds,al,h,F,J,R,λvs F' H' st r f=>let ⟨c,ob',d,j,q⟩:=k vs F' H' st r f;v l c ob' vs H' _ d j λ_=>q⟩
end
end M
namespace L2
open PySem PySem.Spec PyProof.Rows
noncomputable abbrev U7:List (bc×ah):=[((("default":String):bc),eU)]
noncomputable def LQ(f:Nat->Int):Nat->Nat->Option Nat->Option Nat
 |0,_,m=>m
 |k+1,j,b_=>LQ f k (j+1) (a_ j)
 |k+1,j,a_ i=>LQ f k (j+1) (a_ (if f j<f i then j else i))
def bestOf(P:Nat->ah->Prop):Option Nat->ah->Prop
 |none,v=>v=.none
 |some i,v=>P i v
def heldBy(P:Nat->ah->Prop)(vs:Array ah):Option Nat->Prop
 |none=>vs=#[]
 |some i=>∃b,P i b/\vs=#[b,b]
section
variable{A:bP}{St:Nat->cc->Prop}
def N1(W:Walks prog w A.in1 I fp wr n P St)(Z:CmpOf prog w A.in1 .Lt P λi j=>decide (f i<f j))(hf:S∉fp):∀(k j:Nat) (s:ai) (m:Option Nat) (vs:Array ah) (c:Nat),n - j=k->j<=n->St j s.heap->heldBy P vs m->
  s.heap.get? S=a_ { cls:=.type "list",dict:=b_,data:=.seq vs c,slots:=#[] }->
  (∀v h' J,bestOf P (LQ f k j m) v->(∀b o,b∉wr->b≠S->s.heap.get? b=a_ o->h'.get? b=a_ o)->R (.ok (.ret v)) { s with heap:=h',toks:=J })->
  codeAny (aD prog w) A (.builtin "min.loop" ⟨[.ref I,.none,.ref S],U7⟩) R s:=by
 have Y :=λh=>hf (W.sub _ h);intro k
 induction k with
 |zero=>
   intro j s m vs c hk hj st L ho fin;have e:j=n:=by omega
   refine dS xN (by
    refine wb9 (cU ho rfl ?_);refine wb9 (BJ (W.done s _ _ (e▸st) λh' J fr=>?_))
    cases m with
    |none=>
      cases L;exact wb9 (fS (wu9 (fin _ h' J rfl λb o x _ e=>fr b o x e)))
    |some i=>
      obtain⟨b,hb,rfl⟩:=L;have d:=fr S _ Y ho
      exact wb9 (iM d rfl (wb9 (lD (wu9 (fin b _ J hb λb o x y e=>(dk _ _ (eQ y)).trans (fr b o x e)))))))
 |succ k U=>
   intro j s m vs c hk hj st L ho fin;have lt:j<n:=by omega
   refine dS xN (by
    refine wb9 (cU ho rfl ?_);refine wb9 (BJ (W.item j s _ _ lt st λv h' J hp D fr=>?_));have d:=fr S _ Y ho;have keep:∀g:kL->kL,∀b∈fp,∀o,h'.get? b=a_ o->(h'.update S g).get? b=a_ o:=λg b hb o e=>(dk _ _ (λz:S=b=>hf (by rw[z];exact hb))).trans e
    cases m with
    |none=>
      cases L;refine wb9 (m:=updateSeq S λ_=>#[v,v]) (iM d rfl ?_)
      exact wu9 ⟨fM jm _,U (j+1) _ (a_ j) #[v,v] _ (by omega) lt (W.frame _ _ _ D (keep _)) ⟨v,hp,rfl⟩ (eG _ d rfl) λM h2 l hb B=>
       fin M h2 l hb λb o x y e=>B b o x y ((dk _ _ (eQ y)).trans (fr b o x e))⟩
    |some i=>
      obtain⟨b0,O,rfl⟩:=L;refine wb9 (m:=tryCatch (holding [v,v] (richCompare .Lt v b0 >>= _)) _) (BJ (bR (wb9 (Z j i v b0 _ _ _ hp O ?_))));refine wb9 (bR (gC (wb9 (lD (wu9 ?_)))));have em:LQ f (k+1) j (a_ i)=LQ f k (j+1) (a_ (if f j<f i then j else i)):=rfl;rw[em]at fin;by_cases q:f j<f i
      ·rw[if_pos q]at fin;simp only[decide_eq_true q,if_true];refine wb9 (iM d rfl (wb9 (lD ?_)))
       exact wu9 ⟨fM jm _,U (j+1) _ (a_ j) #[v,v] _ (by omega) lt (W.frame _ _ _ D (keep _)) ⟨v,hp,rfl⟩ (eG _ d rfl) λM h2 l hb B=>
        fin M h2 l hb λb o x y e=>B b o x y ((dk _ _ (eQ y)).trans (fr b o x e))⟩
      ·rw[if_neg q]at fin;simp only[decide_eq_false q,bM,if_false];refine wb9 (lD ?_)
       exact wu9 ⟨fM jm _,U (j+1) _ (a_ i) #[b0,b0] c (by omega) lt D ⟨b0,O,rfl⟩ d λM h2 l hb B=>fin M h2 l hb λb o x y e=>B b o x y (fr b o x e)⟩)
end
def Ls(a:ah):argsOk "min" ⟨[a],U7⟩:=by kernel_rfl
section
variable{A:bP}{s:ai}
def Lf(hh:A.handled=b_)(hl:s.heap.IsList l (intItems xs))
  (k:∀v h' c,bestOf (λi v=>(intItems xs)[i]?=a_ v) (LQ (numAt xs) xs.size 0 b_) v->(∀b o,s.heap.get? b=a_ o->h'.get? b=a_ o)->Q v { s with heap:=h',toks:=c }) :
  aA (aD prog w) A (call (.builtin "min") [.ref l] U7) Q E s:=by
 refine wpAny_call (lE PySem.F.plain_min PySem.F.entry_min ?_)
 have main:aA (aD prog w) A.in1 (fI.«min» ⟨[.ref l],U7⟩) (λfin s'=>match fin with
   |.done f=>(match(Except.ok f)with | .ok (.ret v)=>Q v s' | .ok _=>False | .error e=>E e s')
   |.again y=>y.quiet=c_/\codeAny (aD prog w) A y (λr s'=>match r with | .ok (.ret v)=>Q v s' | .ok _=>False | .error e=>E e s') s') E s:=by
  refine wb9 (j3 (rfl) (wb9 (wu9 (wb9 (iter_intList hl λs2 e st d ne=>?_)))));subst e;refine wb9 (df ?_);have sz:(intItems xs).size=xs.size:=by simp[intItems]
  have W:=Walks.list (prog:=prog) (w:=w) (A:=A.in1) hh s.heap.objs.size l ne (intItems xs);refine wu9 ⟨fM jm _,N1 W (CmpOf.ints_lt (numAt xs) λ_ _=>intItems_at) (λz=>bC _ (d _ z)) _ 0 _ b_ #[] _ rfl (aP _) (W.frame _ _ _ st λb _ o e=>hp9 _ e) rfl (aG _ rfl) λv h' c hb fr=>?_⟩;rw[sz]at hb
  exact k v h' c hb λb o e=>by
   have e1:=hp9 ({ cls:=.type "list_iterator",data:=.fields #[.ref l,.int 0 0] }) e
   exact fr b o (λm=>by
    rcases au.mp m with rfl|m
    ·exact absurd (hl9 e) (bC _)
    ·cases m) (bo (hl9 e1)) (hp9 _ e1)
 have ha:=Ls (.ref l)
 cases q:Manifest.signature? "min" with
 |none=>exact wu9 main
 |some g=>
   have j:Bind.checkArgs "min" g ⟨[.ref l],U7⟩=pure ():=by simpa only[argsOk,q]using ha
   simp only[j];exact wu9 main
end
end L2
namespace M
open PySem PySem.Spec PyProof.Rows L2
noncomputable def SX:Int->List Int->Int
 |i,[]=>i
 |i,j::r=>SX (if j<i then j else i) r
def NY:Dat->g_
 | .lst ds=>(sP ds).map λis=>match is with
   |[]=>(.non,d_)
   |i::r=>(.int (SX i r),d_)
 |_=>b_
def Ex.YM(a:Ex):Ex:=⟨a.fv,λC ρ=>(bu C a ρ).bind λx=>NY x.1⟩
theorem EC(f:Nat->Int):∀(k j i:Nat),(LQ f k j (a_ i)).map f=a_ (SX (f i) ((List.range' j k).map f))
 |0,_,_=>rfl
 |k+1,j,i=>by
   show(LQ f k (j+1) (a_ (if f j<f i then j else i))).map f=_;rw[EC f k (j+1) _,LJ,aq];simp only[SX];split<;>rfl
section
variable{X:Cx}
def Yv(K:Fg):List V->Hp->VK->Prop:=gL K (b1 NY)
def SV(l:X.calm=c_)(I:Inv X h_ σ H s)(r:cF vs us)(h:Yv X.K vs H Q) :
  aA (aD X.prog X.w) X.A (call (.builtin "min") us U7) (EP X h_ σ Q) X.xe s:=by
 obtain⟨da,d,fr,F,v,h1,rfl,g,M,k⟩:=pN (λ_ _ _ h=>Lr h) h
 cases da with
 |lst ds=>
   obtain⟨is,hb,h1⟩:=dZ h1;obtain⟨q,O,rfl,t,R⟩:=M;obtain⟨its,U,pl,_⟩:=I.lstR g t;obtain⟨u,rfl,W⟩:=vals1 r;cases W;have B:=wY hb R U;obtain⟨xs,e⟩:=B.allInts.items;have hl:=pl.isList;rw[e]at hl
   have D:xs.toList.map (·.1)=is:=by
    have h1:=nums_intItems xs;rw[<-e]at h1;exact h1.symm.trans B.numsOf
   refine Lf (I.ok.hd l) hl λv h' tk y J=>?_
   cases is with
   |nil=>
     cases h1;have h0:xs.size=0:=by simp_all
     rw[h0]at y;rw[y];exact⟨.non,H,I.kept J,rfl,k _ F H (Step.refl g) rfl a8⟩
   |cons i is=>
     cases h1;have h0:xs.size=is.length+1:=by simpa using congrArg fj D
     have Y:=EC (numAt xs) is.length 1 0;have Z:LQ (numAt xs) xs.size 0 b_=LQ (numAt xs) is.length 1 (a_ 0):=by rw[h0];rfl
     rw[Z]at y;obtain⟨r,hr,z⟩:=dZ Y;rw[hr]at y;obtain⟨t,rfl⟩:=intItems_at (y)
     have c:(List.range' 0 xs.size).map (numAt xs)=i::is:=by
      rw[<-D];refine jK λj=>?_;by_cases L:j<xs.size
      ·simp[L,numAt]
      ·simp[L]
     rw[h0,LJ]at c;obtain⟨e0,e1⟩:=dQ c;rw[z,e0,e1];exact⟨.int _,H,I.kept J,⟨_,rfl⟩,k _ F H (Step.refl g) rfl a8⟩
 |_=>cases h1
def Rr(g:X.calm=c_)(k:Gl X "min")(l:X.mg "min"=b_)(ha:SA X C [e] [xa])(j:aO [e] X.env=(d_,eval e X.env)::aO [] X.env) :
  SE X C (.Call (.Name "min" p) [e] [⟨a_ "default",.Constant .none c cp,kp⟩] pos) (.YM xa):=
 PE.imp (λh_ s σ H Q I h=>by
  refine eT (k9 I k l PyProof.Rows.boot_min ?_ (by decide) (by decide))
  exact callWith_kw (iL (ha pos h_ s σ H _ I h) λus s1 ⟨vs,z,q,v,y⟩=>kws_cons (Constant_none (kws_nil (SV g q v y)))) (by rw[j];rfl) (by rw[j];rfl) rfl rfl)
  (qL λρ d fr h=>by
   obtain⟨x,h1,h2⟩:=cR h
   exact⟨[x.1],by show(bu C xa ρ).bind _=_;rw[h1];rfl,h2⟩)
end
def JM(op:Ht)(ds:List Dat):Dat->Dat->Option Dat
 |.lst ws,.int k=>(zj ws.length k).bind λj=>(ws[j]?).bind λe=>(kj op e ds).map λc=>.lst (ws.set j c)
 |_,_=>b_
def NV(op:Ht)(i:Nat)(ρ:dv)(c:Dat)(ds:List Dat):g_->Option Out
 |some (d,c_)=>(JM op ds d c).map λd'=>.nx (ρ.set i (a_ (d',c_)))
 |_=>b_
def Sx.PZ(i:Nat)(c d xe:Ex):Sx:={ ex:=λC ρ=>(bu C xe (full ρ)).bind λx=>if im x.1=c_ then(bu C c (full ρ)).bind λy=>(bu C d (full ρ)).bind λz=>NV .seti i ρ y.1 [x.1,z.1] (ρ[i]?).join else b_ }
def Sx.U2(i:Nat)(c xe:Ex):Sx:={ ex:=λC ρ=>(bu C c (full ρ)).bind λy=>(bu C xe (full ρ)).bind λx=>if im x.1=c_ then NV .app i ρ y.1 [x.1] (ρ[i]?).join else b_ }
section
variable{K:Fg}
def EA(h:NV op i ρ kd ds (ρ[i]?).join=a_ out) :
  ∃ws k j e g,kd=.int k/\ρ[i]?=a_ (a_ (.lst ws,c_))/\zj ws.length k=a_ j/\ws[j]?=a_ e/\kj op e ds=a_ g/\out=.nx (ρ.set i (a_ (.lst (ws.set j g),c_))):=by
 cases q:ρ[i]? with
 |none=>rw[q]at h;cases h
 |some z=>
   rw[q]at h
   match z,h with
   |some (d,c_),h=>
     obtain⟨d',c,h5⟩:=dZ h
     cases d with
     |lst ws=>
       cases kd with
       |int k=>
         obtain⟨j,l,c⟩:=cR c;obtain⟨e,v,c⟩:=cR c;obtain⟨g,y,rfl⟩:=dZ c;exact⟨ws,k,j,e,g,rfl,rfl,l,v,y,h5.symm⟩
       |_=>cases c
     |_=>cases c
def Ez(h1:op≠.ext)(h2:op≠.dput)(y:bT H H')(hj:ws[j]?=a_ e)(hm:kj op e ds=a_ e')(o:lK K H (.lst ws) v S)(nd:S.Nodup)(a:cV K H' ds us []) :
  ∃p vs l B ob' S',v=.ref p/\H p=a_ (.lst vs)/\vs.length=ws.length/\vs[j]?=a_ (.ref l)/\l∈S/\H' l=a_ B/\zi op B us=a_ ob'/\Hu ob'/\lK K (upd H' l ob') (.lst (ws.set j e')) (.ref p) S'/\S'.Nodup/\∀a∈S',a∈S:=by
 obtain⟨p,vs,S0,rfl,hp,os,rfl⟩:=o;have hlen:=os.length;obtain⟨vk,D,S2,J,f1,f2,f3,f4,f5,f6⟩:=os.at hj;subst f3;have M:=aT.mp nd;have O:=jW M.2;have L:=jW O.2.1;obtain⟨l,B,ob',S',rfl,c,d,g,mu,o2,R,U⟩:=yh h1 h2 hm (f2.mono y) L.1 a eR λa _ m=>by cases m
 have W :=λa m=>(U a m).elim id λz=>by cases z
 have k:∀us,H' l≠a_ (.tup us):=λus z=>by rw[d]at z;cases z;cases op<;>first|exact absurd rfl h1|exact absurd rfl h2|cases g
 have Y :=λm=>O.2.2 l m (aH _ c);have Z :=λm=>L.2.2 l c m;have hpl:p≠l:=λz=>M.1 (z▸ak _ (aH _ c))
 have sub:∀a∈D++(S'++J),a∈D++(S2++J):=λa m=>by
  rcases aE.mp m with m|m
  ·exact aH _ m
  grind
 refine⟨p,vs,l,B,ob',p::(D++(S'++J)),rfl,hp,hlen,f1,kD _ (ak _ (aH _ c)),d,g,mu,⟨p,vs,D++(S'++J),rfl,(cD hpl).trans (y _ _ hp),?_,rfl⟩,?_,λa m=>?_⟩
 ·have q:=((f4.mono y).upd k _ Y).append ((cV.one o2).append ((f5.mono y).upd k _ Z))
  have ed:ws.set j e'=ws.take j++([e']++ws.drop (j+1)):=by
   rw[rq,if_pos (aN.mp hj).1];rfl
  rw[ed];exact f6.symm▸q
 ·exact aT.mpr ⟨λm=>M.1 (sub p m),iE O.1 (iE R L.2.1 λa m m3=>L.2.2 a (W a m) m3) λa m m2=>by
   grind⟩
 grind
def Rl.ask(R:Rl K Fz H₀ F H σ ρ)(h:bu C x (M.full ρ)=a_ (d,fr))
  (k:∀v F1 c,Step F H F1 c->(im d=c_->∀H2,bT c H2->lK K H2 d v [])->(∀k,yr d=a_ k->v=kV k)->(∀i,d=.int i->v=.int i)->Q v c):gE K C x σ H Q:=by
 obtain⟨y,sp,l⟩:=R.jg;refine⟨_,d,fr,h,y,l.step.good,l.full,λv F1 c g j _=>k v _ c (Step.shrink R.step.good sp g) (λm H2 s2=>lK.jO (λa o e=>s2 a o (g.good.sub a o e)) d m j) (λk q=>uW q j) λi q=>?_⟩;rw[q]at j;exact j
set_option tactic.hygienic true
def JQ{D:Ends}(h:gS K C (.PZ i ke xi xe) D σ H) :
  gE K C xe σ H λv H1=>∃p,σ[i]?=a_ (a_ (.ref p))/\gE K C ke σ H1 λkv H2=>∃xs k l,kv=.int k/\H2 p=a_ (.lst xs)/\qK xs k=a_ (.ref l)/\gE K C xi σ H2 λJ z=>∃L ob',z l=a_ L/\zi .seti L [v,J]=a_ ob'/\D.nx σ (upd z l ob'):=by
 obtain⟨Fz,H₀,F,ρ,out,h,R,kq⟩:=h;obtain⟨⟨d,fd⟩,h1,h⟩:=cR h;split at h
 ·rename_i hd;obtain⟨⟨kd,fk⟩,h2,h⟩:=cR h;obtain⟨⟨M,fz⟩,h3,h⟩:=cR h;obtain⟨ws,k,j,e,e',rfl,hi,g1,g2,B,rfl⟩:=EA h;refine R.ask h1 λv F1 H1 g ow _ _=>?_;have R1:=R.moved g;obtain⟨Ss,O⟩:=R.ow;obtain⟨v0,e1,e2,e3,e4⟩:=O.own i _ hi;obtain⟨p,xs,S0,rfl,hp,os,eS⟩:=id e2;refine⟨p,e1,R1.ask h2 λkv F2 H2 c _ _ hk=>?_⟩;have R2:=R1.moved c;obtain⟨vk,S1,S2,S3,f1,f2,f3,f4,f5,f6⟩:=os.at g2
  have U:im M=c_:=by
   cases e with
   |lst ls=>
     cases M with
     |int n=>rfl
     |_=>cases B
   |dct ks ws=>
     obtain⟨kz,q,_⟩:=cR (B)
     cases M with
     |int n=>rfl
     |str n=>rfl
     |_=>cases q
   |_=>cases B
  have W:∃l,vk=.ref l:=by
   cases e with
   |lst ls=>obtain⟨l,xs,S',rfl,hl,_⟩:=id f2;exact⟨l,rfl⟩
   |dct ks ws=>obtain⟨l,xs,S',rfl,hl,_⟩:=id f2;exact⟨l,rfl⟩
   |_=>cases B
  obtain⟨l,rfl⟩:=W;refine⟨xs,k,l,hk k rfl,c.hh _ _ (g.hh _ _ hp),by unfold qK;rw[os.length,g1];exact f1,R2.ask h3 λJ F3 z y Y hz hn=>?_⟩;have sm:=(g.hh.trans c.hh).trans y.hh;obtain⟨p',vs',l',L,ob',S',q1,q2,q3,q4,q6,q7,q8,q9,Z,q11,q12⟩:=Ez (by simp) (by simp) sm g2 B e2 e3 ⟨v,[J],[],[],rfl,ow hd z (c.hh.trans y.hh),⟨J,[],[],[],rfl,Y U z (λ_ _ e=>e),⟨rfl,rfl⟩,rfl⟩,rfl⟩;cases q1;rw[hp]at q2;cases q2;rw[f1]at q4;cases q4;exact⟨L,ob',q7,q8,kq F3 _ σ ((g.ff.trans c.ff).trans y.ff) ((R2.moved y).mut (((O.moved g).moved c).moved y) hi e1 q6 q9 Z q11 λa m=>.inl (q12 a m))⟩
 ·cases h
def JR{D:Ends}(h:gS K C (.U2 i ke xe) D σ H) :
  ∃p,σ[i]?=a_ (a_ (.ref p))/\gE K C ke σ H λM q=>∃xs k l ys,M=.int k/\q p=a_ (.lst xs)/\qK xs k=a_ (.ref l)/\q l=a_ (.lst ys)/\gE K C xe σ q λv H2=>∃y ob',H2 l=a_ y/\zi .app y [v]=a_ ob'/\D.nx σ (upd H2 l ob'):=by
 obtain⟨Fz,H₀,F,ρ,out,h,R,kq⟩:=h;obtain⟨⟨kd,fk⟩,h1,h⟩:=cR h;obtain⟨⟨d,fd⟩,h2,h⟩:=cR h;split at h
 ·rename_i hd;obtain⟨ws,k,j,e,e',rfl,hi,g1,U,W,rfl⟩:=EA h;obtain⟨Ss,O⟩:=R.ow;obtain⟨v0,e1,e2,e3,e4⟩:=O.own i _ hi;obtain⟨p,xs,S0,rfl,hp,os,eS⟩:=id e2;refine⟨p,e1,R.ask h1 λM F1 q c _ _ hk=>?_⟩;have Y:=R.moved c;obtain⟨vk,S1,S2,S3,Z,f2,f3,f4,f5,f6⟩:=os.at U
  have z:∃l ys,vk=.ref l/\H l=a_ (.lst ys):=by
   cases e with
   |lst ls=>obtain⟨l,ys,S',rfl,hl,_⟩:=id f2;exact⟨l,ys,rfl,hl⟩
   |_=>cases W
  obtain⟨l,ys,rfl,hl⟩:=z;refine⟨xs,k,l,ys,hk k rfl,c.hh _ _ hp,by unfold qK;rw[os.length,g1];exact Z,c.hh _ _ hl,Y.ask h2 λv F2 H2 g ow _ _=>?_⟩;obtain⟨p',vs',l',y,ob',S',q1,q2,q3,q4,q6,q7,q8,q9,B,J,L⟩:=Ez (by simp) (by simp) (c.hh.trans g.hh) U W e2 e3 ⟨v,[],[],[],rfl,ow hd H2 (λ_ _ e=>e),⟨rfl,rfl⟩,rfl⟩;cases q1;rw[hp]at q2;cases q2;rw[Z]at q4;cases q4;exact⟨y,ob',q7,q8,kq F2 _ σ (c.ff.trans g.ff) ((Y.moved g).mut ((O.moved c).moved g) hi e1 q6 q9 B J λa m=>.inl (L a m))⟩
 ·cases h
def QV{st:kK}(z:PS X st (Gg (gE X.K C xe) (TK (Pr (RQ X.K) (B4 i) (gE X.K C ke)) (gE X.K C xi) (λo i v H Q=>D8 o i v H Q\/Ja o i v H Q)))):SS X C st (.PZ i ke xi xe):=PS.imp z λD σ H h=>by
 refine lU (JQ h) λv W s1 ⟨p,e1,g⟩=>⟨.ref p,e1,lU g λY H2 s2 ⟨xs,k,l,e2,hp,ha,B⟩=>⟨p,xs,k,.ref l,rfl,e2,mo.of hp,ha,lU B λy Z s3 ⟨J,ob',d,c,q⟩=>?_⟩⟩
 cases J with
 |lst ys=>
   cases y with
   |int n=>
     simp only[zi,JB]at c;split at c
     ·obtain⟨zs,L,M⟩:=dZ c;cases M;obtain⟨j,O,rfl⟩:=dZ L;exact .inl ⟨l,ys,n,j,rfl,rfl,d,O,q⟩
     ·cases c
   |_=>cases c
 |dK k_=>
   obtain⟨n,R,c⟩:=cR c;split at c
   ·rename_i U;cases c;exact .inr ⟨l,k_,n,rfl,J9 R,d,U,q⟩
   ·cases c
 |_=>cases c
set_option tactic.hygienic false
def QW{st:kK}(j:∀l c ob' vs H Q,H l=a_ c->zi .app c vs=a_ ob'->(∀u,Q u (upd H l ob'))->r (.ref l) vs H Q)
  (q:PS X st (zC (QD X.K "list" r (Pr (RQ X.K) (B4 i) (gE X.K C ke)) (λσ H Q=>gE X.K C xe σ H λv d=>Q [v] d)))):SS X C st (.U2 i ke xe):=PS.imp q λD σ H h=>by
 obtain⟨p,e1,g⟩:=JR h;refine⟨.ref p,e1,lU g λL d s1 ⟨xs,k,l,ys,e2,hp,ha,hl,y⟩=>⟨p,xs,k,.ref l,rfl,e2,mo.of hp,ha,.inl ⟨rfl,ys,mo.of hl⟩,lU y λv H2 s2 ⟨c,ob',z,B,J⟩=>j l c ob' [v] H2 _ z B λ_=>J⟩⟩
end
noncomputable def Ub:Dat×Bool->Dat×Bool->g_
 |(.lst xs,c_),(.lst ys,c_)=>if xs.length+ys.length<=ax then a_ (.lst (xs++ys),c_)else b_
 |_,_=>b_
def Ex.cat(a b:Ex):Ex:=⟨a.fv++b.fv,λC ρ=>(bu C a ρ).bind λx=>(bu C b ρ).bind λy=>Ub x y⟩
def OI(h:Ub x y=a_ r):∃xs ys,x=(.lst xs,c_)/\y=(.lst ys,c_)/\xs.length+ys.length<=ax/\r=(.lst (xs++ys),c_):=by
 unfold Ub at h;split at h
 ·simp_all
 ·cases h
def V1(K:Fg):R2:=λx y H Q=>∃xs ys F c d,Good F H/\Rep K F (.lst xs) x/\Rep K F (.lst ys) y/\lK K H (.lst xs) x c/\lK K H (.lst ys) y d/\xs.length+ys.length<=ax/\
 ∀p F' H',H p=b_->Step F H F' H'->Rep K F' (.lst (xs++ys)) (.ref p)->lK K H' (.lst (xs++ys)) (.ref p) (p::(c.tail++d.tail))->Q (.ref p) H'
section
def NG:j7 X (binaryOp .Add) (V1 X.K):=by
 intro h_ s σ H x y v u Q I L M h;obtain⟨xs,ys,F,R,U,g,⟨l,vs,rfl,t,r⟩,⟨q,us,rfl,t',D⟩,⟨l',c,j,e1,hl,os,rfl⟩,⟨W,d,z,e2,J,B,rfl⟩,O,k⟩:=h;cases e1;cases e2;obtain rfl:=I.mO (mo.of hl) (g.sub.seq t);obtain rfl:=I.mO (mo.of J) (g.sub.seq t');refine Su h_ s σ H _ _ v u Q I L M ⟨l,q,c,d,rfl,rfl,hl,J,by rw[r.length,D.length];exact O,λp hp=>?_⟩;exact k p _ _ hp (Step.alloc g hp) ⟨p,c++d,rfl,.inl (.inl cu),(r.append D).mono (bT.upd (g.sub.free hp))⟩ ⟨p,c++d,j++z,rfl,cu,(os.append B).mono (bT.upd hp),rfl⟩
def Rz(ha:SE X C a xa)(hb:SE X C b xb):SE X C (.BinOp a .Add b pos) (.cat xa xb):=
 PE.imp (PH NG ha hb) λσ H Q L=>by
  obtain⟨ρ,d,fr,h,F,g,R,k⟩:=L;obtain⟨p1,h1,h⟩:=cR h;obtain⟨p2,h2,h⟩:=cR h;obtain⟨xs,ys,rfl,rfl,M,e⟩:=OI h;obtain⟨rfl,rfl⟩:=Prod.mk.inj e;refine⟨ρ,_,_,h1,F,g,R,λv F1 H1 j O U=>⟨ρ,_,_,h2,F1,j.good,R.mono j.ff,λw W H2 c Y Z=>?_⟩⟩;obtain⟨q,n1,e1,y⟩:=U rfl;obtain⟨B,n2,e2,J⟩:=Z rfl
  have d1:∀a∈q,H2 a≠b_:=λa m z=>by
   obtain⟨u,l,_⟩:=y.vd _ a m;have:=c.hh _ _ l;rw[z]at this;cases this
  have Zl:∀a∈q,a∉B:=λa m m2=>by
   obtain⟨u,l,_⟩:=y.vd _ a m;rw[e2 a m2]at l;cases l
  have d2:∀a∈B,H2 a≠b_:=λa m z=>by
   obtain⟨u,l,_⟩:=J.vd _ a m;rw[z]at l;cases l
  refine⟨xs,ys,W,q,B,c.good,O.mono c.ff,Y,y.mono c.hh,J,M,λp F3 H3 hp D r3 o3=>k _ F3 H3 ((j.trans c).trans D) r3 λ_=>⟨_,?_,?_,o3⟩⟩
  ·refine aT.mpr ⟨λm=>?_,iE ((HV _).nodup n1) ((HV _).nodup n2) λa m m2=>Zl a (fV m) (fV m2)⟩
   rcases aE.mp m with m|m
   ·exact d1 p (fV m) hp
   ·exact d2 p (fV m) hp
  ·intro a m
   rcases au.mp m with rfl|m
   ·exact(j.hh.trans c.hh).free hp
   ·rcases aE.mp m with m|m
    ·exact e1 a (fV m)
    ·exact j.hh.free (e2 a (fV m))
end
end M
namespace L2
open PySem PySem.Spec PyProof.Rows
noncomputable def ZG(lo:Int)(n:Nat):It:=⟨λi _=>i<n,λi H x H'=>H'=H/\x=.int (lo - i),λi _=>n<=i⟩
def Gb{K:aJ}(it:aF)(lo:Int)(n:Nat):Turn P w K tg (ZG lo n) [it] it (λi h=>IsRangeIter h it (lo+(i:Nat) * (-1)) ((n:Int) - (i:Nat)) (-1)) where
 mem:=by simp
 obj:=λi h st b hb=>by
  have e:b=it:=by simpa using hb
  subst e
  exact⟨_,st,λv z=>by
   have O:Data.fields _=Data.cell v:=z
   cases O⟩
 keep:=λi h h' st k=>k it (by simp) _ st
 item:=by
  intro X d g j l i h_ s σ H E I hf st q;subst d g j;obtain⟨y,B,R,D,J,L⟩:=hf it (by simp);have W:=Walks.range (prog:=X.prog) (w:=X.w) (I.ok.hd l) it lo (-1) n;refine W.item i s _ _ q st λv h' M U c kk=>?_;obtain⟨t,rfl⟩:=U;have Y:Inv X h_ σ H { s with heap:=h',toks:=M }:=I.turned (λb o hb e=>kk b o (by simpa using hb) e) y B D J L;refine⟨_,rfl,uZ (s:={ s with heap:=h',toks:=M }) (n:="range_iterator") c rfl rfl (by decide) ⟨.int (lo - i),H,Y,⟨t,?_⟩,⟨rfl,rfl⟩,c,λb hb=>(hf b hb).1⟩⟩
  congr 1
  omega
 done:=by
  intro X d g j l i h_ s σ H E I hf st q;subst d g j;obtain⟨y,B,R,D,J,L⟩:=hf it (by simp);exact HK (I.ok.hd l) st (by have:n<=i:=q;omega) λh' Z=>⟨rfl,I.turned (t':=s.toks) (λb o hb e=>Z b o hb e) y B D J L⟩
 self:=λ_ _ _ _ _ st h=>HL st h
def pq(a b:Int):iS a b (-1)=if a > b then a - b else 0:=by
 unfold iS;simp
def Gk(ha:-1000000<=a)(c:a<=1000000)(hb:-1000000<=b)(d:b<=1000000):vq a b (-1)=c_:=by
 unfold vq;rw[pq];simp only[Builtin.Range.rangeFitsLong,aj,kQ,decide_eq_true_eq,beq_iff_eq,show¬((-1) > 0) by decide,if_false];split<;>omega
section
def WM(ta:TA):TI:=λσ H R=>ta σ H λvs c=>∃i j:Int,vs=[.int i,.int j,.int (-1)]/\(-1000000<=i/\i<=1000000/\-1000000<=j/\j<=1000000)/\R (ZG i (i - j).toNat) c
def GJ(z:Gl X "range")(B:X.mg "range"=b_)(ha:PA X [a,b,c] ta)(hs:aO [a,b,c] X.env=[(d_,eval a X.env),(d_,eval b X.env),(d_,eval c X.env)])(g:aO [b,c] X.env=[(d_,eval b X.env),(d_,eval c X.env)]) :
  PI X tg (.Call (.Name "range" p) [a,b,c] [] pos) (WM ta):=by
 intro h_ s σ H R I h;refine Call_ (k9 I z B boot_range (c6 (iL (ha pos h_ s σ H _ I h) λus s1 ⟨vs,y,D,J,k⟩=>?_) (by rw[hs,g]) (by rw[g];rfl)));obtain⟨lo,hi,e,⟨k,L,M,O⟩,q⟩:=k;subst e
 cases J with
 |cons r j=>
   cases j with
   |cons U j=>
     cases j with
     |cons l j=>
       cases j;obtain⟨t,rfl⟩:=r;obtain⟨t',rfl⟩:=U;obtain⟨d,rfl⟩:=l;refine call_range_3 (by decide) ?_ (.inl (PyProof.noPylong_small (by decide)));refine wpAny_pyIter_range (Pd ..) (Gk k L M O) ?_;have v:Inv X h_ σ y { s1 with heap:=s1.heap.push { cls:=.type "range",data:=.fields #[.int lo t,.int hi t',.int (-1) d] },toks:=s1.toks }:=D.kept λb o e=>hp9 _ e
       refine⟨(s1.heap.push { cls:=.type "range",data:=.fields #[.int lo t,.int hi t',.int (-1) d] }).objs.size,[(s1.heap.push { cls:=.type "range",data:=.fields #[.int lo t,.int hi t',.int (-1) d] }).objs.size],_,_,y,rfl,
        v.kept λb o e=>hp9 _ e,Gb _ lo (lo - hi).toNat,?_,λb hb=>?_,q⟩
       ·have e1:lo+((0:Nat)) * (-1)=lo:=by simp
        have e2:(((lo - hi).toNat):Int) - ((0:Nat))=iS lo hi (-1):=by
         rw[pq];split<;>omega
        rw[e1,e2];exact aG _ rfl
       ·have e:b=(s1.heap.push { cls:=.type "range",data:=.fields #[.int lo t,.int hi t',.int (-1) d] }).objs.size:=by simpa using hb
        subst e;exact v.vV (ao _) (v.hok.fresh (ao _))
end
end L2
namespace M
open PySem PySem.Spec PyProof.Rows L2
def GZ{K:Fg}{F1:Hp}{lo:Int}:j2 K F1 (ZG lo n) ((aK n).map λk:Nat=>Dat.int (lo - k)):=λF H g s=>by
 refine⟨λi d hd=>?_,λi hi=>(by simpa using hi:n<=i)⟩;rw[aM]at hd
 have hi:i<n:=by
  by_cases hi:i<n
  ·exact hi
  simp_all
 rw[ae (by simpa using hi)]at hd;simp only[qT,bV,gP]at hd;subst hd;refine⟨hi,λx H' y=>?_⟩;obtain⟨rfl,rfl⟩:=y;exact⟨F,Step.refl g,rfl⟩
set_option tactic.hygienic true in
def MS(B:Gl X "range")(D:X.mg "range"=b_)(ha:SA X C [a,b,c] [xa,xb,xc])(hs:aO [a,b,c] X.env=[(d_,eval a X.env),(d_,eval b X.env),(d_,eval c X.env)])(d:aO [b,c] X.env=[(d_,eval b X.env),(d_,eval c X.env)]) :
  SI X C tg (.Call (.Name "range" p) [a,b,c] [] pos) (.rng [xa,xb,xc]):=
 PI.imp (GJ B D ha hs d) λσ H R J=>by
  obtain⟨ρ,items,F,hi,g,L,k⟩:=J;obtain⟨ds,h1,h2⟩:=cR hi;refine⟨ρ,ds,h1,F,g,L,λvs F1 M st r=>?_⟩;unfold Cr at h2;split at h2
  ·have:=mQ h1;cases this
  ·have:=mQ h1;cases this
  ·rename_i i j c;split at h2
   ·rename_i l;obtain⟨rfl,l⟩:=l;cases h2;obtain⟨v,w,rfl,O,U,W,rfl,q,Y,Z,rfl,y,z⟩:=r;cases O;cases q;cases y;cases z;exact⟨i,j,rfl,l,k _ F1 M st GZ⟩
   ·cases h2
  ·cases h2
end M
namespace L2
open PySem PySem.Spec PyProof.Rows
noncomputable def ZD(K:aJ)(a:aF)(n:Nat):It:=
 ⟨λi H=>i<n/\∃xs,sk K H a xs/\xs.length=n,λi H x H'=>H'=H/\∀xs,sk K H a xs->xs[n - 1 - i]?=a_ x,λi H=>n<=i⟩
def Ij{K:aJ}(a it:aF)(n:Nat):Turn P w K tg (ZD K a n) [it] it (λi h=>i<=n/\h.get? it=a_ (M8 a ((n:Int) - 1 - (i:Nat)))) where
 mem:=by simp
 obj:=λi h st b hb=>by
  have e:b=it:=by simpa using hb
  subst e;exact⟨_,st.2,λv z=>nomatch z⟩
 keep:=λi h h' st k=>⟨st.1,k it (by simp) _ st.2⟩
 item:=by
  intro X c d j O i h_ s σ H E I hf st l;subst c d j;obtain⟨hi,xs,R,hn⟩:=l;obtain⟨its,U,p,Z⟩:=I.tuple R;have hl:=U.length;obtain⟨x,W⟩:∃x,xs[n - 1 - i]?=a_ x:=⟨_,ae (by omega)⟩
  obtain⟨u,hu,ru⟩:=U.get W;obtain⟨q,B,f2,D,J,L⟩:=hf it (by simp);have e:(n:Int) - 1 - (i:Nat)=((n - 1 - i:Nat):Int):=by omega
  have y:=st.2;rw[e]at y;have hj:n - 1 - i<its.toArray.size:=by simp;omega
  have M:its.toArray[n - 1 - i]=u:=by have:=aN.mp hu;simpa using this.2
  refine M6 (its:=its.toArray) (by simp;exact ab (af hl.symm) Z) hj p y λh' Y g sb=>?_;rw[M];have e2:((n - 1 - i:Nat):Int) - 1=(n:Int) - 1 - ((i+1:Nat):Int):=by omega
  rw[e2]at g;have I1:Inv X h_ σ H { s with heap:=h',toks:=Y }:=I.turned (λb o hb e=>sb.extBut _ _ hb e) q B D J L;exact⟨u,rfl,uZ (s:={ s with heap:=h',toks:=Y }) (n:="reversed") g rfl rfl (by decide) ⟨x,H,I1,ru,⟨rfl,λys hy=>by rw[I.mJ hy R];exact W⟩,⟨hi,g⟩,λb hb=>(hf b hb).1⟩⟩
 done:=by
  intro X c d j O i h_ s σ H E I hf st l;subst c d j;obtain⟨q,B,f2,D,J,L⟩:=hf it (by simp);have y:=st.2;rw[show(n:Int) - 1 - (i:Nat)=-1 by have:n<=i:=l;have:=st.1;omega]at y;exact RN (I.ok.hd O) y λh' eb=>⟨rfl,I.turned (t':=s.toks) (λb o hb e=>eb b o hb e) q B D J L⟩
 self:=λA i s Q E st k=>by
  refine vB (uC st.2) sE (bH sE (uC st.2) A9 ?_ (Bq _));exact wu9 ⟨_,rfl,"reversed",_,uC st.2,kh.lookup,k⟩
section
variable{p:xI}{ta:TA}
def Zd(K:aJ)(ta:TA):TI:=λσ H R=>ta σ H λvs c=>∃p xs,vs=[.ref p]/\sk K c p xs/\R (ZD K p xs.length) c
def RZ(d:Gl X "reversed")(g:X.mg "reversed"=b_)(ha:PA X [a] ta)(hs:aO [a] X.env=[(d_,eval a X.env)]):PI X tg (.Call (.Name "reversed" p) [a] [] pos) (Zd X.K ta):=by
 intro h_ s σ H R I h;refine eT (k9 I d g (by decide +kernel:bootBuiltins "reversed"=a_ (.type "reversed")) (c6 (iL (ha pos h_ s σ H _ I h) λus s1 ⟨vs,j,c,l,q,xs,e,v,k⟩=>?_) (by rw[hs];rfl) rfl));subst e;obtain⟨u,rfl,y⟩:=vals1 l;cases y;obtain⟨its,z,ht,hl⟩:=c.tuple v;rw[gD]at hl;have el:=z.length;refine M7 ht (by simp;omega) λB=>?_;have T:=Ij (P:=X.prog) (w:=X.w) (K:=X.K) (tg:=tg) q s1.heap.objs.size xs.length;have st:(0<=xs.length/\(s1.heap.push (M8 q (((its.toArray.size):Int) - 1))).get? s1.heap.objs.size=a_ (M8 q ((xs.length) - 1 - ((0:Nat))))):=⟨aP _,by rw[show(xs.length) - 1 - ((0:Nat))=((its.toArray.size):Int) - 1 by simp_all];exact aG _ rfl⟩
 refine T.self _ 0 _ _ _ st ⟨s1.heap.objs.size,_,_,_,j,rfl,c.kept λb o e=>hp9 _ e,T,st,λb hb=>?_,k⟩;have e:b=s1.heap.objs.size:=by simpa using hb
 subst e;exact c.vV (ao _) (c.hok.fresh (ao _))
end
end L2
namespace M
open PySem PySem.Spec PyProof.Rows L2
def Kb{K:Fg}{F1:Hp}(h:Tq K F1 a vs)(r:cO K F1 ds vs):j2 K F1 (ZD K a vs.length) ds.reverse:=λF H g s=>by
 have c:=((h.mono s).mono g.sub).sq;refine⟨λi d hd=>?_,λi hi=>?_⟩
 ·have hi:i<ds.length:=by
   by_cases z:i<ds.length
   ·exact z
   ·rw[kg (by simpa using z)]at hd;cases hd
  rw[BW hi]at hd;obtain⟨v,e1,e2⟩:=r.get hd;have hl:=r.length;refine⟨⟨ab hi (af hl.symm),vs,c,rfl⟩,λx H' y=>?_⟩;obtain⟨rfl,y⟩:=y;have:=y vs c;rw[hl,e1]at this;cases this;exact⟨F,Step.refl g,e2.mono s⟩
 ·show vs.length<=i;rw[r.length];simpa using hi
def Rc(j:Gl X "reversed")(k:X.mg "reversed"=b_)(ha:SA X C [a] [xa])(hs:aO [a] X.env=[(d_,eval a X.env)]) :
  SI X C tg (.Call (.Name "reversed" p) [a] [] pos) (.rev xa):=λh_ s σ H R I l=>by
 obtain⟨ρ,items,F,hi,g,y,kk⟩:=l;obtain⟨⟨d,fr⟩,h1,h2⟩:=cR hi
 cases d with
 |tup ds=>
   cases h2;refine RZ j k ha hs h_ s σ H R I ⟨ρ,[.tup ds],by simp only[mR,h1,bw,bV],F,g,y,λvs F1 z st r=>?_⟩;obtain⟨v,w,rfl,⟨q,c,rfl,t,B⟩,e3⟩:=r;cases e3;exact⟨q,c,rfl,(t.mono st.good.sub).sq,kk _ F1 z st (Kb t B)⟩
 |_=>cases h2
section
variable{X:Cx}
def IK(j n:Nat)(G:nK X.prog X.w X.K X.mg X.base Hv k f fd ps (Q5 X.K n (C j)))(l:mU k X.A)(q:Gl X x)(v:X.mg x=a_ (.ref f))(y:f7 X.K (.ref f)=c_)(hb:Binds X.K fd ps [])
  (z:n=0)(c:(x == ("__debug__":bc))=d_):SE X C (.Call (.Name x p) [] [] pos) (.call j []):=
 PE.imp (Jt G l q v y hb .nil PJ c) λσ H Q h=>by
  have h':=qL (xs:=[]) (x:=.call j []) (λρ d fr h=>cR h) σ H Q h;obtain⟨ρ,ds,h1,F,g,R,k⟩:=h';cases h1;exact⟨by rw[z];rfl,k [] F H (Step.refl g) rfl⟩
end
structure Sg where
 fns:List (bc×Nat)
 con:List (bc×Dat)
structure Sc where
 N:List bc
 nm:List (bc×ku)
 top:Bool
noncomputable def lr:List bc:=["len","range","zip","all","any","isinstance","list","tuple","reversed","int","bool","str","sorted","set","min","max","enumerate","sum","dict","abs"]
noncomputable def tz(x:bc):List bc->Option Nat
 |[]=>b_
 |y::r=>if y=x then a_ 0 else(tz x r).map (·+ 1)
set_option tactic.hygienic true
theorem iF:∀{N:List bc}{i:Nat},tz x N=a_ i->N[i]?=a_ x
 |[],_,h=>by cases h
 |y::r,i,h=>by
   have h:(if y=x then a_ 0 else(tz x r).map (·+ 1))=a_ i:=h;split at h
   ·cases h;rename_i e;subst e;rfl
   ·obtain⟨j,h1,rfl⟩:=dZ h;exact(dc ..).trans (iF h1)
noncomputable def KC(x:bc):Nat->List (bc×Nat)->Option (Nat×Nat)
 |_,[]=>b_
 |k,y::r=>if y.1=x then a_ (k,y.2)else KC x (k+1) r
theorem AU:∀{L:List (bc×Nat)}{k j n:Nat},KC x k L=a_ (j,n)->∃i,j=k+i/\L[i]?=a_ (x,n)
 |[],_,_,_,h=>by cases h
 |y::r,k,j,n,h=>by
   have h:(if y.1=x then a_ (k,y.2)else KC x (k+1) r)=a_ (j,n):=h;split at h
   ·cases h;rename_i e;subst e;exact⟨0,rfl,rfl⟩
   ·obtain⟨i,e1,e2⟩:=AU h;exact⟨i+1,by omega,(dc ..).trans e2⟩
set_option tactic.hygienic false
noncomputable def l5(x:bc):Bool:=!(x == ("__debug__":bc)) && !(x == ("__classdict__":bc)) && !(x == ("__name__":bc))
noncomputable def X6:Option ku->Bool
 |some .local=>c_
 |some .cell=>c_
 |some .free=>c_
 |_=>d_
noncomputable def YW:Option ku->Bool
 |some .local=>c_
 |some .cell=>c_
 |_=>d_
def zy(S:Sc)(x:bc):Bool:=X6 (S.nm.lookup x)
def yp(S:Sc)(x:bc):Bool:=YW (S.nm.lookup x)
noncomputable def LX(S:Sc)(x:bc):Bool:=S.nm.lookup x == a_ .globalImplicit
noncomputable def du:aX->Bool
 |.Starred _ _=>d_
 |_=>c_
noncomputable def rO:aX->Bool
 |.Set _ _ _=>d_
 |_=>c_
noncomputable def sH:aX->Bool
 |.IfExp _ _ _ _=>d_
 |_=>c_
noncomputable def Uo:BP->Option Vg
 |.Add=>a_ .add
 |.Mult=>a_ .mul
 |.Mod=>a_ .mod
 |.RShift=>a_ .shr
 |.BitAnd=>a_ .band
 |_=>b_
noncomputable def Xh:CmpOp->Option XA
 |.Eq=>a_ .eq
 |.NotEq=>a_ .ne
 |.Lt=>a_ .lt
 |.Gt=>a_ .gt
 |.Is=>a_ .isn
 |.IsNot=>a_ .nisn
 |.In=>a_ .isin
 |.NotIn=>a_ .nin
 |_=>b_
noncomputable def Zn(x:bc):Option Ty:=
 if x="int" then a_ .int else if x="bool" then a_ .bool else if x="str" then a_ .str else if x="tuple" then a_ .tuple else if x="list" then a_ .list else b_
noncomputable def Um(x:bc):Option XB:=
 if x="len" then a_ .len else if x="list" then a_ .list else if x="tuple" then a_ .tuple else if x="int" then a_ .int else if x="str" then a_ .str else if x="sorted" then a_ .sorted else b_
noncomputable def zU(S:Sc)(sc:my):List (bc×ku):=sc.names.map λp=>if(p.2 == dW && S.nm.lookup p.1 == a_ .cell)then(p.1,lO)else p
noncomputable def k7:aX->Option bc
 |.Name x _=>a_ x
 |_=>b_
def gn(h:k7 e=a_ x):∃p,e=.Name x p:=by
 cases e with
 |Name y p=>cases h;exact⟨p,rfl⟩
 |_=>cases h
def namesOf:List aX->Option (List bc)
 |[]=>a_ []
 |e::r=>(k7 e).bind λt=>(namesOf r).map λc=>t::c
def oM:aX->Option (Bool×List bc)
 |.Name t _=>a_ (c_,[t])
 |.Tuple es _ _=>(namesOf es).map λc=>(d_,c)
 |_=>b_
noncomputable def freeOf(sc:my):List bc:=sc.names.filterMap λp=>if p.2=.free then a_ p.1 else b_
def td(N:List bc):List bc->Option (List Nat)
 |[]=>a_ []
 |x::r=>(tz x N).bind λi=>(td N r).map λis=>i::is
noncomputable def La(S:Sc)(sc:my)(tn cn:List bc):Bool:=
 decide (sc.kind=.function) && sc.names.all (λy=>!decide (y.2=.cell)) && sc.names.all (λy=>!decide (y.2=.local) || decide (sc.names.lookup y.1=a_ .local))
  && sc.names.all (λy=>!decide (y.2=.free) || decide (S.nm.lookup y.1=a_ .cell) || decide (S.nm.lookup y.1=a_ .free))
  && cn.all (λx=>(decide (S.nm.lookup x=a_ .cell) || decide (S.nm.lookup x=a_ .free)) && decide (sc.names.lookup x=a_ .free))
  && decide (tn++cn).Nodup && tn.all λx=>decide (sc.names.lookup x=a_ .local)
def inner(S:Sc)(sc:my)(tn cn:List bc):Sc:=⟨tn++cn,zU S sc,d_⟩
noncomputable def AS(f:Ex->Ex->Ex):List Ex->Option Ex
 |[]=>b_
 | x::r=>match r with
   |[]=>a_ x
   |_::_=>(AS f r).map (f x)
def vR(f:aX->Option Ex):List aX->Option (List Ex)
 |[]=>a_ []
 |e::r=>if du e=c_ then(f e).bind λx=>(vR f r).map λxs=>x::xs else b_
noncomputable def ki{α:Type}:List α->Option α
 |[]=>b_
 |a::r=>if r.isEmpty=c_ then a_ a else b_
def gm (h:ki l=a_ a):l=[a]:=by
 match l,h with
 |[b],h=>cases h;rfl
def Ep{α:Type}:List α->Option (α×α)
 |[]=>b_
 |a::r=>(ki r).map λb=>(a,b)
def uK (h:Ep l=a_ p):l=[p.1,p.2]:=by
 cases l with
 |nil=>cases h
 |cons a r=>
   obtain⟨b,h1,rfl⟩:=dZ h;rw[gm h1]
structure Ca where
 fn:aX
 args:List aX
 kws:List Keyword
 pos:xI
noncomputable def OK:aX->Option Ca
 |.Call fn args kws p=>a_ ⟨fn,args,kws,p⟩
 |_=>b_
def yQ(h:OK e=a_ c):e=.Call c.fn c.args c.kws c.pos:=by
 cases e with
 |Call fn args kws p=>cases h;rfl
 |_=>cases h
def Dq(e:aX):Option (bc×List aX):=(OK e).bind λc=>if c.kws.isEmpty=c_ then(k7 c.fn).map λx=>(x,c.args)else b_
set_option tactic.hygienic true in
def xt(h:Dq e=a_ (x,args)):∃p q,e=.Call (.Name x p) args [] q:=by
 obtain⟨⟨fn,as,kws,q⟩,h0,h1⟩:=cR h;obtain rfl:=yQ h0;split at h1
 ·rename_i c;obtain⟨y,h2,h3⟩:=dZ h1;cases h3;obtain⟨p,d⟩:=gn h2
  grind
 ·cases h1
noncomputable def isTup:aX->Bool
 |.Tuple _ _ _=>c_
 |_=>d_
def Az(h:isTup e=c_):∃es k p,e=.Tuple es k p:=by
 cases e with
 |Tuple es k p=>exact⟨es,k,p,rfl⟩
 |_=>cases h
def PN{α:Type}:List α->Option (α×α×α)
 |[]=>b_
 |a::r=>(Ep r).map λb=>(a,b)
def Jx (h:PN l=a_ p):l=[p.1,p.2.1,p.2.2]:=by
 cases l with
 |nil=>cases h
 |cons a r=>
   obtain⟨b,h1,rfl⟩:=dZ h;rw[uK h1]
def Xf(S:Sc)(f:aX->Option Ex)(tg:aX)(x:bc)(args:List aX):Option Iw:=
 if LX S x=c_ then(vR f args).bind λxs=>
  if x="range" then(match ki xs with
   |some a=>a_ (.rng [a])
   |none=>(PN xs).map λt=>.rng [t.1,t.2.1,t.2.2])
  else if(decide (x="zip") && isTup tg)=c_ then(Ep xs).map λp=>.zip [p.1,p.2]
  else if(decide (x="enumerate") && isTup tg)=c_ then(ki xs).map .enu else if x="reversed" then(ki xs).map .rev else b_
 else b_
noncomputable def TB(x:bc):Bool:=decide (x="range") || decide (x="zip") || decide (x="enumerate") || decide (x="reversed")
def Kc(e:aX):Option (bc×List aX):=(Dq e).bind λc=>if TB c.1=c_ then a_ c else b_
def cI(S:Sc)(f:aX->Option Ex)(tg iter:aX):Option Iw:=match Kc iter with
 |some c=>Xf S f tg c.1 c.2
 |none=>(f iter).map .itv
def Zq(f:aX->Option Ex):List aX->Option (List Ex)
 |[]=>a_ []
 |c::r=>if(r.isEmpty && sH c)=c_ then(f c).map λx=>[x]else b_
noncomputable def Lg(f:aX->Option Ex):Option aX->Option (Option Ex)
 |none=>a_ b_
 |some e=>(f e).map a_
noncomputable def Uk:Const->Option Dat
 |.int i=>a_ (.int i)
 |.bool b=>a_ (.bl b)
 |.none=>a_ .non
 |.str x=>a_ (.str x)
 |_=>b_
def Qf(G:Sg)(S:Sc)(x:bc):Option Ex:=if l5 x=c_ then(if zy S x=c_ then(tz x S.N).map .v else if LX S x=c_ then(G.con.lookup x).map .con else b_)else b_
def cUn(f:aX->Option Ex)(a:aX):UnaryOp->Option Ex
 |.USub=>(f a).map .neg
 |.Not=>if sH a=c_ then(f a).map .not else b_
 |_=>b_
def Ul(f:aX->Option Ex)(es:List aX):BoolOp->Option Ex
 |.And=>(vR f es).bind (AS .and)
 |.Or=>(vR f es).bind (AS .or)
def Qj(f:aX->Option Ex)(a:aX)(c:List CmpOp)(bs:List aX):Option Ex:=(f a).bind λd=>match ki c with
 |some op=>(ki bs).bind λb=>if rO b=c_ then(Xh op).bind λo=>(f b).map λg=>.cmp o d g else b_
 |none=>b_
def Lk(f:aX->Option Ex)(ks:List (Option aX))(vs:List aX):Option Ex:=
 if(ks.isEmpty && vs.isEmpty)=c_ then a_ .qF
 else b_
noncomputable def kN:aX->Option (Option aX×Option aX×Option aX)
 |.Slice lo hi st _=>a_ (lo,hi,st)
 |_=>b_
def Xb(f:aX->Option Ex)(a b:aX):Option Ex:=(f a).bind λc=>match kN b with
 |some t=>if t.2.2.isNone=c_ then(Lg f t.1).bind λd=>(Lg f t.2.1).map λg=>.sl c d g else b_
 |none=>(f b).map λj=>.ix c j
def Qg(G:Sg)(S:Sc)(f:aX->Option Ex)(o:aX)(m:bc)(ap:xI)(args:List aX)(cp:xI):Option Ex:=
 if(ap.endLine == cp.line)=c_ then(vR f args).bind λxs=>if baseOk o=c_ then(f o).bind λc=>(Ue m args.length).map λd=>.gp d c xs else b_
 else b_
def Zo(S:Sc)(f:aX->Option Ex)(args:List aX):Option Ex:=(Ep args).bind λp=>(k7 p.2).bind λt=>
 if(LX S "isinstance" && LX S t && du p.1)=c_ then(Zn t).bind λty=>(f p.1).map λc=>.blt (.isi ty) [c]else b_
def Ud(S:Sc)(f:aX->Option Ex)(x y:bc)(b:XB)(args:List aX):Option Ex:=(ki args).bind λe=>(Dq e).bind λc=>if c.1=y then(ki c.2).bind λa=>
 if(LX S x && LX S y && du a)=c_ then(f a).map λd=>.blt b [d]else b_ else b_
def Xg(G:Sg)(S:Sc)(x:bc)(xs:List Ex):Option Ex:=
 if(l5 x && LX S x)=c_ then match KC x 0 G.fns with
  |some c=>if xs.length=c.2 then a_ (.call c.1 xs)else b_
  | none=>match ki xs with
    |some d=>(Um x).map λb=>.blt b [d]
    |none=>b_
 else b_
def Dr(G:Sg)(S:Sc)(f:aX->Option Ex)(x:bc)(args:List aX):Option Ex:=
 if x="isinstance" then Zo S f args else match(if x="sorted" then Ud S f "sorted" "set" .sset args else b_)with
  |some z=>a_ z
  |none=>(vR f args).bind (Xg G S x)
noncomputable def vi:aX->Option (aX×bc×xI)
 |.Attribute o m ap=>a_ (o,m,ap)
 |_=>b_
def sg(h:vi e=a_ t):e=.Attribute t.1 t.2.1 t.2.2:=by
 cases e with
 |Attribute o m ap=>cases h;rfl
 |_=>cases h
def FA(G:Sg)(S:Sc)(f:aX->Option Ex)(fn:aX)(args:List aX)(cp:xI):Option Ex:=match vi fn with
 |some t=>Qg G S f t.1 t.2.1 t.2.2 args cp
 |none=>(k7 fn).bind λx=>Dr G S f x args
structure Gn where
 tg:aX
 it:aX
 ifs:List aX
def P8(c:List Comprehension):Option Gn:=(ki c).bind λg=>if g.is_async=0 then a_ ⟨g.target,g.iter,g.ifs⟩else b_
def Qi(S:Sc)(f:Sc->aX->Option Ex)(elt:aX)(g:Gn)(sc:my):Option Ex:=(oM g.tg).bind λt=>(td S.N (freeOf sc)).bind λcaps=>
 if(La S sc t.2 (freeOf sc) && rO g.it)=c_ then
  (cI S (f S) g.tg g.it).bind λit=>(Zq (f (inner S sc t.2 (freeOf sc))) g.ifs).bind λxs=>(f (inner S sc t.2 (freeOf sc)) elt).map λxe=>.comp t.2.length t.1 caps it xs xe
 else b_
noncomputable def Kg:aX->Bool
 |.List _ _=>c_
 |.ListComp _ _ _ _=>c_
 |_=>d_
noncomputable def Ki:BP->Bool
 |.Add=>c_
 |_=>d_
def G5(h:Ki op=c_):op=.Add:=by cases op<;>first|rfl|cases h
def OJ(op:BP)(a b:aX):Bool:=Ki op && Kg a && Kg b
noncomputable def Kf:aX->Bool
 | .Constant c _ _=>match c with
   |.none=>c_
   |_=>d_
 |_=>d_
def G4(h:Kf e=c_):∃c p,e=.Constant .none c p:=by
 cases e with
 |Constant k c p=>
   cases k with
   |none=>exact⟨c,p,rfl⟩
   |_=>cases h
 |_=>cases h
noncomputable def Kh:aX->Bool
 | .Constant c _ _=>match c with
   |.int _=>c_
   |_=>d_
 |_=>d_
def Ug(S:Sc)(f:aX->Option Ex)(fn:aX)(args:List aX)(kws:List Keyword):Option Ex:=(k7 fn).bind λx=>(ki args).bind λa=>(ki kws).bind λk=>
 if(decide (x="min") && LX S x && du a && Kf k.value && decide (k.arg=a_ "default"))=c_ then(f a).map .YM else b_
def cE(G:Sg):Nat->Sc->aX->Option Ex
 |0,_,_=>b_
 | n+1,S,e=>match e with
   |.Constant c _ _=>(Uk c).map .con
   |.Name x _=>Qf G S x
   |.BinOp a op b _=>if OJ op a b=c_ then(cE G n S a).bind λd=>(cE G n S b).map λj=>.cat d j else(Uo op).bind λo=>(cE G n S a).bind λd=>(cE G n S b).map λj=>.bin o d j
   |.UnaryOp op a _=>cUn (cE G n S) a op
   |.BoolOp op es _=>if es.all sH=c_ then Ul (cE G n S) es op else b_
   |.Compare a k bs _=>Qj (cE G n S) a k bs
   |.IfExp c a b _=>if sH c=c_ then(cE G n S c).bind λl=>(cE G n S a).bind λd=>(cE G n S b).map λj=>.ite l d j else b_
   |.Tuple es _ _=>(vR (cE G n S) es).map .tup
   |.List es _=>(vR (cE G n S) es).map .lst
   |.Dict ks vs _=>Lk (cE G n S) ks vs
   |.Subscript a b _=>Xb (cE G n S) a b
   |.Call fn args kws cp=>if kws.isEmpty=c_ then FA G S (cE G n S) fn args cp else Ug S (cE G n S) fn args kws
   |.ListComp elt q sc _=>(P8 q).bind λg=>Qi S (cE G n) elt g sc
   |_=>b_
def CV(K:Fg)(d:Dat)(v:V):Prop:=(∀F,Rep K F d v)/\∀a,v=.ref a->∃o,K.lookup a=a_ o/\o.cls=.type "tuple"/\o.dict=b_
structure pV(G:Sg)(C:Fs)(S:Sc)(X:Cx):Prop where
 N:X.N=S.N
 nm:X.env.scope.names=S.nm
 kind:X.env.scope.kind=.function
 calm:X.calm=c_
 un:X.A.units+21<dh
 xe:X.xe=λ_ _=>False
 fn:S.top=c_->∀x,X.fn x=c_
 fns:∀(j:Nat)x n,G.fns[j]?=a_ (x,n)->∃k f fd ps,nK X.prog X.w X.K X.mg X.base Hv k f fd ps (Q5 X.K n (C j))/\mU k X.A/\X.mg x=a_ (.ref f)/\f7 X.K (.ref f)=c_/\Binds X.K fd ps []
 blt:∀x∈lr,X.mg x=b_
 con:∀x d,G.con.lookup x=a_ d->∃v u,X.mg x=a_ u/\RelV v u/\CV X.K d v
inductive Args (P:aX->Ex->Prop):List aX->List Ex->Prop
 |nil:Args P [] []
 |cons {e:aX} {es:List aX} {x:Ex} {xs:List Ex}:du e=c_->P e x->Args P es xs->Args P (e::es) (x::xs)
def bX (h:(if b=c_ then x else b_)=a_ y):b=c_/\x=a_ y:=by
 simp_all
section
variable{G:Sg}{C:Fs}{S:Sc}{X:Cx}{e:aX}{x:bc}
def oK(T:pV G C S X)(h:zy S x=c_):Qo X.env.scope x:=by
 unfold zy at h;unfold Qo;rw[T.nm]
 cases q:S.nm.lookup x with
 |none=>rw[q]at h;cases h
 |some k=>rw[q]at h;cases k<;>first|(simp;done)|cases h
def tW(T:pV G C S X)(h:yp S x=c_):L2.Loc X.env.scope x:=by
 unfold yp at h;unfold L2.Loc;rw[T.nm]
 cases q:S.nm.lookup x with
 |none=>rw[q]at h;cases h
 |some k=>rw[q]at h;cases k<;>first|(simp;done)|cases h
def me(T:pV G C S X)(h:LX S x=c_):Gl X x:=by
 unfold Gl rl;rw[T.nm];exact beq_iff_eq.mp h
def je(h:l5 x=c_):(x == ("__debug__":bc))=d_/\(x == ("__classdict__":bc))=d_/\x≠"__name__":=by
 unfold l5 at h
 simp_all
def cC(h:du e=c_):aO (e::es) env=(d_,eval e env)::aO es env:=by
 cases e<;>first|rfl|cases h
theorem ur:∀{es:List aX},es.all du=c_->(backTo pos (aO es env)).any (·.1)=d_
 |[],_=>rfl
 |e::es,h=>by
   rw[dC,aj]at h;rw[cC h.1];have q:=ur (pos:=pos) (env:=env) h.2;unfold backTo at q ⊢;rw[aq,mY,q];rfl
theorem kO(hf:∀e x,f e=a_ x->P e x):∀{es:List aX}{xs:List Ex},vR f es=a_ xs->Args P es xs
 |[],_,h=>by cases h;exact .nil
 |e::r,_,h=>by
   obtain⟨hs,h⟩:=bX h;obtain⟨x,h1,h⟩:=cR h;obtain⟨xs,h2,rfl⟩:=dZ h;exact .cons hs (hf _ _ h1) (kO hf h2)
theorem Args.sa:∀{es:List aX}{xs:List Ex},Args (SE X C) es xs->SA X C es xs
 |_,_,.nil=>ot
 |_,_,.cons hs h r=>jv h r.sa (cC hs)
theorem Args.sf:∀{es:List aX}{xs:List Ex},Args (SE X C) es xs->SF X C es xs
 |_,_,.nil=>II
 |_,_,.cons hs h r=>DX h r.sf (cC hs)
theorem Args.star:∀{es:List aX}{xs:List Ex},Args P es xs->es.all du=c_
 |_,_,.nil=>rfl
 |_,_,.cons hs _ r=>by rw[dC,hs,r.star];rfl
theorem Args.len:∀{es:List aX}{xs:List Ex},Args P es xs->xs.length=es.length
 |_,_,.nil=>rfl
 |_,_,.cons _ _ r=>congrArg (·+ 1) r.len
def Args.one(h:Args P es [z]):∃a,es=[a]/\du a=c_/\P a z:=by
 cases h with
 |cons s p r=>cases r;exact⟨_,rfl,s,p⟩
def Args.two(h:Args P es [z,w]):∃a b,es=[a,b]/\du a=c_/\du b=c_/\P a z/\P b w:=by
 cases h with
 |cons s p r=>
   obtain⟨b,rfl,s',c⟩:=r.one;exact⟨_,b,rfl,s,s',p,c⟩
def Args.three(h:Args P es [z,w,u]):∃a b c,es=[a,b,c]/\du a=c_/\du b=c_/\du c=c_/\P a z/\P b w/\P c u:=by
 cases h with
 |cons s p r=>
   obtain⟨b,c,rfl,s',s2,d,g⟩:=r.two;exact⟨_,b,c,rfl,s,s',s2,p,d,g⟩
def IL(s:du a=c_)(s':du b=c_)(ha:SE X C a z)(hb:SE X C b w):SA X C [a,b] [z,w]:=jv ha (jv hb ot (cC s')) (cC s)
def uq(s:du a=c_)(s':du b=c_):aO [a,b] env=[(d_,eval a env),(d_,eval b env)]:=(cC s).trans (congrArg _ (cC s'))
def OS(h:Uo op=a_ o):j7 X (binaryOp op) (gB X.K (iH o)):=by
 cases op<;>first|(cases h;first|exact NI|exact op_subD|exact NB|exact NC|exact Ny|exact NH)|cases h
def Fy(c:X.A.units+21<dh)(h:Xh op=a_ o):j7 X (compareOp op) (gB X.K (qG o)):=by
 cases op<;>first|(cases h;first|exact Sr (be c)|exact Sj (by omega)|exact Sm|exact Sq|exact op_geD|exact ND|exact Jv|exact So c|exact NA c)|cases h
def JF(h:rO b=c_):behindInMarks op b=d_:=by
 cases b<;>first|rfl|cases h
def MX(ha:SE X C a xa):SE X C (.UnaryOp .Not a pos) (.not xa):=by
 intro h_ s σ H Q I ⟨ρ,d,fr,h,F,g,R,k⟩;obtain⟨⟨da,l⟩,h1,h⟩:=cR h;obtain⟨b,hb,h⟩:=dZ h;cases h;refine UnaryOp_ (iL (ha h_ s σ H (λv j=>∃F1,Step F H F1 j/\Rep X.K F1 da v) I ⟨ρ,da,l,h1,F,g,R,λv F1 j st r _=>⟨F1,st,r⟩⟩) λv s1 ⟨x,j,q,y,F1,st,r⟩=>?_);refine not_of (iL (Im h_ s1 σ j x v (λc H2=>c=b/\H2=j) q y ⟨b,DK st.good r hb,rfl,rfl⟩) ?_);rintro c s2 ⟨H2,z,rfl,rfl⟩;exact⟨.bl (!c),H2,z,rfl,k _ F1 H2 st rfl a8⟩
def UT(X:Cx)(C:Fs)(e:aX)(x:Ex):Prop:=SE X C e x/\(sH e=c_->ST X C e x)
theorem xf:∀{es:List aX}{xs:List Ex}{x:Ex},Args (UT X C) es xs->es.all sH=c_->AS .and xs=a_ x->SE X C (.BoolOp .And es pos) x/\SW X C (.BoolOp .And es pos) x
 |_,_,_,.nil,_,h=>by cases h
 |_,_,_,.cons _ p .nil,n,h=>by
   rw[dC,aj]at n;cases h;exact⟨D2 p.1,Mv (p.2 n.1)⟩
 |_,_,_,.cons _ p (.cons s q r),n,h=>by
   rw[dC,aj]at n;obtain⟨z,h1,rfl⟩:=dZ h;obtain⟨c,i2⟩:=xf (.cons s q r) n.2 h1;exact⟨RB p.1 c,QF (p.2 n.1) i2⟩
theorem AR:∀{es:List aX}{xs:List Ex}{x:Ex},Args (UT X C) es xs->es.all sH=c_->AS .or xs=a_ x->SE X C (.BoolOp .Or es pos) x/\SW X C (.BoolOp .Or es pos) x
 |_,_,_,.nil,_,h=>by cases h
 |_,_,_,.cons _ p .nil,n,h=>by
   rw[dC,aj]at n;cases h;exact⟨D2 p.1,QE (p.2 n.1)⟩
 |_,_,_,.cons _ p (.cons s q r),n,h=>by
   rw[dC,aj]at n;obtain⟨z,h1,rfl⟩:=dZ h;obtain⟨c,i2⟩:=AR (.cons s q r) n.2 h1;exact⟨VI p.1 c,Vy (p.2 n.1) i2⟩
set_option tactic.hygienic true
def M2(T:pV G C S X)(hb:Um x=a_ bt)(hp:l5 x=c_)(d:LX S x=c_)(hs:du e=c_)(g:SE X C e xa):SE X C (.Call (.Name x p) [e] [] pos) (.blt bt [xa]):=by
 have h1:aO [e] X.env=(d_,eval e X.env)::aO [] X.env:=cC hs;have ha :=jv g ot h1;obtain⟨d1,d2,d3⟩:=je hp;have c:=me T d;unfold Um at hb;split at hb
 ·rename_i q;subst q;cases hb;exact D1 Hl c (T.blt _ (by decide +kernel)) PySem.boot_len ha d3 d1 h1 rfl
 split at hb
 ·rename_i q;subst q;cases hb;exact tQ Dp c (T.blt _ (by decide +kernel)) (by decide +kernel) ha d3 d1 h1 rfl
 split at hb
 ·rename_i q;subst q;cases hb;exact tQ Bh c (T.blt _ (by decide +kernel)) (by decide +kernel) ha d3 d1 h1 rfl
 split at hb
 ·rename_i q;subst q;cases hb;exact tQ Hn c (T.blt _ (by decide +kernel)) (by decide +kernel) ha d3 d1 h1 rfl
 split at hb
 ·rename_i q;subst q;cases hb;exact tQ Hk c (T.blt _ (by decide +kernel)) (by decide +kernel) ha d3 d1 h1 rfl
 split at hb
 ·rename_i q;subst q;cases hb;exact D1 (yO T.un T.calm) c (T.blt _ (by decide +kernel)) (by decide +kernel) ha d3 d1 h1 rfl
 ·cases hb
def OQ(T:pV G C S X)(ha:Args (SE X C) es xs)(h:Xg G S x xs=a_ z):SE X C (.Call (.Name x p) es [] pos) z:=by
 obtain⟨hp,h⟩:=bX h;rw[aj]at hp;obtain⟨d1,d2,d3⟩:=je hp.1
 cases c:KC x 0 G.fns with
 |some y=>
   obtain⟨j,n⟩:=y;rw[c]at h;have h:(if xs.length=n then a_ (Ex.call j xs)else b_)=a_ z:=h;split at h
   ·rename_i g;cases h;obtain⟨i,e1,e2⟩:=AU c;obtain⟨k,f,fd,ps,F,l,q,v,hb⟩:=T.fns i x n e2;rw[jS]at e1;subst e1
    cases ha with
    |nil=>exact IK j n F l (me T hp.2) q v hb g.symm d1
    |cons hs d r=>exact M1 j n F l (me T hp.2) q v hb (jv d r.sa (cC hs)) g d1 (cC hs) (ur r.star)
   ·cases h
 |none=>
   rw[c]at h
   cases ho:ki xs with
   |some B=>
     obtain rfl:=gm ho;obtain⟨b,h1,rfl⟩:=dZ h;obtain⟨e,rfl,hs,d⟩:=ha.one;exact M2 T h1 hp.1 hp.2 hs d
   |none=>
     simp_all
def Uc(h:Zn t=a_ ty):bootBuiltins t=a_ (.type (tyName ty))/\t∈lr/\(t == ("__debug__":bc))=d_/\t≠"__name__":=by
 unfold Zn at h
 repeat' (split at h;(rename_i q;subst q;cases h;exact⟨by decide +kernel,by decide +kernel,by decide +kernel,by decide +kernel⟩))
 cases h
def Qh{iter:aX}(T:pV G C S X)(hf:∀e x,f e=a_ x->SE X C e x)(h:cI S f tg iter=a_ it):SI X C tg iter it/\∀a,it=.itv a->SE X C iter a:=by
 unfold cI at h
 cases hi:Kc iter with
 |none=>
   rw[hi]at h;obtain⟨x,h1,rfl⟩:=dZ h;exact⟨Rb (hf _ _ h1),λa z=>by cases z;exact hf _ _ h1⟩
 |some c=>
   rw[hi]at h;obtain⟨x,args⟩:=c;obtain⟨J,h1,h2⟩:=cR hi;obtain⟨_,h2⟩:=bX h2;obtain rfl:J=(x,args):=bx h2;obtain⟨p,q,rfl⟩:=xt h1;obtain⟨L,h3⟩:=bX h;clear h h1 h2 hi;obtain⟨xs,B,g⟩:=cR h3;have ha:=kO hf B;clear h3 B;have y:=me T L;split at g
   ·rename_i e;subst e
    cases ho:ki xs with
    |some D=>
      rw[ho]at g;cases g;obtain rfl:=gm ho;obtain⟨a,rfl,hs,j⟩:=ha.one;exact⟨MT y (T.blt _ (by decide +kernel)) (jv j ot (cC hs)) (cC hs),λa z=>nomatch z⟩
    |none=>
      rw[ho]at g;obtain⟨p,l,rfl⟩:=dZ g;obtain rfl:=Jx l;obtain⟨a,b,c,rfl,hs,d,v,j,hb,M⟩:=ha.three;exact⟨MS y (T.blt _ (by decide +kernel)) (jv j (IL d v hb M) (cC hs)) ((cC hs).trans (congrArg _ (uq d v))) (uq d v),λa z=>nomatch z⟩
   split at g
   ·rename_i e;simp only[aj,decide_eq_true_eq]at e;obtain⟨rfl,ht⟩:=e;obtain⟨p,l,rfl⟩:=dZ g;obtain rfl:=uK l;obtain⟨O,k,tp,rfl⟩:=Az ht;obtain⟨a,b,rfl,hs,d,j,hb⟩:=ha.two;exact⟨Ra y (T.blt _ (by decide +kernel)) (IL hs d j hb) (uq hs d) (cC d),λa z=>nomatch z⟩
   split at g
   case isFalse=>
    split at g
    ·rename_i e;subst e;obtain⟨D,l,rfl⟩:=dZ g;obtain rfl:=gm l;obtain⟨a,rfl,hs,j⟩:=ha.one;exact⟨Rc y (T.blt _ (by decide +kernel)) (jv j ot (cC hs)) (cC hs),λa z=>nomatch z⟩
    ·cases g
   ·rename_i e;simp only[aj,decide_eq_true_eq]at e;obtain⟨rfl,ht⟩:=e;obtain⟨O,k,tp,rfl⟩:=Az ht;obtain⟨D,l,rfl⟩:=dZ g;obtain rfl:=gm l;obtain⟨a,rfl,hs,j⟩:=ha.one;exact⟨Rf y (T.blt _ (by decide +kernel)) (jv j ot (cC hs)) (cC hs),λa z=>nomatch z⟩
set_option tactic.hygienic false
def jV(h:rO e=c_):∀v,foldedSetIterable e X.env v=pure v:=λv=>by
 cases e<;>first|rfl|cases h
theorem Bg:∀{cn:List bc}{is:List Nat},td N cn=a_ is->is.map (λj=>N[j]?)=cn.map a_
 |[],_,h=>by cases h;rfl
 |x::r,_,h=>by
   obtain⟨i,h1,h⟩:=cR h;obtain⟨is,h2,rfl⟩:=dZ h;rw[aq,aq,iF h1,Bg h2]
theorem lookup_mem:∀{L:List (bc×ku)},L.lookup x=a_ k->(x,k)∈L
 |[],h=>by cases h
 |(y,j)::r,h=>by
   rw[fE]at h;split at h
   ·simp_all
   ·exact kD _ (lookup_mem h)
structure FJ(S:Sc)(sc:my)(tn cn:List bc):Prop where
 kind:sc.kind=.function
 nocell:∀y∈sc.names,y.2≠.cell
 locs:∀y∈sc.names,y.2=.local->sc.names.lookup y.1=a_ .local
 frees:∀y∈sc.names,y.2=.free->S.nm.lookup y.1=a_ .cell\/S.nm.lookup y.1=a_ .free
 capk:∀x∈cn,(S.nm.lookup x=a_ .cell\/S.nm.lookup x=a_ .free)/\sc.names.lookup x=a_ .free
 nd:(tn++cn).Nodup
 tl:∀x∈tn,sc.names.lookup x=a_ .local
def K9(h:La S sc tn cn=c_):FJ S sc tn cn:=by
 unfold La at h;simp only[aj,br,decide_eq_true_eq,kQ,mH,decide_eq_false_iff_not]at h;obtain⟨⟨⟨⟨⟨⟨h1,h2⟩,h3⟩,d⟩,h5⟩,g⟩,j⟩:=h;refine⟨h1,h2,λy c e=>?_,λy c e=>?_,h5,g,j⟩
 ·rcases h3 y c with z|z
  ·exact absurd e z
  ·exact z
 ·rcases d y c with(z|z)|z
  ·exact absurd e z
  ·exact .inl z
  ·exact .inr z
def yL(T:pV G C S X)(h:FJ S sc tn cn)(d:td S.N cn=a_ caps):jh X sc tn cn caps where
 kind:=h.kind
 nocell:=h.nocell
 locs:=h.locs
 frees:=λy g e=>by unfold rl;rw[T.nm];exact h.frees y g e
 nofree:=λx e=>lookup_mem e
 caps:=by rw[T.N];exact Bg d
 capk:=λx c=>by unfold rl;rw[T.nm];exact(h.capk x c).1
 capn:=λx c=>(h.capk x c).2
def rB(T:pV G C S X)(h:FJ S sc tn cn)(cl:List (bc×aF))(c:ai)(d:Hp)(Ca:aF)(ex:List aF):pV G C (inner S sc tn cn) (eN X sc cl (tn++cn) c d Ca ex) where
 N:=rfl
 nm:=by
  show(relabel sc X.env).names=zU S sc;unfold relabel zU rl;rw[T.nm,T.kind];refine cJ λp _=>?_;obtain⟨n,k⟩:=p;dsimp only;rw[show(zq == zq)=c_ from rfl,eO]
 kind:=h.kind
 calm:=T.calm
 un:=T.un
 xe:=rfl
 fn:=λz=>nomatch z
 fns:=T.fns
 blt:=T.blt
 con:=T.con
end
section
variable{G:Sg}{C:Fs}{S:Sc}{X:Cx}{e:aX}{x:bc}{f:aX->Option Ex}
def Jo(T:pV G C S Y)(c:S.N.Nodup)(hi:S.N[i]?=a_ t)(hl:S.nm.lookup t=a_ .local):PG Y (.Name t p) (kH i):=by
 refine El (by rw[T.N];exact c) (by rw[T.N];exact hi) ?_ (.inr (by rw[T.nm];exact hl));unfold L2.Loc;rw[T.nm];exact .inl hl
def qt{sc:my}(h:sc.names.lookup x=a_ .local):(zU S sc).lookup x=a_ .local:=by
 unfold zU;generalize sc.names=L at h
 induction L with
 |nil=>cases h
 |cons p r c=>
   obtain⟨y,k⟩:=p;rw[fE]at h;rw[aq];by_cases d:(k == dW && S.nm.lookup y == a_ .cell)=c_
   ·dsimp only;rw[if_pos d,fE];split at h
    ·simp_all
    ·exact c h
   ·rw[if_neg d,fE];split at h
    ·exact h
    ·exact c h
theorem nr:∀{es:List aX}{tn:List bc},namesOf es=a_ tn->(assignEach es env).length=es.length/\(assignEach es env).findIdx? (·.1)=b_/\tn.length=es.length
 |[],tn,h=>by cases h;exact⟨rfl,rfl,rfl⟩
 |e::es,tn,h=>by
   obtain⟨t,h0,h⟩:=cR h;obtain⟨c,h1,rfl⟩:=dZ h;obtain⟨p,rfl⟩:=gn h0;obtain⟨d,g,j⟩:=nr (env:=env) h1;have e1:assignEach (.Name t p::es) env=(d_,assign (.Name t p) env)::assignEach es env:=rfl;rw[e1];refine⟨by simp[d],?_,by simp[j]⟩;rw[List.findIdx?_cons];simp[g]
def gK:Nat->Nat->Qs
 |_,0=>Hb
 |k,n+1=>w5 (kH k) (gK (k+1) n)
theorem E7:∀n k x σ H Q Q',(∀σ2 H2,Q σ2 H2->Q' σ2 H2)->gK k n x σ H Q->gK k n x σ H Q'
 |0,_=>Ha
 |n+1,k=>C7 u7 (E7 n (k+1))
theorem AM:∀n k,k+n<=nt->vj nt (gK k n)
 |0,_,_=>Gf
 |n+1,k,h=>B3 u7 (E7 n (k+1)) (uf (aB (bb _ _) h)) (AM n (k+1) (by omega))
theorem Kz{K:Fg}:∀(ds:List Dat)(vs:List V)(k:Nat)(σ:St)(ρ:iJ)(Q:St->Hp->Prop),cO K F ds vs->mV K F σ ρ->σ.length=ρ.length->(∀c,mV K F c (xZ k ds ρ)->Q c H)->gK k ds.length vs σ H Q
 |[],vs,k,σ,ρ,Q,r,R,hl,q=>⟨r,q σ R⟩
 |d::ds,vs,k,σ,ρ,Q,r,R,hl,q=>by
   obtain⟨v,w,rfl,g,j⟩:=r;exact⟨v,w,rfl,Kz ds w (k+1) _ _ Q j (zV hl R g) (by simpa using hl) q⟩
set_option tactic.hygienic true
def Ir{K:Fg}:UG K n d_ (Kx K n (gK 0 n)):=λF H σ ρ d x ρ1 Q g R j hl r hb k=>by
 cases d with
 |tup ds=>
   have hb:(if ds.length=n then a_ (xZ 0 ds ρ)else b_)=a_ ρ1:=hb;split at hb
   ·rename_i c;cases hb;obtain⟨a,vs,rfl,t,r⟩:=r;subst c;exact⟨a,vs,rfl,(t.mono g.sub).sq,r.length,Kz ds vs 0 σ ρ Q r R hl k⟩
   ·cases hb
 |_=>cases hb
theorem zY(T:pV G C S Y)(nd:S.N.Nodup):∀{es:List aX}{tn:List bc}(k:Nat),namesOf es=a_ tn->(∀i t,tn[i]?=a_ t->S.N[k+i]?=a_ t)->(∀t∈tn,S.nm.lookup t=a_ .local)->Vd Y es (gK k es.length)
 |[],_,_,_,_,_=>Ek
 |e::es,tn,k,h,hi,hl=>by
   obtain⟨t,h0,h⟩:=cR h;obtain⟨c,h1,rfl⟩:=dZ h;obtain⟨p,rfl⟩:=gn h0;refine zZ (Jo T nd (hi 0 t rfl) (hl t jE)) (zY T nd (k+1) h1 (λi t' e=>?_) λt' m=>hl t' (kD _ m));rw[show k+1+i=k+(i+1) by omega]
   simp_all
def Vo(T:pV G C S X)(ht:oM tg=a_ (one,tn))(h:FJ S sc tn (freeOf sc)) :
  ∃g,pC tn.length g/\UG X.K tn.length one g/\∀(cl:List (bc×aF))(c:ai)(d:Hp)(Ca:aF)(ex:List aF),PG (eN X sc cl (tn++freeOf sc) c d Ca ex) tg g:=by
 cases tg with
 |Name t p=>
   cases ht;refine⟨kH 0,uf (by simp),Mt,λcl c d Ca ex=>?_⟩;exact Jo (rB T h cl c d Ca ex) h.nd rfl (qt (h.tl t (by simp)))
 |Tuple es k pos=>
   obtain⟨l,h1,h2⟩:=dZ ht;cases h2;refine⟨Kx X.K tn.length (gK 0 tn.length),Ge (AM _ 0 (fZ (ao _) (aP _))),Ir,λcl c d Ca ex=>?_⟩;have j:=rB T h cl c d Ca ex;have n:=nr (env:=(eN X sc cl (tn++freeOf sc) c d Ca ex).env) h1;have q:=zY j h.nd 0 h1 (λi t e=>by rw[jS];exact(aU (aN.mp e).1).trans e) λt m=>qt (h.tl t m);rw[<-n.2.2]at q;exact Jl j.calm q (n.1.trans n.2.2.symm) n.2.1
 |_=>cases ht
def Ih(G:Sg)(C:Fs)(f:Sc->aX->Option Ex):Prop:=∀S e x,f S e=a_ x->∀X,pV G C S X->UT X C e x
def Bj(T:pV G C S X)(h:Qf G S x=a_ z):SE X C (.Name x p) z:=by
 obtain⟨hp,h⟩:=bX h;obtain⟨d1,d2,d3⟩:=je hp;split at h
 ·rename_i c;obtain⟨i,h1,rfl⟩:=dZ h;exact Rj i (by rw[T.N];exact iF h1) (oK T c) d1 d2
 ·obtain⟨g,h⟩:=bX h;obtain⟨d,h1,rfl⟩:=dZ h;obtain⟨v,u,j,r,hd⟩:=T.con x d h1;exact MY (me T g) j r hd.1 d1
def Ll{bs:List aX}(T:pV G C S X)(hf:∀e x,f e=a_ x->SE X C e x)(h:Qj f a ops bs=a_ z):SE X C (.Compare a ops bs pos) z/\ST X C (.Compare a ops bs pos) z:=by
 obtain⟨l,h1,d⟩:=cR h;clear h
 cases ho:ki ops with
 |some op=>
   obtain rfl:=gm ho;obtain⟨b,h2,g⟩:=cR d;obtain rfl:=gm h2;obtain⟨hs,j⟩:=bX g;obtain⟨o,c,k⟩:=cR j;obtain⟨q,h3,rfl⟩:=dZ k;exact⟨Ry (Fy T.un c) (hf _ _ h1) (hf _ _ h3) (JF hs),QO (Fy T.un c) (hf _ _ h1) (hf _ _ h3) (JF hs)⟩
 |none=>
   simp_all
def Bk(hf:∀e x,f e=a_ x->SE X C e x)(h:Lk f ks vs=a_ z):SE X C (.Dict ks vs pos) z:=by
 unfold Lk at h;split at h
 ·rename_i q;simp only[aj,iW]at q;obtain⟨rfl,rfl⟩:=q;cases h;exact MZ
 ·cases h
def Bi(hf:∀e x,f e=a_ x->SE X C e x)(h:Lg f o=a_ z):SO X C o z:=by
 cases o with
 |none=>cases h;exact MM
 |some e=>
   obtain⟨y,h1,rfl⟩:=dZ h;exact MK (hf _ _ h1)
def Ce{lo st:Option aX}(h:kN b=a_ (lo,hi,st)):∃p,b=.Slice lo hi st p:=by
 cases b with
 |Slice c d g p=>cases h;exact⟨p,rfl⟩
 |_=>cases h
def ng(h:kN b=b_):yU b:=by
 cases b<;>first|(intro o i;rfl)|cases h
def Fx(T:pV G C S X)(hf:∀e x,f e=a_ x->SE X C e x)(h:Xb f a b=a_ z):SE X C (.Subscript a b pos) z:=by
 obtain⟨j,h1,h⟩:=cR h
 cases hs:kN b with
 |some t=>
   rw[hs]at h;obtain⟨lo,hi,st⟩:=t;obtain⟨c,d⟩:=bX h;obtain⟨k,h2,g⟩:=cR d;obtain⟨l,h3,rfl⟩:=dZ g;obtain⟨p,rfl⟩:=Ce hs
   cases st with
   |none=>exact VH (hf _ _ h1) (Bi hf h2) (Bi hf h3)
   |some _=>cases c
 |none=>
   rw[hs]at h;obtain⟨q,h2,rfl⟩:=dZ h;exact VN (Y3 (aB (Nat.lt_sub_of_add_lt T.un) (by decide))) (hf _ _ h1) (hf _ _ h2) (ng hs)
def Li(T:pV G C S X)(hf:∀e x,f e=a_ x->SE X C e x)(h:Qg G S f o m ap es cp=a_ z):SE X C (.Call (.Attribute o m ap) es [] cp) z:=by
 obtain⟨c,h⟩:=bX h;obtain⟨xs,h1,h⟩:=cR h;have ha:=kO hf h1;obtain⟨hb,h⟩:=bX h;obtain⟨d,h0,h⟩:=cR h;obtain⟨g,h2,rfl⟩:=dZ h;have hs:=ha.star;exact OO (by have:=T.un;omega) h2 (hf _ _ h0) ha.sa ha.len (λe z=>by subst z;exact cC (by simpa using hs)) (λe e2 z=>by subst z;have q:=br.mp hs;exact⟨cC (q e (by simp)),cC (q e2 (by simp))⟩) hb c
def OL(T:pV G C S X)(hf:∀e x,f e=a_ x->SE X C e x)(h:Ud S f x y bt es=a_ z)
  (hl:∀a c(p q j pos:xI),du a=c_->Gl X x->Gl X y->SE X C a c->SE X C (.Call (.Name x p) [.Call (.Name y q) [a] [] j] [] pos) (.blt bt [c])):SE X C (.Call (.Name x p) es [] pos) z:=by
 obtain⟨e,h1,k⟩:=cR h;obtain⟨⟨l,as⟩,h2,g⟩:=cR k;obtain⟨q,j,rfl⟩:=xt h2;obtain rfl:=gm h1;split at g
 ·rename_i v;obtain rfl:l=y:=v;obtain⟨a,h3,B⟩:=cR g;obtain rfl:as=[a]:=gm h3;obtain⟨d,D⟩:=bX B;simp only[aj]at d;obtain⟨c,J,rfl⟩:=dZ D;exact hl a c _ _ _ _ d.2 (me T d.1.1) (me T d.1.2) (hf _ _ J)
 ·cases g
def Hq(T:pV G C S X)(hf:∀e x,f e=a_ x->SE X C e x)(h:Dr G S f x es=a_ z):SE X C (.Call (.Name x p) es [] pos) z:=by
 unfold Dr at h;split at h
 ·rename_i d;subst d;obtain⟨⟨a,t'⟩,h1,g⟩:=cR h;obtain rfl:es=[a,t']:=uK h1;obtain⟨t,h2,j⟩:=cR g;obtain⟨l,h5⟩:=gn h2;obtain rfl:t'=.Name t l:=h5;obtain⟨c,q⟩:=bX j;simp only[aj]at c;obtain⟨ty,h3,v⟩:=cR q;obtain⟨y,B,rfl⟩:=dZ v;obtain⟨b1,b2,b3,b4⟩:=Uc h3;exact Rw ty (me T c.1.1) (T.blt _ (by decide +kernel)) (me T c.1.2) (T.blt _ b2) b1 (hf _ _ B) b4 b3 (cC c.2) (ur (by rfl))
 ·generalize k:(if x="sorted" then Ud S f "sorted" "set" .sset es else b_)=w at h
  cases w with
  |some w=>
    cases h;split at k
    ·rename_i d;subst d;exact OL T hf k λa y _ _ _ _ hs g j ha=>MW T.un T.calm g (T.blt _ (by decide +kernel)) j (T.blt _ (by decide +kernel)) ha (by rw[cC hs];rfl)
    ·cases k
  |none=>
    obtain⟨xs,h1,h⟩:=cR h;exact OQ T (kO hf h1) h
def Bm(T:pV G C S X)(hf:∀e x,f e=a_ x->SE X C e x)(h:FA G S f fn es pos=a_ z):SE X C (.Call fn es [] pos) z:=by
 unfold FA at h
 cases c:vi fn with
 |some t=>
   obtain rfl:=sg c;exact Li T hf h
 |none=>
   rw[c]at h;obtain⟨x,h1,h⟩:=cR h;obtain⟨p,rfl⟩:=gn h1;exact Hq T hf h
def AL(h:P8 gs=a_ g):gs=[⟨g.tg,g.it,g.ifs,0⟩]:=by
 obtain⟨c,h1,d⟩:=cR h;obtain rfl:=gm h1;split at d
 ·rename_i j;cases d;cases c;cases j;rfl
 ·cases d
set_option tactic.hygienic false
def Bl(B:Ih G C F)(T:pV G C S X)(h:Qi S F elt g sc=a_ z) :
  ∃tn caps one it xs xe l,z=.comp tn caps one it xs xe/\∃tl:List bc,tl.length=tn/\jh X sc tl (freeOf sc) one/\SI X C g.tg g.it it/\pC tl.length l/\UG X.K tl.length caps l/\
   (∀(cl:List (bc×aF))(d:ai)(j:Hp)(Ca:aF)(ex:List aF),PG (eN X sc cl (tl++freeOf sc) d j Ca ex) g.tg l/\LZ (eN X sc cl (tl++freeOf sc) d j Ca ex) g.ifs (U4 X.K C xs)/\SE (eN X sc cl (tl++freeOf sc) d j Ca ex) C elt xe)/\rO g.it=c_:=by
 obtain⟨⟨one,tn⟩,h0,h⟩:=cR h;obtain⟨caps,h1,h⟩:=cR h;obtain⟨D,h⟩:=bX h;simp only[aj]at D;obtain⟨it,h2,h⟩:=cR h;obtain⟨xs,h3,h⟩:=cR h;obtain⟨xe,O,rfl⟩:=dZ h;have J:=K9 D.1;obtain⟨l,k,L,R⟩:=Vo T h0 J;refine⟨_,_,_,it,xs,xe,l,rfl,tn,rfl,yL T J h1,(Qh T (λe x q=>(B _ _ _ q X T).1) h2).1,k,L,λcl d j Ca ex=>?_,D.2⟩;have M:=rB T J cl d j Ca ex;refine⟨R cl d j Ca ex,?_,(B _ _ _ O _ M).1⟩;generalize g.ifs=ifs at h3
 cases ifs with
 |nil=>cases h3;exact Mz
 |cons c r=>
   obtain⟨v,h5⟩:=bX h3;simp only[aj,iW]at v;obtain⟨rfl,v⟩:=v;obtain⟨y,U,rfl⟩:=dZ h5;exact My ((B _ _ _ U _ M).2 v)
def OP(T:pV G C S X)(hf:∀e x,f e=a_ x->SE X C e x)(h:Ug S f fn args kws=a_ z):SE X C (.Call fn args kws pos) z:=by
 obtain⟨x,h1,h⟩:=cR h;obtain⟨a,h2,h⟩:=cR h;obtain⟨k,h3,h⟩:=cR h;obtain⟨g,h⟩:=bX h;obtain⟨y,j,rfl⟩:=dZ h;simp only[aj,decide_eq_true_eq]at g;obtain⟨⟨⟨⟨rfl,l⟩,hs⟩,q⟩,v⟩:=g;obtain⟨p,rfl⟩:=gn h1;obtain rfl:=gm h2;obtain rfl:=gm h3;obtain⟨B,D,kp⟩:=k;obtain⟨c,cp,rfl⟩:=G4 q;cases v;have d:=cC (es:=[]) (env:=X.env) hs;exact Rr T.calm (me T l) (T.blt _ (by decide +kernel)) (jv (hf _ _ j) ot d) d
theorem xu:∀n,Ih G C (cE G n)
 |0=>λ_ _ _ h=>by cases h
 |n+1=>λS e z h X T=>by
   have D:=λe x h=>xu n S e x h X T;have hf:=λe x h=>(D e x h).1
   cases e with
   |Constant c k p=>
     obtain⟨d,h1,rfl⟩:=dZ h
     have q:SE X C (.Constant c k p) (.con d):=by
      cases c<;>first|(cases h1;first|exact Rx|exact VO|exact Ro|exact Rn)|cases h1
     exact⟨q,λ_=>kC q⟩
   |Name x p=>exact⟨Bj T h,λ_=>kC (Bj T h)⟩
   |BinOp a op b p=>
     have h:(if OJ op a b=c_ then(cE G n S a).bind λv=>(cE G n S b).map λy=>Ex.cat v y else(Uo op).bind λo=>(cE G n S a).bind λv=>(cE G n S b).map λy=>.bin o v y)=a_ z:=h;by_cases J:OJ op a b=c_
     ·rw[if_pos J]at h;obtain⟨v,h1,h⟩:=cR h;obtain⟨y,h2,rfl⟩:=dZ h;simp only[OJ,aj]at J;obtain rfl:=G5 J.1.1;have q:=Rz (pos:=p) (hf _ _ h1) (hf _ _ h2);exact⟨q,λ_=>kC q⟩
     rw[if_neg J]at h;obtain⟨o,h0,h⟩:=cR h;obtain⟨v,h1,h⟩:=cR h;obtain⟨y,h2,rfl⟩:=dZ h;have q:=RA (pos:=p) (OS h0) (hf _ _ h1) (hf _ _ h2);exact⟨q,λ_=>kC q⟩
   |UnaryOp op a p=>
     cases op with
     |USub=>
       obtain⟨v,h1,rfl⟩:=dZ h;have q:=Rq (pos:=p) (hf _ _ h1);exact⟨q,λ_=>kC q⟩
     |Not=>
       obtain⟨B,h⟩:=bX h;obtain⟨v,h1,rfl⟩:=dZ h;exact⟨MX (hf _ _ h1),λ_=>QN ((D _ _ h1).2 B)⟩
     |_=>cases h
   |BoolOp op es p=>
     obtain⟨B,h⟩:=bX h
     cases op with
     |And=>
       obtain⟨xs,h1,h⟩:=cR h;have q:=xf (pos:=p) (kO D h1) B h;exact⟨q.1,λ_=>q.2.pt⟩
     |Or=>
       obtain⟨xs,h1,h⟩:=cR h;have q:=AR (pos:=p) (kO D h1) B h;exact⟨q.1,λ_=>q.2.pt⟩
   |Compare a O bs p=>
     have q:=Ll (pos:=p) T hf h;exact⟨q.1,λ_=>q.2⟩
   |IfExp c a b p=>
     obtain⟨B,h⟩:=bX h;obtain⟨xc,h1,h⟩:=cR h;obtain⟨v,h2,h⟩:=cR h;obtain⟨y,h3,rfl⟩:=dZ h;exact⟨Rv ((D _ _ h1).2 B) (hf _ _ h2) (hf _ _ h3),λz=>by cases z⟩
   |Tuple es k p=>
     obtain⟨xs,h1,rfl⟩:=dZ h;have q:=Rk (x1:=k) (pos:=p) (kO hf h1).sf;exact⟨q,λ_=>kC q⟩
   |List es p=>
     obtain⟨xs,h1,rfl⟩:=dZ h;have q:=Rt (pos:=p) (kO hf h1).sf;exact⟨q,λ_=>kC q⟩
   |Dict ks vs p=>exact⟨Bk hf h,λ_=>kC (Bk hf h)⟩
   |Subscript a b p=>exact⟨Fx T hf h,λ_=>kC (Fx T hf h)⟩
   |Call fn args kws cp=>
     by_cases M:kws.isEmpty=c_
     ·cases kws with
      |nil=>exact⟨Bm T hf h,λ_=>kC (Bm T hf h)⟩
      |cons _ _=>cases M
     ·have h:(if kws.isEmpty=c_ then FA G S (cE G n S) fn args cp else Ug S (cE G n S) fn args kws)=a_ z:=h;rw[if_neg M]at h;have q:=OP (pos:=cp) T hf h;exact⟨q,λ_=>kC q⟩
   |ListComp elt gs sc p=>
     obtain⟨g,h1,h⟩:=cR h;obtain rfl:=AL h1;obtain⟨_,_,_,it,xs,xe,gg,rfl,tl,rfl,R,U,W,Y,L,Z⟩:=Bl (xu n) T h;have q:=M0 (pos:=p) T.calm R U W Y (λcl j l Ca ex=>(L cl j l Ca ex).1) (λcl j l Ca ex=>(L cl j l Ca ex).2.1) (λcl j l Ca ex=>(L cl j l Ca ex).2.2) (jV Z);exact⟨q,λ_=>kC q⟩
   |_=>cases h
end
noncomputable def nj:aX->Bool
 |.ListComp _ _ _ _=>d_
 |.SetComp _ _ _ _=>d_
 |.DictComp _ _ _ _ _=>d_
 |_=>c_
noncomputable def Iy(S:Sc)(sc:my)(cp:xI)(t:bc)(p:xI):Bool:=S.nm.lookup t == a_ .local && p.line == cp.line && !(sc.names.any λ(n,k)=>n == t && (k == .local || k == .cell))
noncomputable def Xe(m:bc)(k:Nat):Option Ht:=
 if m="append"/\k=1 then a_ .app else if m="extend"/\k=1 then a_ .ext else b_
def IX(S:Sc)(e:aX):Option Nat:=(k7 e).bind λx=>if(l5 x && zy S x)=c_ then tz x S.N else b_
def Xc(G:Sg)(S:Sc)(f:aX->Option Ex):Option aX->Option Sx
 |none=>b_
 | some e=>match IX S e with
   |some i=>a_ (.nc i)
   |none=>(f e).map .ret
def zD:aX->Option (bc×aX)
 |.Subscript a ix _=>(k7 a).map λx=>(x,ix)
 |_=>b_
def QG:aX->Option (bc×aX×aX)
 |.Subscript a k _=>(zD a).map λz=>(z.1,z.2,k)
 |_=>b_
def Uq(S:Sc)(f:aX->Option Ex)(t e:aX):Option Sx:=match k7 t with
 |some x=>if yp S x=c_ then(tz x S.N).bind λi=>(f e).map λxe=>.set i xe else b_
 | none=>match zD t with
   |some (x,ix)=>if(zy S x && l5 x && (kN ix).isNone && nj e)=c_ then(tz x S.N).bind λi=>(f e).bind λxe=>(f ix).map λc=>.mut .seti i [xe,c]else b_
   | none=>match QG t with
    |some (x,ix,k)=>if(zy S x && l5 x && (kN ix).isNone && (kN k).isNone && nj e)=c_ then(tz x S.N).bind λi=>(f e).bind λxe=>(f ix).bind λc=>(f k).map λd=>.PZ i c d xe else b_
    |none=>(oM t).bind λtn=>if(tn.2.all (yp S) && !isTup e && !tn.1)=c_ then(td S.N tn.2).bind λg=>(f e).map λxe=>.Vi g xe else b_
structure Mc where
 x:bc
 m:bc
 ap:xI
 args:List aX
 cp:xI
def S6(e:aX):Option Mc:=(OK e).bind λc=>(vi c.fn).bind λt=>(k7 t.1).bind λx=>if c.kws.isEmpty=c_ then a_ ⟨x,t.2.1,t.2.2,c.args,c.pos⟩else b_
noncomputable def YE:List aX->Option aX
 |[a]=>a_ a
 |_=>b_
structure Mk where
 x:bc
 ix:aX
 ap:xI
 a:aX
 cp:xI
def SY(e:aX):Option Mk:=(OK e).bind λc=>(vi c.fn).bind λt=>(zD t.1).bind λz=>(YE c.args).bind λa=>if(c.kws.isEmpty && t.2.1 == "append")=c_ then a_ ⟨z.1,z.2,t.2.2,a,c.pos⟩else b_
def cExp(S:Sc)(f:aX->Option Ex)(e:aX):Option Sx:=match S6 e with
 |some c=>if(zy S c.x && l5 c.x && (c.ap.endLine == c.cp.line))=c_ then(tz c.x S.N).bind λi=>(vR f c.args).bind λxs=>(Xe c.m xs.length).map λop=>.mut op i xs else b_
 | none=>match SY e with
   |some c=>if(zy S c.x && l5 c.x && (kN c.ix).isNone && (c.ap.endLine == c.cp.line) && du c.a)=c_ then(tz c.x S.N).bind λi=>(f c.ix).bind λd=>(f c.a).map λg=>if Kh c.ix=c_ then .U2 i d g else .U0 .app i d [g]else b_
   |none=>if nj e=c_ then(f e).map .exp else b_
def wH(f:kK->Option Sx)(ss:List kK):List Sx:=ss.map λs=>(f s).getD .LP
def cS(G:Sg)(S:Sc):Nat->kK->Option Sx
 |0,_=>b_
 | n+1,st=>match st with
   |.Return v _=>Xc G S (cE G n S) v
   |.Assign d e _=>(ki d).bind λt=>Uq S (cE G n S) t e
   |.Expr e _=>cExp S (cE G n S) e
   |.If c a b _=>if sH c=c_ then(cE G n S c).map λj=>.ifs j (wH (cS G S n) a) (wH (cS G S n) b)else b_
   |.For tg iter body g _=>if g.isEmpty=c_ then(oM tg).bind λt=>if(t.2.all (yp S) && rO iter)=c_ then(td S.N t.2).bind λd=>(cI S (cE G n S) tg iter).map λit=>.loop t.1 d it (wH (cS G S n) body)else b_ else b_
   |_=>b_
section
variable{G:Sg}{X:Cx}
theorem jx{f:kK->Option Sx}(hf:∀s y,f s=a_ y->SS X C s y):∀(ss:List kK),O2 X C ss (wH f ss)
 |[]=>MB
 | s::r=>Iz (by
    show SS X C s ((f s).getD .LP)
    cases q:f s with
    |none=>exact QS
    |some y=>exact hf _ _ q) (jx hf r)
def uL(h:nj e=c_):swapsWith e t line X.env=pure d_:=by
 cases e<;>first|rfl|cases h
def Jm(T:pV G C S X)(ht:S.top=c_)(c:S.N.Nodup)(hi:S.N[i]?=a_ t)(hl:yp S t=c_):PG X (.Name t p) (kH i):=
 El (by rw[T.N];exact c) (by rw[T.N];exact hi) (tW T hl) (.inl (T.fn ht t))
theorem Ah(T:pV G C S X)(c:S.top=c_)(j:S.N.Nodup):∀{es:List aX}{tn:List bc}{d:List Nat},namesOf es=a_ tn->tn.all (yp S)=c_->td S.N tn=a_ d->Vd X es (XN d)/\d.length=es.length
 |[],tn,d,h,_,g=>by
   cases h;cases g;exact⟨Ek,rfl⟩
 |e::es,tn,d,h,hl,g=>by
   obtain⟨t,h0,h⟩:=cR h;obtain⟨k,h1,rfl⟩:=dZ h;obtain⟨p,rfl⟩:=gn h0;obtain⟨i,h2,g⟩:=cR g;obtain⟨is,h3,rfl⟩:=dZ g;rw[dC,aj]at hl;obtain⟨l,q⟩:=Ah T c j h1 hl.2 h3;exact⟨zZ (Jm T c j (iF h2) hl.1) l,congrArg (·+ 1) q⟩
def Iu(T:pV G C S X)(c:S.top=c_)(j:S.N.Nodup)(ht:oM tg=a_ (one,tn))(hl:tn.all (yp S)=c_)(d:td S.N tn=a_ ts) :
  ∃g,UE X.K one ts g/\PG X tg g:=by
 cases tg with
 |Name t p=>
   cases ht;obtain⟨i,h1,d⟩:=cR d;cases d;exact⟨kH i,Ms,Jm T c j (iF h1) (by simpa using hl)⟩
 |Tuple es k p=>
   obtain⟨l,h1,h⟩:=dZ ht;cases h;obtain⟨q,v⟩:=Ah T c j h1 hl d;exact⟨_,Iq,Jl T.calm q ((nr h1).1.trans v.symm) (nr h1).2.1⟩
 |_=>cases ht
def ON(T:pV G C S X)(hf:∀e x,f e=a_ x->SE X C e x)(h:Xc G S f v=a_ y):SS X C (.Return v pos) y:=by
 cases v with
 |none=>cases h
 |some e=>
   have h:(match IX S e with|some i=>a_ (Sx.nc i)|none=>(f e).map .ret)=a_ y:=h
   cases c:IX S e with
   |some i=>
     rw[c]at h;cases h;obtain⟨x,h1,h2⟩:=cR c;obtain⟨p,rfl⟩:=gn h1;obtain⟨d,h2⟩:=bX h2;rw[aj]at d;obtain⟨d1,d2,d3⟩:=je d.1;exact ME (by rw[T.N];exact iF h2) (oK T d.2) d1 d2
   |none=>
     rw[c]at h;obtain⟨xe,h1,rfl⟩:=dZ h;exact QT (hf _ _ h1)
def wx{ix:aX}(h:nj e=c_):swapsWithSole [.Subscript a ix sp] e line env=pure d_/\swappedStores [.Subscript a ix sp] e env=pure b_:=by
 cases e<;>first|exact⟨rfl,rfl⟩|cases h
def Gc(h:isTup e=d_):swapsWithSole [.Tuple es k tp] e line env=pure d_/\swappedStores [.Tuple es k tp] e env=pure b_:=by
 cases e<;>first|exact⟨rfl,rfl⟩|cases h
def ug{ix:aX}(h:zD t=a_ (x,ix)):∃p sp,t=.Subscript (.Name x p) ix sp:=by
 cases t with
 |Subscript a c sp=>
   obtain⟨x',h1,h2⟩:=dZ h;cases h2;obtain⟨p,rfl⟩:=gn h1;exact⟨p,sp,rfl⟩
 |_=>cases h
def Mx{ix:aX}(h:QG t=a_ (x,ix,k)):∃p sp c,t=.Subscript (.Subscript (.Name x p) ix sp) k c:=by
 cases t with
 |Subscript a b q=>
   obtain⟨⟨y,z⟩,h1,h2⟩:=dZ h;cases h2;obtain⟨p,sp,rfl⟩:=ug h1;exact⟨p,sp,q,rfl⟩
 |_=>cases h
def Vp(h:oM t=a_ (d_,tn)):∃es k tp,t=.Tuple es k tp:=by
 cases t with
 |Tuple es k tp=>exact⟨es,k,tp,rfl⟩
 |_=>cases h
def WE{ix:aX}(h:kN ix=b_):∀v,assign (.Subscript o ix p) env v=(do
   let ov <-holding [v] (eval o env);let iv <-holding [v,ov] (eval ix env)
   standAt p
   holding [v,ov,iv] (setItem ov iv v)
   release [v,ov,iv] []):=λv=>by
 cases ix<;>first|rfl|cases h
def T9(d:¬nj e=c_)(h:cE G n S e=a_ z):∃elt c sc cp,e=.ListComp elt c sc cp:=by
 cases n with
 |zero=>cases h
 |succ n=>
   cases e with
   |ListComp elt c sc cp=>exact⟨_,_,_,_,rfl⟩
   |SetComp _ _ _ _=>cases h
   |DictComp _ _ _ _ _=>cases h
   |_=>exact absurd rfl d
def OM(T:pV G C S X)(top:S.top=c_)(nd:S.N.Nodup)(hl:yp S x=c_)(h1:tz x S.N=a_ i)(h2:cE G n S e=a_ xe):SS X C (.Assign [.Name x p] e pos) (.set i xe):=by
 have k:X.N.Nodup:=by rw[T.N];exact nd
 have hi:X.N[i]?=a_ x:=by rw[T.N];exact iF h1
 have q:=(xu n S e xe h2 X T).1;by_cases v:nj e=c_
 ·exact IB k hi (tW T hl) q (uL v) (.inl (T.fn top x))
 ·obtain⟨elt,y,sc,cp,rfl⟩:=T9 v h2
  have j:swapsWith (.ListComp elt y sc cp) (a_ (.Name x p)) pos.line X.env=pure (Iy S sc cp x p):=by
   unfold swapsWith Iy;have hb:X.env.blockKind=.function:=by unfold Env.blockKind;rw[T.kind];rfl
   simp only[hb,rl,T.nm];rfl
  cases hb:Iy S sc cp x p with
  |false=>
    rw[hb]at j;exact IB k hi (tW T hl) q j (.inl (T.fn top x))
  |true=>
    rw[hb]at j
    cases n with
    |zero=>cases h2
    |succ n=>
      obtain⟨g,h3,z⟩:=cR h2;obtain rfl:=AL h3;obtain⟨_,_,_,it,xs,xe,O,rfl,tl,rfl,B,D,J,L,l,M⟩:=Bl (xu n) T z;exact B9 k hi (tW T hl) T.calm B D J L (λcl c d Ca ex=>(l cl c d Ca ex).1) (λcl c d Ca ex=>(l cl c d Ca ex).2.1) (λcl c d Ca ex=>(l cl c d Ca ex).2.2) j (jV M) (.inl (T.fn top x))
def OT(T:pV G C S X)(top:S.top=c_)(nd:S.N.Nodup)(h:Uq S (cE G n S) t e=a_ y):SS X C (.Assign [t] e pos) y:=by
 have hf:=λe x(h)=>(xu n S e x h X T).1;unfold Uq at h
 cases ht:k7 t with
 |some x=>
   obtain⟨p,rfl⟩:=gn ht;obtain⟨hl,d⟩:=bX h;obtain⟨i,h1,j⟩:=cR d;obtain⟨xe,h2,rfl⟩:=dZ j;exact OM T top nd hl h1 h2
 |none=>
   rw[ht]at h
   cases hs:zD t with
   |some z=>
     obtain⟨x,ix⟩:=z;obtain⟨p,sp,rfl⟩:=ug hs;obtain⟨v,d⟩:=bX h;simp only[aj,eD]at v;obtain⟨⟨⟨L,hp⟩,l⟩,q⟩:=v;obtain⟨i,h1,j⟩:=cR d;obtain⟨xe,h2,B⟩:=cR j;obtain⟨R,h3,rfl⟩:=dZ B;obtain⟨d1,d2,d3⟩:=je hp;have hi:X.N[i]?=a_ x:=by rw[T.N];exact iF h1
     have c:=wx (line:=pos.line) (env:=X.env) (a:=.Name x p) (ix:=ix) (sp:=sp) q;have D:=rL (pos:=p) hi (oK T L) d1 d2;exact MD (Cu (hf _ _ h2) (Jn D (hf _ _ h3) (DZ (by have:=T.un;omega)) (WE l)) c.1 c.2 rfl)
   |none=>
    rw[hs]at h
    cases J:QG t with
    |some z=>
     obtain⟨x,ix,k⟩:=z;obtain⟨p,sp,M,rfl⟩:=Mx J;obtain⟨v,d⟩:=bX h;simp only[aj,eD]at v;obtain⟨⟨⟨⟨L,hp⟩,l⟩,O⟩,q⟩:=v;obtain⟨i,h1,j⟩:=cR d;obtain⟨xe,h2,B⟩:=cR j;obtain⟨R,h3,U⟩:=cR B;obtain⟨xk,W,rfl⟩:=dZ U;obtain⟨d1,d2,d3⟩:=je hp;have hi:X.N[i]?=a_ x:=by rw[T.N];exact iF h1
     have c:=wx (line:=pos.line) (env:=X.env) (a:=.Subscript (.Name x p) ix sp) (ix:=k) (sp:=M) q;exact QV (Cu (hf _ _ h2) (Jn (Em yt (rL hi (oK T L) d1 d2) (hf _ _ h3) (ng l)) (hf _ _ W) (DZ (by have:=T.un;omega)) (WE O)) c.1 c.2 rfl)
    |none=>
     rw[J]at h;obtain⟨⟨one,tn⟩,h0,d⟩:=cR h;obtain⟨hl,j⟩:=bX d;simp only[aj,mH]at hl;obtain⟨ts,h1,B⟩:=cR j;obtain⟨xe,h3,rfl⟩:=dZ B;obtain⟨g,Y,Z⟩:=Iu T top nd h0 hl.1.1 h1;obtain rfl:one=d_:=hl.2;obtain⟨es,k,tp,rfl⟩:=Vp h0;have c:=Gc (line:=pos.line) (env:=X.env) (es:=es) (k:=k) (tp:=tp) hl.1.2;exact QR (hf _ _ h3) Y Z c.1 c.2 rfl
def N3(h:S6 e=a_ c):∃p,e=.Call (.Attribute (.Name c.x p) c.m c.ap) c.args [] c.cp:=by
 obtain⟨⟨fn,as,kws,cp⟩,h0,g0⟩:=cR h;obtain⟨⟨o,m,ap⟩,h1,d⟩:=cR g0;obtain⟨x,h2,g⟩:=cR d;obtain⟨j,k⟩:=bX g;cases k;obtain⟨p,l⟩:=gn h2;obtain rfl:o=.Name x p:=l;obtain rfl:kws=[]:=iW.mp j;obtain rfl:fn=.Attribute (.Name x p) m ap:=sg h1;exact⟨p,yQ h0⟩
def NZ(h:SY e=a_ c):∃p sp,e=.Call (.Attribute (.Subscript (.Name c.x p) c.ix sp) "append" c.ap) [c.a] [] c.cp:=by
 obtain⟨⟨fn,args,kws,cp⟩,h0,g⟩:=cR h;obtain⟨⟨o,m,ap⟩,h1,g⟩:=cR g;obtain⟨⟨x,ix⟩,h2,g⟩:=cR g;obtain⟨a,h3,g⟩:=cR g;obtain⟨d,g⟩:=bX g;cases g;simp only[aj,beq_iff_eq]at d;obtain⟨d,j⟩:=d;obtain⟨p,sp,k⟩:=ug h2;obtain rfl:o=.Subscript (.Name x p) ix sp:=k;obtain rfl:kws=[]:=iW.mp d;obtain rfl:m="append":=j;obtain rfl:fn=.Attribute (.Subscript (.Name x p) ix sp) "append" ap:=sg h1
 match args,h3 with
 |[l],h3=>cases h3;exact⟨p,sp,yQ h0⟩
set_option tactic.hygienic true in
def OR(T:pV G C S X)(hf:∀e x,f e=a_ x->SE X C e x)(h:cExp S f e=a_ y):SS X C (.Expr e pos) y:=by
 unfold cExp at h
 cases k:S6 e with
 |none=>
   rw[k]at h
   cases l:SY e with
   |none=>
     rw[l]at h;obtain⟨R,q⟩:=bX h;obtain⟨xe,h1,rfl⟩:=dZ q;exact QY (hf _ _ h1) (uL R)
   |some c=>
     rw[l]at h;obtain⟨p,sp,rfl⟩:=NZ l;obtain⟨x,ix,ap,a,cp⟩:=c;obtain⟨v,q⟩:=bX h;simp only[aj,eD]at v;obtain⟨⟨⟨⟨J,hp⟩,z⟩,j⟩,L⟩:=v;obtain⟨i,h1,B⟩:=cR q;obtain⟨W,h2,D⟩:=cR B;obtain⟨M,h3,rfl⟩:=dZ D;obtain⟨d1,d2,d3⟩:=je hp;have g:=rL (pos:=p) (by rw[T.N];exact iF h1) (oK T J) d1 d2;have d:aO [a] X.env=(d_,eval a X.env)::aO [] X.env:=cC L;by_cases O:Kh ix=c_
     ·rw[if_pos O];exact QW C2 (qk (uH gh i5 lX rR (Em yt g (hf _ _ h2) (ng z)) (qm (hf _ _ h3) x8 d) rfl (by rw[d];rfl) j d rfl) rfl)
     rw[if_neg O];exact QU (by simp) (by simp) (by simp) C2 (qk (uH gh i5 lX rR (Em (Tv (by have:=T.un;omega)) g (hf _ _ h2) (ng z)) (DX (hf _ _ h3) II d) rfl (by rw[d];rfl) j d rfl) rfl)
 |some c=>
   rw[k]at h;obtain⟨p,rfl⟩:=N3 k;obtain⟨x,m,ap,args,cp⟩:=c;obtain⟨v,q⟩:=bX h;simp only[aj]at v;obtain⟨⟨J,hp⟩,j⟩:=v;obtain⟨i,h1,B⟩:=cR q;obtain⟨xs,h2,D⟩:=cR B;obtain⟨op,h3,rfl⟩:=dZ D;obtain⟨d1,d2,d3⟩:=je hp;have ha:=kO hf h2;have g:=rL (pos:=p) (by rw[T.N];exact iF h1) (oK T J) d1 d2;clear h q B D k h2;unfold Xe at h3;split at h3
   ·rename_i k;obtain⟨rfl,l⟩:=k;cases h3;obtain⟨M,rfl⟩:=BC.mp l;obtain⟨e,rfl,hs,U⟩:=ha.one;have d:aO [e] X.env=(d_,eval e X.env)::aO [] X.env:=cC hs;exact MF (by simp) (by simp) (by simp) C2 (qk (uH gh i5 lX rR g ha.sf rfl (by rw[d];rfl) j d rfl) rfl)
   split at h3
   ·rename_i k;obtain⟨rfl,l⟩:=k;cases h3;obtain⟨M,rfl⟩:=BC.mp l;obtain⟨e,rfl,hs,U⟩:=ha.one;have d:aO [e] X.env=(d_,eval e X.env)::aO [] X.env:=cC hs;exact QX (qk (uH gh iZ PySem.F.type_list_extend SU g ha.sf rfl (by rw[d];rfl) j d rfl) rfl)
   ·cases h3
theorem Qe(T:pV G C S X)(top:S.top=c_)(nd:S.N.Nodup):∀(n:Nat)(st:kK)(y:Sx),cS G S n st=a_ y->SS X C st y
 |0,_,_,h=>by cases h
 |n+1,st,y,h=>by
   have B:=λe x(h)=>xu n S e x h X T;have hf:=λe x h=>(B e x h).1;have hs:=Qe T top nd n
   cases st with
   |Return v p=>exact ON T hf h
   |Assign D e p=>
     obtain⟨t,h1,k⟩:=cR h;obtain rfl:=gm h1;exact OT T top nd k
   |Expr e p=>exact OR T hf h
   |If c a b p=>
     obtain⟨J,k⟩:=bX h;obtain⟨Y,h1,rfl⟩:=dZ k;exact VC ((B _ _ h1).2 J) (jx hs _) (jx hs _)
   |For tg iter body L p=>
     obtain⟨M,k⟩:=bX h;obtain rfl:=iW.mp M;obtain⟨⟨one,tn⟩,h0,O⟩:=cR k;obtain⟨j,R⟩:=bX O;rw[aj]at j;obtain⟨D,h1,U⟩:=cR R;obtain⟨it,h2,rfl⟩:=dZ U;obtain⟨g,d,l⟩:=Iu T top nd h0 j.1 h1;obtain⟨q,W⟩:=Qh T hf h2;have hp:Hx (aD X.prog X.w) X.A X.env X.xe:=by rw[T.xe];exact PassesOwn.never
     cases it with
     |itv a=>exact MG hp T.calm (W a rfl) l d (jx hs _) (jV j.2)
     |rng es=>exact xT hp T.calm q (λa z=>nomatch z) l d (jx hs _) (jV j.2)
     |zip es=>exact xT hp T.calm q (λa z=>nomatch z) l d (jx hs _) (jV j.2)
     |enu a=>exact xT hp T.calm q (λa z=>nomatch z) l d (jx hs _) (jV j.2)
     |rev a=>exact xT hp T.calm q (λa z=>nomatch z) l d (jx hs _) (jV j.2)
   |_=>cases h
end
structure Df where
 st:kK
 p:Nat
 n:Nat
 body:List Sx
noncomputable def Df.name(d:Df):bc:=match d.st with
 |.FunctionDef x _ _ _ _ _ _ _ _ _=>x
 |_=>""
def Df.ps(d:Df):List bc:=(yH d.st).args.map λa=>a.arg
def Df.N(d:Df):List bc:=d.ps++((dG d.st).names.filterMap λp=>if(p.2 == .local || p.2 == .cell) && !(d.ps.contains p.1)then a_ p.1 else b_)
def Cn(D:List Df):Nat->Fs
 |0=>λ_ _=>b_
 | n+1=>λj ds=>match D[j]? with
   |some d=>Oy (Cn D n) d.p d.n d.body ds
   |none=>b_
def MU(D:List Df)(con:List (bc×Dat)):Sg:=⟨D.map λd=>(d.name,d.p),con⟩
structure UR(G:Sg)(d:Df):Prop where
 sc:qQ d.N d.ps (dG d.st)
 pn:d.ps.length=d.p
 nn:d.N.length=d.n
 cmp:wH (cS G ⟨d.N,(dG d.st).names,c_⟩ 40) (oS d.st)=d.body
section
variable{K:Fg}{mg:bc->Option ah}{base:cc}
structure At(K:Fg)(mg:bc->Option ah)(d:Df)(f:aF)(fd:jG):Prop where
 fn:X4 K d.name d.name d.st f fd
 mgf:mg d.name=a_ (.ref f)
 bd:∀us:List ah,us.length=d.ps.length->bindArgs fd ⟨us,[]⟩=pure (d.ps.zip us)
def VT(K:Fg)(d:Df):Option (aF×ah×Option aF×jG×Array (Option ah)):=match mZ K mainGlobals d.name with
 | some (a_ (.ref f))=>match K.lookup f with
   |some ⟨oc,od,.func fd,l⟩=>a_ (f,oc,od,fd,l)
   |_=>b_
 |_=>b_
def ZX(d:Df)(kV doc pm:ah)(an:Option aF)(cdv ct:ah):jG:=p7 d.name d.name (yH d.st) (oS d.st) (dG d.st) .none kV doc pm an cdv ct
def ZO(K:Fg)(d:Df):Bool:=match VT K d with
 |some x=>t5 K x.2.2.2.1.code d.name && f7 K (.ref x.1)
 |none=>d_
def ZN(K:Fg)(d:Df):Option jG:=(VT K d).map λx=>x.2.2.2.1
def ZM(K:Fg)(d:Df):Option jG:=(VT K d).map λx=>ZX d x.2.2.2.1.kwdefaults x.2.2.2.1.doc x.2.2.2.1.pyModule x.2.2.2.1.annotations x.2.2.2.1.code x.2.2.2.1.closureTuple
set_option tactic.hygienic true in
def UC{D:List Df}(X:K.In h)(G:h.Ns mainGlobals mg)(h1:D.map (ZN K)=D.map (ZM K))(h2:D.all (ZO K)=c_)(h3:∀(kV doc pm:ah) (an:Option aF) (cdv ct:ah) (u:Nat->ah),D.map (λd=>bindArgs (ZX d kV doc pm an cdv ct) ⟨(aK d.ps.length).map u,[]⟩)=D.map λd=>pure (d.ps.zip ((aK d.ps.length).map u))) :
  ∀d∈D,∃f fd,At K mg d f fd:=λd hd=>by
 have e1:=sy.mp h1 d hd;have e2:=br.mp h2 d hd;unfold ZO at e2;unfold ZN ZM at e1
 cases e:VT K d with
 |none=>rw[e]at e2;cases e2
 |some x=>
   obtain⟨f,oc,od,fd,l⟩:=x;rw[e]at e1 e2;have e1 :=bx e1;obtain⟨c,k⟩:=iT.mp e2;unfold VT at e;split at e
   ·rename_i f' a;split at e
    ·rename_i g;cases e;refine⟨f,fd,⟨⟨_,_,_,_,_,_,_,_,_,e1,g,c⟩,k⟩,LD X G a,λus j=>?_⟩;have:=sy.mp (h3 fd.kwdefaults fd.doc fd.pyModule fd.annotations fd.code fd.closureTuple λi=>us.getD i .none) d hd
     have q:(aK d.ps.length).map (λi=>us.getD i .none)=us:=by
      refine iX (by rw[aw,aW,j]) λi h1 h2=>?_;rw[tL,qT,lR,ae h2];rfl
     rw[q]at this;exact(congrArg (λz=>bindArgs z ⟨us,[]⟩) e1).trans this
    ·cases e
   ·cases e
structure Here(K:Fg)(mg:bc->Option ah)(D:List Df)(con:List (bc×Dat)):Prop where
 ok:∀d∈D,UR (MU D con) d
 fn:∀d∈D,∃f fd,At K mg d f fd
 blt:∀x∈lr,mg x=b_
 con:∀x d,con.lookup x=a_ d->∃v u,mg x=a_ u/\RelV v u/\CV K d v
theorem Lu{D:List Df}{con:List (bc×Dat)}(T:Here K mg D con):∀(n j:Nat)(d:Df)(f:aF)(fd:jG),D[j]?=a_ d->At K mg d f fd->nK P w K mg base Hv n f fd d.ps (Q5 K d.ps.length (Cn D n j))
 |0,j,d,f,fd,k,_=>by
   have v:∀vs H Q E,¬Q5 K d.ps.length (Cn D 0 j) vs H Q E:=λvs H Q E h=>by
    obtain⟨_,ds,z,fr,h,_⟩:=h;cases h
   exact⟨λvs H Q E h=>absurd h (v vs H Q E),λA outer s H args us vs Q E _ _ _ _ h=>absurd h (v vs H Q E)⟩
 |n+1,j,d,f,fd,k,at_=>by
   have ok:=T.ok d (aR k)
   have e:Cn D (n+1) j=Oy (Cn D n) d.ps.length d.N.length d.body:=by
    funext ds;simp only[Cn,k,ok.pn,ok.nn]
   rw[e];have l:d.ps.length<=d.N.length:=by have:=congrArg fj ok.sc.pre;rw[eK]at this;exact ab (af this.symm) (kA _ _)
   refine TQ at_.fn ok.sc l λcdv A outer s H E y=>?_
   have S:pV (MU D con) (Cn D n) ⟨d.N,(dG d.st).names,c_⟩ (Bb Hv P w K mg base d.N d.name (dG d.st) f cdv A outer s H E).UY:=by
    refine⟨rfl,rfl,ok.sc.kind,rfl,?_,rfl,λ_ _=>rfl,λi x m hi=>?_,T.blt,T.con⟩
    ·have:=y.units;show(A.deeper _).units+21<dh;omega
    ·have q:∃d',D[i]?=a_ d'/\x=d'.name/\m=d'.ps.length:=by
      unfold MU at hi;rw[aM]at hi;obtain⟨d',e1,e2⟩:=dZ hi;cases e2;exact⟨d',e1,rfl,(T.ok d' (aR e1)).pn.symm⟩
     obtain⟨d',e1,rfl,rfl⟩:=q;obtain⟨f',g,c⟩:=T.fn d' (aR e1);exact⟨n,f',g,d'.ps,Lu T n i d' f' g e1 c,y,c.mgf,c.fn.kp,.all c.bd⟩
   exact ok.cmp▸jx (Qe S rfl ok.sc.nd 40) _
def ID(K:Fg):Sp:=λvs H Q _=>∃(a:aF) (ns:List Int),vs=[.ref a]/\mo K H a (ns.map V.int)/\ns.length<=63/\∀H',Q (.bl c_) H'
def GF(ns:List Int):cO K F (ns.map Dat.int) (ns.map V.int):=by
 induction ns with
 |nil=>exact rfl
 |cons n r c=>exact⟨_,_,rfl,rfl,c⟩
def Te{D:List Df}{con:List (bc×Dat)}(T:Here K mg D con)(c:D[j]?=a_ d)(at_:At K mg d f fd)(hp:d.ps.length=1)
  (g:∀ns:List Int,ns.length<=63->∃fr,Cn D n j [.lst (ns.map Dat.int)]=a_ (.bl c_,fr)):nK P w K mg base Hv n f fd d.ps (ID K):=
 nK.imp (Lu T n j d f fd c at_) λvs H Q E k=>by
  obtain⟨a,ns,e,l,hl,q⟩:=k;subst e;obtain⟨fr,h⟩:=g ns hl;refine⟨by rw[hp];rfl,_,_,fr,h,H,⟨bT.refl _,λ_ _ z=>z⟩,⟨_,_,rfl,⟨a,_,rfl,l,GF ns⟩,rfl⟩,λv F' H' _ r _=>?_⟩;rw[r];exact q H'
def Td{D:List Df}{con:List (bc×Dat)}{l:ja}(T:Here K mg D con)(k:D[j]?=a_ d)(c:d.ps=[x])(g:mg d.name=a_ (.ref fa))
  (q:∀ns:List Int,ns.length<=63->∃fr,Cn D n j [.lst (ns.map Dat.int)]=a_ (.bl c_,fr)) :
  ∃fd:jG,(∀(s:ai)(u:ah),By s fd ⟨[u],[]⟩ [(x,u)])/\∀base:cc,K.In base->base.Ns mainGlobals mg->nK l.prog w K mg base Hv n fa fd [x] (ID K):=by
 obtain⟨f,fd,at_⟩:=T.fn d (aR k);have e:=g.symm.trans at_.mgf
 cases e;refine⟨fd,λs u=>?_,λbase _ _=>?_⟩
 ·have:=at_.bd [u] (by rw[c];rfl)
  rw[c]at this;exact .of_eq this
 ·have:=Te (P:=l.prog) (w:=w) (base:=base) T k at_ (by rw[c];rfl) q
  simp_all
def walk{l:ja}{d:DefRec}{K:Params->Fg}(j:l.most=a_ 63)(k:mU n callerA)(c:d.params.defaults=[])
  (v:∀(w:cZ)(h:cc),YP w h->(K w.params).In h)
  (F:∀(w:cZ)(mg:bc->Option ah)(g:aF)(h:cc),(K w.params).In h->h.Ns mainGlobals mg->mg d.name=a_ (.ref g)->
   ∃fd:jG,(∀(s:ai)(u:ah),By s fd ⟨[u],[]⟩ [(x,u)])/\∀base:cc,(K w.params).In base->base.Ns mainGlobals mg->nK l.prog w (K w.params) mg base Hv n g fd [x] (ID (K w.params))) :
  vG q loose XP YP l.row.toRowW d [] (λf vs=>FP f vs):=
 L2.Mn j (by decide) c k v F (λ_ _ a ns hl _ y=>⟨a,ns,rfl,y,hl,λ_=>rfl⟩) λ_ _ _ _ _ z=>z
end
def OU{K:Fg}(X:K.In h)(G:h.Ns mainGlobals mg)(z:lr.map (λx=>mZ K mainGlobals x)=dB 20 (a_ b_)):∀x∈lr,mg x=b_:=λx c=>by
 have q:mZ K mainGlobals x∈lr.map (λx=>mZ K mainGlobals x):=bQ.mpr ⟨x,c,rfl⟩;rw[z]at q;exact PySem.W.mg_none_of X G (List.eq_of_mem_replicate q)
def ZZ(G:Sg)(d:Df):ScopeKind×Bool×Bool×Bool×Nat×Nat×List Sx:=((dG d.st).kind,(dG d.st).isCoroutine,(dG d.st).isGenerator,decide (d.N.Nodup/\(∀x∈d.ps,(dG d.st).names.lookup x=a_ .local\/(dG d.st).names.lookup x=a_ .cell)/\∀y∈(dG d.st).names,y.2≠.free),d.ps.length,d.N.length,wH (cS G ⟨d.N,(dG d.st).names,c_⟩ 40) (oS d.st))
def Sz{G:Sg}{D:List Df}(h:D.map (ZZ G)=D.map λd=>(.function,d_,d_,c_,d.p,d.n,d.body)):∀d∈D,UR G d:=λd hd=>by
 have e:=sy.mp h d hd;unfold ZZ at e;simp only[vJ]at e;obtain⟨e1,e2,e3,g,e5,j,k⟩:=e;obtain⟨a,b,c⟩:=of_decide_eq_true g;exact⟨⟨e1,e2,e3,a,List.take_left' rfl,b,c⟩,e5,j,k⟩
end M
namespace K30
open PySem L2 M
noncomputable def top(i:Nat):kK:=PySem.Challenge.pw_dots_k30_prices.main.body.getD i (.Pass ⟨0,0,0,0⟩)
def b0:List Sx:=[.ret (.gp .join (.f_ "") [.blt .sset [.gp .join (.f_ "") [.comp 1 c_ [] (.itv (.v 0)) [] (.ix (.v 0) (.e_ 0))]]])]
def b1:List Sx:=[.set 1 (.call 0 [.ix (.v 0) (.e_ 0)]),.set 2 (.ite (.cmp .eq (.ix (.ix (.v 0) (.e_ 1)) (.e_ 0)) (.tup [])) (.f_ "") (.gp .upper (.v 1) [])),.set 3 (.sl (.f_ "0123456789") b_ (a_ (.blt .len [.ix (.v 0) (.e_ 2)]))),.ret (.gp .join (.f_ "") [.blt .sorted [.bin .add (.bin .add (.bin .add (.f_ " ") (.v 3)) (.v 2)) (.v 1)]])]
def b2:List Sx:=[.ret (.cmp .isin (.v 0) (.con (.tup [.str (aa "out"),.str (aa "done"),.str (aa "num")])))]
def b3:List Sx:=[.ret (.comp 1 c_ [] (.itv (.tup [.f_ "out",.f_ "done",.f_ "num"])) [] (.tup [.v 0,.f_ " ",.tup [.e_ 0],.f_ "out"]))]
def b4:List Sx:=[.ifs (.cmp .eq (.v 1) (.tup [])) [.ret (.lst [])] [],.set 2 (.lst [.tup [.f_ "num",.f_ "",.ix (.v 0) (.e_ 3),.f_ "let"]]),.loop d_ [3,4] (.zip [.f_ "0123456789",.v 1]) [.mut .app 2 [.tup [.f_ "out",.v 3,.bin .add (.ix (.v 0) (.e_ 2)) (.tup [.v 4]),.f_ "num"]],.mut .app 2 [.tup [.f_ "done",.v 3,.bin .add (.ix (.v 0) (.e_ 2)) (.tup [.v 4]),.f_ "num"]],.mut .app 2 [.tup [.f_ "num",.v 3,.tup [.v 4],.f_ "num"]]],.nc 2]
def b5:List Sx:=[.set 1 (.lst []),.loop d_ [2,3,4] (.itv (.v 0)) [.loop d_ [5,6,7] (.itv (.con (.tup [.tup [.str (aa "w"),.str (aa "out"),.str (aa "done")],.tup [.str (aa "w"),.str (aa "let"),.str (aa "done")],.tup [.str (aa "b"),.str (aa "out"),.str (aa "in")],.tup [.str (aa "b"),.str (aa "let"),.str (aa "in")],.tup [.str (aa "m"),.str (aa "in"),.str (aa "in")],.tup [.str (aa "e"),.str (aa "in"),.str (aa "done")]]))) [.ifs (.cmp .isin (.v 5) (.v 4)) [.mut .app 1 [.tup [.v 6,.v 2,.v 3,.v 7]]] []]],.nc 1]
def b6:List Sx:=[.ret (.comp 4 d_ [1] (.itv (.v 0)) [] (.tup [.v 0,.bin .add (.gp .upper (.ix (.v 1) (.e_ 0)) []) (.sl (.v 1) (a_ (.e_ 1)) b_),.bin .add (.v 4) (.v 2),.v 3]))]
def b7:List Sx:=[.set 2 (.lst []),.loop d_ [3,4,5] (.itv (.v 0)) [.loop d_ [6,7,8] (.itv (.con (.tup [.tup [.str (aa "w"),.str (aa "out"),.str (aa "done")],.tup [.str (aa "w"),.str (aa "let"),.str (aa "done")],.tup [.str (aa "b"),.str (aa "out"),.str (aa "all")],.tup [.str (aa "b"),.str (aa "let"),.str (aa "all")],.tup [.str (aa "m"),.str (aa "all"),.str (aa "all")],.tup [.str (aa "e"),.str (aa "all"),.str (aa "done")]]))) [.ifs (.and (.cmp .isin (.v 6) (.v 5)) (.or (.cmp .ne (.v 6) (.f_ "w")) (.cmp .gt (.blt .len [.v 3]) (.e_ 1)))) [.set 9 (.ite (.cmp .eq (.v 7) (.f_ "all")) (.tup []) (.v 1)),.mut .app 2 [.tup [.v 7,.gp .upper (.v 3) [],.bin .add (.v 9) (.v 4),.v 8]]] []]],.nc 2]
def b8:List Sx:=[.set 1 (.ix (.v 0) (.e_ 0)),.set 2 (.ix (.v 0) (.e_ 1)),.set 3 (.call 5 [.v 1]),.ifs (.cmp .ne (.ix (.v 2) (.e_ 0)) (.tup [])) [.set 3 (.bin .add (.v 3) (.call 6 [.v 3,.ix (.v 2) (.e_ 0)]))] [],.ifs (.cmp .ne (.ix (.v 2) (.e_ 1)) (.tup [])) [.set 3 (.bin .add (.v 3) (.call 7 [.v 1,.ix (.v 2) (.e_ 1)]))] [],.ifs (.cmp .eq (.ix (.v 0) (.e_ 2)) (.tup [])) [.set 3 (.comp 1 c_ [] (.itv (.v 3)) [.cmp .ne (.ix (.v 0) (.e_ 0)) (.f_ "let")] (.v 0))] [],.ret (.blt .sset [.bin .add (.bin .add (.v 3) (.call 3 [])) (.call 4 [.v 2,.ix (.v 0) (.e_ 2)])])]
def b9:List Sx:=[.set 1 .qF,.loop c_ [2] (.itv (.con (.tup [.str (aa "out"),.str (aa "in"),.str (aa "done"),.str (aa "num"),.str (aa "let"),.str (aa "all")]))) [.mut .seti 1 [.lst [],.v 2]],.loop c_ [3] (.itv (.call 8 [.v 0])) [.U0 .app 1 (.ix (.v 3) (.e_ 0)) [.v 3]],.nc 1]
def b10:List Sx:=[.set 2 (.call 1 [.v 0]),.loop d_ [3,4] (.enu (.v 1)) [.ifs (.cmp .nin (.v 4) (.v 2)) [.LP] []]]
def b11:List Sx:=[.ret (.comp 1 c_ [2,1] (.itv (.v 0)) [.gp .startswith (.v 2) [.ix (.v 0) (.e_ 1),.v 1]] (.v 0))]
def b12:List Sx:=[.set 3 (.ix (.ix (.v 2) (.bin .add (.v 1) (.blt .len [.ix (.v 0) (.e_ 1)]))) (.ix (.v 0) (.e_ 3))),.ret (.ite (.cmp .isn (.v 3) (.con .non)) (.con .non) (.bin .add (.blt .len [.ix (.v 0) (.e_ 2)]) (.v 3)))]
def b13:List Sx:=[.set 4 (.comp 1 c_ [3,2] (.itv (.call 11 [.v 0,.v 1,.v 2])) [] (.call 12 [.v 0,.v 2,.v 1])),.ret (.YM (.comp 1 c_ [] (.itv (.v 4)) [.cmp .nisn (.v 0) (.con .non)] (.v 0)))]
def b14:List Sx:=[.set 2 (.cat (.comp 1 c_ [] (.itv (.v 1)) [] .qF) (.lst [.qF])),.loop c_ [3] (.rng [.blt .len [.v 1],.neg (.e_ 1),.neg (.e_ 1)]) [.loop c_ [4] (.rev (.con (.tup [.str (aa "out"),.str (aa "in"),.str (aa "done"),.str (aa "num"),.str (aa "let"),.str (aa "all")]))) [.ifs (.and (.cmp .eq (.v 3) (.blt .len [.v 1])) (.call 2 [.v 4])) [.PZ 2 (.v 3) (.v 4) (.e_ 0)] [.PZ 2 (.v 3) (.v 4) (.call 13 [.ix (.v 0) (.v 4),.v 1,.v 3,.v 2])]]],.nc 2]
def b15:List Sx:=[.exp (.call 10 [.v 0,.v 1]),.set 2 (.call 14 [.call 9 [.v 0],.v 1]),.set 3 (.lst []),.loop c_ [4] (.itv (.v 2)) [.mut .app 3 [.comp 1 c_ [4] (.itv (.con (.tup [.str (aa "out"),.str (aa "in"),.str (aa "done"),.str (aa "num"),.str (aa "let"),.str (aa "all")]))) [] (.ix (.v 1) (.v 0))]],.nc 3]
def b16:List Sx:=[.ifs (.cmp .lt (.v 1) (.blt .len [.v 0])) [.ret (.ix (.v 0) (.v 1))] [],.ret (.e_ 0)]
def b17:List Sx:=[.set 4 (.bin .mod (.bin .add (.bin .add (.bin .mul (.call 16 [.v 0,.v 1]) (.e_ 48271)) (.bin .mul (.bin .mul (.e_ 7919) (.v 1)) (.v 1))) (.e_ 11)) (.v 2)),.ret (.bin .mod (.bin .mod (.bin .mul (.v 4) (.e_ 7919)) (.e_ 999983)) (.v 3))]
def b18:List Sx:=[.ret (.and (.blt (.isi .int) [.v 0]) (.not (.blt (.isi .bool) [.v 0])))]
def b19:List Sx:=[.set 3 (.bin .add (.e_ 1) (.call 17 [.v 0,.v 1,.e_ 10007,.e_ 2])),.ifs (.cmp .eq (.call 17 [.v 0,.v 1,.e_ 10009,.e_ 8]) (.e_ 0)) [.set 3 (.bin .add (.e_ 1) (.call 17 [.v 0,.v 1,.e_ 10037,.e_ 4]))] [],.ret (.blt .tuple [.comp 1 c_ [2,1,0] (.rng [.v 3]) [] (.bin .add (.e_ 1) (.call 17 [.v 3,.v 2,.bin .add (.e_ 10039) (.bin .mul (.e_ 22) (.v 0)),.v 1]))])]
def b20:List Sx:=[.set 1 (.bin .add (.e_ 1) (.call 17 [.v 0,.e_ 0,.e_ 15013,.e_ 3])),.ifs (.cmp .eq (.call 17 [.v 0,.e_ 0,.e_ 15017,.e_ 6]) (.e_ 0)) [.set 1 (.bin .add (.e_ 1) (.call 17 [.v 0,.e_ 0,.e_ 15031,.e_ 6]))] [],.set 2 (.call 17 [.v 0,.e_ 1,.e_ 15053,.e_ 26]),.set 3 (.ix (.lst [.e_ 1,.e_ 3,.e_ 5,.e_ 7,.e_ 9,.e_ 11,.e_ 15]) (.call 17 [.v 0,.e_ 1,.e_ 15061,.e_ 7])),.ret (.comp 1 c_ [2,3] (.rng [.v 1]) [] (.ix (.f_ "abcdefghijklmnopqrstuvwxyz") (.bin .mod (.bin .add (.v 1) (.bin .mul (.v 0) (.v 2))) (.e_ 26))))]
def b21:List Sx:=[.set 4 (.bin .add (.e_ 1) (.call 17 [.v 0,.bin .add (.e_ 10) (.v 1),.e_ 20021,.e_ 3])),.ifs (.cmp .eq (.call 17 [.v 0,.bin .add (.e_ 10) (.v 1),.e_ 20023,.e_ 8]) (.e_ 0)) [.set 4 (.bin .add (.e_ 1) (.call 17 [.v 0,.bin .add (.e_ 10) (.v 1),.e_ 20029,.e_ 6]))] [],.set 5 (.gp .join (.f_ "") [.comp 1 c_ [1,2,0] (.rng [.v 4]) [] (.ix (.v 2) (.call 17 [.v 3,.bin .add (.e_ 10) (.v 1),.bin .add (.e_ 20047) (.bin .mul (.e_ 22) (.v 0)),.blt .len [.v 2]]))]),.set 6 (.bin .add (.e_ 1) (.call 17 [.v 0,.bin .add (.e_ 10) (.v 1),.e_ 25013,.e_ 15])),.set 7 (.gp .join (.f_ "") [.comp 1 c_ [6] (.rng [.e_ 4]) [.cmp .eq (.bin .band (.bin .shr (.v 1) (.v 0)) (.e_ 1)) (.e_ 1)] (.ix (.f_ "wbme") (.v 0))]),.ret (.tup [.v 5,.call 19 [.v 0,.bin .add (.e_ 20) (.v 1),.v 3],.v 7])]
def b22:List Sx:=[.set 2 (.call 20 [.v 0]),.set 4 (.comp 1 c_ [1,2,0] (.rng [.blt .len [.v 2]]) [] (.tup [.ix (.v 2) (.v 0),.call 19 [.v 3,.bin .add (.e_ 4) (.v 0),.v 1],.f_ "wbme"])),.loop c_ [3] (.rng [.call 17 [.v 0,.e_ 2,.e_ 20011,.e_ 6]]) [.set 5 (.call 21 [.v 0,.v 3,.v 2,.v 1]),.ifs (.cmp .nin (.sl (.v 5) b_ (a_ (.e_ 2))) (.comp 1 c_ [] (.itv (.v 4)) [] (.sl (.v 0) b_ (a_ (.e_ 2))))) [.set 6 (.call 17 [.v 0,.bin .add (.e_ 10) (.v 3),.e_ 25031,.bin .add (.blt .len [.v 4]) (.e_ 1)]),.set 4 (.bin .add (.bin .add (.sl (.v 4) b_ (a_ (.v 6))) (.lst [.v 5])) (.sl (.v 4) (a_ (.v 6)) b_))] []],.ret (.blt .tuple [.v 4])]
def b23:List Sx:=[.ret (.sl (.call 19 [.v 0,.v 1,.v 2]) b_ (a_ (.e_ 2)))]
def b24:List Sx:=[.set 1 (.ix (.lst [.e_ 3,.e_ 6,.e_ 63]) (.call 17 [.v 0,.e_ 2,.e_ 30011,.e_ 3])),.set 2 (.lst [.tup [],.tup [],.tup [],.tup []]),.ifs (.cmp .eq (.call 17 [.v 0,.e_ 3,.e_ 30013,.e_ 3]) (.e_ 0)) [.mut .seti 2 [.call 23 [.v 0,.e_ 25,.v 1],.e_ 0],.ifs (.cmp .eq (.call 17 [.v 0,.e_ 3,.e_ 30029,.e_ 2]) (.e_ 0)) [.mut .seti 2 [.call 23 [.v 0,.e_ 26,.v 1],.e_ 1]] []] [],.set 3 (.lst []),.ifs (.cmp .eq (.call 17 [.v 0,.e_ 3,.e_ 30047,.e_ 3]) (.e_ 0)) [.set 4 (.bin .add (.e_ 1) (.call 17 [.v 0,.e_ 3,.e_ 30059,.e_ 3])),.ifs (.cmp .eq (.call 17 [.v 0,.e_ 3,.e_ 30071,.e_ 6]) (.e_ 0)) [.set 4 (.bin .add (.e_ 1) (.call 17 [.v 0,.e_ 3,.e_ 30089,.e_ 10]))] [],.set 3 (.comp 1 c_ [1,0] (.rng [.v 4]) [] (.bin .add (.e_ 1) (.call 17 [.v 2,.e_ 27,.bin .add (.e_ 30091) (.bin .mul (.e_ 22) (.v 0)),.v 1]))),.mut .seti 2 [.call 23 [.v 0,.e_ 28,.v 1],.e_ 2],.mut .seti 2 [.call 23 [.v 0,.e_ 29,.v 1],.e_ 3]] [],.ret (.tup [.call 22 [.v 0,.v 1],.blt .tuple [.v 2],.blt .tuple [.v 3]])]
def Z9:List Sx:=[.Vi [2,3,4] (.v 1),.set 5 (.ix (.ix (.v 0) (.e_ 1)) (.e_ 0)),.set 6 (.ix (.ix (.v 0) (.e_ 1)) (.e_ 1)),.set 7 (.sl (.lst [.f_ "out",.f_ "let"]) b_ (a_ (.bin .add (.e_ 1) (.blt .int [.cmp .gt (.blt .len [.ix (.v 0) (.e_ 2)]) (.e_ 0)])))),.set 8 (.lst []),.loop c_ [9] (.itv (.bin .add (.v 7) (.lst [.f_ "in"]))) [.loop d_ [10,11] (.itv (.lst [.tup [.f_ "w",.f_ "done"],.tup [.f_ "b",.f_ "in"],.tup [.f_ "m",.f_ "in"],.tup [.f_ "e",.f_ "done"]])) [.ifs (.and (.cmp .isin (.v 10) (.v 4)) (.cmp .eq (.cmp .isin (.v 10) (.f_ "wb")) (.cmp .ne (.v 9) (.f_ "in")))) [.mut .app 8 [.tup [.v 9,.v 2,.v 3,.v 11]],.ifs (.cmp .gt (.blt .len [.v 5]) (.e_ 0)) [.mut .app 8 [.tup [.v 9,.bin .add (.gp .upper (.sl (.v 2) b_ (a_ (.e_ 1))) []) (.sl (.v 2) (a_ (.e_ 1)) b_),.bin .add (.v 5) (.v 3),.v 11]]] []] []]],.ifs (.cmp .eq (.blt .len [.v 6]) (.e_ 0)) [.nc 8] [],.loop c_ [9] (.itv (.v 7)) [.ifs (.and (.cmp .isin (.f_ "w") (.v 4)) (.cmp .gt (.blt .len [.v 2]) (.e_ 1))) [.mut .app 8 [.tup [.v 9,.gp .upper (.v 2) [],.bin .add (.v 6) (.v 3),.f_ "done"]]] [],.ifs (.cmp .isin (.f_ "b") (.v 4)) [.mut .app 8 [.tup [.v 9,.gp .upper (.v 2) [],.bin .add (.v 6) (.v 3),.f_ "all"]]] []],.loop d_ [10,11] (.itv (.lst [.tup [.f_ "m",.f_ "all"],.tup [.f_ "e",.f_ "done"]])) [.ifs (.cmp .isin (.v 10) (.v 4)) [.mut .app 8 [.tup [.f_ "all",.gp .upper (.v 2) [],.v 3,.v 11]]] []],.nc 8]
def Z8:List Sx:=[.set 1 (.ix (.v 0) (.e_ 1)),.set 2 (.lst [.tup [.f_ "out",.f_ " ",.tup [.e_ 0],.f_ "out"],.tup [.f_ "done",.f_ " ",.tup [.e_ 0],.f_ "out"],.tup [.f_ "num",.f_ " ",.tup [.e_ 0],.f_ "out"]]),.loop c_ [3] (.rng [.blt .len [.ix (.v 0) (.e_ 2)]]) [.set 4 (.tup [.ix (.ix (.v 0) (.e_ 2)) (.v 3)]),.mut .app 2 [.tup [.f_ "out",.blt .str [.v 3],.bin .add (.ix (.v 1) (.e_ 2)) (.v 4),.f_ "num"]],.mut .app 2 [.tup [.f_ "done",.blt .str [.v 3],.bin .add (.ix (.v 1) (.e_ 2)) (.v 4),.f_ "num"]],.mut .app 2 [.tup [.f_ "num",.blt .str [.v 3],.v 4,.f_ "num"]]],.ifs (.cmp .gt (.blt .len [.ix (.v 0) (.e_ 2)]) (.e_ 0)) [.mut .app 2 [.tup [.f_ "num",.f_ "",.ix (.v 1) (.e_ 3),.f_ "let"]]] [],.loop c_ [5] (.itv (.ix (.v 0) (.e_ 0))) [.mut .ext 2 [.call 25 [.v 0,.v 5]]],.nc 2]
def Z7:List Sx:=[.set 1 (.cat (.lst [.f_ " "]) (.comp 1 c_ [] (.rng [.blt .len [.ix (.v 0) (.e_ 2)]]) [] (.blt .str [.v 0]))),.loop c_ [2] (.itv (.ix (.v 0) (.e_ 0))) [.ifs (.and (.cmp .eq (.blt .len [.ix (.v 2) (.e_ 0)]) (.e_ 1)) (.cmp .nin (.ix (.v 2) (.e_ 0)) (.v 1))) [.mut .app 1 [.ix (.v 2) (.e_ 0)],.ifs (.cmp .gt (.blt .len [.ix (.ix (.v 0) (.e_ 1)) (.e_ 0)]) (.e_ 0)) [.mut .app 1 [.gp .upper (.ix (.v 2) (.e_ 0)) []]] []] []],.nc 1]
def Z6:List Sx:=[.set 3 (.call 27 [.v 1]),.set 3 (.bin .add (.v 3) (.sl (.v 3) (a_ (.e_ 1)) b_)),.ret (.gp .join (.f_ "") [.comp 1 c_ [0,3] (.rng [.v 2]) [] (.ix (.v 2) (.call 17 [.v 1,.bin .add (.e_ 31) (.v 0),.e_ 35023,.blt .len [.v 2]]))])]
def Z5:List Sx:=[.ifs (.or (.not (.blt (.isi .list) [.v 0])) (.cmp .ne (.blt .len [.v 0]) (.bin .add (.v 1) (.e_ 1)))) [.ret (.con (.bl d_))] [],.loop c_ [2] (.itv (.v 0)) [.ifs (.or (.not (.blt (.isi .list) [.v 2])) (.cmp .ne (.blt .len [.v 2]) (.e_ 6))) [.ret (.con (.bl d_))] [],.loop c_ [3] (.itv (.v 2)) [.ifs (.and (.cmp .nisn (.v 3) (.con .non)) (.not (.call 18 [.v 3]))) [.ret (.con (.bl d_))] []]],.ret (.con (.bl c_))]
def Z4:List Sx:=[.set 5 (.lst [.f_ "out",.f_ "in",.f_ "done",.f_ "num",.f_ "let",.f_ "all"]),.set 6 (.con .non),.ifs (.and (.cmp .eq (.v 3) (.blt .len [.v 1])) (.cmp .isin (.v 4) (.lst [.f_ "out",.f_ "done",.f_ "num"]))) [.set 6 (.e_ 0)] [],.loop c_ [7] (.itv (.v 0)) [.set 8 (.bin .add (.v 3) (.blt .len [.ix (.v 7) (.e_ 1)])),.ifs (.and (.cmp .eq (.ix (.v 7) (.e_ 0)) (.v 4)) (.cmp .eq (.sl (.v 1) (a_ (.v 3)) (a_ (.v 8))) (.ix (.v 7) (.e_ 1)))) [.set 9 (.ix (.ix (.v 2) (.v 8)) (.gp .index (.v 5) [.ix (.v 7) (.e_ 3)])),.ifs (.and (.cmp .nisn (.v 9) (.con .non)) (.or (.cmp .isn (.v 6) (.con .non)) (.cmp .lt (.bin .add (.blt .len [.ix (.v 7) (.e_ 2)]) (.v 9)) (.v 6)))) [.set 6 (.bin .add (.blt .len [.ix (.v 7) (.e_ 2)]) (.v 9))] []] []],.nc 6]
def Z3:List Sx:=[.set 1 (.call 24 [.v 0]),.set 2 (.call 26 [.v 1]),.set 3 (.call 17 [.v 0,.e_ 2,.e_ 35027,.e_ 13]),.ifs (.cmp .eq (.call 17 [.v 0,.e_ 2,.e_ 35051,.e_ 4]) (.e_ 0)) [.set 3 (.bin .add (.e_ 13) (.call 17 [.v 0,.e_ 30,.e_ 35053,.e_ 20]))] [],.set 4 (.call 28 [.v 0,.v 1,.v 3]),.set 5 (.call 15 [.v 1,.v 4]),.ifs (.not (.call 29 [.v 5,.v 3])) [.ret (.con (.bl d_))] [],.set 6 (.lst [.f_ "out",.f_ "in",.f_ "done",.f_ "num",.f_ "let",.f_ "all"]),.loop c_ [7] (.rng [.bin .add (.v 3) (.e_ 1)]) [.loop c_ [8] (.rng [.e_ 6]) [.ifs (.cmp .ne (.ix (.ix (.v 5) (.v 7)) (.v 8)) (.call 30 [.v 2,.v 4,.v 5,.v 7,.ix (.v 6) (.v 8)])) [.ret (.con (.bl d_))] []]],.set 9 (.comp 1 c_ [] (.itv (.v 5)) [] (.blt .list [.v 0])),.U2 5 (.e_ 0) (.e_ 1),.mut .app 5 [.lst []],.ret (.cmp .eq (.call 15 [.v 1,.v 4]) (.v 9))]
def d0:Df:=⟨top 5,1,1,b0⟩
def d1:Df:=⟨top 6,1,4,b1⟩
def d2:Df:=⟨top 12,1,1,b2⟩
def d3:Df:=⟨top 13,0,0,b3⟩
def d4:Df:=⟨top 14,2,5,b4⟩
def d5:Df:=⟨top 15,1,8,b5⟩
def d6:Df:=⟨top 16,2,2,b6⟩
def d7:Df:=⟨top 17,2,10,b7⟩
def d8:Df:=⟨top 18,1,4,b8⟩
def d9:Df:=⟨top 19,1,4,b9⟩
def d10:Df:=⟨top 21,2,5,b10⟩
def d11:Df:=⟨top 22,3,3,b11⟩
def Zl:Df:=⟨top 23,3,4,b12⟩
def d13:Df:=⟨top 24,4,5,b13⟩
def d14:Df:=⟨top 25,2,5,b14⟩
def d15:Df:=⟨top 26,2,5,b15⟩
def d16:Df:=⟨top 28,2,2,b16⟩
def d17:Df:=⟨top 29,4,5,b17⟩
def d18:Df:=⟨top 30,1,1,b18⟩
def d19:Df:=⟨top 31,3,4,b19⟩
def d20:Df:=⟨top 32,1,4,b20⟩
def d21:Df:=⟨top 33,4,8,b21⟩
def d22:Df:=⟨top 34,2,7,b22⟩
def d23:Df:=⟨top 35,3,3,b23⟩
def d24:Df:=⟨top 36,1,5,b24⟩
def d25:Df:=⟨top 37,2,12,Z9⟩
def d26:Df:=⟨top 38,1,6,Z8⟩
def d27:Df:=⟨top 39,1,3,Z7⟩
def d28:Df:=⟨top 40,3,4,Z6⟩
def d29:Df:=⟨top 41,2,4,Z5⟩
def d30:Df:=⟨top 42,5,10,Z4⟩
def d31:Df:=⟨top 43,1,10,Z3⟩
def D:List Df:=[d0,d1,d2,d3,d4,d5,d6,d7,d8,d9,d10,d11,Zl,d13,d14,d15,d16,d17,d18,d19,d20,d21,d22,d23,d24,d25,d26,d27,d28,d29,d30,d31]
noncomputable def con:List (bc×Dat):=[(aa "FIGURES",(.str (aa "0123456789"))),(aa "STATES",(.tup [(.str (aa "out")),(.str (aa "in")),(.str (aa "done")),(.str (aa "num")),(.str (aa "let")),(.str (aa "all"))])),(aa "END_STATES",(.tup [(.str (aa "out")),(.str (aa "done")),(.str (aa "num"))])),(aa "WAYS",(.tup [(.tup [(.str (aa "w")),(.str (aa "out")),(.str (aa "done"))]),(.tup [(.str (aa "w")),(.str (aa "let")),(.str (aa "done"))]),(.tup [(.str (aa "b")),(.str (aa "out")),(.str (aa "in"))]),(.tup [(.str (aa "b")),(.str (aa "let")),(.str (aa "in"))]),(.tup [(.str (aa "m")),(.str (aa "in")),(.str (aa "in"))]),(.tup [(.str (aa "e")),(.str (aa "in")),(.str (aa "done"))])])),(aa "ALL_GREAT_WAYS",(.tup [(.tup [(.str (aa "w")),(.str (aa "out")),(.str (aa "done"))]),(.tup [(.str (aa "w")),(.str (aa "let")),(.str (aa "done"))]),(.tup [(.str (aa "b")),(.str (aa "out")),(.str (aa "all"))]),(.tup [(.str (aa "b")),(.str (aa "let")),(.str (aa "all"))]),(.tup [(.str (aa "m")),(.str (aa "all")),(.str (aa "all"))]),(.tup [(.str (aa "e")),(.str (aa "all")),(.str (aa "done"))])]))]
def G:Sg:=MU D con
def Wg:∀d∈D,UR G d:=Sz (by kernel_rfl)
end K30
namespace M
open PySem L2
@[simp] def WT:full []=[]:=rfl
@[simp] def U5:full (a_ (d,b)::ρ)=a_ d::full ρ:=rfl
@[simp] def U6:full (b_::ρ)=b_::full ρ:=rfl
section
@[simp] def nH:iH .add (.int i) (.int j)=a_ (.int (i+j),d_):=rfl
@[simp] def Uw:iH .sub (.int i) (.int j)=a_ (.int (i - j),d_):=rfl
def nG(h:0<j):iH .mod (.int i) (.int j)=a_ (.int (i % j),d_):=if_pos h
@[simp] def Qm:iH .band (.int i) (.int j)=a_ (.int (t8 i j),d_):=rfl
@[simp] def Ux:iH .bor (.int i) (.int j)=a_ (.int (LG i j),d_):=rfl
@[simp] def XR:gJ .lt (.int i) (.int j)=a_ (decide (i<j)):=rfl
@[simp] def XS:gJ .le (.int i) (.int j)=a_ (decide (i<=j)):=rfl
@[simp] def XT:gJ .gt (.int i) (.int j)=a_ (decide (j<i)):=rfl
@[simp] def XU:gJ .ge (.int i) (.int j)=a_ (decide (j<=i)):=rfl
@[simp] def Va:gJ .eq (.int i) (.int j)=a_ (i == j):=rfl
@[simp] def U8:gJ .ne (.int i) (.int j)=a_ (!(i == j)):=rfl
@[simp] def Vb:gJ .eq (.bl x) (.bl y)=a_ (x == y):=rfl
@[simp] def U9:gJ .ne (.bl x) (.bl y)=a_ (!(x == y)):=rfl
@[simp] def Vn:ju (.bl x)=a_ x:=rfl
@[simp] def lu:fQ .len [.lst xs]=a_ (.int xs.length,d_):=rfl
@[simp] def vg:fQ .len [.tup xs]=a_ (.int xs.length,d_):=rfl
@[simp] def Ql:fQ .list [.lst xs]=a_ (.lst xs,jF xs):=rfl
@[simp] def Qk:fQ .list [.tup xs]=a_ (.lst xs,jF xs):=rfl
@[simp] def OW:fQ .tuple [.lst xs]=a_ (.tup xs,d_):=rfl
@[simp] def OV:fQ .tuple [.tup xs]=a_ (.tup xs,d_):=rfl
@[simp] def Xk:fQ .listrev [.lst xs]=a_ (.lst xs.reverse,jF xs.reverse):=rfl
@[simp] def Xl:fQ (.isi t) [d]=a_ (.bl (Ke t d),d_):=rfl
@[simp] def WG:vT (.lst xs) (.int i)=qK xs i:=rfl
@[simp] def P1:vT (.tup xs) (.int i)=qK xs i:=rfl
@[simp] def ZL{lo:Option Int}:Cf (.lst xs) lo hi=a_ (.lst (cutD xs lo hi),jF (cutD xs lo hi)):=rfl
@[simp] def Za:im (.int i)=c_:=rfl
@[simp] def ZV:im (.bl x)=c_:=rfl
@[simp] def Y7:im (.str x)=c_:=rfl
@[simp] def Y8:im .non=c_:=rfl
@[simp] def Y9:im (.lst xs)=d_:=rfl
@[simp] def qx(ns:List Int):jF (ns.map Dat.int)=c_:=by
 induction ns with
 |nil=>rfl
 |cons n r c=>show(c_ && jF (r.map Dat.int))=c_;rw[c];rfl
@[simp] def WS{ρ:dv}{i:Nat}{d:Dat}{b:Bool}:full (ρ.set i (a_ (d,b)))=(full ρ).set i (a_ d):=by
 unfold full;rw[List.map_set];rfl
end
section
def fA{ds:List Dat}(h:ds.length=np)(c:dX C body (ds.map (λd=>a_ (d,d_))++dB (nl - np) b_)=a_ (.rt d fr)):Oy C np nl body ds=a_ (d,fr):=by
 unfold Oy;rw[if_pos h,c];rfl
def ik(h:nE C s ρ=a_ (.nx ρ1)):dX C (s::ss) ρ=dX C ss ρ1:=by show(nE C s ρ).bind _=_;rw[h];rfl
def MA(h:nE C s ρ=a_ (.rt d fr)):dX C (s::ss) ρ=a_ (.rt d fr):=by show(nE C s ρ).bind _=_;rw[h];rfl
def oz(h:nE C s ρ=a_ (.nx ρ1)):dX C [s] ρ=a_ (.nx ρ1):=by show(nE C s ρ).bind _=_;rw[h];rfl
def Ko(h:bu C e (full ρ)=a_ (d,fr))(ht:ju d=a_ c_):nE C (.ifs e a b) ρ=dX C a ρ:=by show(bu C e (full ρ)).bind _=_;rw[h];show(ju d).bind _=_;rw[ht];rfl
def EW(h:bu C e (full ρ)=a_ (d,fr))(ht:ju d=a_ d_):nE C (.ifs e a b) ρ=dX C b ρ:=by show(bu C e (full ρ)).bind _=_;simp_all
end
section
def vh(h1:-18446744073709551616<i)(h2:i<18446744073709551616):iH .mul (.int i) (.int j)=a_ (.int (i * j),d_):=if_pos (.inl ⟨h1,h2⟩)
def pT(h1:-18446744073709551616<j)(h2:j<18446744073709551616):iH .mul (.int i) (.int j)=a_ (.int (i * j),d_):=if_pos (.inr ⟨h1,h2⟩)
def yB{C:Fs}{i:Nat}{e:Ex}{ρ:dv}:nE C (.set i e) ρ=(bu C e (full ρ)).bind λx=>if(im x.1 || x.2)=c_ then a_ (.nx (ρ.set i (a_ (x.1,x.2 && !im x.1))))else(bu C e (zz (mD e.fv ρ))).map λy=>.nx ((mD e.fv ρ).set i (a_ (y.1,y.2 && !im y.1))):=by
 show(LY C e ρ).map _=_;unfold LY
 cases bu C e (full ρ)with
 |none=>rfl
 |some x=>
   show j5 _ (if(im x.1 || x.2)=c_ then _ else _)=if(im x.1 || x.2)=c_ then _ else _
   cases im x.1 || x.2 with
   |true=>rfl
   |false=>exact LH ..
def XO:nE C (.exp e) ρ=(bu C e (full ρ)).map λ_=>.nx ρ:=rfl
def Ox:nE C (.ifs e a b) ρ=(bu C e (full ρ)).bind λx=>(ju x.1).bind λz=>if z=c_ then dX C a ρ else dX C b ρ:=rfl
def Zf:dX C (s::ss) ρ=(nE C s ρ).bind (VG (dX C ss)):=rfl
section
end
def Ov{C:Fs}{op:Ht}{i:Nat}{es:List Ex}{ρ:dv}:nE C (.mut op i es) ρ=(mP C es (full ρ)).bind λx=>if x.2=c_ then NU op i ρ x.1 ((ρ[i]?).join)else b_:=rfl
def oP{ds:List Dat}(h:ds.length<1000000):kj .app (.lst ds) [d]=a_ (.lst (ds++[d])):=if_pos (by exact ab h (by decide))
def A0:nE C (.loop one ts (.rng es) body) ρ=(yF C (.rng es) (full ρ)).bind λds=>i8 (gH one ts) (dX C body) ds ρ:=by
 show((yF C (.rng es) (full ρ)).map _).bind _=_;cases yF C (.rng es) (full ρ)<;>rfl
def xg:nE C (.loop one ts (.itv e) body) ρ=(bu C e (full ρ)).bind λx=>if(im x.1 || x.2)=c_ then(jX x.1).bind λds=>i8 (gH one ts) (dX C body) ds ρ
  else(bu C e (zz (mD e.fv ρ))).bind λy=>(jX y.1).bind λds=>i8 (gH one ts) (dX C body) ds (mD e.fv ρ):=by
 show((LY C e ρ).bind λx=>(jX x.1).map λds=>(ds,x.2.2)).bind _=_;unfold LY
 cases bu C e (full ρ)with
 |none=>rfl
 |some x=>
   show bh (bh (if(im x.1 || x.2)=c_ then _ else _) _) _=if(im x.1 || x.2)=c_ then _ else _
   cases im x.1 || x.2 with
   |true=>show((jX x.1).map _).bind _=(jX x.1).bind _;cases jX x.1<;>rfl
   |false=>
     cases bu C e (zz (mD e.fv ρ))with
     |none=>rfl
     |some y=>show((jX y.1).map _).bind _=(jX y.1).bind _;cases jX y.1<;>rfl
section
def WY:gJ .eq (.str x) (.str y)=a_ (x == y):=rfl
def YJ:gJ .ne (.str x) (.str y)=a_ (!(x == y)):=rfl
def Zg(h1:eA 19 ds=c_)(h2:eA 19 ys=c_):gJ .eq (.tup ds) (.tup ys)=a_ (oB ds ys):=by simp only[gJ,iC,h1,h2,kB,if_true,oD]
def Zh(h1:eA 19 ds=c_)(h2:eA 19 ys=c_):gJ .eq (.lst ds) (.lst ys)=a_ (oB ds ys):=by simp only[gJ,Uh,Z2,Xd,Zp,iC,h1,h2,kB,if_true,oD]
def YI(h1:eA 19 ds=c_)(h2:eA 19 ys=c_):gJ .ne (.tup ds) (.tup ys)=a_ (!oB ds ys):=by simp only[gJ,iC,h1,h2,kB,if_true,oD]
end
mutual
theorem KS:∀d:Dat,sJ d=c_->oD d d=c_
 |.non,_=>rfl
 |.bl _,_=>by simp[oD]
 |.int _,_=>by simp[oD]
 |.str _,_=>by simp[oD]
 |.tup ds,h=>by exact oR ds h
 |.lst ds,h=>by exact oR ds h
 |.dct _ _,h=>nomatch h
theorem oR:∀ds:List Dat,hZ ds=c_->oB ds ds=c_
 |[],_=>rfl
 |d::ds,h=>by
   have h':sJ d=c_/\hZ ds=c_:=by simpa [hZ]using h
   simp only[oB,KS d h'.1,oR ds h'.2,kB]
end
def jy(h:bu C a ρ=a_ (.bl x,f)):bu C (.and a b) ρ=if x=c_ then bu C b ρ else a_ (.bl d_,d_):=by
 show(bu C a ρ).bind _=_;rw[h];rfl
def se(h:bu C a ρ=a_ (.bl x,f)):bu C (.or a b) ρ=if x=c_ then a_ (.bl c_,d_)else bu C b ρ:=by
 show(bu C a ρ).bind _=_;rw[h];rfl
def Fd(h:bu C c ρ=a_ (d,f))(ht:ju d=a_ x):bu C (.ite c a b) ρ=if x=c_ then bu C a ρ else bu C b ρ:=by
 show(bu C c ρ).bind _=_;simp_all
end
section
def KO:bu C (.con d) ρ=a_ (d,d_):=rfl
def mf:bu C (.v i) ρ=((ρ[i]?).join).map λd=>(d,d_):=rfl
def mj:bu C (.bin o a b) ρ=(bu C a ρ).bind λx=>(bu C b ρ).bind λy=>iH o x.1 y.1:=rfl
def De:bu C (.cmp o a b) ρ=(bu C a ρ).bind λx=>(bu C b ρ).bind λy=>(gJ o x.1 y.1).map λr=>(.bl r,d_):=rfl
def Dc:bu C (.tup es) ρ=(mP C es ρ).bind λx=>if x.1.length<=1000000 then a_ (.tup x.1,x.2)else b_:=rfl
def TV:bu C (.lst es) ρ=(mP C es ρ).bind λx=>if x.1.length<=1000000 then a_ (.lst x.1,x.2)else b_:=rfl
def xm:bu C (.ix a b) ρ=(bu C a ρ).bind λx=>(bu C b ρ).bind λy=>(vT x.1 y.1).map λd=>(d,d_):=rfl
def KL:bu C (.sl a b c) ρ=(bu C a ρ).bind λx=>(Xm C ρ b).bind λl=>(Xm C ρ c).bind λh=>Cf x.1 l h:=rfl
def qD:bu C (.call f es) ρ=(mR C es ρ).bind λds=>C f ds:=rfl
def Dg:bu C (.blt f es) ρ=(mR C es ρ).bind λds=>fQ f ds:=rfl
def Fb:mR C [] ρ=a_ []:=rfl
def di:mR C (e::es) ρ=(bu C e ρ).bind λx=>(mR C es ρ).map λr=>x.1::r:=rfl
def XQ:mP C [] ρ=a_ ([],c_):=rfl
def fP:mP C (e::es) ρ=(bu C e ρ).bind λx=>(mP C es ρ).map λr=>(x.1::r.1,(x.2 || im x.1) && r.2):=rfl
def yD:bu C (.gp m o es) ρ=(bu C o ρ).bind λx=>(mR C es ρ).bind λds=>ic m x.1 ds:=rfl
def OA:yF C (.itv a) ρ=(bu C a ρ).bind λx=>jX x.1:=rfl
def Oz:yF C (.rng es) ρ=(mR C es ρ).bind Cr:=rfl
def oT{ifs:List Ex}(hi:yF C it ρ=a_ items)(hl:items.length<=1000000)(c:qp (oF C nt one (jB nt caps ρ) ifs elt) items=a_ (ys,fr)) :
  bu C (.comp nt one caps it ifs elt) ρ=a_ (.lst ys,fr):=by
 show(yF C it ρ).bind _=_
 simp_all
def xr:oF C 1 c_ ρ0 [] elt d=(bu C elt (ρ0.set 0 (a_ d))).map a_:=rfl
def K8{ρ0:iJ}(h:bu C i (ρ0.set 0 (a_ d))=a_ (x,f))(ht:ju x=a_ t):oF C 1 c_ ρ0 [i] elt d=if t=c_ then(bu C elt (ρ0.set 0 (a_ d))).map a_ else a_ b_:=by
 unfold oF;simp only[FD,bw,A4,h,ht];cases t<;>rfl
end
mutual
noncomputable def same:Dat->Dat->Bool
 | .non,c=>match c with
   |.non=>c_
   |_=>d_
 | .bl a,c=>match c with
   |.bl b=>a == b
   |_=>d_
 | .int i,c=>match c with
   |.int j=>i == j
   |_=>d_
 | .str x,c=>match c with
   |.str y=>x == y
   |_=>d_
 | .tup xs,c=>match c with
   |.tup ys=>uy xs ys
   |_=>d_
 | .lst xs,c=>match c with
   |.lst ys=>uy xs ys
   |_=>d_
 |_,_=>d_
noncomputable def uy:List Dat->List Dat->Bool
 |[],[]=>c_
 |x::xs,y::ys=>same x y && uy xs ys
 |_,_=>d_
end
mutual
theorem D3:∀(x y:Dat),same x y=c_->x=y
 |.non,y,h=>by cases y<;>first|rfl|(simp[same]at h)
 |.bl a,y,h=>by cases y<;>first|(simp[same]at h;rw[h])|(simp[same]at h)
 |.int a,y,h=>by cases y<;>first|(simp[same]at h;rw[h])|(simp[same]at h)
 |.str a,y,h=>by cases y<;>first|(simp[same]at h;rw[h])|(simp[same]at h)
 |.tup a,y,h=>by cases y<;>first|(rw[ux _ _ h])|(simp[same]at h)
 |.lst a,y,h=>by cases y<;>first|(rw[ux _ _ h])|(simp[same]at h)
theorem ux:∀(x y:List Dat),uy x y=c_->x=y
 |[],y,h=>by cases y<;>first|rfl|(simp[uy]at h)
 |x::xs,y,h=>by
   cases y with
   |nil=>simp[uy]at h
   |cons y ys=>
     simp[uy]at h;rw[D3 _ _ h.1,ux _ _ h.2]
end
def pk:g_->g_->Bool
 |some (d,b),a_ (e,c)=>same d e && b == c
 |none,b_=>c_
 |_,_=>d_
def mL(h:pk x y=c_):x=y:=by
 cases x with
 |none=>cases y<;>first|rfl|(simp[pk]at h)
 |some x=>
   cases y with
   |none=>simp[pk]at h
   |some y=>
     obtain⟨d,b⟩:=x;obtain⟨e,c⟩:=y;simp[pk]at h;rw[D3 _ _ h.1,h.2]
def zP{n dflt:Nat}{i:Int}(h0:0<=i)(h1:i<=n):HT.iD n dflt (a_ i)=i.toNat:=by
 obtain⟨k,rfl⟩:=jD h0;exact eY (eP.mp h1)
def Fo{α:Type}{xs:List α}{i:Int}(h0:0<=i)(h1:i<=xs.length):cutD xs (a_ i) b_=xs.drop i.toNat:=by
 unfold cutD;rw[zP h0 h1,HT.zQ];rw[eo (by simp)]
def Fq{α:Type}{xs:List α}{i:Int}(h0:0<=i)(h1:i<=xs.length):cutD xs b_ (a_ i)=xs.take i.toNat:=by
 unfold cutD;rw[zP h0 h1,HT.zQ];rfl
def pU{xs ys:List Dat}(h:xs.length+ys.length<=1000000):iH .add (.lst xs) (.lst ys)=a_ (.lst (xs++ys),jF (xs++ys)):=if_pos (oQ h)
noncomputable abbrev T(l:List Nat):bc:=⟨l.toArray⟩
def aaj(x:bc):T x.cps.toList=x:=rfl
def FH(a b:List Nat):T a++T b=T (a++b):=by
 show Str.mk _=_;simp[T]
def Xt(h:T a=T b):a=b:=by
 simp_all
def Qr(a b:List Nat):(T a == T b)=decide (a=b):=by
 by_cases h:a=b
 ·subst h;simp
 simp_all
def qM(a:List Nat):(T a).length=a.length:=by show(a.toArray).size=_;simp
def pL:gJ .isin (.str (T [c])) (.str (T l))=a_ (decide (c∈l)):=by
 show a_ _=_;rw[DE (T l) c]
def Wk:gJ .nin (.str (T [c])) (.str (T l))=a_ (!decide (c∈l)):=by
 show a_ _=_;rw[DE (T l) c]
def xX:eB (T l)=l.map λc=>T [c]:=by
 unfold eB;simp[T]
def len_T{l:List Nat}(h:l.length<=1000000):fQ .len [.str (T l)]=a_ (.int l.length,d_):=by
 show(if(T l).length<=ax then a_ (Dat.int (T l).length,d_)else b_)=_;rw[qM,if_pos (by exact ab h (by decide))]
def Lz{a b:List Nat}(h:a.length+b.length<=1000000):iH .add (.str (T a)) (.str (T b))=a_ (.str (T (a++b)),d_):=by
 show(if(T a).length+(T b).length<=ax then a_ (Dat.str (T a++T b),d_)else b_)=_;rw[if_pos (by exact ab h (by decide)),FH]
def Tw{l:List Nat}(hl:l.length<=1000000)(h:i<l.length):vT (.str (T l)) (.int (i:Nat))=a_ (.str (T [l[i]])):=by
 show(if(T l).length<=ax then(qK (T l).cps.toList (i)).map λc=>Dat.str ⟨#[c]⟩else b_)=_;rw[if_pos (by exact ab hl (by decide))];rw[show qK (T l).cps.toList (i)=a_ l[i]from j6 (by simp[h])];rfl
theorem DM:∀ws:List (List Nat),sD (ws.map λl=>Dat.str (T l))=a_ (ws.map T)
 |[]=>rfl
 |x::r=>by simp only[aq,sD,DM r,bV]
def Ts:∀ws:List (List Nat),tu (T []) (ws.map T)=T ws.flatten:=by
 intro ws;rw[show tu (T []) (ws.map T)=Str.join (T []) (ws.map T)from StrLaws.glued_eq_join _ _]
 induction ws with
 |nil=>rfl
 |cons x r c=>
   cases r with
   |nil=>show T x=_;simp
   |cons y r=>
     show(T x++T []++Str.join (T []) ((y::r).map T))=_;rw[c,FH,FH];simp
def yk{ws:List (List Nat)}(h:(ws.map (·.length)).sum<=1000000):ic .join (.str (T [])) [.lst (ws.map λl=>Dat.str (T l))]=a_ (.str (T ws.flatten),d_):=by
 simp only[ic,ZT,DM,bw];rw[if_pos,Ts];rw[qM,bS];have e:(Pg ((λx:bc=>x.length) ∘ T) ws)=ws.map (·.length):=cJ λl _=>qM l;rw[e];simpa using h
def ne_T(a b:List Nat):gJ .ne (.str (T a)) (.str (T b))=a_ (!decide (a=b)):=by
 show a_ (!(T a == T b))=_;rw[Qr]
def Zi(a b:List Nat):gJ .eq (.str (T a)) (.str (T b))=a_ (decide (a=b)):=by
 show a_ (T a == T b)=_;rw[Qr]
theorem xY(k:Nat):∀a:List Int,eA k (a.map Dat.int)=c_
 |[]=>by simp[eA]
 |a::as=>by simp[eA,iC,xY k as]
def Du{xs ys:List Dat}(h:xs.length+ys.length<=1000000):iH .add (.tup xs) (.tup ys)=a_ (.tup (xs++ys),d_):=if_pos (oQ h)
def GO{ds es:List Dat}(h:ds.length+es.length<=1000000):kj .ext (.lst ds) [.lst es]=a_ (.lst (ds++es)):=if_pos (oQ h)
end M
namespace M
open PySem L2
noncomputable def qq:List Nat:=[97,98,99,100,101,102,103,104,105,106,107,108,109,110,111,112,113,114,115,116,117,118,119,120,121,122]
def SMT:aa "abcdefghijklmnopqrstuvwxyz"=T qq:=by decide +kernel
noncomputable def Qt:List Nat:=[119,98,109,101]
def WBT:aa "wbme"=T Qt:=by decide +kernel
def E0T:aa ""=T []:=by decide +kernel
abbrev Fm:=List Nat×List Int×List Nat
abbrev iq(t:Fm):Dat:=.tup [.str (T t.1),.tup (t.2.1.map Dat.int),.str (T t.2.2)]
def Na(h:m<=1000000):Cr [.int (m:Nat)]=a_ ((aK m).map λk:Nat=>Dat.int k):=by
 show(if _ then _ else b_)=_;rw[if_pos (by omega)];simp
def Qb(xs:List Nat):(xs.map λc=>[c]).flatten=xs:=by
 induction xs with
 |nil=>rfl
 |cons a r d=>simp_all
def VA(xs:List Nat):((xs.map λc=>[c]).map (·.length)).sum=xs.length:=by
 induction xs with
 |nil=>rfl
 |cons a r d=>rw[aq,aq,List.sum_cons,d];exact Nat.add_comm _ _
def UW(k:Nat):List Nat:=(aK 4).filterMap λi=>if k / 2 ^ i % 2=1 then Qt[i]? else b_
noncomputable abbrev ent(f:Fm):List Nat×List Int:=(f.1,f.2.1)
def EU(f:Fm):im (iq f)=c_:=by
 show(c_ && (jF (f.2.1.map Dat.int) && (c_ && c_)))=c_;rw[qx];rfl
theorem l9:∀fs:List Fm,jF (fs.map iq)=c_
 |[]=>rfl
 |f::fs=>by show(im (iq f) && jF (fs.map iq))=c_;rw[EU,l9 fs];rfl
def xW(a b c:Dat):Cf (.tup [a,b,c]) b_ (a_ 2)=a_ (.tup [a,b],d_):=rfl
def zJ(f:Fm):iC 20 (.tup [.str (T f.1),.tup (f.2.1.map Dat.int)])=c_:=by
 show(c_ && (eA 18 (f.2.1.map Dat.int) && c_))=c_;rw[xY];rfl
noncomputable abbrev tI(l:List Int):Dat:=.tup (l.map Dat.int)
end M
namespace K30
open PySem L2 M
structure E5(f:Fm):Prop where
 ne:f.1≠[]
 low:∀c∈f.1,c∈qq
 ll:f.1.length<=6
 c1:0<f.2.1.length
 cl:f.2.1.length<=4
 pp:∃k,1<=k/\k<16/\f.2.2=UW k
noncomputable abbrev WO(i:Int):N2:=.inl (.inl i)
theorem uO:∀cs:List Int,PX (cs.map Dat.int)=a_ (cs.map WO)
 |[]=>rfl
 |c::r=>by simp only[aq,PX,YL,uO r,bw,bV]
def Oe{a b:List Int}(e:a.map WO=b.map WO):a=b:=(HB (λx y z=>zk (zk z))).mp e
end K30
namespace K30E
open PySem L2 M K30
abbrev sT(l:List Nat):Dat:=.str (T l)
def x5(h:bu C a (full ρ)=a_ (d,fl)):dX C [.ret a] ρ=a_ (.rt d fl):=by
 show bh (j5 _ (bu C a (full ρ))) _=_;rw[h];rfl
def iU(h:bu C a (full ρ)=a_ (d,fl))(hi:im d=c_):nE C (.set i a) ρ=a_ (.nx (ρ.set i (a_ (d,d_)))):=by
 rw[yB,h]
 grind
def D0(h:bu C a (full ρ)=a_ (.lst ds,c_)):nE C (.set i a) ρ=a_ (.nx (ρ.set i (a_ (.lst ds,c_)))):=by
 rw[yB,h];rfl
def Ev(C:Fs)(e:Ex)(ρ:iJ)(P:Dat->Prop):Prop:=∃d f,bu C e ρ=a_ (d,f)/\im d=c_/\P d
def Ei(C:Fs)(e:Ex)(ρ:iJ)(P:Nat->Prop):Prop:=∃q f,bu C e ρ=a_ (.int (q:Nat),f)/\P q
def Go(C:Fs)(ss:List Sx)(ρ:dv)(Q:Out->Prop):Prop:=∃o,dX C ss ρ=a_ o/\Q o
def Dw(C:Fs)(N:Dat):Prop:=∀k p m:Int,0<=k/\k<=1000->0<p->0<m->∃q:Nat,C 17 [N,.int k,.int p,.int m]=a_ (.int (q:Nat),d_)/\(q:Int)<m
section
def gr(hd:Dw C N)(h0:bu C a ρ=a_ (N,f))(h1:bu C k ρ=a_ (.int i,g))(h2:bu C p ρ=a_ (.int j,h))(h3:bu C m ρ=a_ (.int l,w))(c:0<=i/\i<=1000)(hp:0<j)(d:0<l)(H:∀q:Nat,(q:Int)<l->P q):Ei C (.call 17 [a,k,p,m]) ρ P:=by
 obtain⟨q,r,b⟩:=hd i j l c hp d;exact⟨q,d_,by rw[qD,di,h0,di,h1,di,h2,di,h3];exact r,H q b⟩
def KU(c:Nat)(h:Ei C e ρ P)(hp:∀q,P q->P' (c+q)):Ei C (.bin .add (.con (.int (c:Nat))) e) ρ P':=by
 obtain⟨q,f,r,b⟩:=h;refine⟨c+q,d_,?_,hp q b⟩;rw[mj,r];show a_ (Dat.int ((c)+(q)),d_)=_;simp
def Dk(h:Ei C e ρ P)(hp:∀q,P q->P' (1+q)):Ei C (.bin .add (.e_ 1) e) ρ P':=KU 1 h hp
def sV{b:Nat}(hd:Dw C N)(h0:bu C a ρ=a_ (N,f))(h1:bu C k ρ=a_ (.int i,g))(h2:bu C p ρ=a_ (.int j,h))(h3:bu C m ρ=a_ (.int l,w))(c:0<=i/\i<=1000)(hp:0<j)(d:0<l)(hb:l<=b):Ei C (.bin .add (.e_ 1) (.call 17 [a,k,p,m])) ρ λv=>1<=v/\v<=b:=
 Dk (gr hd h0 h1 h2 h3 c hp d λ_ h=>h) λq h=>by omega
def Fe{is:List Nat}(j:bu C x ρ=a_ (.lst (is.map λi:Nat=>Dat.int i),f))(h:Ei C e ρ (·< is.length))(hp:∀q∈is,P q):Ei C (.ix x e) ρ P:=by
 obtain⟨q,g,r,c⟩:=h;refine⟨is[q],d_,?_,hp _ (bA c)⟩;rw[xm,j,r];show((qK _ (q)).map λd=>(d,d_))=_;rw[j6 (by rw[aM,ae c];rfl)];rfl
def sU(h:Ei C e ρ P)(j:Int):∃t f,bu C (.cmp .eq e (.con (.int j))) ρ=a_ (.bl t,f):=by
 obtain⟨q,f,r,_⟩:=h;exact⟨_,d_,by rw[De,r];rfl⟩
def iQ(h1:bu C a ρ=a_ (x',f))(h2:bu C e ρ=a_ (y,g))(h:gJ o x' y=a_ r):bu C (.cmp o a e) ρ=a_ (.bl r,d_):=by rw[De,h1,h2];simp_all
def kF(h1:bu C a ρ=a_ (x',f))(h2:bu C e ρ=a_ (y,g))(h:iH o x' y=r):bu C (.bin o a e) ρ=r:=by rw[mj,h1,h2];exact h
def nF(h1:bu C a ρ=a_ (x',f))(h:fQ o [x']=r):bu C (.blt o [a]) ρ=r:=by rw[Dg,di,h1];exact h
def S4(h1:bu C a ρ=a_ (x',f))(h:ic o x' []=r):bu C (.gp o a []) ρ=r:=by rw[yD,h1];exact h
def N0(h1:bu C a ρ=a_ (x',f))(h2:bu C e ρ=a_ (y,g))(h:ic o x' [y]=r):bu C (.gp o a [e]) ρ=r:=by rw[yD,h1,di,h2];exact h
def LU(h1:bu C a ρ=a_ (x',f))(h2:bu C e ρ=a_ (y,g))(h:vT x' y=a_ d):bu C (.ix a e) ρ=a_ (d,d_):=by rw[xm,h1,h2];show(vT x' y).map _=_;rw[h];rfl
def MR(h1:bu C a ρ=a_ (x',f))(h2:bu C e ρ=a_ (.int i,g))(h:Cf x' b_ (a_ i)=r):bu C (.sl a b_ (a_ e)) ρ=r:=by rw[KL,h1];show bh (Ju (bu C e ρ)) _=_;rw[h2];exact h
def Q9(h1:bu C a ρ=a_ (x',f))(h2:bu C e ρ=a_ (.int i,g))(h:Cf x' (a_ i) b_=r):bu C (.sl a (a_ e) b_) ρ=r:=by rw[KL,h1];show bh (Ju (bu C e ρ)) _=_;rw[h2];exact h
def pO(h:Ei C e ρ P):Ev C e ρ (λd=>∃q:Nat,d=.int (q:Nat)/\P q):=by
 obtain⟨q,f,r,b⟩:=h;exact⟨_,f,r,rfl,q,rfl,b⟩
def Dd(h:bu C a ρ=a_ (.int i,f))(h':bu C e ρ=a_ (.int j,g))(hi:0<=i/\i<=1000):bu C (.bin .mul a e) ρ=a_ (.int (i * j),d_):=by
 rw[mj,h,h'];exact vh (by omega) (hV hi.2 (by decide))
def lp(h:bu C a ρ=a_ (.int i,f))(h':bu C e ρ=a_ (.int j,g)):bu C (.bin .add a e) ρ=a_ (.int (i+j),d_):=by
 rw[mj,h,h'];rfl
def xj{m:Nat}(h:bu C e ρ=a_ (.int (m:Nat),f))(c:m<=1000):yF C (.rng [e]) ρ=a_ ((aK m).map λk:Nat=>Dat.int k):=by
 rw[Oz,di,h];exact Na (ab c (by decide))
def KN{ls:List Nat}{P:Nat->Prop}(k:bu C x ρ=a_ (.lst (ls.map λc=>sT [c]),f))(h:Ei C e ρ (·< ls.length))(hl:∀c∈ls,P c):∃c b,bu C (.ix x e) ρ=a_ (sT [c],b)/\P c:=by
 obtain⟨q,g,r,j⟩:=h;refine⟨ls[q],d_,?_,hl _ (bA j)⟩;rw[xm,k,r];show((qK _ (q)).map λd=>(d,d_))=_;rw[j6 (by rw[aM,ae j];rfl)];rfl
def oU{α β:Type}{caps:List Nat}{it:Iw}{elt:Ex}{xs:List α}{e:α->Dat}(g:β->Dat)(P:α->β->Prop)(hi:yF C it ρ=a_ (xs.map e))(hl:xs.length<=1000)(d:∀y,im (g y)=c_)(h:∀x∈xs,∃y b,bu C elt ((jB 1 caps ρ).set 0 (a_ (e x)))=a_ (g y,b)/\P x y):∃ys:List β,bu C (.comp 1 c_ caps it [] elt) ρ=a_ (.lst (ys.map g),c_)/\ys.length=xs.length/\(∀y∈ys,∃x∈xs,P x y)/\∀x∈xs,∃y∈ys,P x y:=by
 suffices ∃ys:List β,qp (oF C 1 c_ (jB 1 caps ρ) [] elt) (xs.map e)=a_ (ys.map g,c_)/\ys.length=xs.length/\(∀y∈ys,∃x∈xs,P x y)/\∀x∈xs,∃y∈ys,P x y by
  obtain⟨ys,a,b⟩:=this;exact⟨ys,oT hi (by rw[aw];exact ab hl (by decide)) a,b⟩
 clear hi hl
 induction xs with
 |nil=>exact⟨[],rfl,rfl,(λ_ h=>nomatch h),(λ_ h=>nomatch h)⟩
 |cons x xs j=>
   obtain⟨y,b,hb,hp⟩:=h x jE;obtain⟨ys,h1,h2,h3,k⟩:=j λz c=>h z (kD _ c);refine⟨y::ys,?_,by simp_all,λz c=>?_,λz c=>?_⟩
   ·rw[aq,qp,xr,hb,h1];simp[d y]
   ·rcases au.mp c with rfl|c
    ·exact⟨x,jE,hp⟩
    simp_all
   ·rcases au.mp c with rfl|c
    ·exact⟨y,jE,hp⟩
    simp_all
end
section
variable{C:Fs}{ρ:dv}{e:Ex}{ss:List Sx}{Q:Out->Prop}{P:Dat->Prop}{i:Nat}
def fx(h:nE C s ρ=a_ (.nx ρ1))(k:Go C ss ρ1 Q):Go C (s::ss) ρ Q:=by
 obtain⟨o,a,b⟩:=k;exact⟨o,by rw[ik h];exact a,b⟩
def nD(h:Ev C e (full ρ) P)(k:∀d,P d->Go C ss (ρ.set i (a_ (d,d_))) Q):Go C (.set i e::ss) ρ Q:=by
 obtain⟨d,f,h1,h2,h3⟩:=h;exact fx (iU h1 h2) (k d h3)
def eZ(h:bu C e (full ρ)=a_ (.lst ds,c_))(k:Go C ss (ρ.set i (a_ (.lst ds,c_))) Q):Go C (.set i e::ss) ρ Q:=fx (D0 h) k
def kE(h:bu C e (full ρ)=a_ (d,f))(q:Q (.rt d f)):Go C [.ret e] ρ Q:=⟨_,x5 h,q⟩
def bK(q:Q (.nx ρ)):Go C [] ρ Q:=⟨_,rfl,q⟩
def yi(hi:(ρ[i]?).join=a_ (d,c_))(c:mP C es (full ρ)=a_ (ds,c_))(g:kj op d ds=a_ d'):nE C (.mut op i es) ρ=a_ (.nx (ρ.set i (a_ (d',c_)))):=by
 show((mP C es (full ρ)).bind λx=>if x.2=c_ then NU op i ρ x.1 (ρ[i]?).join else b_)=_;rw[c,hi];show(kj op d ds).map _=_;rw[g];rfl
def C6(h:Ev C e (full ρ) P)(hi:(ρ[i]?).join=a_ (.lst ds,c_))(hl:ds.length<1000000)(k:∀d,P d->Go C ss (ρ.set i (a_ (.lst (ds++[d]),c_))) Q):Go C (.mut .app i [e]::ss) ρ Q:=by
 obtain⟨d,f,h1,h2,h3⟩:=h;exact fx (yi hi (by rw[fP,h1];show a_ ([d],(f || im d) && c_)=_;simp_all) (oP hl)) (k d h3)
def EM(hb:bnd d ρ=a_ ρ1)(h:body ρ1=a_ (.nx ρ2)):i8 bnd body (d::ds) ρ=i8 bnd body ds ρ2:=by
 simp only[i8,hb,bw,h];rfl
theorem Ap{α:Type}{d:Dat->dv->Option dv}{body:List Sx}{V:α->Dat}{I:List α->dv->Prop}:∀(xs ys:List α)(ρ:dv),(∀(us:List α)x(vs:List α)ρ,ys++xs=us++x::vs->I us ρ->∃ρ1,d (V x) ρ=a_ ρ1/\Go C body ρ1 λo=>∃c,o=.nx c/\I (us++[x]) c)->I ys ρ->∃ρ',i8 d (dX C body) (xs.map V) ρ=a_ (.nx ρ')/\I (ys++xs) ρ'
 |[],ys,ρ,_,h=>⟨ρ,rfl,by simp_all⟩
 |x::xs,ys,ρ,hs,h=>by
   obtain⟨ρ1,h1,_,h2,c,rfl,h3⟩:=hs ys x xs ρ rfl h;obtain⟨ρ',g,h5⟩:=Ap xs (ys++[x]) c (λus z vs ρ q=>hs us z vs ρ (by simp_all)) h3;rw[aq,EM h1 h2]
   simp_all
def lg{α:Type}{one:Bool}{d:List Nat}{it:Iw}{body:List Sx}{V:α->Dat}{xs:List α}{ρ0:dv}{I:List α->dv->Prop}(g:nE C (.loop one d it body) ρ=i8 (gH one d) (dX C body) (xs.map V) ρ0)(j:I [] ρ0)(hs:∀(us:List α)x(vs:List α)ρ,xs=us++x::vs->I us ρ->∃ρ1,gH one d (V x) ρ=a_ ρ1/\Go C body ρ1 λo=>∃c,o=.nx c/\I (us++[x]) c)(K:∀ρ',I xs ρ'->Go C ss ρ' Q):Go C (.loop one d it body::ss) ρ Q:=by
 obtain⟨ρ',h1,h2⟩:=Ap xs [] ρ0 hs j;exact fx (by rw[g];exact h1) (K ρ' h2)
def nA(c:bu C e (full ρ)=a_ (d,f))(hd:jX d=a_ ds)(hf:(im d || f)=c_):nE C (.loop one ts (.itv e) body) ρ=i8 (gH one ts) (dX C body) ds ρ:=by
 rw[xg,c,bw,if_pos hf,hd];rfl
def yw{j:List Nat}{body:List Sx}{I:List Nat->dv->Prop}{P:Nat->Prop}(d:Ei C e (full ρ) P)(k:∀m,P m->m<=1000)(l:I [] ρ)(hs:∀m,P m->∀(us:List Nat)x(vs:List Nat)ρ,aK m=us++x::vs->I us ρ->∃ρ1,gH c_ j (.int (x:Nat)) ρ=a_ ρ1/\Go C body ρ1 λo=>∃c,o=.nx c/\I (us++[x]) c)(K:∀m,P m->∀ρ',I (aK m) ρ'->Go C ss ρ' Q):Go C (.loop c_ j (.rng [e]) body::ss) ρ Q:=by
 obtain⟨m,f,d,g⟩:=d;exact lg (by rw[A0,xj d (k m g)];rfl) l (hs m g) (K m g)
def AJ{J:dv->Prop}{A:List Sx}(h:∃t f,bu C e (full ρ)=a_ (.bl t,f))(c:Go C A ρ λo=>∃ρ',o=.nx ρ'/\J ρ')(d:J ρ)(k:∀ρ',J ρ'->Go C ss ρ' Q):Go C (.ifs e A []::ss) ρ Q:=by
 obtain⟨t,f,h⟩:=h;cases t
 ·exact fx (by rw[EW h rfl];rfl) (k ρ d)
 ·obtain⟨_,h1,ρ',rfl,h2⟩:=c;exact fx (by rw[Ko h rfl];exact h1) (k ρ' h2)
def u6{e1 e2 e3:Ex}{P:Nat->Prop}(h1:Ei C e1 (full ρ) P)(h2:∀v:Nat,∃t f,bu C e2 (full (ρ.set i (a_ (.int (v:Nat),d_))))=a_ (.bl t,f))(h3:∀v:Nat,Ei C e3 (full (ρ.set i (a_ (.int (v:Nat),d_)))) P)(K:∀v:Nat,P v->Go C ss (ρ.set i (a_ (.int (v:Nat),d_))) Q):Go C (.set i e1::.ifs e2 [.set i e3] []::ss) ρ Q:=by
 refine nD (pO h1) λd hd=>?_;obtain⟨v,rfl,g⟩:=hd;refine AJ (J:=λρ'=>∃v:Nat,P v/\ρ'=ρ.set i (a_ (.int (v),d_))) (h2 v) (nD (pO (h3 v)) λd hd=>?_) ⟨v,g,rfl⟩ λρ' h=>?_
 ·obtain⟨w,rfl,c⟩:=hd;exact bK ⟨_,rfl,w,c,List.set_set _⟩
 ·obtain⟨w,c,rfl⟩:=h;exact K w c
def jc{A B:List Sx}{b:Bool}{f:Bool}{J:dv->Prop}(h:bu C e (full ρ)=a_ (.bl b,f))(c:b=c_->Go C A ρ λo=>∃ρ',o=.nx ρ'/\J ρ')(d:b=d_->Go C B ρ λo=>∃ρ',o=.nx ρ'/\J ρ')(k:∀ρ',J ρ'->Go C ss ρ' Q):Go C (.ifs e A B::ss) ρ Q:=by
 cases b
 ·obtain⟨_,h1,ρ',rfl,h2⟩:=d rfl;exact fx (by rw[EW h rfl];exact h1) (k ρ' h2)
 ·obtain⟨_,h1,ρ',rfl,h2⟩:=c rfl;exact fx (by rw[Ko h rfl];exact h1) (k ρ' h2)
end
def Kw(h:bu C e (full ρ)=a_ (.bl c_,f))(c:dX C A ρ=a_ (.rt d g))(q:Q (.rt d g)):Go C (.ifs e A B::ss) ρ Q:=⟨_,by rw[MA (by rw[Ko h rfl];exact c)],q⟩
def px(h:bu C e (full ρ)=a_ (.bl d_,f))(k:Go C ss ρ Q):Go C (.ifs e A []::ss) ρ Q:=fx (by rw[EW h rfl];rfl) k
def sQ{ds:List Dat}(c:ds.length=np)(h:Go (Cn D n) body (ds.map (λd=>a_ (d,d_))++dB (nl - np) b_) λo=>o=.rt d b):Oy (Cn D n) np nl body ds=a_ (d,b):=by
 obtain⟨_,h1,rfl⟩:=h;exact fA c h1
def IU{ns:List Int}:∃c:Int,Cn D (n+1) 16 [.lst (ns.map Dat.int),.int (k:Nat)]=a_ (.int c,d_):=by
 have hl:fQ .len [.lst (ns.map Dat.int)]=a_ (.int (ns.length),d_):=by rw[lu,aw]
 by_cases h:k<ns.length
 ·refine⟨ns[k],sQ rfl (Kw (iQ rfl (nF rfl hl) (congrArg a_ (decide_eq_true (show(k:Int)<(ns.length)from(Int.ofNat_lt.mpr h))))) (x5 (LU rfl rfl (j6 (by rw[aM,ae h];rfl)))) rfl)⟩
 ·exact⟨0,sQ rfl (px (iQ rfl (nF rfl hl) (congrArg a_ (decide_eq_false (show¬(k:Int)<(ns.length)from(λz=>(uc z (eP.mpr (cy h)))))))) (kE rfl rfl))⟩
def He(d:C 16 [N,.int k]=a_ (.int c,d_))(l:0<=k)(g:k<=1000)(hp:0<p)(j:0<m):Go C b17 [a_ (N,d_),a_ (.int k,d_),a_ (.int p,d_),a_ (.int m,d_),b_] λo=>o=.rt (.int ((c * 48271+7919 * k * k+11) % p * 7919 % 999983 % m)) d_:=by
 refine fx (iU (kF (kF (kF (kF d rfl (pT (by decide) (by decide))) (kF (kF rfl rfl (vh (by decide) (by decide))) rfl (pT (by omega) (hV g (by decide)))) rfl) rfl rfl) rfl (nG hp)) rfl) ?_;exact kE (kF (kF (kF rfl rfl (pT (by decide) (by decide))) rfl (nG (by decide))) rfl (nG j)) rfl
def dw{ns:List Int}:Dw (Cn D (n+2)) (.lst (ns.map Dat.int)):=λk p m d hp g=>by
 obtain⟨j,v⟩:=jD d.1;obtain⟨c,l⟩:=IU;rw[<-v]at l;have h:=He l d.1 d.2 hp g;generalize B:(c * 48271+7919 * k * k+11) % p * 7919 % 999983=y at h;have e1:0<=y % m:=Pk _ (Int.ne_of_gt g);have e2:y % m<m:=Int.emod_lt_of_pos _ g;obtain⟨q,z⟩:=jD e1;rw[z]at e2 h;exact⟨q,sQ rfl h,e2⟩
def yK{C:Fs}{ρ:iJ}{α:Type}{caps:List Nat}{it:Iw}{c:Ex}{xs:List α}{e:α->Dat}(p:α->Bool)(hi:yF C it ρ=a_ (xs.map e))(hl:xs.length<=1000)(g:∀x,im (e x)=c_)(h:∀x∈xs,∃f,bu C c ((jB 1 caps ρ).set 0 (a_ (e x)))=a_ (.bl (p x),f))(j:∀d:Dat,bu C (.v 0) ((jB 1 caps ρ).set 0 (a_ d))=a_ (d,d_):=by intro;rfl):bu C (.comp 1 c_ caps it [c] (.v 0)) ρ=a_ (.lst ((xs.filter p).map e),c_):=by
 refine oT hi (by rw[aw];exact ab hl (by decide)) ?_;clear hi hl
 induction xs with
 |nil=>rfl
 |cons x xs k=>
   obtain⟨f,hf⟩:=h x jE;rw[aq,qp,K8 hf rfl,k λy l=>h y (kD _ l),j];cases q:p x<;>simp[q,g]
def yJ{C:Fs}{ρ:iJ}{α:Type}{caps:List Nat}{it:Iw}{elt:Ex}{xs:List α}{e g:α->Dat}(hi:yF C it ρ=a_ (xs.map e))(hl:xs.length<=1000)(d:∀x∈xs,im (g x)=c_)(h:∀x∈xs,∃f,bu C elt ((jB 1 caps ρ).set 0 (a_ (e x)))=a_ (g x,f)):bu C (.comp 1 c_ caps it [] elt) ρ=a_ (.lst (xs.map g),c_):=by
 refine oT hi (by grind) ?_;clear hi hl
 induction xs with
 |nil=>rfl
 |cons x xs j=>
   obtain⟨f,hf⟩:=h x jE;rw[aq,qp,xr,hf,j (λy c=>d y (kD _ c)) λy c=>h y (kD _ c)];simp[d x jE]
abbrev Ed:=bc×List Nat×List Int×bc
abbrev dR(e:Ed):Dat:=.tup [.str e.1,.str (T e.2.1),.tup (e.2.2.1.map Dat.int),.str e.2.2.2]
abbrev KY(e:Ed):List NK:=[.inl (.inr e.1),.inl (.inr (T e.2.1)),.inr (e.2.2.1.map WO),.inl (.inr e.2.2.2)]
def PU(e:Ed):NP (dR e)=a_ (KY e):=by
 simp only[NP,UZ,YG,uO,bV,bw]
theorem JI:∀es:List Ed,vP (es.map dR)=a_ (es.map KY)
 |[]=>rfl
 |e::es=>by
   rw[aq,vP,PU,JI es];rfl
theorem allI:∀l:List Int,(l.map WO).all sI=c_
 |[]=>rfl
 |a::r=>by rw[aq,dC,allI r];rfl
noncomputable abbrev XF:List (List Nat):=[[1],[1],[2],[1]]
def wD(e:Ed):(KY e).map sN=XF:=by
 simp only[aq,List.map_nil,sN,allI,if_true]
abbrev HJ(e:Ed):List (List (List Int)):=codeN (KY e)
def Gi(es:List Ed):List Dat:=(gY vS (es.map HJ)).map (Dl XF)
def PR(e:Ed):∀x∈KY e,Ad (sN x)=c_:=λx c=>by
 have:sN x∈(KY e).map sN:=cH c;rw[wD]at this;exact br.mp (by decide) _ this
def T5(e:Ed):Dl XF (HJ e)=dR e:=by
 have:=Fl (PU e) (PR e);rw[wD]at this;exact this
def Le(h:HJ a=HJ b):a=b:=by
 have h1 :=code_inj ((wD a).trans (wD b).symm) (PR a) h;simp only[KY,fH,Sum.inl.injEq,Sum.inr.injEq,and_true]at h1;obtain⟨h1,h2,h3,c⟩:=h1;exact DH h1 (DH (Xt h2) (DH (Oe h3) c))
def CD{α:Type}[BEq α][LawfulBEq α]{l l':List α}(d:l.Nodup)(h:∀x∈l,x∈l'):l.length<=l'.length:=by
 induction l generalizing l' with
 |nil=>exact aP _
 |cons a r g=>
   obtain⟨h1,h2⟩:=aT.mp d;have ha:=h a jE;have:=g h2 λx c=>(List.mem_erase_of_ne (λe:x=a=>h1 (e▸c))).mpr (h x (kD _ c))
   grind
def Q0(es:List Ed):∃E:List Ed,Gi es=E.map dR/\E.Nodup/\(∀e,e∈E↔e∈es)/\E.length<=es.length:=by
 have d:∀l:List (List (List (List Int))),(∀c∈l,∃e:Ed,c=HJ e)->l.Nodup->∃E:List Ed,l=E.map HJ/\E.Nodup:=λl=>by
  induction l with
  |nil=>intro _ _;exact⟨[],rfl,eR⟩
  |cons c r v=>
    intro h k;obtain⟨e,rfl⟩:=h c jE;obtain⟨E,h1,h2⟩:=v (λc g=>h c (kD _ g)) (aT.mp k).2;refine⟨e::E,by rw[h1];rfl,aT.mpr ⟨λm=>(aT.mp k).1 ?_,h2⟩⟩;rw[h1];exact cH m
 obtain⟨E,h1,h2⟩:=d (gY vS (es.map HJ)) (λc g=>by
  obtain⟨e,_,rfl⟩:=bQ.mp ((jf Aq).mp g)
  exact⟨e,rfl⟩) (mN Aq (jw Aq _))
 refine⟨E,?_,h2,λe=>?_,?_⟩
 ·unfold Gi;rw[h1,bS];exact cJ λe _=>T5 e
 ·have:=jf Aq (z:=HJ e) (l:=es.map HJ);rw[h1]at this;constructor
  ·intro h;obtain⟨y,j,q⟩:=bQ.mp (this.mp (cH h));rw[<-Le q];exact j
  ·intro h;obtain⟨y,j,q⟩:=bQ.mp (this.mpr (cH h));rw[<-Le q];exact j
 ·have:=CD (mN Aq (jw Aq (es.map HJ))) λx B=>(jf Aq).mp B;rw[h1,aw,aw]at this;exact this
def Qz(es:List Ed):(gY vS (es.map HJ)).length<=es.length:=by
 have:=CD (mN Aq (jw Aq (es.map HJ))) λx c=>(jf Aq).mp c
 simp_all
def MC{es:List Ed}(hl:es.length<=300)(c:es≠[]):fQ .sset [.lst (es.map dR)]=a_ (.lst (Gi es),c_):=by
 cases es with
 |nil=>exact absurd rfl c
 |cons e r=>
   have hs:HG ((e::r).map KY)=XF:=wD e
   have h3:(((e::r).map KY).all λk=>decide (k.map sN=HG ((e::r).map KY)))=c_:=by
    rw[br];intro k d;obtain⟨q,_,rfl⟩:=bQ.mp d;rw[hs];exact decide_eq_true (wD q)
   have g:=Qz (e::r);show(vP ((e::r).map dR)).bind wC=_;rw[JI];show wC ((e::r).map KY)=_;unfold wC Jy;rw[if_pos ⟨by rw[aw];omega,by rfl,by rw[hs];rfl,h3,by rw[bS];exact ab g hl⟩,hs,bS];rfl
structure Tb where
 fs:List Fm
 m0:List Int
 m1:List Int
 m2:List Int
 m3:List Int
 fg:List Int
structure CC(t:Tb):Prop where
 ho:∀f∈t.fs,E5 f
 hl:t.fs.length<=12
 h0:t.m0.length<=2
 h1:t.m1.length<=2
 h2:t.m2.length<=2
 h3:t.m3.length<=2
 hf:t.fg.length<=10
abbrev LR(t:Tb):Dat:=.tup [tI t.m0,tI t.m1,tI t.m2,tI t.m3]
abbrev tb(t:Tb):Dat:=.tup [.tup (t.fs.map iq),LR t,tI t.fg]
def JG(m:List Int):gJ .ne (tI m) (.tup [])=a_ (!m.isEmpty):=by
 cases m with
 |nil=>rfl
 |cons a r=>
   have h :=xY 19 (a::r);rw[YI h rfl];rfl
def Dj(m:List Int):gJ .eq (tI m) (.tup [])=a_ m.isEmpty:=by
 cases m with
 |nil=>rfl
 |cons a r=>
   have h :=xY 19 (a::r);rw[Zg h rfl];rfl
def rV(m:List Int):fQ .len [tI m]=a_ (.int (m.length:Nat),d_):=by rw[vg,aw]
def o6(m:List Int):im (tI m)=c_:=qx m
def sj(a b:List Int)(h:a.length+b.length<=1000):iH .add (tI a) (tI b)=a_ (tI (a++b),d_):=by
 rw[Du (by rw[aw,aw];exact ab h (by decide)),<-fT]
noncomputable abbrev qN:bc:=aa "out"
noncomputable abbrev mW:bc:=aa "let"
def Kn(a b c:bc)(m:List Int):im (.tup [.str a,.str b,tI m,.str c])=c_:=by
 have h :=qx m;simp[im,jF,h]
def upB:(qq.all λc=>decide (tm c=[c - 32]))=c_:=by kernel_rfl
def up1(h:c∈qq):tm c=[c - 32]:=of_decide_eq_true (br.mp upB c h)
def Jh(u:List Nat)(f:Nat->List Nat):(zl (T u) λ_ c=>f c)=(u.flatMap f).toArray:=by
 apply Array.ext';simp only[zl];rw[Array.toList_flatten,Array.toList_mapIdx]
 have e:∀(u:List Nat),(u.mapIdx λ_ c=>(f c).toArray)=u.map λc=>(f c).toArray:=λu=>by
  apply iX<;>simp
 rw[e,bS]
 congr 1
def tN(h:∀c∈u,c∈qq)(hl:u.length<=1000):ic .upper (.str (T u)) []=a_ (.str (T (u.map (·- 32))),d_):=by
 show(if(T u).length<=1000000 then a_ (Dat.str (rh (T u)),d_)else b_)=_;rw[qM,if_pos (ab hl (by decide))]
 have:rh (T u)=T (u.map (·- 32)):=by
  show(⟨zl (T u) λ_ c=>tm c⟩:bc)=_;rw[Jh];show T _=T _
  congr 1
  clear hl
  induction u with
  |nil=>rfl
  |cons a r d=>
    rw[HW,up1 (h a jE),d λc m=>h c (kD _ m)];rfl
 rw[this]
def LV(l:List Nat):List Nat:=(T [l.headD 0 - 32]++cY (T l) (a_ 1) b_).cps.toList
def AH(ho:E5 f):∃(d:Nat) (j:bc),vT (.str (T f.1)) (.int 0)=a_ (.str (T [d]))/\ic .upper (.str (T [d])) []=a_ (.str (T [d - 32]),d_)/\Cf (.str (T f.1)) (a_ 1) b_=a_ (.str j,d_)/\iH .add (.str (T [d - 32])) (.str j)=a_ (.str (T (LV f.1)),d_):=by
 obtain⟨d,v,g⟩:∃c r,f.1=c::r:=by
  cases q:f.1 with
  |nil=>exact absurd q ho.ne
  |cons c r=>exact⟨c,r,rfl⟩
 have hlen:=ho.ll;have k :=ho.low d (by simp_all);refine⟨d,cY (T f.1) (a_ 1) b_,?_,tN (λc g=>by simp_all) (by simp),if_pos (by exact ab hlen (by decide)),?_⟩
 ·rw[g];exact Tw (by rw[<-g];exact ab hlen (by decide)) (by simp)
 ·have l:=zm (T f.1) (a_ 1) b_;have e3:(T f.1).length=f.1.length:=qM _;have e1:(T [d - 32]).length=1:=qM _;have hh:f.1.headD 0=d:=by rw[g];rfl
  show(if(T [d - 32]).length+(cY (T f.1) (a_ 1) b_).length<=ax then a_ (Dat.str (T [d - 32]++cY (T f.1) (a_ 1) b_),d_)else b_)=_;rw[if_pos (by rw[e1,gD];omega)];unfold LV;rw[hh]
noncomputable abbrev uT(l:List Nat):List Nat:=l.map (·- 32)
noncomputable abbrev tj:bc:=aa "all"
noncomputable abbrev i9:bc:=aa "done"
theorem Kl:∀es:List Ed,jF (es.map dR)=c_
 |[]=>rfl
 |e::es=>by rw[aq,jF,Kn,Kl es];rfl
def Ie(ho:E5 f):ic .upper (.str (T f.1)) []=a_ (.str (T (uT f.1)),d_):=tN ho.low (ab ho.ll (by decide))
noncomputable abbrev n8:bc:=aa "num"
noncomputable abbrev FIG:bc:=aa "0123456789"
noncomputable def qC:List Nat:=[48,49,50,51,52,53,54,55,56,57]
def abe:FIG=T qC:=by decide +kernel
noncomputable def Hr:List Ed:=[("out",[32],[0],"out"),("done",[32],[0],"out"),("num",[32],[0],"out")]
def NIL:aa ""=T []:=by decide +kernel
noncomputable abbrev p5:bc:=aa "in"
def PW:aa "w"=T [119]:=by decide +kernel
def PB:aa "b"=T [98]:=by decide +kernel
def PM:aa "m"=T [109]:=by decide +kernel
def PE:aa "e"=T [101]:=by decide +kernel
def BL:aa " "=T [32]:=by decide +kernel
def EV(e:Ed):im (dR e)=c_:=Kn _ _ _ _
def TZ(es:List Ed)(e:Ed):es.map dR++[dR e]=(es++[e]).map dR:=by simp
theorem gZ{α β:Type}{g:α->List β}{m:Nat}:∀{l:List α},(∀x∈l,(g x).length<=m)->(l.flatMap g).length<=m * l.length
 |[],_=>by simp
 |a::r,h=>by
   rw[HW,ag,ba,Nat.mul_add];have:=h a jE;have:=gZ λx c=>h x (kD _ c);omega
def ite_le{α:Type}{x y:List α}(h1:x.length<=n)(h2:y.length<=n):(if b=c_ then x else y).length<=n:=by
 split
 ·exact h1
 ·exact h2
def uF{α:Type}{l us vs:List α}{x:α}(h:l=us++x::vs):us.length<l.length:=by
 rw[h,ag];exact bD (bb _ _)
section
variable{es:List Ed}
def kJ(h1:bu C a ρ=a_ (.str e.1,f1))(h2:bu C b ρ=a_ (sT e.2.1,f2))(h3:bu C c ρ=a_ (tI e.2.2.1,f3))(g:bu C d ρ=a_ (.str e.2.2.2,f4)):Ev C (.tup [a,b,c,d]) ρ (·= dR e):=
 ⟨dR e,_,by rw[Dc,fP,h1,fP,h2,fP,h3,fP,g];rfl,EV e,rfl⟩
def YV(h:Ev C x ρ (·= d)):bu C (.lst [x]) ρ=a_ (.lst [d],c_):=by
 obtain⟨_,b,ev,hi,rfl⟩:=h;rw[TV,fP,ev];show a_ (_,(b || im _) && c_)=_;rw[hi,sA];rfl
def nU(h:Ev C x (full ρ) (·= dR e))(hi:(ρ[i]?).join=a_ (.lst (es.map dR),c_))(hl:es.length<1000)(k:Go C ss (ρ.set i (a_ (.lst ((es++[e]).map dR),c_))) Q):Go C (.mut .app i [x]::ss) ρ Q:=
 C6 h hi (by rw[aw];exact ab hl (by decide)) λd hd=>by rw[hd,TZ];exact k
def Oi(h:bu C c (full ρ)=a_ (.bl b,f'))(d:Ev C x (full ρ) (·= dR e))(hi:(ρ[i]?).join=a_ (.lst (es.map dR),c_))(g:ρ.set i (a_ (.lst (es.map dR),c_))=ρ)(hl:es.length<1000)(k:Go C ss (ρ.set i (a_ (.lst ((es++if b=c_ then [e]else []).map dR),c_))) Q):Go C (.ifs c [.mut .app i [x]] []::ss) ρ Q:=by
 refine jc (J:=λρ'=>ρ'=ρ.set i (a_ (.lst ((es++if b=c_ then [e]else []).map dR),c_))) h (λq=>?_) (λq=>bK ⟨_,rfl,?_⟩) λρ' e=>by rw[e];exact k
 ·rw[if_pos q];exact nU d hi hl (bK ⟨_,rfl,rfl⟩)
 simp_all
def Zt(h:bu C a ρ=a_ (.bl x,f))(h':bu C b ρ=a_ (.bl y,g)):∃g,bu C (.and a b) ρ=a_ (.bl (x && y),g):=by
 cases x
 ·exact⟨d_,jy h⟩
 ·exact⟨g,by rw[jy h];exact h'⟩
def or2(h:bu C a ρ=a_ (.bl x,f))(h':bu C b ρ=a_ (.bl y,g)):∃g,bu C (.or a b) ρ=a_ (.bl (x || y),g):=by
 cases x
 ·exact⟨g,by rw[se h];exact h'⟩
 ·exact⟨d_,se h⟩
end
noncomputable def W6:List (Nat×bc×bc):=[(119,"out","done"),(119,"let","done"),(98,"out","in"),(98,"let","in"),(109,"in","in"),(101,"in","done")]
noncomputable def A6:List (Nat×bc×bc):=[(119,"out","done"),(119,"let","done"),(98,"out","all"),(98,"let","all"),(109,"all","all"),(101,"all","done")]
abbrev ZJ(w:Nat×bc×bc):Dat:=.tup [sT [w.1],.str w.2.1,.str w.2.2]
noncomputable abbrev E8(f:Fm)(w:Nat×bc×bc):List Ed:=if decide (w.1∈f.2.2)=c_ then [(w.2.1,f.1,f.2.1,w.2.2)]else []
abbrev E6(f:Fm):List Ed:=W6.flatMap (E8 f)
def C1{α:Type}{b:Bool}{e:α}:(if b=c_ then [e]else []).length<=1:=ite_le (ao 1) (aP 1)
def KZ(f:Fm):(E6 f).length<=6:=gZ λ_ _=>C1
def Km{fs:List Fm}:(im (.tup (fs.map iq)) || d_)=c_:=by
 show(jF (fs.map iq) || d_)=c_;rw[l9];rfl
def Gv{fs:List Fm}(hl:fs.length<=12):Cn D (n+1) 5 [.tup (fs.map iq)]=a_ (.lst ((fs.flatMap E6).map dR),c_):=by
 refine sQ rfl ?_;refine eZ rfl (lg (I:=λus ρ=>∃k q v c d j,ρ=[a_ (.tup (fs.map iq),d_),a_ (.lst ((us.flatMap E6).map dR),c_),k,q,v,c,d,j]) (nA rfl rfl Km) ⟨_,_,_,_,_,_,rfl⟩ ?_ λρ ⟨_,_,_,_,_,_,h⟩=>by rw[h];exact⟨_,rfl,rfl⟩);rintro us f vs _ y ⟨_,_,_,c,d,j,rfl⟩;have h1:=gZ (l:=us) λf _=>KZ f;have h0:=uF y;refine⟨_,rfl,lg (V:=ZJ) (xs:=W6) (I:=λws ρ=>∃c d j,ρ=[a_ (.tup (fs.map iq),d_),a_ (.lst ((us.flatMap E6++ws.flatMap (E8 f)).map dR),c_),a_ (sT f.1,d_),a_ (tI f.2.1,d_),a_ (sT f.2.2,d_),c,d,j]) (nA rfl rfl rfl) ⟨c,d,j,by rw[gG,az];rfl⟩ ?_ λρ ⟨_,_,_,h⟩=>by rw[h];exact bK ⟨_,rfl,_,_,_,_,_,_,by rw[cL,cB]⟩⟩;rintro ws w vs _ z ⟨_,_,_,rfl⟩;have h2:=gZ (g:=E8 f) (l:=ws) λ_ _=>C1;have h3:ws.length<6:=uF z;exact⟨_,rfl,Oi (iQ rfl rfl pL) (kJ rfl rfl rfl rfl) rfl rfl (by rw[ag];omega) (bK ⟨_,rfl,_,_,_,by rw[cL,cB,<-aC];rfl⟩)⟩
def GC:Cn D (n+1) 3 []=a_ (.lst (Hr.map dR),c_):=by
 have:pk (Cn D (n+1) 3 []) (a_ (.lst (Hr.map dR),c_))=c_:=by kernel_rfl
 exact mL this
abbrev TJ(m:List Int)(e:Ed):Ed:=(e.1,LV e.2.1,m++e.2.2.1,e.2.2.2)
abbrev GX:Ex:=.tup [.v 0,.bin .add (.gp .upper (.ix (.v 1) (.e_ 0)) []) (.sl (.v 1) (a_ (.e_ 1)) b_),.bin .add (.v 4) (.v 2),.v 3]
theorem wZ{m:List Int}(j:m.length<=2)(g:Dat):∀es:List Ed,(∀e∈es,∃f,E5 f/\e.2.1=f.1/\e.2.2.1=f.2.1)->qp (oF C 4 d_ (jB 4 [1] [a_ g,a_ (tI m)]) [] GX) (es.map dR)=a_ ((es.map (TJ m)).map dR,c_)
 |[],_=>rfl
 |e::es,h=>by
   obtain⟨f,hf,e1,e2⟩:=h e jE;obtain⟨D,J,l,q,y,k⟩:=AH hf;have hl:=hf.cl;obtain⟨d,b,ev,hi,rfl⟩:=kJ (ρ:=[a_ (.str e.1),a_ (sT e.2.1),a_ (tI e.2.2.1),a_ (.str e.2.2.2),a_ (tI m)]) (e:=TJ m e) (a:=.v 0) (b:=.bin .add (.gp .upper (.ix (.v 1) (.e_ 0)) []) (.sl (.v 1) (a_ (.e_ 1)) b_)) (c:=.bin .add (.v 4) (.v 2)) (d:=.v 3) rfl (kF (S4 (LU rfl rfl (by rw[e1];exact l)) q) (Q9 rfl rfl (by rw[e1];exact y)) (by rw[<-e1]at k;exact k)) (sj m e.2.2.1 (by rw[e2];exact ab (fK j hl) (by decide))) rfl
   have z:oF C 4 d_ (jB 4 [1] [a_ g,a_ (tI m)]) [] GX (dR e)=a_ (a_ (dR (TJ m e),b)):=by
    show(bu C GX [a_ (.str e.1),a_ (sT e.2.1),a_ (tI e.2.2.1),a_ (.str e.2.2.2),a_ (tI m)]).map a_=_;rw[ev];rfl
   rw[aq];unfold qp;rw[z,wZ j g es λe B=>h e (kD _ B)]
   simp_all
def Gz{n:Nat}{m:List Int}(c:m.length<=2){es:List Ed}(h:∀e∈es,∃f,E5 f/\e.2.1=f.1/\e.2.2.1=f.2.1)(hl:es.length<=1000):Cn D (n+1) 6 [.lst (es.map dR),tI m]=a_ (.lst ((es.map (TJ m)).map dR),c_):=
 fA rfl (x5 (oT rfl (by rw[aw];exact ab hl (by decide)) (wZ c _ es h)))
noncomputable abbrev bg(f:Fm)(w:Nat×bc×bc):Bool:=decide (w.1∈f.2.2) && (!decide ([w.1]=[119]) || decide (1<(f.1.length:Int)))
def qW(m:List Int)(f:Fm)(w:Nat×bc×bc):List Ed:=if bg f w=c_ then [(w.2.1,uT f.1,(if(w.2.1 == tj)=c_ then []else m)++f.2.1,w.2.2)]else []
abbrev H6(m:List Int)(f:Fm):List Ed:=A6.flatMap (qW m f)
def lj:(qW m f w).length<=1:=C1
def C5(m:List Int)(f:Fm):(H6 m f).length<=6:=gZ λ_ _=>lj
def x4{n:Nat}{m:List Int}(M:m.length<=2){fs:List Fm}(ho:∀f∈fs,E5 f)(hl:fs.length<=12):Cn D (n+1) 7 [.tup (fs.map iq),tI m]=a_ (.lst ((fs.flatMap (H6 m)).map dR),c_):=by
 refine sQ rfl ?_;generalize Cn D n=C;refine eZ rfl (lg (I:=λus ρ=>∃O R U d j k c,ρ=[a_ (.tup (fs.map iq),d_),a_ (tI m,d_),a_ (.lst ((us.flatMap (H6 m)).map dR),c_),O,R,U,d,j,k,c]) (nA rfl rfl Km) ⟨_,_,_,_,_,_,_,rfl⟩ ?_ λρ ⟨_,_,_,_,_,_,_,h⟩=>by rw[h];exact⟨_,rfl,rfl⟩);rintro us f vs _ B ⟨_,_,_,d,j,k,c,rfl⟩;have h1:=gZ (l:=us) λf _=>C5 m f;have h0:=uF B;have hf:=ho f (by rw[B];simp);have y:=hf.ll;have z:=hf.cl;refine⟨_,rfl,lg (V:=ZJ) (xs:=A6) (I:=λws ρ=>∃d j k c,ρ=[a_ (.tup (fs.map iq),d_),a_ (tI m,d_),a_ (.lst ((us.flatMap (H6 m)++ws.flatMap (qW m f)).map dR),c_),a_ (sT f.1,d_),a_ (tI f.2.1,d_),a_ (sT f.2.2,d_),d,j,k,c]) (nA rfl rfl rfl) ⟨d,j,k,c,by rw[gG,az];rfl⟩ ?_ λρ ⟨_,_,_,_,h⟩=>by rw[h];exact bK ⟨_,rfl,_,_,_,_,_,_,_,by rw[cL,cB]⟩⟩;rintro ws w vs _ W ⟨_,_,_,c,rfl⟩;have h2:=gZ (g:=qW m f) (l:=ws) λ_ _=>lj;have h3:ws.length<6:=uF W;refine⟨_,rfl,?_⟩;rw[cL,cB,<-aC];have L:(us.flatMap (H6 m)++ws.flatMap (qW m f)).length<1000:=by rw[ag];omega
 generalize us.flatMap (H6 m)++ws.flatMap (qW m f)=es at L ⊢;obtain⟨g2,Y⟩:=or2 (ρ:=full [a_ (.tup (fs.map iq),d_),a_ (tI m,d_),a_ (.lst (es.map dR),c_),a_ (sT f.1,d_),a_ (tI f.2.1,d_),a_ (sT f.2.2,d_),a_ (sT [w.1],d_),a_ (.str w.2.1,d_),a_ (.str w.2.2,d_),c]) (a:=.cmp .ne (.v 6) (.con (sT [119]))) (b:=.cmp .gt (.blt .len [.v 3]) (.e_ 1)) (iQ rfl rfl (ne_T _ _)) (iQ (nF rfl (len_T (ab y (by decide)))) rfl rfl);obtain⟨g3,Z⟩:=Zt (iQ (a:=.v 6) (e:=.v 5) rfl rfl pL) Y;refine jc (J:=λρ=>∃c,ρ=[a_ (.tup (fs.map iq),d_),a_ (tI m,d_),a_ (.lst ((es++qW m f w).map dR),c_),a_ (sT f.1,d_),a_ (tI f.2.1,d_),a_ (sT f.2.2,d_),a_ (sT [w.1],d_),a_ (.str w.2.1,d_),a_ (.str w.2.2,d_),c]) Z (λq=>?_) (λq=>bK ⟨_,rfl,c,by unfold qW;rw[if_neg (by rw[show bg f w=d_ from q];decide),az];rfl⟩) λρ ⟨c,h⟩=>bK ⟨_,rfl,_,_,_,c,h⟩
 have h9:bu C (.ite (.cmp .eq (.v 7) (.con (.str tj))) (.tup []) (.v 1)) (full [a_ (.tup (fs.map iq),d_),a_ (tI m,d_),a_ (.lst (es.map dR),c_),a_ (sT f.1,d_),a_ (tI f.2.1,d_),a_ (sT f.2.2,d_),a_ (sT [w.1],d_),a_ (.str w.2.1,d_),a_ (.str w.2.2,d_),c])=a_ (tI (if(w.2.1 == tj)=c_ then []else m),w.2.1 == tj):=by
  rw[Fd (iQ rfl rfl WY) rfl];cases w.2.1 == tj<;>rfl
 have h5:(if(w.2.1 == tj)=c_ then []else m).length<=2:=ite_le (aP _) M;refine fx (iU h9 (o6 _)) (nU (e:=(w.2.1,uT f.1,(if(w.2.1 == tj)=c_ then []else m)++f.2.1,w.2.2)) (kJ rfl (S4 rfl (Ie hf)) (sj _ _ (ab (fK h5 z) (by decide))) rfl) rfl L (bK ⟨_,rfl,_,by unfold qW;rw[if_pos (q)];rfl⟩))
abbrev pF(t:Tb)(p:Nat×Int):List Ed:=[(qN,[p.1],t.m2++[p.2],n8),(i9,[p.1],t.m2++[p.2],n8),(n8,[p.1],[p.2],n8)]
abbrev AX(t:Tb):List (Nat×Int):=qC.zip t.fg
abbrev ZY(p:Nat×Int):Dat:=.tup [sT [p.1],.int p.2]
theorem DJ:∀(l:List Nat)(g:List Int),oh ((l.map λc=>T [c]).map Dat.str) (g.map Dat.int)=(l.zip g).map ZY
 |[],_=>by simp[oh]
 |_::_,[]=>by simp[oh]
 |c::l,x::g=>by
   have:=DJ l g;simp only[aq,oh,HA,this]
abbrev rF(t:Tb):List Ed:=if t.fg.isEmpty=c_ then []else(n8,[],t.m3,mW)::(AX t).flatMap (pF t)
def AW(t:Tb):(AX t).length<=10:=by
 rw[vv];exact jl _ _
def Zr : es++[a]++[b]++[c]=es++[a,b,c]:=by simp
def M4{t:Tb}(h2:t.m2.length<=2):Cn D (n+1) 4 [LR t,tI t.fg]=a_ (.lst ((rF t).map dR),c_):=by
 refine sQ (body:=b4) rfl ?_;generalize Cn D n=C;have c:bu C (.cmp .eq (.v 1) (.tup [])) (full [a_ (LR t,d_),a_ (tI t.fg,d_),b_,b_,b_])=a_ (.bl t.fg.isEmpty,d_):=iQ rfl rfl (Dj t.fg);unfold b4 rF;revert c;cases t.fg.isEmpty
 ·intro c;refine px c (eZ (ds:=[(n8,[],t.m3,mW)].map dR) (by exact YV (kJ rfl rfl rfl rfl)) (lg (V:=ZY) (xs:=AX t) (ρ0:=[a_ (LR t,d_),a_ (tI t.fg,d_),a_ (.lst ([(n8,[],t.m3,mW)].map dR),c_),b_,b_]) (I:=λus ρ=>∃k q,ρ=[a_ (LR t,d_),a_ (tI t.fg,d_),a_ (.lst (((n8,[],t.m3,mW)::us.flatMap (pF t)).map dR),c_),k,q]) ?_ ⟨_,_,rfl⟩ ?_ λρ ⟨_,_,h⟩=>by rw[h];exact⟨_,rfl,rfl⟩))
  ·show bh (j5 (λds=>(ds,[a_ (LR t,d_),a_ (tI t.fg,d_),a_ (.lst ([(n8,[],t.m3,mW)].map dR),c_),b_,b_])) (a_ (oh ((eB FIG).map Dat.str) (t.fg.map Dat.int)))) (λx:List Dat×dv=>i8 (gH d_ [3,4]) (dX C _) x.1 x.2)=_;rw[xX,DJ];rfl
  ·rintro us p vs _ y ⟨_,_,rfl⟩;have h0:=uF y;have h1:=AW t;have h3:=gZ (g:=pF t) (l:=us) λ_ _=>ao 3;refine⟨_,rfl,?_⟩;rw[cL,<-nQ];have d:((n8,[],t.m3,mW)::us.flatMap (pF t)).length<900:=by rw[ba];omega
   generalize (n8,[],t.m3,mW)::us.flatMap (pF t)=es at d ⊢;have j:=sj t.m2 [p.2] (by exact aB h2 (by decide));exact nU (e:=(qN,[p.1],t.m2++[p.2],n8)) (kJ rfl rfl j rfl) rfl (ab d (by decide)) (nU (e:=(i9,[p.1],t.m2++[p.2],n8)) (kJ rfl rfl j rfl) rfl (by simp;exact aB d (by decide)) (nU (kJ rfl rfl rfl rfl) rfl (by simp;exact bD (aB d (by decide))) (bK ⟨_,rfl,_,_,by rw[Zr];rfl⟩)))
 ·intro c;exact Kw c rfl rfl
abbrev Ag(e:Ed):Bool:=!(e.1 == mW)
def yT(A B:List Ed)(h:A.length+B.length<=1000):iH .add (.lst (A.map dR)) (.lst (B.map dR))=a_ (.lst ((A++B).map dR),c_):=by
 rw[pU (by rw[aw,aw];exact ab h (by decide)),<-fT,Kl]
abbrev s0(t:Tb):List Ed:=t.fs.flatMap E6
abbrev s1(t:Tb):List Ed:=if t.m0.isEmpty=c_ then s0 t else s0 t++(s0 t).map (TJ t.m0)
abbrev BF(t:Tb):List Ed:=if t.m1.isEmpty=c_ then s1 t else s1 t++t.fs.flatMap (H6 t.m1)
abbrev s3(t:Tb):List Ed:=if t.fg.isEmpty=c_ then(BF t).filter Ag else BF t
abbrev got(t:Tb):List Ed:=s3 t++Hr++rF t
def Co{t:Tb}(hl:t.fs.length<=12):(s0 t).length<=72:=by
 have:(s0 t).length<=_:=gZ λf _=>KZ f;omega
def IP{t:Tb}(hl:t.fs.length<=12):(s1 t).length<=144:=by
 have h:=Co hl;exact ite_le (ab h (by decide)) (by rw[ag,aw];exact ab (fK h h) (by decide))
def Cm{t:Tb}(hl:t.fs.length<=12):(BF t).length<=216:=by
 have h:=IP hl;have h':=gZ (l:=t.fs) λf _=>C5 t.m1 f;exact ite_le (ab h (by decide)) (by rw[ag];omega)
def IM{t:Tb}(hl:t.fs.length<=12):(s3 t).length<=216:=ite_le (ab (fL _ _) (Cm hl)) (Cm hl)
def Jb(t:Tb):(rF t).length<=31:=by
 have h:=AW t;have h':=gZ (g:=pF t) (l:=AX t) λ_ _=>ao 3;exact ite_le (aP _) (by grind)
abbrev e5(t:Tb)(es:List Ed):dv:=[a_ (tb t,d_),a_ (.tup (t.fs.map iq),d_),a_ (LR t,d_),a_ (.lst (es.map dR),c_)]
def C0(t:Tb):im (LR t)=c_:=by
 simp only[im,jF,eO,aj];exact⟨o6 _,o6 _,o6 _,o6 _⟩
def P7{B:List Ed}(h:bu C c (full (e5 t A))=a_ (.bl (!b),f))(d:bu C y (full (e5 t A))=a_ (.lst (B.map dR),c_))(k:Go C ss (e5 t (if b=c_ then A else B)) Q):Go C (.ifs c [.set 3 y] []::ss) (e5 t A) Q:=by
 refine jc (J:=λρ=>ρ=e5 t (if b=c_ then A else B)) h (λq=>eZ d (bK ⟨_,rfl,?_⟩)) (λq=>bK ⟨_,rfl,?_⟩) λρ h=>by rw[h];exact k
 ·rw[if_neg (by simpa using q)];rfl
 ·rw[if_pos (by simpa using q)]
def GA(ht:CC t)(c:(got t).length<=300):Cn D (n+2) 8 [tb t]=a_ (.lst (Gi (got t)),c_):=by
 have g:=Gv (n:=n) ht.hl
 have j:=Gz (n:=n) ht.h0 (es:=s0 t) (λe k=>by
  obtain⟨f,hf,h⟩:=fD.mp k;obtain⟨w,_,h⟩:=fD.mp h;unfold E8 at h;split at h
  ·rw[aL.mp h];exact⟨f,ht.ho f hf,rfl,rfl⟩
  ·cases h) (by have:=Co ht.hl;exact ab this (by decide))
 have v:=x4 (n:=n) ht.h1 ht.ho ht.hl;have y:=GC (n:=n);have z:=M4 (n:=n) ht.h2;have d:=Co ht.hl;have O:=IP ht.hl;have B:=Cm ht.hl;have L:=IM ht.hl;have R:=gZ (l:=t.fs) λf _=>C5 t.m1 f;have M:=ht.hl;have U:=Jb t;refine sQ rfl ?_;refine fx (iU rfl (l9 _)) (fx (iU rfl (C0 t)) (eZ g ?_));refine P7 (iQ rfl rfl (JG _)) (kF rfl j (yT _ _ (by rw[aw];exact ab (fK d d) (by decide)))) ?_;refine P7 (A:=s1 t) (iQ rfl rfl (JG _)) (kF rfl v (yT _ _ (by omega))) ?_;refine jc (J:=λρ=>ρ=e5 t (s3 t)) (iQ rfl rfl (Dj _)) (λq=>eZ (yK Ag rfl (ab B (by decide)) EV λe _=>⟨d_,iQ rfl rfl YJ⟩) (bK ⟨_,rfl,?_⟩)) (λq=>bK ⟨_,rfl,?_⟩) ?_
 ·show _=e5 t (if t.fg.isEmpty=c_ then(BF t).filter Ag else BF t);rw[if_pos q];rfl
 ·show _=e5 t (if t.fg.isEmpty=c_ then(BF t).filter Ag else BF t);rw[if_neg (show¬t.fg.isEmpty=c_ by rw[q];decide)]
 ·rintro _ rfl;exact kE (nF (kF (kF rfl y (yT _ _ (by exact Nat.add_le_add_right (ab L (by decide)) _))) z (yT _ _ (by rw[ag];show _+3+_<=_;omega))) (MC c (by intro e;simp[Hr]at e))) rfl
theorem AZ:∀{a b:List Sx}{ρ ρ':dv},dX C a ρ=a_ (.nx ρ')->dX C (a++b) ρ=dX C b ρ'
 |[],_,ρ,ρ',h=>by cases h;rfl
 |s::a,b,ρ,ρ',h=>by
   obtain⟨o,h1,h2⟩:=cR h
   match o,h1,h2 with
   |.nx ρ1,h1,h2=>
     rw[nQ,ik h1];exact AZ h2
noncomputable abbrev j1:List bc:=["out","in","done","num","let","all"]
theorem Eg{g g':bc->Dat}{s:bc}:∀{l:List bc},l.Nodup->s∈l->(∀s'∈l,s'≠s->g' s'=g s')->∃j,posK (.inr s) (l.map ck)=a_ j/\(l.map g)[j]?=a_ (g s)/\(l.map g).set j (g' s)=l.map g'
 |a::r,c,hs,h=>by
   obtain⟨h1,h2⟩:=aT.mp c;by_cases q:a=s
   ·subst q;refine⟨0,if_pos rfl,rfl,?_⟩;have :=cJ λs' m=>(h s' (kD _ m) λe=>h1 (e▸m)).symm
    grind
   ·obtain⟨j,e1,e2,e3⟩:=Eg h2 ((au.mp hs).resolve_left λe=>q e.symm) λs' m=>h s' (kD _ m);refine⟨j+1,?_,e2,?_⟩
    ·show(if(ck a)=.inr s then a_ 0 else(posK (.inr s) (r.map ck)).map (·+ 1))=_
     simp_all
    simp_all
noncomputable abbrev Vc(E:List Ed)(s:bc):List Ed:=E.filter λe=>e.1 == s
abbrev P9(E:List Ed)(s:bc):Dat:=.lst ((Vc E s).map dR)
abbrev oE(E:List Ed):Dat:=.dct (j1.map ck) (j1.map (P9 E))
def VB:j1.Nodup:=by decide +kernel
def RU{E:List Ed}(hl:E.length<1000)(hs:e.1∈j1):SQ .app (.str e.1) [dR e] (oE E)=a_ (oE (E++[e])):=by
 obtain⟨j,e1,e2,e3⟩:=Eg (g':=P9 (E++[e])) VB hs λs' _ q=>by
  unfold P9 Vc;rw[g8,nP (by simpa using λh=>q h.symm),vy,az]
 have hb:(Vc E e.1).length<=E.length:=fL _ _
 have c:kj .app (P9 E e.1) [dR e]=a_ (P9 (E++[e]) e.1):=by
  unfold P9 Vc;rw[oP (by rw[aw];exact aB hb (ab hl (by decide))),g8,jt (by simp),fT];rfl
 show((posK (.inr e.1) (j1.map ck)).bind λj=>((j1.map (P9 E))[j]?).bind λd=>(kj .app d [dR e]).map λd'=>Dat.dct (j1.map ck) ((j1.map (P9 E)).set j d'))=_;rw[e1,bw,e2,bw,c,bV,e3]
abbrev Ff(d:Dat)(E:List Ed)(z:g_):dv:=[a_ (d,d_),a_ (oE E,c_),a_ (.str "all",d_),z]
def J7:List Sx:=[.U0 .app 1 (.ix (.v 3) (.e_ 0)) [.v 3]]
def Ut{E:List Ed}(hl:E.length<1000)(hs:e.1∈j1):dX C J7 (Ff d E (a_ (dR e,d_)))=a_ (.nx (Ff d (E++[e]) (a_ (dR e,d_)))):=by
 have hp:=RU hl hs;have hi:=EV e;refine oz ?_;show((bu C (.ix (.v 3) (.e_ 0)) (full (Ff d E (a_ (dR e,d_))))).bind λy=>(mP C [.v 3] (full (Ff d E (a_ (dR e,d_))))).bind λx=>if x.2=c_ then Wo .app 1 (Ff d E (a_ (dR e,d_))) y.1 x.1 (a_ (oE E,c_))else b_)=_;have c:bu C (.ix (.v 3) (.e_ 0)) (full (Ff d E (a_ (dR e,d_))))=a_ (.str e.1,d_):=rfl
 have g:mP C [.v 3] (full (Ff d E (a_ (dR e,d_))))=a_ ([dR e],c_):=by
  show a_ ([dR e],(d_ || im (dR e)) && c_)=_;rw[hi];rfl
 rw[c,g,bw];show(SQ .app (.str e.1) [dR e] (oE E)).map _=_;rw[hp];rfl
theorem J1:∀(es E:List Ed)(z:g_),E.length+es.length<1000->(∀e∈es,e.1∈j1)->∃c,i8 (gH c_ [3]) (dX C J7) (es.map dR) (Ff d E z)=a_ (.nx (Ff d (E++es) c))
 |[],E,z,_,_=>⟨z,by rw[az];rfl⟩
 |e::es,E,z,hl,hs=>by
   rw[ba]at hl;obtain⟨c,g⟩:=J1 es (E++[e]) (a_ (dR e,d_)) (by rw[ag,BV];omega) λx j=>hs x (kD _ j);refine⟨c,?_⟩;rw[aC]at g;show((dX C J7 (Ff d E (a_ (dR e,d_)))).bind (wt _))=_;rw[Ut (aB (bb _ _) hl) (hs e jE)];exact g
def Ym:dX C [.set 1 .qF,.loop c_ [2] (.itv (.con (.tup [(.str (aa "out")),(.str (aa "in")),(.str (aa "done")),(.str (aa "num")),(.str (aa "let")),(.str (aa "all"))]))) [(.mut .seti 1 [(.lst []),(.v 2)])]] [a_ (d,d_),b_,b_,b_]=a_ (.nx (Ff d [] b_)):=by kernel_rfl
def RK{E:List Ed}(c:Cn D (n+2) 8 [tb t]=a_ (.lst (E.map dR),c_))(hl:E.length<=300)(hs:∀e∈E,e.1∈j1):Cn D (n+3) 9 [tb t]=a_ (oE E,c_):=by
 refine fA rfl ?_;show dX (Cn D (n+2)) ([.set 1 .qF,.loop c_ [2] (.itv (.con (.tup [(.str (aa "out")),(.str (aa "in")),(.str (aa "done")),(.str (aa "num")),(.str (aa "let")),(.str (aa "all"))]))) [(.mut .seti 1 [(.lst []),(.v 2)])]]++[.loop c_ [3] (.itv (.call 8 [.v 0])) J7,.nc 1]) [a_ (tb t,d_),b_,b_,b_]=_;rw[AZ Ym];obtain⟨d,g⟩:=J1 E [] b_ (by exact aB (qb hl _) (by decide)) hs
 have h1:nE (Cn D (n+2)) (.loop c_ [3] (.itv (.call 8 [.v 0])) J7) (Ff (tb t) [] b_)=a_ (.nx (Ff (tb t) E d)):=by
  rw[xg];have:bu (Cn D (n+2)) (.call 8 [.v 0]) (full (Ff (tb t) [] b_))=a_ (.lst (E.map dR),c_):=c;rw[this];exact g
 rw[ik h1];rfl
noncomputable abbrev pre(x:List Nat)(p:Nat)(e:Ed):Bool:=decide (e.2.1 <+: x.drop p)
def Vz{x:List Nat}(hp:p<=x.length):gQ (T x) (T y) (p:Int)=decide (y <+: x.drop p):=by
 have e1:PySem.fromIndex (T x).length (p)=p:=by
  rfl
 unfold gQ;rw[e1];have d:(T x).length=x.length:=bp;have c:(T y).length=y.length:=bp;unfold Builtin.Str.subAt;rw[c]
 have e2:((T x).cps.extract p (p+y.length) == (T y).cps)=decide ((x.drop p).take y.length=y):=by
  rw[show(T x).cps.extract p (p+y.length)=((x.drop p).take y.length).toArray by simp]
  grind
 rw[e2];by_cases h:y <+: x.drop p
 ·have h1:=h.length_le;rw[dP]at h1;rw[decide_eq_true h,decide_eq_true (nN.mp h).symm,decide_eq_true (by omega)];rfl
 grind
def RL{es:List Ed}{x:List Nat}(hp:p<=x.length)(hl:es.length<=1000):Cn D (n+1) 11 [.lst (es.map dR),.str (T x),.int (p:Nat)]=a_ (.lst ((es.filter (pre x p)).map dR),c_):=
 fA rfl (x5 (yK (pre x p) rfl hl EV λe _=>⟨d_,by
  show a_ (Dat.bl (gQ (T x) (T e.2.1) (p)),d_)=_
  rw[Vz hp]⟩))
abbrev Row:=bc->Option Nat
noncomputable def vD:Option Nat->Dat
 |none=>.non
 |some k=>.int (k:Nat)
abbrev dD(l:List bc)(g:Row):Dat:=.dct (l.map ck) (l.map λs=>vD (g s))
theorem CO{g:Row}{s:bc}:∀{l:List bc},s∈l->pv (.inr s) (l.map ck) (l.map λs=>vD (g s))=a_ (vD (g s))
 |a::r,h=>by
   show(if(ck a)=.inr s then a_ (vD (g a))else pv (.inr s) (r.map ck) (r.map λs=>vD (g s)))=_;by_cases q:a=s
   ·simp_all
   ·rw[if_neg λe=>q (sr e)];exact CO ((au.mp h).resolve_left λe=>q e.symm)
noncomputable def GP:Nat->List Nat->Nat
 |a,[]=>a
 |a,b::r=>GP (if b<a then b else a) r
def qo:List Nat->Option Nat
 |[]=>b_
 |a::r=>a_ (GP a r)
theorem PY:∀(r:List Nat)(a:Nat),SX (a:Int) (r.map λk:Nat=>(k:Int))=(GP a r:Nat)
 |[],_=>rfl
 |b::r,a=>by
   show SX (if(b:Int)<(a)then(b)else(a)) _=_;rw[show(if(b:Int)<(a)then(b:Int)else(a))=((if b<a then b else a:Nat)) by grind];exact PY r _
theorem CF:∀(r:List Nat)(a:Nat),GP a r∈a::r/\∀k∈a::r,GP a r<=k
 |[],a=>⟨by simp[GP],λk h=>by simp[GP]at *;simp_all⟩
 |b::r,a=>by
   obtain⟨h1,h2⟩:=CF r (if b<a then b else a);show GP (if b<a then b else a) r∈_/\∀k∈_,GP (if b<a then b else a) r<=k;refine⟨?_,λk c=>?_⟩
   ·rcases au.mp h1 with h|h
    ·rw[h];split<;>simp
    simp_all
   ·have h3:=h2 _ jE
    grind
def wJ:qo l=a_ m↔m∈l/\∀k∈l,m<=k:=by
 cases l with
 |nil=>exact⟨λh=>(nomatch h),λh=>(nomatch h.1)⟩
 |cons a r=>
   obtain⟨h1,h2⟩:=CF r a;constructor
   ·intro h;cases h;exact⟨h1,h2⟩
   ·intro h;exact congrArg a_ (bI (h2 m h.1) (h.2 _ h1))
def wK:qo l=b_↔l=[]:=by
 cases l<;>simp[qo]
def CG(h:∀k,k∈l↔k∈l'):qo l=qo l':=by
 cases q:qo l with
 |none=>
   rw[wK]at q;subst q;exact(wK.mpr (List.eq_nil_iff_forall_not_mem.mpr λk c=>nomatch (h k).mpr c)).symm
 |some m=>
   obtain⟨h1,h2⟩:=wJ.mp q;exact(wJ.mpr ⟨(h m).mp h1,λk c=>h2 k ((h k).mpr c)⟩).symm
def RF(h1:e.2.1.length<=1000000)(d:kd[p+e.2.1.length]?=a_ (dD l g))(hs:e.2.2.2∈l) :
  Cn D (n+1) 12 [dR e,.int (p:Nat),.lst kd]=a_ (vD ((g e.2.2.2).map λr=>e.2.2.1.length+r),d_):=by
 refine fA rfl ?_
 have j:bu (Cn D n) (.ix (.ix (.v 2) (.bin .add (.v 1) (.blt .len [.ix (.v 0) (.e_ 1)]))) (.ix (.v 0) (.e_ 3))) [a_ (dR e),a_ (.int (p)),a_ (.lst kd),b_]=a_ (vD (g e.2.2.2),d_):=by
  have c:qK [Dat.str e.1,.str (T e.2.1),.tup (e.2.2.1.map Dat.int),.str e.2.2.2] 1=a_ (.str (T e.2.1)):=rfl;have i3:qK [Dat.str e.1,.str (T e.2.1),.tup (e.2.2.1.map Dat.int),.str e.2.2.2] 3=a_ (.str e.2.2.2):=rfl
  have i2:qK kd ((p)+(e.2.1.length))=a_ (dD l g):=by
   exact j6 d
  have k:vT (dD l g) (.str e.2.2.2)=a_ (vD (g e.2.2.2)):=CO hs;simp only[xm,mj,Dg,KO,mf,di,Fb,zu,dc,Hy,bV,bw,P1,WG,c,i3,len_T h1,nH,i2,k]
 have s1:nE (Cn D n) (.set 3 (.ix (.ix (.v 2) (.bin .add (.v 1) (.blt .len [.ix (.v 0) (.e_ 1)]))) (.ix (.v 0) (.e_ 3)))) [a_ (dR e,d_),a_ (.int (p),d_),a_ (.lst kd,d_),b_]=a_ (.nx [a_ (dR e,d_),a_ (.int (p),d_),a_ (.lst kd,d_),a_ (vD (g e.2.2.2),d_)]):=by
  rw[yB];show bh (bu (Cn D n) _ [a_ (dR e),a_ (.int (p)),a_ (.lst kd),b_]) _=_;rw[j];cases g e.2.2.2<;>rfl
 show dX (Cn D n) (_::_) [a_ (dR e,d_),a_ (.int (p),d_),a_ (.lst kd,d_),b_]=_;rw[ik s1]
 cases q:g e.2.2.2 with
 |none=>rfl
 |some r=>
   have y:bu (Cn D n) (.ite (.cmp .isn (.v 3) (.con .non)) (.con .non) (.bin .add (.blt .len [.ix (.v 0) (.e_ 2)]) (.v 3))) [a_ (dR e),a_ (.int (p)),a_ (.lst kd),a_ (.int (r))]=a_ (.int ((e.2.2.1.length+r):Int),d_):=by
    have c:qK [Dat.str e.1,.str (T e.2.1),.tup (e.2.2.1.map Dat.int),.str e.2.2.2] 2=a_ (.tup (e.2.2.1.map Dat.int)):=rfl
    have b2:bu (Cn D n) (.bin .add (.blt .len [.ix (.v 0) (.e_ 2)]) (.v 3)) [a_ (dR e),a_ (.int (p)),a_ (.lst kd),a_ (.int (r))]=a_ (.int ((e.2.2.1.length+r:Nat)),d_):=by
     simp only[xm,mj,Dg,KO,mf,di,Fb,zu,dc,Hy,bV,bw,P1,c,vg,aw,nH];rw[show((e.2.2.1.length):Int)+((r):Int)=((e.2.2.1.length+r:Nat)) by rfl]
    exact b2
   exact x5 y
def G7(o:Option Nat):im (vD o)=c_:=by cases o<;>rfl
theorem Cb:∀ws:List (Option Nat),(ws.filter wc).map vD=(ws.filterMap id).map λk:Nat=>Dat.int (k:Nat)
 |[]=>rfl
 |none::r=>Cb r
 |some k::r=>by
   show Dat.int (k)::(r.filter wc).map vD=Dat.int (k)::_;rw[Cb r]
theorem Kj:∀ks:List Nat,sP (ks.map λk:Nat=>Dat.int (k:Nat))=a_ (ks.map λk:Nat=>(k:Int))
 |[]=>rfl
 |k::r=>by show(sP _).map _=_;rw[Kj r];rfl
def Wp(ks:List Nat):NY (.lst (ks.map λk:Nat=>Dat.int (k:Nat)))=a_ (vD (qo ks),d_):=by
 show(sP _).map _=_;rw[Kj]
 cases ks with
 |nil=>rfl
 |cons a r=>
   show a_ (Dat.int (SX (a) (r.map λk:Nat=>(k))),d_)=_;rw[PY];rfl
def RE{n:Nat}{es:List Ed}{x:List Nat}{p:Nat}{q:List Dat}{r:Ed->Option Nat}(hp:p<=x.length)(hl:es.length<=1000)
  (h:∀e∈es,pre x p e=c_->e.2.1.length<=1000000/\∃l g,q[p+e.2.1.length]?=a_ (dD l g)/\e.2.2.2∈l/\g e.2.2.2=r e) :
  Cn D (n+2) 13 [.lst (es.map dR),.str (T x),.int (p:Nat),.lst q]=a_ (vD (qo ((es.filter (pre x p)).filterMap λe=>(r e).map λk=>e.2.2.1.length+k)),d_):=by
 have z:(es.filter (pre x p)).length<=1000:=ab (fL _ _) hl;have d:=RL (n:=n) hp hl
 have j:∀e∈es.filter (pre x p),Cn D (n+1) 12 [dR e,.int (p),.lst q]=a_ (vD ((r e).map λk=>e.2.2.1.length+k),d_):=λe B=>by
  obtain⟨h1,h2⟩:=dF.mp B;obtain⟨h3,l,g,L,h5,M⟩:=h e h1 h2;rw[RF h3 L h5,M]
 refine sQ rfl ?_;generalize Cn D (n+1)=C at d j ⊢;generalize es.filter (pre x p)=fs at z d j ⊢;refine eZ (ds:=(fs.map λe=>(r e).map λk=>e.2.2.1.length+k).map vD) ?_ (kE ?_ rfl)
 ·rw[bS];exact yJ (by show bh (C 11 [.lst (es.map dR),.str (T x),.int (p)]) _=_;rw[d];rfl) z (λ_ _=>G7 _) λe B=>⟨d_,j e B⟩
 ·generalize J:(fs.map λe=>(r e).map λk=>e.2.2.1.length+k)=ws;have O:(fs.filterMap λe=>(r e).map λk=>e.2.2.1.length+k)=ws.filterMap id:=by rw[<-J,HD];rfl
  have c2:=yK (C:=C) (ρ:=[a_ (.lst (es.map dR)),a_ (.str (T x)),a_ (.int (p)),a_ (.lst q),a_ (.lst (ws.map vD))]) (caps:=[]) (it:=.itv (.v 4)) (c:=.cmp .nisn (.v 0) (.con .non)) wc rfl (by rw[<-J,aw];exact z) G7 λo _=>⟨d_,by cases o<;>rfl⟩
  rw[Cb]at c2;show bh (bu C (.comp 1 c_ [] (.itv (.v 4)) [(.cmp .nisn (.v 0) (.con .non))] (.v 0)) [a_ (.lst (es.map dR)),a_ (.str (T x)),a_ (.int (p)),a_ (.lst q),a_ (.lst (ws.map vD))]) (λy=>NY y.1)=_;rw[c2,O];exact Wp _
noncomputable abbrev yW:List bc:=["out","done","num"]
noncomputable abbrev qX:List bc:=["all","let","num","done","in","out"]
abbrev Ft(E:List Ed)(x:List Nat)(p:Nat)(s:bc)(r:Ed->Option Nat):List Nat:=((Vc E s).filter (pre x p)).filterMap λe=>(r e).map λk=>e.2.2.1.length+k
abbrev best(E:List Ed)(x:List Nat)(p:Nat)(s:bc)(r:Ed->Option Nat):Option Nat:=qo (Ft E x p s r)
def VQ(E:List Ed)(x:List Nat)(p:Nat)(F:Nat->Row):Option Nat:=best E x p "let" λe=>F (p+e.2.1.length) e.2.2.2
def VP(E:List Ed)(x:List Nat)(p:Nat)(F:Nat->Row):Row:=λs=>if p=x.length/\s∈yW then a_ 0 else best E x p s λe=>if e.2.1=[]then VQ E x p F else F (p+e.2.1.length) e.2.2.2
def tab(E:List Ed)(x:List Nat):Nat->Nat->Row
 |0=>λ_ _=>b_
 |k+1=>λq=>if q+k=x.length then VP E x q (tab E x k)else tab E x k q
def lJ(E:List Ed)(x:List Nat):Nat->Row:=tab E x (x.length+1)
structure gE(E:List Ed):Prop where
 b:∀e∈E,e.1∈j1
 o:∀e∈E,e.2.2.2∈j1
 t:∀e∈E,e.2.1.length<=1000
 n:∀e∈E,e.2.1=[]->e.1="num"/\e.2.2.2="let"
 l:E.length<=300
variable{x:List Nat}
theorem xR:∀(k j q:Nat),x.length<q+k->tab E x (k+j) q=tab E x k q
 |k,0,q,_=>rfl
 |k,j+1,q,h=>by
   show(if q+(k+j)=x.length then _ else tab E x (k+j) q)=_;rw[if_neg (by omega),xR k j q h]
def Ee(hp:p<=x.length):lJ E x p=VP E x p (tab E x (x.length - p)):=by
 have e:x.length+1=(x.length - p+1)+p:=by omega
 unfold lJ;rw[e,xR _ _ _ (by omega)];show(if p+(x.length - p)=x.length then _ else _)=_
 simp_all
def RY(h:p<q)(hp:p<=x.length):tab E x (x.length - p) q=lJ E x q:=by
 by_cases c:q<=x.length
 ·unfold lJ;rw[show x.length+1=(x.length - p)+(p+1) by omega,xR _ _ _ (by omega)]
 ·unfold lJ
  have z :=λk=>by
   have:=xR (E:=E) 0 k q (nW c)
   rwa [jS]at this
  simp_all
def sY(h:∀e∈E,e.1=s->r e=r' e):Ft E x p s r=Ft E x p s r':=by
 have d:∀{l:List Ed}{f f':Ed->Option Nat},(∀e∈l,f e=f' e)->l.filterMap f=l.filterMap f':=λ{l f f'}h=>by
  induction l with
  |nil=>rfl
  |cons a r g=>rw[jb,jb,h a jE,g λe c=>h e (kD _ c)]
 refine d λe c=>?_;have h1:=(dF.mp (dF.mp c).1)
 rw[h e h1.1 (by simpa using h1.2)]
def Nn(g:gE E)(hp:p<=x.length):lJ E x p "let"=VQ E x p (tab E x (x.length - p)):=by
 rw[Ee hp];show(if p=x.length/\("let":bc)∈yW then a_ 0 else _)=_;rw[if_neg (λh=>absurd h.2 (by decide))];show qo _=qo _;rw[sY λe c hs=>?_];by_cases q:e.2.1=[]
 ·have:=(g.n e c q).1;rw[hs]at this;exact absurd this (by decide)
 ·rw[if_neg q]
def Cv(g:gE E)(hp:p<=x.length):lJ E x p s=if p=x.length/\s∈yW then a_ 0 else best E x p s λe=>lJ E x (p+e.2.1.length) e.2.2.2:=by
 have e1:=congrFun (Ee (E:=E) hp) s;rw[e1];show(if p=x.length/\s∈yW then a_ 0 else qo _)=if p=x.length/\s∈yW then a_ 0 else qo _
 rw[sY λe c hs=>?_];by_cases q:e.2.1=[]
 ·rw[q,(g.n e c q).2];exact(Nn g hp).symm
 ·rw[if_neg q,RY _ hp];have :=p0.mpr q
  simp_all
end K30E
namespace K30E
open PySem L2 M K30
variable{E:List Ed}{x:List Nat}
abbrev cellK(f:Nat->Row)(p:Nat)(l:List bc)(q:Nat):Dat:=if q<p then .dct [] []else if q=p then dD l (f p)else dD qX (f q)
abbrev KD(f:Nat->Row)(n p:Nat)(l:List bc):List Dat:=(aK (n+1)).map (cellK f p l)
def vn(h:q<=n):(KD f n p l)[q]?=a_ (cellK f p l q):=by
 rw[aM,p3 (bD h)];rfl
def UK(h:p<=n):(KD f n p l).set p (dD l' (f p))=KD f n p l':=by
 refine jK λq=>?_;rw[mG];by_cases e:p=q
 ·subst e;rw[if_pos rfl,if_pos (by simp;omega),vn h];simp[cellK]
 ·rw[if_neg e];by_cases c:q<=n
  ·rw[vn c,vn c]
   grind
  ·rw[kg (by simp;exact nW c),kg (by simp;omega)]
def O6:KD f n (p+1) qX=KD f n p []:=by
 refine cJ λq _=>?_;unfold cellK;by_cases h1:q<p
 ·rw[if_pos (by omega),if_pos h1]
 ·by_cases h2:q=p
  ·simp_all
  ·rw[if_neg (λz=>(h2 (wd z h1))),if_neg h1,if_neg h2]
   simp_all
theorem PF{g:Row}{s:bc}{v:Dat}:∀{l:List bc},s∉l->putD (.inr s) v (l.map ck) (l.map λs=>vD (g s))=((l++[s]).map ck,(l.map λs=>vD (g s))++[v])/\Ac (.inr s) (l.map ck)=c_
 |[],_=>⟨rfl,rfl⟩
 |a::r,h=>by
   obtain⟨h1,h2⟩:=PF λm=>h (kD _ m);have q:¬(ck a:Key)=.inr s:=λe=>h (sr e▸jE);constructor
   ·show(if(ck a)=.inr s then _ else((ck a)::(putD (.inr s) v (r.map ck) (r.map λs=>vD (g s))).1,vD (g a)::(putD (.inr s) v (r.map ck) (r.map λs=>vD (g s))).2))=_;rw[if_neg q,h1];rfl
   ·show(if(ck a)=.inr s then _ else Ac (.inr s) (r.map ck))=c_;rw[if_neg q,h2]
def Wn(h:s∉l)(hl:l.length<=100):kj .seti (dD l g) [vD (g s),.str s]=a_ (dD (l++[s]) g):=by
 obtain⟨h1,h2⟩:=PF h;show(if(l.map ck).length<ax/\Ac (.inr s) (l.map ck)=c_ then a_ (Dat.dct (putD (.inr s) (vD (g s)) (l.map ck) (l.map λs=>vD (g s))).1 (putD (.inr s) (vD (g s)) (l.map ck) (l.map λs=>vD (g s))).2)else b_)=_;rw[if_pos ⟨by rw[aw];exact aB hl (by decide),h2⟩,h1];simp[dD]
abbrev xn(E:List Ed)(x:List Nat)(K:List Dat)(a b:g_):dv:=[a_ (oE E,d_),a_ (.str (T x),d_),a_ (.lst K,c_),a,b]
def ED(hp:p<=n)(g:n<=1000)(hs:s∉l)(hl:l.length<=100)(c:bu C e (full (xn E x (KD f n p l) (a_ (.int (p:Nat),d_)) (a_ (.str s,d_))))=a_ (vD (f p s),fl)) :
  nE C (.PZ 2 (.v 3) (.v 4) e) (xn E x (KD f n p l) (a_ (.int (p:Nat),d_)) (a_ (.str s,d_)))=a_ (.nx (xn E x (KD f n p (l++[s])) (a_ (.int (p:Nat),d_)) (a_ (.str s,d_)))):=by
 show bh (bu C e (full (xn E x (KD f n p l) (a_ (.int (p),d_)) (a_ (.str s,d_))))) _=_;rw[c];show(if im (vD (f p s))=c_ then NV .seti 2 (xn E x (KD f n p l) (a_ (.int (p),d_)) (a_ (.str s,d_))) (.int (p)) [vD (f p s),.str s] (a_ (.lst (KD f n p l),c_))else b_)=_;rw[if_pos (G7 _)]
 have h1:zj (KD f n p l).length ((p):Int)=a_ p:=by
  unfold zj;rw[if_pos (jU _),if_pos (by simp;exact hV (eP.mpr hp) (Int.le_refl _))];simp
 have h2:JM .seti [vD (f p s),.str s] (.lst (KD f n p l)) (.int (p))=a_ (.lst (KD f n p (l++[s]))):=by
  show((zj (KD f n p l).length ((p):Int)).bind λj=>((KD f n p l)[j]?).bind λd=>(kj .seti d [vD (f p s),.str s]).map λd'=>Dat.lst ((KD f n p l).set j d'))=_;rw[h1,bw,vn hp,bw];have:cellK f p l p=dD l (f p):=by simp[cellK]
  rw[this,Wn hs hl,bV,UK hp]
 show(JM .seti [vD (f p s),.str s] (.lst (KD f n p l)) (.int (p))).map _=_;rw[h2];rfl
end K30E
namespace K30E
open PySem L2 M K30
variable{x:List Nat}
def S5(n:Nat):(j1.all λs=>pk (Cn D (n+1) 2 [.str s]) (a_ (.bl (decide (s∈yW)),d_)))=c_:=by kernel_rfl
def RG(hs:s∈j1):Cn D (n+1) 2 [.str s]=a_ (.bl (decide (s∈yW)),d_):=mL (br.mp (S5 n) s hs)
theorem J3:∀{l:List bc},s∈l->pv (.inr s) (l.map ck) (l.map g)=a_ (g s)
 |a::r,h=>by
   show(if(ck a)=.inr s then a_ (g a)else pv (.inr s) (r.map ck) (r.map g))=_;by_cases q:a=s
   ·simp_all
   ·rw[if_neg λe=>q (sr e)];exact J3 ((au.mp h).resolve_left λe=>q e.symm)
def cX:Ex:=.and (.cmp .eq (.v 3) (.blt .len [(.v 1)])) (.call 2 [(.v 4)])
def pX:Ex:=.call 13 [(.ix (.v 0) (.v 4)),(.v 1),(.v 3),(.v 2)]
def X5:Sx:=.ifs cX [(.PZ 2 (.v 3) (.v 4) (.e_ 0))] [(.PZ 2 (.v 3) (.v 4) pX)]
def B8:s∈j1↔s∈qX:=by grind
def QM(g:gE E)(k:x.length<=1000)(hp:p<=x.length)(hs:s∈j1)(hl:s∉l)(y:s="num"->("let":bc)∈l)(c:l.length<=100) :
  dX (Cn D (n+2)) [X5] (xn E x (KD (lJ E x) x.length p l) (a_ (.int (p:Nat),d_)) (a_ (.str s,d_)))=a_ (.nx (xn E x (KD (lJ E x) x.length p (l++[s])) (a_ (.int (p:Nat),d_)) (a_ (.str s,d_)))):=by
 have B:bu (Cn D (n+2)) cX (full (xn E x (KD (lJ E x) x.length p l) (a_ (.int (p),d_)) (a_ (.str s,d_))))=a_ (.bl (decide (p=x.length/\s∈yW)),d_):=by
  have J:bu (Cn D (n+2)) (.cmp .eq (.v 3) (.blt .len [(.v 1)])) [a_ (oE E),a_ (.str (T x)),a_ (.lst (KD (lJ E x) x.length p l)),a_ (.int (p)),a_ (.str s)]=a_ (.bl (decide (p=x.length)),d_):=by
   show bh (a_ (Dat.int (p),d_)) (λu=>bh (fQ .len [.str (T x)]) λv=>(gJ .eq u.1 v.1).map λr=>(Dat.bl r,d_))=_;rw[len_T (by omega)];show a_ (Dat.bl (decide ((p:Int)=(x.length))),d_)=_
   congr 3
   exact decide_eq_decide.mpr (by omega)
  show bh (bu (Cn D (n+2)) (.cmp .eq (.v 3) (.blt .len [(.v 1)])) [a_ (oE E),a_ (.str (T x)),a_ (.lst (KD (lJ E x) x.length p l)),a_ (.int (p)),a_ (.str s)]) _=_;rw[J];by_cases q:p=x.length
  ·rw[decide_eq_true q];show Cn D (n+2) 2 [.str s]=_;rw[RG hs]
   congr 3
   exact decide_eq_decide.mpr ⟨λh=>⟨q,h⟩,λh=>h.2⟩
  ·rw[decide_eq_false q,decide_eq_false λh=>q h.1];rfl
 refine oz ?_;show nE (Cn D (n+2)) (.ifs cX _ _) _=_;rw[Ox,B];by_cases q:p=x.length/\s∈yW
 ·rw[decide_eq_true q];refine oz (ED (fl:=d_) hp k hl c ?_);rw[Cv g hp,if_pos q];rfl
 ·rw[decide_eq_false q];refine oz (ED (fl:=d_) hp k hl c ?_);rw[Cv g hp,if_neg q];have hd:vT (oE E) (.str s)=a_ (.lst ((Vc E s).map dR)):=J3 hs;show bh (bh (j5 _ (vT (oE E) (.str s))) _) _=_;rw[hd];refine RE hp (ab (fL _ _) (ab g.l (by decide))) λe L d=>?_;obtain⟨h1,h2⟩:=dF.mp L;have j:e.1=s:=by simpa using h2
  have hlen:=(of_decide_eq_true d).length_le;rw[dP]at hlen;refine⟨ab (g.t e h1) (by decide),?_⟩;rw[vn (by omega)];by_cases z:e.2.1=[]
  ·obtain⟨M,O⟩:=g.n e h1 z;refine⟨l,lJ E x p,?_,?_,?_⟩
   ·rw[z];simp[cellK]
   ·rw[O];exact y (j▸M)
   ·rw[z];rfl
  ·have :=p0.mpr z;refine⟨qX,lJ E x (p+e.2.1.length),?_,B8.mp (g.o e h1),rfl⟩;unfold cellK;rw[if_neg (by omega),if_neg (by omega)]
end K30E
namespace K30E
open PySem L2 M K30
variable{E:List Ed}{x:List Nat}
def M9:∀{l r:List bc},l++("num":bc)::r=qX->("let":bc)∈l
 |[],r,h=>absurd (dQ h).1 (by decide)
 |[a],r,h=>absurd (dQ (dQ h).2).1 (by decide)
 |a::b::l,r,h=>by
   simp_all
def RO:qX.Nodup:=by decide +kernel
theorem WI(g:gE E)(j:x.length<=1000)(hp:p<=x.length):∀(r l:List bc)(z:g_),l++r=qX->∃c,i8 (gH c_ [4]) (dX (Cn D (n+2)) [X5]) (r.map Dat.str) (xn E x (KD (lJ E x) x.length p l) (a_ (.int (p:Nat),d_)) z)=a_ (.nx (xn E x (KD (lJ E x) x.length p qX) (a_ (.int (p:Nat),d_)) c))
 |[],l,z,h=>⟨z,by rw[az]at h;rw[h];rfl⟩
 |s::r,l,z,h=>by
   have d :=h▸RO;have hs :=h▸ak _ jE;have hl :=λm=>(bW.mp d).2.2 s m s jE rfl
   have hlen:l.length<=100:=by
    have:=congrArg fj h;rw[ag]at this;have e:qX.length=6:=rfl;omega
   obtain⟨c,k⟩:=WI g j hp r (l++[s]) (a_ (.str s,d_)) (by simp_all);refine⟨c,?_⟩;show((dX (Cn D (n+2)) [X5] (xn E x (KD (lJ E x) x.length p l) (a_ (.int (p),d_)) (a_ (.str s,d_)))).bind (wt _))=_;rw[QM g j hp (B8.mpr hs) hl (λe=>M9 (e▸h)) hlen];exact k
def STX:Ex:=.con (.tup [(.str (aa "out")),(.str (aa "in")),(.str (aa "done")),(.str (aa "num")),(.str (aa "let")),(.str (aa "all"))])
def Ve:Sx:=.loop c_ [4] (.rev STX) [X5]
def Pz(g:gE E)(d:x.length<=1000)(hp:p<=x.length):∃c,dX (Cn D (n+2)) [Ve] (xn E x (KD (lJ E x) x.length p []) (a_ (.int (p:Nat),d_)) z)=a_ (.nx (xn E x (KD (lJ E x) x.length p qX) (a_ (.int (p:Nat),d_)) c)):=by
 obtain⟨c,h⟩:=WI g d hp qX [] z rfl;exact⟨c,oz h⟩
noncomputable abbrev dn(m:Nat):List Dat:=(aK (m+1)).map λk:Nat=>Dat.int ((m:Int) - k)
def OD(m:Nat):dn (m+1)=.int ((m+1:Nat):Int)::dn m:=by
 unfold dn;rw[BB,aq,bS]
 exact congrArg _ (cJ λk _=>by
  grind)
theorem PK(g:gE E)(d:x.length<=1000):∀(m:Nat)(y z:g_),m<=x.length->∃j c,i8 (gH c_ [3]) (dX (Cn D (n+2)) [Ve]) (dn m) (xn E x (KD (lJ E x) x.length m []) y z)=a_ (.nx (xn E x (KD (lJ E x) x.length 0 qX) j c))
 |0,y,z,h=>by
   obtain⟨c,h1⟩:=Pz g d (aP x.length);refine⟨a_ (.int (0),d_),c,?_⟩;show((dX (Cn D (n+2)) [Ve] (xn E x (KD (lJ E x) x.length 0 []) (a_ (.int ((0:Nat)),d_)) z)).bind (wt _))=_;rw[h1];rfl
 |m+1,y,z,h=>by
   obtain⟨c,h1⟩:=Pz g d h;obtain⟨k,l,q⟩:=PK g d m (a_ (.int ((m+1):Int),d_)) c (be h);refine⟨k,l,?_⟩;rw[OD];show((dX (Cn D (n+2)) [Ve] (xn E x (KD (lJ E x) x.length (m+1) []) (a_ (.int ((m+1:Nat)),d_)) z)).bind (wt _))=_;rw[h1];rw[O6];exact q
abbrev YA(E:List Ed)(x:List Nat):Dat:=.lst ((aK (x.length+1)).map λq=>dD qX (lJ E x q))
def ZC:KD f n 0 qX=(aK (n+1)).map λq=>dD qX (f q):=cJ λq _=>by
 unfold cellK
 simp_all
def ZA:KD f n n []=dB n (.dct [] [])++[.dct [] []]:=by
 rw[<-List.replicate_succ',List.eq_replicate_iff];refine⟨by simp,λd hd=>?_⟩;obtain⟨q,c,rfl⟩:=bQ.mp hd;have:=a9.mp c;unfold cellK;by_cases h:q<n
 ·rw[if_pos h]
 ·rw[if_neg h,if_pos (wd this h)];rfl
theorem EI:∀ds:List Dat,qp (oF C 1 c_ ρ0 [] .qF) ds=a_ (dB ds.length (.dct [] []),c_)
 |[]=>rfl
 |d::ds=>by
   show bh (a_ (a_ (Dat.dct [] [],c_))) _=_;rw[EI ds];rfl
def Gy(g:gE E)(d:x.length<=1000):Cn D (n+3) 14 [oE E,.str (T x)]=a_ (YA E x,c_):=by
 refine fA rfl ?_
 have c1:bu (Cn D (n+2)) (.cat (.comp 1 c_ [] (.itv (.v 1)) [] .qF) (.lst [.qF])) [a_ (oE E),a_ (.str (T x)),b_,b_,b_]=a_ (.lst (KD (lJ E x) x.length x.length []),c_):=by
  have j:bu (Cn D (n+2)) (.comp 1 c_ [] (.itv (.v 1)) [] .qF) [a_ (oE E),a_ (.str (T x)),b_,b_,b_]=a_ (.lst (dB x.length (.dct [] [])),c_):=by
   refine oT (items:=(T x).cps.toList.map λc=>Dat.str ⟨#[c]⟩) ?_ (by simp;exact ab d (by decide)) (by rw[EI];simp)
   first|rfl|(rw[if_pos (by omega)])
  show bh (bu (Cn D (n+2)) (.comp 1 c_ [] (.itv (.v 1)) [] .qF) [a_ (oE E),a_ (.str (T x)),b_,b_,b_]) _=_;rw[j,ZA];show(if(dB x.length (Dat.dct [] [])).length+1<=ax then _ else b_)=_;rw[if_pos (by rw[iu];exact aB d (by decide))]
 show dX (Cn D (n+2)) (.set 2 _::_) [a_ (oE E,d_),a_ (.str (T x),d_),b_,b_,b_]=_;rw[ik (D0 c1)];obtain⟨l,q,h⟩:=PK g d x.length b_ b_ (ao _)
 have h1:nE (Cn D (n+2)) (.loop c_ [3] (.rng [(.blt .len [(.v 1)]),(.neg (.e_ 1)),(.neg (.e_ 1))]) [Ve]) (xn E x (KD (lJ E x) x.length x.length []) b_ b_)=a_ (.nx (xn E x (KD (lJ E x) x.length 0 qX) l q)):=by
  rw[A0];show bh (bh (bh (fQ .len [.str (T x)]) _) _) _=_;rw[len_T (ab d (by decide))];show bh (Cr [.int (x.length),.int (-1),.int (-1)]) _=_
  have:Cr [.int (x.length),.int (-1),.int (-1)]=a_ (dn x.length):=by
   show(if(-1)=-1/\-1000000<=((x.length):Int)/\((x.length):Int)<=1000000/\-1000000<=(-1)/\(-1)<=1000000 then a_ ((aK (((x.length):Int) - (-1)).toNat).map λk:Nat=>Dat.int (((x.length):Int) - k))else b_)=_;rw[if_pos ⟨rfl,by simp,fu (eP.mpr d) (by decide),by decide,by simp⟩,show(((x.length):Int) - (-1)).toNat=x.length+1 by rfl]
  rw[this];exact h
 show dX (Cn D (n+2)) (.loop c_ [3] (.rng [(.blt .len [(.v 1)]),(.neg (.e_ 1)),(.neg (.e_ 1))]) [Ve]::_) (xn E x (KD (lJ E x) x.length x.length []) b_ b_)=_;rw[ik h1];show a_ (Out.rt (Dat.lst (KD (lJ E x) x.length 0 qX)) c_)=_;rw[ZC]
end K30E
namespace K30E
open PySem L2 M K30
variable{E:List Ed}{x:List Nat}
def YN(h:bu C a (full ρ)=a_ (d,fl))(hf:(fl || im d)=c_)(hi:(ρ[i]?).join=a_ (.lst ds,c_))(hl:ds.length<1000000):nE C (.mut .app i [a]) ρ=a_ (.nx (ρ.set i (a_ (.lst (ds++[d]),c_)))):=by
 rw[Ov,fP,h];show(if((fl || im d) && c_)=c_ then NU .app i ρ [d] (ρ[i]?).join else b_)=_;rw[hf,hi];show(kj .app (.lst ds) [d]).map _=_;rw[oP hl];rfl
abbrev nY(g:Row):Dat:=.lst (j1.map λs=>vD (g s))
abbrev m9(E:List Ed)(x:List Nat):Dat:=.lst ((aK (x.length+1)).map λq=>nY (lJ E x q))
abbrev Qd(t:Tb)(x:List Nat)(K c:List Dat)(z:g_):dv:=[a_ (tb t,d_),a_ (.str (T x),d_),a_ (.lst K,d_),a_ (.lst c,c_),z]
def rX:Ex:=.comp 1 c_ [4] (.itv (.con (.tup [(.str (aa "out")),(.str (aa "in")),(.str (aa "done")),(.str (aa "num")),(.str (aa "let")),(.str (aa "all"))]))) [] (.ix (.v 1) (.v 0))
def VR{K:List Dat}:bu C rX (full (Qd t x K ts (a_ (dD qX g,d_))))=a_ (nY g,c_):=
 yJ rfl (by decide) (λ_ _=>G7 _) λs hs=>⟨d_,LU rfl rfl (CO (B8.mp hs))⟩
theorem J2{K:List Dat}:∀(d:List Row)(c:List Dat)(z:g_),c.length+d.length<=10000->∃j,i8 (gH c_ [4]) (dX C [.mut .app 3 [rX]]) (d.map (dD qX)) (Qd t x K c z)=a_ (.nx (Qd t x K (c++d.map nY) j))
 |[],c,z,_=>⟨z,by show a_ (Out.nx (Qd t x K c z))=a_ (Out.nx (Qd t x K (c++[]) z));rw[az]⟩
 |g::d,c,z,h=>by
   rw[ba]at h;obtain⟨j,k⟩:=J2 d (c++[nY g]) (a_ (dD qX g,d_)) (by rw[ag,BV];omega);refine⟨j,?_⟩;rw[aC]at k;show((dX C [.mut .app 3 [rX]] (Qd t x K c (a_ (dD qX g,d_)))).bind (wt _))=_;rw[oz (YN VR rfl rfl (by omega))];exact k
def Wu{K:List Dat}(h:i8 (gH c_ [4]) (dX C [.mut .app 3 [rX]]) K (Qd t x K [] b_)=a_ (.nx ρ')):nE C (.loop c_ [4] (.itv (.v 2)) [.mut .app 3 [rX]]) [a_ (tb t,d_),a_ (.str (T x),d_),a_ (.lst K,c_),a_ (.lst [],c_),b_]=a_ (.nx ρ'):=by
 exact h
def Uu(c:List Row)(d:c.length<=5000)(g:C 10 [tb t,.str (T x)]=a_ (.non,d_))(j:bu C (.call 14 [(.call 9 [(.v 0)]),(.v 1)]) [a_ (tb t),a_ (.str (T x)),b_,b_,b_]=a_ (.lst (c.map (dD qX)),c_)) :
  dX C b15 [a_ (tb t,d_),a_ (.str (T x),d_),b_,b_,b_]=a_ (.rt (.lst (c.map nY)) c_):=by
 have s1:nE C (.exp (.call 10 [(.v 0),(.v 1)])) [a_ (tb t,d_),a_ (.str (T x),d_),b_,b_,b_]=a_ (.nx [a_ (tb t,d_),a_ (.str (T x),d_),b_,b_,b_]):=by
  show j5 _ (C 10 [tb t,.str (T x)])=_;rw[g];rfl
 have s2:=D0 (i:=2) (ρ:=[a_ (tb t,d_),a_ (.str (T x),d_),b_,b_,b_]) j;have s3:nE C (.set 3 (.lst [])) [a_ (tb t,d_),a_ (.str (T x),d_),a_ (.lst (c.map (dD qX)),c_),b_,b_]=a_ (.nx [a_ (tb t,d_),a_ (.str (T x),d_),a_ (.lst (c.map (dD qX)),c_),a_ (.lst [],c_),b_]):=D0 rfl;obtain⟨k,hl⟩:=J2 c [] b_ (by simp;exact ab d (by decide));have h1:=Wu hl;have l:dX C [.nc 3] (Qd t x (c.map (dD qX)) ([]++c.map nY) k)=a_ (.rt (.lst (c.map nY)) c_):=rfl;show dX C [.exp (.call 10 [(.v 0),(.v 1)]),.set 2 (.call 14 [(.call 9 [(.v 0)]),(.v 1)]),.set 3 (.lst []),.loop c_ [4] (.itv (.v 2)) [.mut .app 3 [rX]],.nc 3] _=_;rw[ik s1,ik s2];show dX C (.set 3 (.lst [])::_) [a_ (tb t,d_),a_ (.str (T x),d_),a_ (.lst (c.map (dD qX)),c_),b_,b_]=_;rw[ik s3,ik h1];exact l
def call_in(g:C 9 [d]=a_ (k,c_))(c:C 14 [k,y]=a_ r):bu C (.call 14 [(.call 9 [(.v 0)]),(.v 1)]) [a_ d,a_ y,b_,b_,b_]=a_ r:=by
 have a:bu C (.call 9 [(.v 0)]) [a_ d,a_ y,b_,b_,b_]=a_ (k,c_):=g;rw[qD,di,a];exact c
def Cp(g:gE E)(c:x.length<=1000)(d:Cn D (n+4) 10 [tb t,.str (T x)]=a_ (.non,d_))(hb:Cn D (n+4) 9 [tb t]=a_ (oE E,c_)):Cn D (n+5) 15 [tb t,.str (T x)]=a_ (m9 E x,c_):=by
 have j:=Gy (n:=n+1) g c;have e1:(aK (x.length+1)).map (λq=>dD qX (lJ E x q))=((aK (x.length+1)).map (lJ E x)).map (dD qX):=by rw[bS];rfl
 have e2:m9 E x=.lst (((aK (x.length+1)).map (lJ E x)).map nY):=by rw[bS];rfl
 refine fA rfl ?_;rw[e2];refine Uu _ (by simp;exact ab c (by decide)) d (call_in hb ?_);rw[<-e1];exact j
end K30E
namespace K30E
open PySem L2 M K30
def cq(b:Nat)(cs:List Int):Prop:=0<cs.length/\cs.length<=b/\∀c∈cs,1<=c/\c<=63
def Cw(C:Fs)(N:Dat):Prop:=∀k c:Int,0<=k/\k<=100->0<c/\c<=63->∃cs b,C 19 [N,.int k,.int c]=a_ (tI cs,b)/\cq 4 cs
def Be(hd:Dw C N)(hi:bu C it ρ=a_ (.int (m:Nat),f))(y:m<=10)(z:0<=k/\k<=1000)(hp:0<p)(hf:0<few/\few<=63)
  (h1:∀d,bu C e1 ((jB 1 caps ρ).set 0 (a_ d))=a_ (N,d_))(h2:∀d,bu C e2 ((jB 1 caps ρ).set 0 (a_ d))=a_ (.int k,d_))(h3:∀d,bu C e3 ((jB 1 caps ρ).set 0 (a_ d))=a_ (.int few,d_)) :
  ∃cs:List Int,bu C (.comp 1 c_ caps (.rng [it]) [] (.bin .add (.e_ 1) (.call 17 [e1,e2,.bin .add (.con (.int p)) (.bin .mul (.e_ 22) (.v 0)),e3]))) ρ=a_ (.lst (cs.map Dat.int),c_)/\cs.length=m/\∀c∈cs,1<=c/\c<=63:=by
 obtain⟨cs,a,l,h,_⟩:=oU (elt:=.bin .add (.e_ 1) (.call 17 [e1,e2,.bin .add (.con (.int p)) (.bin .mul (.e_ 22) (.v 0)),e3])) (λc:Nat=>.int (c)) (λ_ c:Nat=>(1:Int)<=c/\(c:Int)<=63) (xj hi (ab y (by decide))) (by rw[aW];omega) (λ_=>rfl) λj D=>
  Dk (gr hd (h1 _) (h2 _) (lp rfl (Dd rfl (j:=(j)) (g:=d_) (by rw[mf];simp[jB]) (by decide))) (h3 _) z (by omega) hf.1 λ_ h=>h) λq h=>by omega
 rw[aW]at l;refine⟨cs.map λc:Nat=>(c),by rw[bS];exact a,by rw[aw,l],λc B=>?_⟩;obtain⟨d,hd,rfl⟩:=bQ.mp B;obtain⟨_,_,q⟩:=h d hd;exact q
def cw{ns:List Int}:Cw (Cn D (n+3)) (.lst (ns.map Dat.int)):=λk d g hf=>by
 have hd:Dw (Cn D (n+2)) (.lst (ns.map Dat.int)):=dw
 suffices h:Go (Cn D (n+2)) b19 [a_ (.lst (ns.map Dat.int),d_),a_ (.int k,d_),a_ (.int d,d_),b_] λo=>∃cs b,o=.rt (tI cs) b/\cq 4 cs by
  obtain⟨_,h1,cs,b,rfl,h2⟩:=h;exact⟨cs,b,fA rfl h1,h2⟩
 generalize Dat.lst (ns.map Dat.int)=N at hd ⊢;have c:0<=k/\k<=1000:=⟨g.1,(fu g.2 (by decide))⟩
 refine u6 (P:=λv=>1<=v/\v<=4) (sV hd rfl rfl rfl rfl c (by decide) (by decide) (by decide)) (λv=>sU (gr hd rfl rfl rfl rfl c (by decide) (by decide) λ_ _=>trivial) 0) (λv=>sV hd rfl rfl rfl rfl c (by decide) (by decide) (by decide)) λm j=>?_;obtain⟨h1,h2⟩:=j
 ·obtain⟨cs,e,l,h3⟩:=Be (ρ:=full [a_ (N,d_),a_ (.int k,d_),a_ (.int d,d_),a_ (.int (m),d_)]) (p:=10039) (caps:=[2,1,0]) (it:=.v 3) (e1:=.v 3) (e2:=.v 2) (e3:=.v 1) hd rfl (ab h2 (by decide)) c (by decide) hf (λ_=>rfl) (λ_=>rfl) (λ_=>rfl);exact kE (nF e rfl) ⟨cs,_,rfl,ab h1 (af l.symm),ab (af l) h2,h3⟩
section
def TX{z:Int}{f:Bool}(h:bu C e ρ=a_ (.int z,f)):∃c b,bu C (.ix (.f_ "abcdefghijklmnopqrstuvwxyz") (.bin .mod e (.e_ 26))) ρ=a_ (sT [c],b)/\c∈qq:=by
 have h1:0<=z % 26:=Pk _ (by decide);obtain⟨q,g⟩:=jD h1;have hl:q<qq.length:=by show q<26;omega
 refine⟨qq[q],d_,?_,bA hl⟩;rw[xm,mj,h];show((iH .mod (.int z) (.int 26)).bind λy=>(vT (.str (T qq)) y.1).map λd=>(d,d_))=_;rw[nG (by decide),g];show((vT (.str (T qq)) (.int (q))).map _)=_;rw[Tw (by decide) hl];rfl
def Qc{elt:Ex}{caps:List Nat}{P:Nat->Prop}{r:Nat->Prop}(h:Ei C e ρ r)(v:∀m,r m->m<=1000)(hs:∀m,r m->∀i,i<m->∃c b,bu C elt ((jB 1 caps ρ).set 0 (a_ (.int ((i:Nat):Int))))=a_ (sT [c],b)/\P c):Ev C (.gp .join (.f_ "") [.comp 1 c_ caps (.rng [e]) [] elt]) ρ λd=>∃W:List Nat,d=sT W/\r W.length/\∀c∈W,P c:=by
 obtain⟨m,f,q,j⟩:=h;have g:=v m j;obtain⟨W,e,l,n,_⟩:=oU (λc=>sT [c]) (λ_ c=>P c) (xj q g) (by simp_all) (λ_=>rfl) λi hi=>hs m j i (a9.mp hi);rw[aW]at l;have k:=yk (by rw[VA];exact ab (af l) (ab g (by decide)));rw[Qb,bS]at k;exact⟨sT W,d_,by rw[yD,di,e];exact k,rfl,W,rfl,by rw[l];exact j,λc y=>by obtain⟨_,_,q⟩:=n c y;exact q⟩
end
def lq(ls:List Nat):Prop:=0<ls.length/\ls.length<=6/\∀c∈ls,c∈qq
abbrev LS(ls:List Nat):Dat:=.lst (ls.map λc=>sT [c])
def Lw(C:Fs)(N:Dat):Prop:=∃ls,C 20 [N]=a_ (LS ls,c_)/\lq ls
def lw{ns:List Int}:Lw (Cn D (n+3)) (.lst (ns.map Dat.int)):=by
 have hd:Dw (Cn D (n+2)) (.lst (ns.map Dat.int)):=dw
 suffices h:Go (Cn D (n+2)) b20 [a_ (.lst (ns.map Dat.int),d_),b_,b_,b_] λo=>∃ls,o=.rt (LS ls) c_/\lq ls by
  obtain⟨_,h1,ls,rfl,h2⟩:=h;exact⟨ls,fA rfl h1,h2⟩
 generalize Dat.lst (ns.map Dat.int)=N at hd ⊢;refine u6 (P:=λv=>1<=v/\v<=6) (sV hd rfl rfl rfl rfl (by decide) (by decide) (by decide) (by decide)) (λv=>sU (gr hd rfl rfl rfl rfl (by decide) (by decide) (by decide) λ_ _=>trivial) 0) (λv=>sV hd rfl rfl rfl rfl (by decide) (by decide) (by decide) (by decide)) λm d=>?_;obtain⟨h1,h2⟩:=d;refine nD (pO (gr hd rfl rfl rfl rfl (by decide) (by decide) (by decide) λq h=>trivial)) ?_;rintro _ ⟨g,rfl,-⟩;refine nD (pO (Fe (is:=[1,3,5,7,9,11,15]) rfl (gr hd rfl rfl rfl rfl (by decide) (by decide) (by decide) λq h=>by show q<7;omega) λ_ _=>trivial)) ?_;rintro _ ⟨st,rfl,-⟩;obtain⟨ls,e,l,hl,_⟩:=oU (ρ:=full [a_ (N,d_),a_ (.int (m),d_),a_ (.int (g),d_),a_ (.int (st),d_)]) (caps:=[2,3]) (it:=.rng [.v 1]) (elt:=.ix (.f_ "abcdefghijklmnopqrstuvwxyz") (.bin .mod (.bin .add (.v 1) (.bin .mul (.v 0) (.v 2))) (.e_ 26))) (λc=>sT [c]) (λ_ c=>c∈qq) (xj rfl (ab h2 (by decide))) (by rw[aW];omega) (λ_=>rfl) λi hi=>TX (lp rfl (Dd rfl rfl (by have:=a9.mp hi;omega)));rw[aW]at l;exact kE e ⟨ls,rfl,ab h1 (af l.symm),ab (af l) h2,λc j=>by obtain⟨_,_,q⟩:=hl c j;exact q⟩
def lo(ls:List Nat)(f:Fm):Prop:=E5 f/\(∀c∈f.1,c∈ls)/\∀c∈f.2.1,1<=c/\c<=63
def Fw(C:Fs)(N:Dat):Prop:=∀(k c:Int)(ls:List Nat),0<=k/\k<=10->0<c/\c<=63->lq ls->∃f b,C 21 [N,.int k,LS ls,.int c]=a_ (iq f,b)/\lo ls f
def ZP:Ex:=.gp .join (.f_ "") [.comp 1 c_ [6] (.rng [.e_ 4]) [.cmp .eq (.bin .band (.bin .shr (.v 1) (.v 0)) (.e_ 1)) (.e_ 1)] (.ix (.f_ "wbme") (.v 0))]
def plB(C:Fs):((aK 16).all λk=>pk (bu C ZP [b_,b_,b_,b_,b_,b_,a_ (.int (k:Nat))]) (a_ (.str (T (UW k)),d_)))=c_:=by kernel_rfl
def WV{C:Fs}{a b c d e f g:Option Dat}{k:Nat}(h:k<16):bu C ZP [a,b,c,d,e,f,a_ (.int (k:Nat)),g]=a_ (sT (UW k),d_):=mL (br.mp (plB C) k (a9.mpr h))
def fw{ns:List Int}:Fw (Cn D (n+4)) (.lst (ns.map Dat.int)):=λk d ls Y hf hl=>by
 have hd:Dw (Cn D (n+3)) (.lst (ns.map Dat.int)):=dw;have g:Cw (Cn D (n+3)) (.lst (ns.map Dat.int)):=cw
 suffices h:Go (Cn D (n+3)) b21 [a_ (.lst (ns.map Dat.int),d_),a_ (.int k,d_),a_ (LS ls,d_),a_ (.int d,d_),b_,b_,b_,b_] λo=>∃f b,o=.rt (iq f) b/\lo ls f by
  obtain⟨_,h1,f,b,rfl,h2⟩:=h;exact⟨f,b,fA rfl h1,h2⟩
 generalize Dat.lst (ns.map Dat.int)=N at hd g ⊢;generalize Cn D (n+3)=C at hd g ⊢;obtain⟨O,Z,low⟩:=hl;refine u6 (P:=λv=>1<=v/\v<=6) (sV hd rfl (lp rfl rfl) rfl rfl (by omega) (by decide) (by decide) (by decide)) (λv=>sU (gr hd rfl (lp rfl rfl) rfl rfl (by omega) (by decide) (by decide) λ_ _=>trivial) 0) (λv=>sV hd rfl (lp rfl rfl) rfl rfl (by omega) (by decide) (by decide) (by decide)) λm M=>?_;have y:fQ .len [LS ls]=a_ (.int (ls.length),d_):=by rw[lu,aw]
 refine nD (Qc (r:=λm=>1<=m/\m<=6) ⟨m,_,rfl,M⟩ (λm h=>(ab h.2 (by decide))) λm M i hi=>KN rfl (gr hd rfl (lp rfl rfl) (lp rfl (Dd rfl rfl (by decide))) (by exact y) (by omega) (by omega) (vM.mpr O) λq h=>by omega) λc g=>g) ?_;rintro _ ⟨W,rfl,z,j⟩;refine nD (pO (P:=λm=>1<=m/\m<16) (Dk (gr hd rfl (lp rfl rfl) rfl rfl (by omega) (by decide) (by decide) λq h=>by omega) λq h=>by omega)) ?_;rintro _ ⟨B,rfl,J,l⟩;refine fx (iU (WV l) rfl) ?_;obtain⟨cs,b,R,c1,c2,U⟩:=g (20+k) d (by omega) hf
 have L:∀ρ':iJ,ρ'[0]?=a_ (a_ N)->ρ'[1]?=a_ (a_ (.int k))->ρ'[3]?=a_ (a_ (.int d))->bu C (.call 19 [.v 0,.bin .add (.e_ 20) (.v 1),.v 3]) ρ'=a_ (tI cs,b):=λρ' h0 h1 h3=>by
  rw[qD,di,mf,h0,di,mj,mf,h1,di,mf,h3];exact R
 refine kE (f:=c_) ?_ ⟨(W,cs,UW B),_,rfl,⟨λe=>?_,λc g=>low c (j c g),z.2,c1,c2,B,J,l,rfl⟩,j,U⟩
 ·rw[Dc,fP,fP,L _ rfl rfl rfl,fP];show a_ (iq (W,cs,UW B),((b || im (tI cs)) && c_))=_;rw[o6,sA];rfl
 ·have e:W=[]:=e;rw[e]at z;exact absurd z.1 (by decide)
section
def SN{fs:List Fm}(c:bu C x (full ρ)=a_ (.lst (fs.map iq),g))(hl:fs.length<=1000)(d:bu C y (full ρ)=a_ (iq f,g')):∃t f',bu C (.cmp .nin (.sl y b_ (a_ (.e_ 2))) (.comp 1 c_ [] (.itv x) [] (.sl (.v 0) b_ (a_ (.e_ 2))))) (full ρ)=a_ (.bl t,f'):=by
 obtain⟨j,e,_,_⟩:=oU (elt:=.sl (.v 0) b_ (a_ (.e_ 2))) (λf:Fm=>.tup [sT f.1,tI f.2.1]) (λ_ _=>True) (by rw[OA,c];rfl) hl (λf=>by
  show(c_ && (jF (f.2.1.map Dat.int) && c_))=c_
  rw[qx];rfl) λf _=>⟨f,d_,rfl,trivial⟩
 have hs:∀fs:List Fm,eA 20 (fs.map λf=>Dat.tup [sT f.1,tI f.2.1])=c_:=λfs=>by
  induction fs with
  |nil=>rfl
  |cons g r k=>show(iC 20 _ && eA 20 _)=c_;rw[zJ,k];rfl
 obtain⟨t,l⟩:∃t,gJ .nin (.tup [sT f.1,tI f.2.1]) (.lst (j.map λf=>.tup [sT f.1,tI f.2.1]))=a_ t:=⟨_,if_pos (by rw[zJ,hs];rfl)⟩
 refine⟨t,d_,?_⟩;rw[De,e,KL,d];show((gJ .nin (.tup [sT f.1,tI f.2.1]) _).map λr=>(Dat.bl r,d_))=_;rw[l];rfl
def yy(h:Ev C x (full ρ) P)(j:bu C y (full ρ)=a_ (.int k,g))(hi:(ρ[i]?).join=a_ (.lst ds,c_))(K:∀d,P d->∃c,kj .seti (.lst ds) [d,.int k]=a_ (.lst c)/\Go C ss (ρ.set i (a_ (.lst c,c_))) Q):Go C (.mut .seti i [x,y]::ss) ρ Q:=by
 obtain⟨d,f,h1,h2,h3⟩:=h;obtain⟨c,l,q⟩:=K d h3;exact fx (yi hi (by rw[fP,h1,fP,j];show a_ ([d,.int k],(f || im d) && ((g || c_) && c_))=_;simp_all) l) q
end
structure fq(ls:List Nat)(fs:List Fm):Prop where
 o:∀f∈fs,lo ls f
 w:∀c∈ls,∃cs,([c],cs,Qt)∈fs
def iB:List Sx:=[(.set 5 (.call 21 [(.v 0),(.v 3),(.v 2),(.v 1)])),(.ifs (.cmp .nin (.sl (.v 5) b_ (a_ (.e_ 2))) (.comp 1 c_ [] (.itv (.v 4)) [] (.sl (.v 0) b_ (a_ (.e_ 2))))) [(.set 6 (.call 17 [(.v 0),(.bin .add (.e_ 10) (.v 3)),(.e_ 25031),(.bin .add (.blt .len [(.v 4)]) (.e_ 1))])),(.set 4 (.bin .add (.bin .add (.sl (.v 4) b_ (a_ (.v 6))) (.lst [(.v 5)])) (.sl (.v 4) (a_ (.v 6)) b_)))] [])]
abbrev Xz(N:Dat)(c:Int)(ls:List Nat)(fs:List Fm)(d g j:g_):dv:=[a_ (N,d_),a_ (.int c,d_),a_ (LS ls,c_),d,a_ (.lst (fs.map iq),c_),g,j]
def ZH(N:Dat)(c:Int)(ls:List Nat)(us:List Nat)(ρ:dv):Prop:=∃(fs:List Fm) (d g j:g_),ρ=Xz N c ls fs d g j/\fs.length<=ls.length+us.length/\fq ls fs
def VE{fs:List Fm}(h:q<=fs.length):Cf (.lst (fs.map iq)) b_ (a_ (q:Int))=a_ (.lst ((fs.take q).map iq),c_):=by
 show a_ (Dat.lst (cutD (fs.map iq) b_ (a_ (q))),jF (cutD (fs.map iq) b_ (a_ (q))))=_;rw[Fq (jU _) (by simp_all),show((q:Int)).toNat=q by rfl,<-zf,l9]
def VF{fs:List Fm}(h:q<=fs.length):Cf (.lst (fs.map iq)) (a_ (q:Int)) b_=a_ (.lst ((fs.drop q).map iq),c_):=by
 show a_ (Dat.lst (cutD (fs.map iq) (a_ (q)) b_),jF (cutD (fs.map iq) (a_ (q)) b_))=_;rw[Fo (by omega) (by rw[aw];omega),show((q:Int)).toNat=q by omega,<-List.map_drop,l9]
def Ly{A B:List Fm}(h:A.length+B.length<=1000):iH .add (.lst (A.map iq)) (.lst (B.map iq))=a_ (.lst ((A++B).map iq),c_):=by
 rw[pU (by rw[aw,aw];exact ab h (by decide)),<-fT,l9]
def QL(hd:Dw C N)(J:Fw C N)(hf:0<few/\few<=63)(hl:lq ls){us:List Nat}(Y:us.length<=5)(L:x<=5)(h:ZH N few ls us ρ):∃ρ1,gH c_ [3] (.int (x:Nat)) ρ=a_ ρ1/\Go C iB ρ1 λo=>∃j,o=.nx j/\ZH N few ls (us++[x]) j:=by
 obtain⟨fs,Z,z5,z6,rfl,h1,h2⟩:=h;refine⟨_,rfl,?_⟩;obtain⟨f,b,M,O⟩:=J (x) few ls (⟨(jU _),(fu (eP.mpr L) (by decide))⟩) hf hl;have l6:=hl.2.1;refine fx (iU M (EU f)) ?_;refine AJ (SN rfl (by omega) rfl) ?_ ⟨fs,_,_,_,rfl,by rw[ag];exact cT h1,h2⟩ λρ' h=>bK ⟨_,rfl,h⟩;have k:fQ .len [.lst (fs.map iq)]=a_ (.int (fs.length),d_):=by simp
 refine nD (pO (P:=(·<=fs.length)) (gr hd rfl (lp rfl rfl) rfl (lp (by exact k) rfl) (by omega) (by decide) (by simp) λq h=>by omega)) ?_;rintro _ ⟨q,rfl,D⟩;have l:(fs.take q).length=q:=by simp_all
 have y:(fs.drop q).length=fs.length - q:=dP;have R:=Ly (A:=fs.take q) (B:=[f]) (by simp;omega);have U:=Ly (A:=fs.take q++[f]) (B:=fs.drop q) (by simp;omega);refine eZ ?_ (bK ⟨_,rfl,fs.take q++[f]++fs.drop q,_,_,_,rfl,?_,?_,?_⟩)
 ·have e1:bu C (.sl (.v 4) b_ (a_ (.v 6))) (full (Xz N few ls fs (a_ (.int (x),d_)) (a_ (iq f,d_)) (a_ (.int (q),d_))))=a_ (.lst ((fs.take q).map iq),c_):=VE D;have e2:bu C (.sl (.v 4) (a_ (.v 6)) b_) (full (Xz N few ls fs (a_ (.int (x),d_)) (a_ (iq f,d_)) (a_ (.int (q),d_))))=a_ (.lst ((fs.drop q).map iq),c_):=VF D;have e3:bu C (.lst [.v 5]) (full (Xz N few ls fs (a_ (.int (x),d_)) (a_ (iq f,d_)) (a_ (.int (q),d_))))=a_ (.lst ([f].map iq),im (iq f) && c_):=rfl;show bu C _ (full (Xz N few ls fs (a_ (.int (x),d_)) (a_ (iq f,d_)) (a_ (.int (q),d_))))=_;rw[mj,mj,e1,e2,e3,bw,bw];rw[R];exact U
 ·rw[ag,ag,l,y,ag];grind
 ·intro g d
  rcases aE.mp d with d|d
  ·rcases aE.mp d with d|d
   ·exact h2.o g (cz d)
   simp_all
  ·exact h2.o g (dO d)
 ·intro c W;obtain⟨cs,z⟩:=h2.w c W;refine⟨cs,?_⟩;rw[<-aZ q fs]at z
  grind
def Ow(C:Fs)(N:Dat):Prop:=∀c:Int,0<c/\c<=63->∃(ls:List Nat) (fs:List Fm) (b:Bool),C 22 [N,.int c]=a_ (.tup (fs.map iq),b)/\fs.length<=11/\lq ls/\fq ls fs
def ox(h:aK m=us++x::vs):us.length<m/\x<m:=by
 have h1:=congrArg fj h;rw[aW,ag]at h1;have h2:x∈aK m:=by rw[h];simp
 exact⟨aB (bb _ _) (af h1.symm),a9.mp h2⟩
def Sh:Qt=UW 15:=by decide
def ow{ns:List Int}:Ow (Cn D (n+5)) (.lst (ns.map Dat.int)):=λd hf=>by
 have hd:Dw (Cn D (n+4)) (.lst (ns.map Dat.int)):=dw;have g:Cw (Cn D (n+4)) (.lst (ns.map Dat.int)):=cw;have j:Fw (Cn D (n+4)) (.lst (ns.map Dat.int)):=fw;obtain⟨ls,el,hl⟩:Lw (Cn D (n+4)) (.lst (ns.map Dat.int)):=lw
 suffices h:Go (Cn D (n+4)) b22 [a_ (.lst (ns.map Dat.int),d_),a_ (.int d,d_),b_,b_,b_,b_,b_] λo=>∃(fs:List Fm) (b:Bool),o=.rt (.tup (fs.map iq)) b/\fs.length<=11/\fq ls fs by
  obtain⟨_,h1,fs,b,rfl,h2,h3⟩:=h;exact⟨ls,fs,b,fA rfl h1,h2,hl,h3⟩
 generalize Dat.lst (ns.map Dat.int)=N at hd g j el ⊢;generalize Cn D (n+4)=C at hd g j el ⊢;have L:=hl.2.1;have y:fQ .len [LS ls]=a_ (.int (ls.length),d_):=by rw[lu,aw]
 refine eZ el ?_
 obtain⟨fs,e,l,h1,h2⟩:=oU (ρ:=full [a_ (N,d_),a_ (.int d,d_),a_ (LS ls,c_),b_,b_,b_,b_]) (caps:=[1,2,0]) (it:=.rng [.blt .len [.v 2]]) (elt:=.tup [.ix (.v 2) (.v 0),.call 19 [.v 3,.bin .add (.e_ 4) (.v 0),.v 1],.f_ "wbme"]) iq (λ(k)(f)=>lo ls f/\∀h:k<ls.length,f.1=[ls[k]]/\f.2.2=Qt) (xj (by exact y) (ab L (by decide))) (by rw[aW];omega) (λf=>EU f) λi hi=>by
  have hi:=a9.mp hi;obtain⟨cs,b,M,c1,c2,O⟩:=g (4+(i)) d (by omega) hf
  have z:vT (LS ls) (.int (i))=a_ (sT [ls[i]]):=by
   show qK _ (i)=_;rw[j6 (by rw[aM,ae hi];rfl)]
  refine⟨([ls[i]],cs,Qt),c_,?_,⟨⟨by simp,λc h=>?_,by simp,c1,c2,15,by decide,by decide,Sh⟩,λc h=>?_,O⟩,λ_=>⟨rfl,rfl⟩⟩
  ·show bh (bh (j5 _ (vT (LS ls) (.int (i)))) _) _=_;rw[z];show bh (j5 _ (bh (C 19 [N,.int (4+(i)),.int d]) _)) _=_;rw[M];show a_ (iq ([ls[i]],cs,Qt),((b || im (tI cs)) && c_))=_;rw[o6,sA];rfl
  ·rw[aL.mp h];exact hl.2.2 _ (bA hi)
  ·rw[aL.mp h];exact bA hi
 rw[aW]at l;refine eZ e ?_;refine yw (I:=ZH N d ls) (gr hd rfl rfl rfl rfl (by decide) (by decide) (by decide) λq h=>by omega) (λm h=>by omega) ⟨fs,_,_,_,rfl,by exact af l,⟨λf hf=>?_,λc g=>?_⟩⟩ (λm R us x vs ρ J B=>QL hd j hf hl (by have:=ox J;omega) (by have:=ox J;omega) B) λm R ρ B=>?_
 ·obtain⟨_,_,q,_⟩:=h1 f hf;exact q
 ·obtain⟨i,hi,rfl⟩:=kT g;obtain⟨f,hf,_,q⟩:=h2 i (a9.mpr hi);obtain⟨U,W⟩:=q hi;exact⟨f.2.1,by rw[<-U,<-W];exact hf⟩
 ·obtain⟨fs,Z,z5,z6,rfl,z,Y⟩:=B;rw[aW]at z;exact kE (by rfl) ⟨fs,_,rfl,by omega,Y⟩
def Mw(C:Fs)(N:Dat):Prop:=∀k c:Int,0<=k/\k<=100->0<c/\c<=63->∃cs b,C 23 [N,.int k,.int c]=a_ (tI cs,b)/\cq 2 cs
def mw{ns:List Int}:Mw (Cn D (n+4)) (.lst (ns.map Dat.int)):=λk g j hf=>by
 obtain⟨cs,b,e,c1,c2,l⟩:=cw k g j hf;refine⟨cs.take 2,d_,fA rfl ?_,by rw[eK];omega,by rw[eK];exact jl _ _,λc h=>l c (cz h)⟩;generalize Dat.lst (ns.map Dat.int)=N at e ⊢;generalize Cn D (n+3)=C at e ⊢;refine x5 ?_;show bh (C 19 [N,.int k,.int g]) _=_;rw[e];show a_ (Dat.tup (cutD (cs.map Dat.int) b_ (a_ 2)),d_)=_
 have:cutD (cs.map Dat.int) b_ (a_ 2)=(cs.take 2).map Dat.int:=by
  by_cases h:2<=cs.length
  ·rw[Fq (by simp) (by rw[aw];exact eP.mpr h)];exact zf.symm
  ·match cs,c1 with
   |[c],_=>rfl
   |c::d::r,_=>simp at h
 rw[this]
def mq(b:Nat)(m:List Int):Prop:=m.length<=b/\∀c∈m,1<=c/\c<=63
def rS(b:Nat):mq b []:=⟨aP _,λ_ h=>nomatch h⟩
def cq.m{b:Nat}{m:List Int}(h:cq b m):mq b m/\m≠[]:=⟨⟨h.2.1,h.2.2⟩,λe=>by rw[e]at h;exact absurd h.1 (by decide)⟩
structure wT(t:Tb):Prop where
 ok:CC t
 own:∀f∈t.fs,∀c∈f.1,∃cs,([c],cs,Qt)∈t.fs
 cf:∀f∈t.fs,∀c∈f.2.1,1<=c/\c<=63
 cm:∀m∈[t.m0,t.m1,t.m2,t.m3,t.fg],∀c∈m,1<=c/\c<=63
 m1:t.m1≠[]->t.m0≠[]
 m3:t.fg≠[]->t.m3≠[]
def tZ(c:Mw C N)(h0:ρ[0]?=a_ (a_ (N,d_)))(h1:ρ[1]?=a_ (a_ (.int few,d_)))(g:0<=k/\k<=100)(hf:0<few/\few<=63):Ev C (.call 23 [.v 0,.con (.int k),.v 1]) (full ρ) λd=>∃cs,d=tI cs/\cq 2 cs:=by
 obtain⟨cs,b,e,h⟩:=c k few g hf;refine⟨tI cs,b,?_,o6 cs,cs,rfl,h⟩;have j:bu C (.v 0) (full ρ)=a_ (N,d_):=by rw[mf,full,aM,h0];rfl
 have l:bu C (.v 1) (full ρ)=a_ (.int few,d_):=by rw[mf,full,aM,h1];rfl
 rw[qD,di,j,di,di,l];exact e
abbrev XI(m0 m1 m2 m3:List Int):Dat:=.lst [tI m0,tI m1,tI m2,tI m3]
def Gu{ns:List Int}:∃t b,Cn D (n+6) 24 [.lst (ns.map Dat.int)]=a_ (tb t,b)/\wT t:=by
 have hd:Dw (Cn D (n+5)) (.lst (ns.map Dat.int)):=dw;have k:Mw (Cn D (n+5)) (.lst (ns.map Dat.int)):=mw;have ho:Ow (Cn D (n+5)) (.lst (ns.map Dat.int)):=ow
 suffices h:Go (Cn D (n+5)) b24 [a_ (.lst (ns.map Dat.int),d_),b_,b_,b_,b_] λo=>∃t b,o=.rt (tb t) b/\wT t by
  obtain⟨_,h1,t,b,rfl,h2⟩:=h;exact⟨t,b,fA rfl h1,h2⟩
 generalize Dat.lst (ns.map Dat.int)=N at hd k ho ⊢;generalize Cn D (n+5)=C at hd k ho ⊢;refine nD (pO (P:=λq=>0<q/\q<=63) (Fe (is:=[3,6,63]) rfl (gr hd rfl rfl rfl rfl (by decide) (by decide) (by decide) λq h=>by show q<3;omega) (by decide))) ?_;rintro _ ⟨g,rfl,hf⟩;have hf:(0:Int)<(g)/\(g:Int)<=63:=⟨(vM.mpr hf.1),(eP.mpr hf.2)⟩
 refine eZ rfl ?_;refine AJ (J:=λρ=>∃m0 m1,ρ=[a_ (N,d_),a_ (.int (g),d_),a_ (XI m0 m1 [] [],c_),b_,b_]/\mq 2 m0/\mq 2 m1/\(m1≠[]->m0≠[])) (sU (gr hd rfl rfl rfl rfl (by decide) (by decide) (by decide) λq h=>trivial) 0) ?_ ⟨[],[],rfl,rS 2,rS 2,λh=>absurd rfl h⟩ ?_
 ·refine yy (tZ k rfl rfl (by decide) hf) rfl rfl λd j=>?_;obtain⟨m0,rfl,h0⟩:=j;refine⟨[tI m0,tI [],tI [],tI []],rfl,AJ (J:=λρ=>∃m1,ρ=[a_ (N,d_),a_ (.int (g),d_),a_ (XI m0 m1 [] [],c_),b_,b_]/\mq 2 m1) (sU (gr hd rfl rfl rfl rfl (by decide) (by decide) (by decide) λq h=>trivial) 0) ?_ ⟨[],rfl,rS 2⟩ ?_⟩
  ·refine yy (tZ k rfl rfl (by decide) hf) rfl rfl λd j=>?_;obtain⟨m1,rfl,h1⟩:=j;exact⟨[tI m0,tI m1,tI [],tI []],rfl,bK ⟨_,rfl,m1,rfl,h1.m.1⟩⟩
  ·rintro _ ⟨m1,rfl,h1⟩;exact bK ⟨_,rfl,m0,m1,rfl,h0.m.1,h1,λ_=>h0.m.2⟩
 rintro _ ⟨m0,m1,rfl,h0,h1,M⟩;refine eZ rfl ?_;refine AJ (J:=λρ=>∃m2 m3 fg R,ρ=[a_ (N,d_),a_ (.int (g),d_),a_ (XI m0 m1 m2 m3,c_),a_ (.lst (fg.map Dat.int),c_),R]/\mq 2 m2/\mq 2 m3/\mq 10 fg/\(fg≠[]->m3≠[])) (sU (gr hd rfl rfl rfl rfl (by decide) (by decide) (by decide) λq h=>trivial) 0) ?_ ⟨[],[],[],b_,rfl,rS 2,rS 2,rS 10,λh=>absurd rfl h⟩ ?_
 ·refine u6 (P:=λv=>1<=v/\v<=10) (sV hd rfl rfl rfl rfl (by decide) (by decide) (by decide) (by decide)) (λv=>sU (gr hd rfl rfl rfl rfl (by decide) (by decide) (by decide) λ_ _=>trivial) 0) (λv=>sV hd rfl rfl rfl rfl (by decide) (by decide) (by decide) (by decide)) λm O=>?_;have B:=O.2;obtain⟨fg,e,l,h3⟩:=Be (ρ:=full [a_ (N,d_),a_ (.int (g),d_),a_ (XI m0 m1 [] [],c_),a_ (.lst [],c_),a_ (.int (m),d_)]) (p:=30091) (caps:=[1,0]) (it:=.v 4) (e1:=.v 2) (e2:=.e_ 27) (e3:=.v 1) hd rfl B (by decide) (by decide) hf (λ_=>rfl) (λ_=>rfl) (λ_=>rfl);refine eZ e ?_;refine yy (tZ k rfl rfl (by decide) hf) rfl rfl λd j=>?_;obtain⟨m2,rfl,h2⟩:=j;refine⟨[tI m0,tI m1,tI m2,tI []],rfl,yy (tZ k rfl rfl (by decide) hf) rfl rfl λd j=>?_⟩;obtain⟨m3,rfl,L⟩:=j;exact⟨[tI m0,tI m1,tI m2,tI m3],rfl,bK ⟨_,rfl,m2,m3,fg,_,rfl,h2.m.1,L.m.1,⟨ab (af l) B,h3⟩,λ_=>L.m.2⟩⟩
 rintro _ ⟨m2,m3,fg,R,rfl,h2,h3,U,W⟩;obtain⟨ls,fs,b,e,hl,Y,y⟩:=ho g hf;refine kE (d:=tb ⟨fs,m0,m1,m2,m3,fg⟩) (f:=c_) ?_ ⟨_,_,rfl,⟨λf hf=>(y.o f hf).1,by exact cT hl,h0.1,h1.1,h2.1,h3.1,U.1⟩,λf hf c z=>y.w c ((y.o f hf).2.1 c z),λf hf=>(y.o f hf).2.2,?_,M,W⟩
 ·show bh (bh (C 22 [N,.int (g)]) _) _=_;rw[e];have Z:im (Dat.tup (fs.map iq))=c_:=l9 fs
  have i2:im (Dat.tup [tI m0,tI m1,tI m2,tI m3])=c_:=by
   simp only[im,jF,eO,aj];exact⟨o6 _,o6 _,o6 _,o6 _⟩
  have i3:=o6 fg;show a_ (tb ⟨fs,m0,m1,m2,m3,fg⟩,(b || im (Dat.tup (fs.map iq))) && ((_ || im (Dat.tup [tI m0,tI m1,tI m2,tI m3])) && ((_ || im (tI fg)) && c_)))=_;rw[Z,i2,i3,sA];rfl
 ·intro m k c z;simp only[au,bf,or_false]at k
  rcases k with rfl|rfl|rfl|rfl|rfl
  ·exact h0.2 c z
  ·exact h1.2 c z
  ·exact h2.2 c z
  ·exact h3.2 c z
  ·exact U.2 c z
noncomputable def ltN(a b:Nat):Bool:=decide (a<b)
def YX:M.LO ltN:=⟨λx=>by simp[ltN],λx y z h h'=>by simp[ltN]at *;exact c5 h h',λx y h h'=>by simp[ltN]at *;exact bI h' h⟩
def ZU(a b:Nat):vA (T [a]) (T [b])=ltN a b:=by
 refine decide_eq_decide.mpr ⟨λh=>?_,λh=>?_⟩
 ·cases h with
  |rel h=>exact h
  |cons h=>cases h
 ·exact List.Lex.rel h
theorem AE{α β:Type}{lt:α->α->Bool}{c:β->β->Bool}{g:α->β}(h:∀a b,c (g a) (g b)=lt a b)(x:α):∀l:List α,uY c (g x) (l.map g)=(uY lt x l).map g
 |[]=>rfl
 |y::ys=>by
   simp only[aq,uY,h];split
   ·rfl
   ·split
    ·rw[AE h x ys];rfl
    ·rfl
theorem wq{α β:Type}{lt:α->α->Bool}{c:β->β->Bool}{g:α->β}(h:∀a b,c (g a) (g b)=lt a b):∀l:List α,gY c (l.map g)=(gY lt l).map g
 |[]=>rfl
 |x::l=>by simp only[aq,gY,wq h l,AE h]
theorem AD{α β:Type}{lt:α->α->Bool}{c:β->β->Bool}{g:α->β}(h:∀a b,c (g a) (g b)=lt a b)(x:α):∀l:List α,vU c (g x) (l.map g)=(vU lt x l).map g
 |[]=>rfl
 |y::ys=>by
   simp only[aq,vU,h];split
   ·rw[AD h x ys];rfl
   ·rfl
theorem wk{α β:Type}{lt:α->α->Bool}{c:β->β->Bool}{g:α->β}(h:∀a b,c (g a) (g b)=lt a b):∀l:List α,nR c (l.map g)=(nR lt l).map g
 |[]=>rfl
 |x::l=>by simp only[aq,nR,wk h l,AD h]
abbrev c1(l:List Nat):List Dat:=l.map λc=>sT [c]
def QQ{l:List Nat}(h:l.length<4000)(c:(gY ltN l).length<64):fQ .sset [.str (T l)]=a_ (.lst (c1 (gY ltN l)),c_):=by
 show DR (eB (T l))=_;rw[xX];unfold DR;rw[wq ZU,if_pos ⟨by simp_all,by simp_all⟩,bS];rfl
def Q6{l:List Nat}(h:l.length<64):fQ .sorted [.str (T l)]=a_ (.lst (c1 (nR ltN l)),c_):=by
 show DT (eB (T l))=_;rw[xX];unfold DT;rw[wk ZU,if_pos (by simp_all),bS];rfl
def Xi(l:List Nat):c1 l=(l.map λc=>[c]).map λl=>Dat.str (T l):=by rw[bS];rfl
def join_1{l:List Nat}(h:l.length<=1000):ic .join (.str (T [])) [.lst (c1 l)]=a_ (.str (T l),d_):=by
 have:=yk (by rw[VA];exact ab h (by decide));rw[Qb,<-Xi]at this;exact this
noncomputable def lets(fs:List Fm):List Nat:=(fs.map (·.1)).flatten
def U(fs:List Fm):List Nat:=gY ltN (lets fs)
def J4(ho:∀f∈fs,E5 f):(lets fs).length<=6 * fs.length:=by
 induction fs with
 |nil=>simp[lets]
 |cons f r c=>
   have a:=c λg m=>ho g (kD _ m);have b:=(ho f jE).ll;simp only[lets,aq,List.flatten_cons,ag,ba]at a ⊢;omega
def JU:c∈U fs↔∃f∈fs,c∈f.1:=by
 rw[U,jf YX];unfold lets;simp
def Qp(ho:∀f∈fs,E5 f):∀c∈U fs,c∈qq:=λc d=>by
 obtain⟨f,h3,h2⟩:=JU.mp d;exact(ho f h3).low c h2
def Qq(ho:∀f∈fs,E5 f):(U fs).length<=26:=CD (mN YX (jw YX _)) λc d=>Qp ho c d
def Gx{fs:List Fm}(h:fs.length<=100)(ho:∀f∈fs,E5 f):Cn D (n+1) 0 [.tup (fs.map iq)]=a_ (sT (U fs),d_):=by
 refine fA rfl ?_;have h1:=yJ (C:=Cn D n) (ρ:=[a_ (.tup (fs.map iq))]) (caps:=[]) (it:=.itv (.v 0)) (elt:=.ix (.v 0) (.e_ 0)) rfl (ab h (by decide)) (λ_ _=>rfl) λf _=>⟨d_,rfl⟩
 have hl:=J4 ho
 have h2:ic .join (.str (T [])) [.lst (fs.map λf=>sT f.1)]=a_ (.str (T (lets fs)),d_):=by
  rw[show(fs.map λf=>sT f.1)=(fs.map (·.1)).map λl=>.str (T l) by rw[bS];rfl];refine yk ?_
  have e:((fs.map (·.1)).map (·.length)).sum=(lets fs).length:=by
   unfold lets;rw[List.length_flatten]
  omega
 have c:=Qq ho;have h3:=QQ (by omega) (aB c (by decide));have d:=join_1 (ab c (by decide));exact x5 (N0 rfl (nF (N0 rfl h1 h2) h3) d)
def slB:((aK 11).all λk=>pk (Cf (.str (T qC)) b_ (a_ (k:Nat))) (a_ (.str (T (qC.take k)),d_)))=c_:=by kernel_rfl
def Yn(h:k<=10):Cf (.str (T qC)) b_ (a_ (k:Nat))=a_ (.str (T (qC.take k)),d_):=mL (br.mp slB k (a9.mpr (bD h)))
noncomputable def LW(t:Tb)(u:List Nat):List Nat:=if t.m0.isEmpty=c_ then []else u.map (·- 32)
def raw(t:Tb):List Nat:=[32]++qC.take t.fg.length++LW t (U t.fs)++U t.fs
def Oh(t:Tb)(u:List Nat):(LW t u).length<=u.length:=by
 unfold LW;split
 ·exact aP _
 simp
def WW(d:∀c∈u,c∈qq)(hl:u.length<=1000):bu C (.ite (.cmp .eq (.ix (.ix (.v 0) (.e_ 1)) (.e_ 0)) (.tup [])) (.f_ "") (.gp .upper (.v 1) [])) [a_ (tb t),a_ (sT u),a,b]=a_ (sT (LW t u),d_):=by
 have h:bu C (.cmp .eq (.ix (.ix (.v 0) (.e_ 1)) (.e_ 0)) (.tup [])) [a_ (tb t),a_ (sT u),a,b]=a_ (.bl t.m0.isEmpty,d_):=by
  show(gJ .eq (tI t.m0) (.tup [])).map _=_;rw[Dj];rfl
 rw[Fd h rfl];unfold LW;cases t.m0.isEmpty
 ·exact tN d hl
 ·rfl
def Gw(ht:CC t):∃s,Cn D (n+2) 1 [tb t]=a_ (sT s,d_)/\∀c,c∈s↔c∈raw t:=by
 refine⟨nR ltN (raw t),?_,λc=>(kX _).mem_iff⟩;have r:=Gx (n:=n) (by have:=ht.hl;exact ab this (by decide)) ht.ho;have y:=Qq ht.ho;have low:=Qp ht.ho;have L:=Oh t (U t.fs);have j:(qC.take t.fg.length).length<=10:=by rw[eK];exact kA _ _
 have e2:raw t=[32]++qC.take t.fg.length++LW t (U t.fs)++U t.fs:=rfl;have d:(raw t).length<64:=by rw[e2];simp only[ag,ba,jj];omega
 have z:=Lz (a:=[32]) (by exact ab (qb j _) (by decide));have B:=Lz (a:=[32]++qC.take t.fg.length) (b:=LW t (U t.fs)) (by simp only[ag,ba,jj];omega);have q:=Lz (a:=[32]++qC.take t.fg.length++LW t (U t.fs)) (b:=U t.fs) (by simp only[ag,ba,jj];omega);have hs:=Q6 d;have J:=join_1 (l:=nR ltN (raw t)) (by rw[(kX _).length_eq];exact be (ab d (by decide)));have k:=Yn ht.hf;rw[<-e2]at q;refine fA rfl ?_;generalize Cn D (n+1)=C at r ⊢;show dX C (.set 1 _::.set 2 _::.set 3 (.sl (.f_ "0123456789") b_ (a_ (.blt .len [.ix (.v 0) (.e_ 2)])))::.ret (.gp .join (.f_ "") [.blt .sorted [.bin .add (.bin .add (.bin .add (.f_ " ") (.v 3)) (.v 2)) (.v 1)]])::[]) [a_ (tb t,d_),b_,b_,b_]=_;have s1:nE C (.set 1 (.call 0 [.ix (.v 0) (.e_ 0)])) [a_ (tb t,d_),b_,b_,b_]=a_ (.nx [a_ (tb t,d_),a_ (sT (U t.fs),d_),b_,b_]):=iU r rfl;rw[ik s1];generalize M:U t.fs=u at *;have s2:=iU (C:=C) (i:=2) (ρ:=[a_ (tb t,d_),a_ (sT u,d_),b_,b_]) (WW low (ab y (by decide))) rfl;rw[ik s2];generalize LW t u=g at *
 have s3:nE C (.set 3 (.sl (.f_ "0123456789") b_ (a_ (.blt .len [.ix (.v 0) (.e_ 2)])))) [a_ (tb t,d_),a_ (sT u,d_),a_ (sT g,d_),b_]=a_ (.nx [a_ (tb t,d_),a_ (sT u,d_),a_ (sT g,d_),a_ (sT (qC.take t.fg.length),d_)]):=by
  refine iU (fl:=d_) ?_ rfl;exact MR rfl (nF rfl (rV t.fg)) k
 show dX C _ [a_ (tb t,d_),a_ (sT u,d_),a_ (sT g,d_),b_]=_;rw[ik s3];refine x5 ?_;exact N0 rfl (nF (kF (kF (kF rfl rfl z) rfl B) rfl q) hs) J
def TR{ds:List Dat}(h:ds.length=np)(c:dX C body (ds.map (λd=>a_ (d,d_))++dB (nl - np) b_)=a_ (.nx ρ)):Oy C np nl body ds=a_ (.non,d_):=by
 unfold Oy;rw[if_pos h,c];rfl
def Wz:List Sx:=[(.ifs (.cmp .nin (.v 4) (.v 2)) [.LP] [])]
theorem Ws:∀(x:List Nat)(k:Nat)(g j:g_),(∀c∈x,c∈s)->∃l q,i8 (gH d_ [3,4]) (dX C Wz) (vW k (c1 x)) [a_ (a,d_),a_ (b,d_),a_ (sT s,d_),g,j]=a_ (.nx [a_ (a,d_),a_ (b,d_),a_ (sT s,d_),l,q])
 |[],k,g,j,_=>⟨g,j,rfl⟩
 |c::x,k,g,j,h=>by
   obtain⟨y,z,B⟩:=Ws x (k+1) (a_ (.int (k),d_)) (a_ (sT [c],d_)) λd hd=>h d (kD _ hd);refine⟨y,z,?_⟩;have e:bu C (.cmp .nin (.v 4) (.v 2)) (full [a_ (a,d_),a_ (b,d_),a_ (sT s,d_),a_ (.int (k),d_),a_ (sT [c],d_)])=a_ (.bl d_,d_):=iQ rfl rfl (by rw[Wk,decide_eq_true (h c jE)];rfl);refine(EM (ρ1:=[a_ (a,d_),a_ (b,d_),a_ (sT s,d_),a_ (.int (k),d_),a_ (sT [c],d_)]) rfl ?_).trans B;exact oz (by rw[EW e rfl];rfl)
def GB(ht:CC t)(d:∀c∈x,c∈raw t)(hl:x.length<=1000):Cn D (n+3) 10 [tb t,sT x]=a_ (.non,d_):=by
 obtain⟨s,r,hs⟩:=Gw ht;obtain⟨g,j,h⟩:=Ws (C:=Cn D (n+2)) (a:=tb t) (b:=sT x) x 0 b_ b_ λc k=>(hs c).mpr (d c k);refine TR (ρ:=[a_ (tb t,d_),a_ (sT x,d_),a_ (sT s,d_),g,j]) rfl ?_;generalize Cn D (n+2)=C at r h ⊢;have s1:nE C (.set 2 (.call 1 [.v 0])) [a_ (tb t,d_),a_ (sT x,d_),b_,b_,b_]=a_ (.nx [a_ (tb t,d_),a_ (sT x,d_),a_ (sT s,d_),b_,b_]):=iU r rfl;show dX C (.set 2 (.call 1 [.v 0])::.loop d_ [3,4] (.enu (.v 1)) Wz::[]) [a_ (tb t,d_),a_ (sT x,d_),b_,b_,b_]=_;rw[ik s1];refine oz ?_;exact h
def Yl:((aK 10).all λk=>pk (fQ .str [.int (k:Nat)]) (a_ (.str (T [48+k]),d_)) && decide (qC[k]?=a_ (48+k)))=c_:=by kernel_rfl
def DN(h:k<10):fQ .str [.int (k:Nat)]=a_ (.str (T [48+k]),d_)/\qC[k]?=a_ (48+k):=by
 have:=br.mp Yl k (a9.mpr h);rw[aj]at this;exact⟨mL this.1,of_decide_eq_true this.2⟩
def Wl:gJ .nin (sT [c]) (.lst (c1 l))=a_ (!decide (c∈l)):=by
 have hs:∀l:List Nat,eA 20 (c1 l)=c_:=λl=>by
  induction l with
  |nil=>rfl
  |cons a r d=>show(c_ && eA 20 (c1 r))=c_;rw[d];rfl
 show(if(c_ && eA 20 (c1 l))=c_ then a_ (!(c1 l).any λy=>oD y (sT [c]))else b_)=_;rw[hs,kB,if_pos rfl]
 congr 2
 induction l with
 |nil=>rfl
 |cons a r d=>
   show((T [a] == T [c]) || (c1 r).any λy=>oD y (sT [c]))=_;rw[d]
   grind
def tX(h:bu C a ρ=a_ (tI m,f)):bu C (.cmp .gt (.blt .len [a]) (.e_ 0)) ρ=a_ (.bl (!m.isEmpty),d_):=iQ (nF h (rV m)) rfl (by
 show a_ (decide (0<((m.length):Int)))=_
 cases m with
 |nil=>rfl
 |cons a r=>simp)
def VW{t:Tb}(hf:f∈t.fs)(d:c∈f.1):c∈raw t:=ak _ (JU.mpr ⟨f,hf,d⟩)
def VU{t:Tb}(hf:f∈t.fs)(d:c∈f.1)(g:t.m0.isEmpty=d_):c - 32∈raw t:=by
 refine aH _ (ak _ ?_);unfold LW;rw[g];exact bQ.mpr ⟨c,JU.mpr ⟨f,hf,d⟩,rfl⟩
def VV{t:Tb}(c:k<t.fg.length)(h:k<10):48+k∈raw t:=by
 refine aH _ (aH _ (ak _ ?_));have:=(DN h).2;exact List.mem_iff_getElem?.mpr ⟨k,by simp_all⟩
def VX(t:Tb):32∈raw t:=aH _ (aH _ (aH _ jE))
def sq(t:Tb)(b:Nat)(ss:List Nat):Prop:=ss≠[]/\ss.length<=b/\∀c∈ss,c∈raw t
abbrev UP(t:Tb)(ss:List Nat)(z:g_):dv:=[a_ (tb t,d_),a_ (.lst (c1 ss),c_),z]
def X3(t:Tb)(us:List Fm)(ρ:dv):Prop:=∃ss z,ρ=UP t ss z/\sq t (11+2 * us.length) ss
def Y0:List Sx:=[(.ifs (.and (.cmp .eq (.blt .len [(.ix (.v 2) (.e_ 0))]) (.e_ 1)) (.cmp .nin (.ix (.v 2) (.e_ 0)) (.v 1))) [(.mut .app 1 [(.ix (.v 2) (.e_ 0))]),(.ifs (.cmp .gt (.blt .len [(.ix (.ix (.v 0) (.e_ 1)) (.e_ 0))]) (.e_ 0)) [(.mut .app 1 [(.gp .upper (.ix (.v 2) (.e_ 0)) [])])] [])] [])]
def IC(h:sq t b ss)(g:c∈raw t):sq t (b+1) (ss++[c]):=⟨by simp,by rw[ag];have:=h.2.1;exact bD this,λd hd=>by
 rcases aE.mp hd with q|q
 ·exact h.2.2 d q
 simp_all⟩
def Ln(ss:List Nat)(c:Nat):c1 ss++[sT [c]]=c1 (ss++[c]):=by show _=Pg _ _;rw[fT];rfl
def QJ(ht:CC t){us:List Fm}(hf:f∈t.fs)(R:us.length<=100)(h:X3 t us ρ):∃ρ1,gH c_ [2] (iq f) ρ=a_ ρ1/\Go C Y0 ρ1 λo=>∃g,o=.nx g/\X3 t (us++[f]) g:=by
 obtain⟨ss,z,rfl,hs⟩:=h;refine⟨_,rfl,?_⟩;have l:=ht.ho f hf;have y :=len_T (ab l.ll (by decide));have hlen:=hs.2.1;have fin:∀ss',sq t (11+2 * us.length+2) ss'->∃g,Out.nx (UP t ss' (a_ (iq f,d_)))=.nx g/\X3 t (us++[f]) g:=λss' h=>⟨_,rfl,ss',_,rfl,h.1,by rw[ag];have:=h.2.1;omega,h.2.2⟩
 have L:bu C (.cmp .eq (.blt .len [.ix (.v 2) (.e_ 0)]) (.e_ 1)) (full (UP t ss (a_ (iq f,d_))))=a_ (.bl (decide (f.1.length=1)),d_):=iQ (nF rfl y) rfl (by
  show a_ (decide (((f.1.length):Int)=1))=_
  rw[decide_eq_decide.mpr (show((f.1.length):Int)=1↔f.1.length=1 by omega)])
 by_cases h1:f.1.length=1
 ·obtain⟨c,B⟩:∃c,f.1=[c]:=by
   match q:f.1,h1 with
   |[c],_=>exact⟨c,rfl⟩
  have k:c∈f.1:=by simp_all
  have M:bu C (.cmp .nin (.ix (.v 2) (.e_ 0)) (.v 1)) (full (UP t ss (a_ (iq f,d_))))=a_ (.bl (!decide (c∈ss)),d_):=iQ rfl rfl (by rw[B,Wl])
  have D:bu C (.and (.cmp .eq (.blt .len [.ix (.v 2) (.e_ 0)]) (.e_ 1)) (.cmp .nin (.ix (.v 2) (.e_ 0)) (.v 1))) (full (UP t ss (a_ (iq f,d_))))=a_ (.bl (!decide (c∈ss)),d_):=by
   rw[jy L,decide_eq_true h1];exact M
  refine jc D (λ_=>?_) (λ_=>bK (fin ss ⟨hs.1,BU hlen,hs.2.2⟩)) λρ' h=>bK ⟨_,rfl,h⟩;refine C6 (P:=(·= sT [c])) ⟨sT f.1,d_,rfl,rfl,by rw[B]⟩ rfl (by rw[aw];omega) λd hd=>?_;rw[hd,Ln];have j:=IC hs (VW hf k);have O:bu C (.cmp .gt (.blt .len [.ix (.ix (.v 0) (.e_ 1)) (.e_ 0)]) (.e_ 0)) (full (UP t (ss++[c]) (a_ (iq f,d_))))=a_ (.bl (!t.m0.isEmpty),d_):=tX rfl;refine jc O (λq=>?_) (λ_=>bK (fin _ ⟨j.1,cT j.2.1,j.2.2⟩)) λρ' h=>bK ⟨_,rfl,h⟩;have J :=tN (λd hd=>by rw[aL.mp hd];exact l.low c k) (by simp);refine C6 (P:=(·= sT [c - 32])) ⟨sT [c - 32],d_,?_,rfl,rfl⟩ rfl (by rw[aw,ag];show _+1<_;omega) λd hd=>?_
  ·show ic .upper (sT f.1) []=_;rw[B];exact J
  ·rw[hd,Ln];exact bK (fin _ (IC j (VU hf k (by simpa using q))))
 ·have D:bu C (.and (.cmp .eq (.blt .len [.ix (.v 2) (.e_ 0)]) (.e_ 1)) (.cmp .nin (.ix (.v 2) (.e_ 0)) (.v 1))) (full (UP t ss (a_ (iq f,d_))))=a_ (.bl d_,d_):=by
   rw[jy L,decide_eq_false h1];rfl
  exact jc D (λq=>absurd q (by decide)) (λ_=>bK (fin ss ⟨hs.1,BU hlen,hs.2.2⟩)) λρ' h=>bK ⟨_,rfl,h⟩
def Cq(ht:CC t):∃ss,Cn D (n+1) 27 [tb t]=a_ (.lst (c1 ss),c_)/\sq t 40 ss:=by
 suffices h:Go (Cn D n) Z7 [a_ (tb t,d_),b_,b_] λo=>∃ss,o=.rt (.lst (c1 ss)) c_/\sq t 40 ss by
  obtain⟨_,h1,ss,rfl,h2⟩:=h;exact⟨ss,fA rfl h1,h2⟩
 generalize Cn D n=C;have d:=ht.hf
 obtain⟨fs,e,l,h1,_⟩:=oU (ρ:=full [a_ (tb t,d_),b_,b_]) (it:=.rng [.blt .len [.ix (.v 0) (.e_ 2)]]) (elt:=.blt .str [.v 0]) (λc=>sT [c]) (λ(_)c=>c∈raw t) (xj (rV t.fg) (ab d (by decide))) (by rw[aW];omega) (λ_=>rfl) λk g=>by
  have g:=a9.mp g;exact⟨48+k,d_,(DN (ab g d)).1,VV g (by omega)⟩
 rw[aW]at l;refine eZ (ds:=c1 (32::fs)) ?_ ?_
 ·show bh (bu C (.comp 1 c_ [] (.rng [.blt .len [.ix (.v 0) (.e_ 2)]]) [] (.blt .str [.v 0])) (full [a_ (tb t,d_),b_,b_])) _=_;rw[e];show(if 1+(fs.map λc=>sT [c]).length<=ax then _ else b_)=_;rw[if_pos (by rw[aw,gD];omega)];rfl
 ·refine lg (I:=X3 t) (nA rfl rfl (by show(jF (t.fs.map iq) || d_)=c_;rw[l9];rfl)) ⟨32::fs,_,rfl,by simp,by simp;exact ab (af l) d,λc j=>?_⟩ (λus f vs ρ q h=>QJ ht (by rw[q];simp) (by have:=ht.hl;rw[q]at this;simp at this;omega) h) λρ' h=>?_
  ·rcases au.mp j with rfl|j
   ·exact VX t
   ·obtain⟨_,_,q⟩:=h1 c j;exact q
  ·obtain⟨ss,z,rfl,hs⟩:=h;exact⟨_,rfl,ss,rfl,hs.1,by have:=hs.2.1;have:=ht.hl;omega,hs.2.2⟩
def IQ{ns:List Int}(ht:CC t)(y:m<=100):∃x b,Cn D (n+3) 28 [.lst (ns.map Dat.int),tb t,.int (m:Nat)]=a_ (sT x,b)/\x.length=m/\∀c∈x,c∈raw t:=by
 have hd:Dw (Cn D (n+2)) (.lst (ns.map Dat.int)):=dw;obtain⟨ss,r,h0,hl,hs⟩:=Cq (n:=n+1) ht
 suffices h:Go (Cn D (n+2)) Z6 [a_ (.lst (ns.map Dat.int),d_),a_ (tb t,d_),a_ (.int (m),d_),b_] λo=>∃x b,o=.rt (sT x) b/\x.length=m/\∀c∈x,c∈raw t by
  obtain⟨_,h1,x,b,rfl,h2⟩:=h;exact⟨x,b,fA rfl h1,h2⟩
 generalize Dat.lst (ns.map Dat.int)=N at hd ⊢;have g :=p0.mpr h0;refine eZ r ?_
 have hi:∀l:List Nat,jF (c1 l)=c_:=λl=>by
  induction l with
  |nil=>rfl
  |cons a r z=>show(c_ && jF (c1 r))=c_;rw[z];rfl
 refine eZ (ds:=c1 (ss++ss.drop 1)) ?_ ?_
 ·have e1:Cf (.lst (c1 ss)) (a_ 1) b_=a_ (.lst (c1 (ss.drop 1)),c_):=by
   show a_ (Dat.lst (cutD (c1 ss) (a_ 1) b_),jF (cutD (c1 ss) (a_ 1) b_))=_;rw[Fo (by simp) (by rw[aw];exact eP.mpr g)];show a_ (Dat.lst ((c1 ss).drop 1),jF ((c1 ss).drop 1))=_;rw[List.map_drop.symm,hi]
  refine kF rfl (Q9 rfl rfl e1) ?_;rw[pU (by rw[aw,aw,dP];omega),fT.symm,hi]
 ·have h2:∀c∈ss++ss.drop 1,c∈raw t:=λc B=>by
   rcases aE.mp B with q|q
   ·exact hs c q
   ·exact hs c (dO q)
  have h3:0<(ss++ss.drop 1).length:=by rw[ag];exact Me _ g
  generalize ss++ss.drop 1=s2 at h2 h3 ⊢;have j:fQ .len [.lst (c1 s2)]=a_ (.int (s2.length),d_):=by rw[lu,aw]
  obtain⟨d,f,e,_,W,rfl,J,k⟩:=Qc (ρ:=full [a_ (N,d_),a_ (tb t,d_),a_ (.int (m),d_),a_ (.lst (c1 s2),c_)]) (e:=.v 2) (caps:=[0,3]) (elt:=.ix (.v 2) (.call 17 [.v 1,.bin .add (.e_ 31) (.v 0),.e_ 35023,.blt .len [.v 2]])) (r:=(·= m)) ⟨m,_,rfl,rfl⟩ (λm h=>(ab (af h) (ab y (by decide)))) λL h i hi=>KN rfl (gr hd rfl (lp rfl rfl) rfl (by exact j) (by omega) (by decide) (vM.mpr h3) λq h=>by omega) h2;exact kE e ⟨W,f,rfl,J,k⟩
end K30E
namespace M
open PySem L2
open Builtin Builtin.Str
def Kp{p q n:Nat}:strSliceIndices (a_ (p:Int)) (a_ (q:Int)) 1 n=strSliceIndices (a_ (p:Int)) (a_ ((min q n:Nat):Int)) 1 n:=by
 have h2:¬((q:Int)<0):=by omega
 have h3:¬(((min q n:Nat):Int)<0):=by omega
 have e:max (0:Int) (min (q) (n))=max 0 (min ((min q n:Nat):Int) (n)):=by omega
 simp only[strSliceIndices,h2,h3,if_false,e,show((1:Int) > 0)=True by simp,if_true]
set_option tactic.hygienic true in
def xV{x:List Nat}(h1:p<=q)(h2:q<=x.length)(h:strSliceIndices l u 1 x.length=strSliceIndices (a_ (p:Int)) (a_ (q:Int)) 1 x.length):cY (T x) l u=T ((x.drop p).take (q - p)):=by
 have e:=PySem.StrLaws.sliced_plain (T x) h1 (by exact h2);rw[qM]at e;unfold cY;rw[qM,h,e,PySem.StrLaws.strSliceIndices_plain h1 h2,aw];split
 ·rename_i z;simp at z;have hp:p=0:=by omega
  subst hp;rw[z,Pj,List.take_length]
 ·rfl
def IH{x:List Nat}(hp:p<=x.length)(c:p<=q):cY (T x) (a_ (p:Int)) (a_ (q:Int))=T ((x.drop p).take (q - p)):=by
 rw[xV (by omega) (by omega) Kp]
 congr 1
 by_cases h:q<=x.length
 ·rw[show min q x.length=q by omega]
 ·rw[eo (by rw[dP];omega),eo (by rw[dP];omega)]
def MP:cY (T (c::r)) b_ (a_ 1)=T [c]:=by
 rw[xV (p:=0) (q:=1) (by omega) (by simp)]
 ·rfl
 ·rfl
end M
namespace K30E
open PySem L2 M K30
def gX(t:Tb)(f:Fm)(w:Nat×bc×bc):List Ed:=E8 f w++(if t.m0.isEmpty=c_ then []else(E8 f w).map (TJ t.m0))
abbrev W4:List (Nat×bc):=[(119,i9),(98,p5),(109,p5),(101,i9)]
def hit(b:bc)(w:Nat×bc):Bool:=decide (w.1∈[119,98]) == !(b == p5)
def hX(t:Tb)(f:Fm)(b:bc)(w:Nat×bc):List Ed:=if hit b w=c_ then gX t f (w.1,b,w.2)else []
abbrev ZK(w:Nat×bc):Dat:=.tup [sT [w.1],.str w.2]
abbrev BH(t:Tb)(f:Fm)(B:g_)(es:List Ed)(g c d:g_):dv:=[a_ (tb t,d_),a_ (iq f,d_),a_ (sT f.1,d_),a_ (tI f.2.1,d_),a_ (sT f.2.2,d_),a_ (tI t.m0,d_),a_ (tI t.m1,d_),B,a_ (.lst (es.map dR),c_),g,c,d]
def WBE:aa "wb"=T [119,98]:=by decide +kernel
set_option tactic.hygienic true in
def TH(ho:E5 f)(h:bu C a ρ=a_ (sT f.1,g)):bu C (.bin .add (.gp .upper (.sl a b_ (a_ (.e_ 1))) []) (.sl a (a_ (.e_ 1)) b_)) ρ=a_ (sT (LV f.1),d_):=by
 obtain⟨j,v,_,h2,h3,k⟩:=AH ho
 have h1:Cf (sT f.1) b_ (a_ 1)=a_ (sT [j],d_):=by
  show(if(T f.1).length<=ax then a_ (Dat.str (cY (T f.1) b_ (a_ 1)),d_)else b_)=_;rw[if_pos (by have:=ho.ll;exact ab this (by decide))]
  obtain⟨c,r,d⟩:∃c r,f.1=c::r:=by
   cases q:f.1 with
   |nil=>exact absurd q ho.ne
   |cons c r=>exact⟨c,r,rfl⟩
  rename_i q;rw[d]at q ⊢;rw[MP];have:=Tw (l:=c::r) (i:=0) (by rw[<-d];have:=ho.ll;exact ab this (by decide)) (by simp);rw[show((0:Nat):Int)=0 from rfl]at this;rw[this]at q;exact congrArg (λz=>a_ (z,d_)) (bx q)
 exact kF (S4 (MR h rfl h1) h2) (Q9 h rfl h3) k
def WK:List Sx:=[(.ifs (.and (.cmp .isin (.v 10) (.v 4)) (.cmp .eq (.cmp .isin (.v 10) (.f_ "wb")) (.cmp .ne (.v 9) (.f_ "in")))) [(.mut .app 8 [(.tup [(.v 9),(.v 2),(.v 3),(.v 11)])]),(.ifs (.cmp .gt (.blt .len [(.v 5)]) (.e_ 0)) [(.mut .app 8 [(.tup [(.v 9),(.bin .add (.gp .upper (.sl (.v 2) b_ (a_ (.e_ 1))) []) (.sl (.v 2) (a_ (.e_ 1)) b_)),(.bin .add (.v 5) (.v 3)),(.v 11)])])] [])] [])]
def WC:List Sx:=[(.ifs (.and (.cmp .isin (.f_ "w") (.v 4)) (.cmp .gt (.blt .len [(.v 2)]) (.e_ 1))) [(.mut .app 8 [(.tup [(.v 9),(.gp .upper (.v 2) []),(.bin .add (.v 6) (.v 3)),(.f_ "done")])])] []),(.ifs (.cmp .isin (.f_ "b") (.v 4)) [(.mut .app 8 [(.tup [(.v 9),(.gp .upper (.v 2) []),(.bin .add (.v 6) (.v 3)),(.f_ "all")])])] [])]
def Y2:List Sx:=[(.ifs (.cmp .isin (.v 10) (.v 4)) [(.mut .app 8 [(.tup [(.f_ "all"),(.gp .upper (.v 2) []),(.v 3),(.v 11)])])] [])]
def P6(q:(decide (w.1∈f.2.2) && hit b w)=d_):hX t f b w=[]:=by
 unfold hX gX E8;by_cases h:hit b w=c_
 ·rw[h,eO]at q;rw[if_pos h,if_neg (by rw[q];decide)];simp
 ·rw[if_neg h]
def P5(q:(decide (w.1∈f.2.2) && hit b w)=c_):hX t f b w=[(b,f.1,f.2.1,w.2)]++(if t.m0.isEmpty=c_ then []else [(b,LV f.1,t.m0++f.2.1,w.2)]):=by
 rw[aj]at q;unfold hX gX E8;rw[if_pos q.2,if_pos q.1];rfl
def C4(t:Tb)(f:Fm)(b:bc)(w:Nat×bc):(hX t f b w).length<=2:=by
 cases q:(decide (w.1∈f.2.2) && hit b w)with
 |false=>rw[P6 q];exact aP _
 |true=>
   rw[P5 q];cases t.m0.isEmpty
   ·exact ao 2
   ·exact vt 1
section
variable{t:Tb}{f:Fm}(ht:CC t)(ho:E5 f)
include ht ho
def Us{es:List Ed}(hl:es.length<900):Go C WK (BH t f B es (a_ (.str b,d_)) (a_ (sT [w.1],d_)) (a_ (.str w.2,d_))) λo=>∃c,o=.nx c/\c=BH t f B (es++hX t f b w) (a_ (.str b,d_)) (a_ (sT [w.1],d_)) (a_ (.str w.2,d_)):=by
 have k:bu C (.cmp .isin (.v 10) (.v 4)) (full (BH t f B es (a_ (.str b,d_)) (a_ (sT [w.1],d_)) (a_ (.str w.2,d_))))=a_ (.bl (decide (w.1∈f.2.2)),d_):=iQ rfl rfl pL
 have l:bu C (.cmp .eq (.cmp .isin (.v 10) (.f_ "wb")) (.cmp .ne (.v 9) (.f_ "in"))) (full (BH t f B es (a_ (.str b,d_)) (a_ (sT [w.1],d_)) (a_ (.str w.2,d_))))=a_ (.bl (hit b w),d_):=by
  exact iQ (iQ rfl rfl pL) (iQ rfl rfl rfl) rfl
 have y:bu C (.and (.cmp .isin (.v 10) (.v 4)) (.cmp .eq (.cmp .isin (.v 10) (.f_ "wb")) (.cmp .ne (.v 9) (.f_ "in")))) (full (BH t f B es (a_ (.str b,d_)) (a_ (sT [w.1],d_)) (a_ (.str w.2,d_))))=a_ (.bl (decide (w.1∈f.2.2) && hit b w),d_):=by
  rw[jy k,l];cases decide (w.1∈f.2.2)<;>rfl
 refine jc y (λq=>?_) (λq=>bK ⟨_,rfl,by rw[P6 q,az]⟩) λρ' h=>bK ⟨_,rfl,h⟩;rw[P5 q,<-aC];refine nU (e:=(b,f.1,f.2.1,w.2)) (kJ rfl rfl rfl rfl) rfl (ab hl (by decide)) ?_;show Go C _ (BH t f B (es++[(b,f.1,f.2.1,w.2)]) (a_ (.str b,d_)) (a_ (sT [w.1],d_)) (a_ (.str w.2,d_))) _;have d:(es++[(b,f.1,f.2.1,w.2)]).length<1000:=by rw[ag];exact aB hl (by decide)
 refine jc (tX rfl) (λg=>?_) (λg=>bK ⟨_,rfl,?_⟩) λρ' h=>bK ⟨_,rfl,h⟩
 ·refine nU (e:=(b,LV f.1,t.m0++f.2.1,w.2)) (kJ rfl (TH ho rfl) (sj _ _ (by have:=ht.h0;have:=ho.cl;omega)) rfl) rfl d (bK ⟨_,rfl,?_⟩);have j:t.m0.isEmpty=d_:=by simpa using g
  rw[j];rfl
 ·have j:t.m0.isEmpty=c_:=by simpa using g
  rw[j,if_pos rfl,az]
end
abbrev bs(t:Tb):List bc:=if t.fg.isEmpty=c_ then [qN]else [qN,mW]
abbrev A2(t:Tb)(f:Fm)(b:bc):List Ed:=qW t.m1 f (119,b,i9)++qW t.m1 f (98,b,tj)
abbrev V2:List (Nat×bc):=[(109,tj),(101,i9)]
abbrev A3(t:Tb)(f:Fm)(w:Nat×bc):List Ed:=qW t.m1 f (w.1,tj,w.2)
abbrev F1(t:Tb)(f:Fm):List Ed:=(bs t++[p5]).flatMap λb=>W4.flatMap (hX t f b)
abbrev qv(t:Tb)(f:Fm):List Ed:=F1 t f++(if t.m1.isEmpty=c_ then []else(bs t).flatMap (A2 t f)++V2.flatMap (A3 t f))
def Ds(t:Tb):(bs t).length<=2:=by
 show(if t.fg.isEmpty=c_ then [qN]else [qN,mW]).length<=2;split<;>decide
def LC(t:Tb)(f:Fm):(F1 t f).length<=24:=by
 have h:=gZ (l:=bs t++[p5]) λb _=>gZ (l:=W4) λw _=>C4 t f b w;have h2:=Ds t;rw[ag]at h;have h:(F1 t f).length<=8 * ((bs t).length+1):=h;omega
def KA{es:List Ed}(h:bu C c (full ρ)=a_ (.bl (bg f w),f'))(d:Ev C x (full ρ) (·= dR (w.2.1,uT f.1,(if(w.2.1 == tj)=c_ then []else m)++f.2.1,w.2.2)))(hi:(ρ[i]?).join=a_ (.lst (es.map dR),c_))(g:ρ.set i (a_ (.lst (es.map dR),c_))=ρ)(hl:es.length<1000)(k:Go C ss (ρ.set i (a_ (.lst ((es++qW m f w).map dR),c_))) Q):Go C (.ifs c [.mut .app i [x]] []::ss) ρ Q:=by
 refine jc (J:=λρ'=>ρ'=ρ.set i (a_ (.lst ((es++qW m f w).map dR),c_))) h (λq=>?_) (λq=>bK ⟨_,rfl,?_⟩) λρ' e=>by rw[e];exact k
 ·unfold qW;rw[if_pos q];exact nU d hi hl (bK ⟨_,rfl,rfl⟩)
 ·unfold qW;rw[if_neg (by rw[q];decide),az,g]
def RJ(ht:CC t)(ho:E5 f):Cn D (n+1) 25 [tb t,iq f]=a_ (.lst ((qv t f).map dR),c_):=by
 suffices h:Go (Cn D n) Z9 [a_ (tb t,d_),a_ (iq f,d_),b_,b_,b_,b_,b_,b_,b_,b_,b_,b_] λo=>o=.rt (.lst ((qv t f).map dR)) c_ by
  obtain⟨_,h1,rfl⟩:=h;exact fA rfl h1
 generalize Cn D n=C;have hF:=LC t f;have hb:=Ds t;have B:=Ie ho;show Go C (.Vi [2,3,4] (.v 1)::.set 5 (.ix (.ix (.v 0) (.e_ 1)) (.e_ 0))::.set 6 (.ix (.ix (.v 0) (.e_ 1)) (.e_ 1))::.set 7 (.sl (.lst [.con (.str qN),.con (.str mW)]) b_ (a_ (.bin .add (.e_ 1) (.blt .int [.cmp .gt (.blt .len [.ix (.v 0) (.e_ 2)]) (.e_ 0)]))))::.set 8 (.lst [])::.loop c_ [9] (.itv (.bin .add (.v 7) (.lst [.con (.str p5)]))) [.loop d_ [10,11] (.itv (.lst [.tup [.f_ "w",.con (.str i9)],.tup [.f_ "b",.con (.str p5)],.tup [.f_ "m",.con (.str p5)],.tup [.f_ "e",.con (.str i9)]])) WK]::.ifs (.cmp .eq (.blt .len [.v 6]) (.e_ 0)) [.nc 8] []::.loop c_ [9] (.itv (.v 7)) WC::.loop d_ [10,11] (.itv (.lst [.tup [.f_ "m",.con (.str tj)],.tup [.f_ "e",.con (.str i9)]])) Y2::.nc 8::[]) _ _
 have u1:nE C (.Vi [2,3,4] (.v 1)) [a_ (tb t,d_),a_ (iq f,d_),b_,b_,b_,b_,b_,b_,b_,b_,b_,b_]=a_ (.nx [a_ (tb t,d_),a_ (iq f,d_),a_ (sT f.1,d_),a_ (tI f.2.1,d_),a_ (sT f.2.2,d_),b_,b_,b_,b_,b_,b_,b_]):=by
  show bh (if(im (iq f) || d_)=c_ then _ else _) _=_;rw[EU];rfl
 refine fx u1 (fx (iU rfl (o6 _)) (fx (iU rfl (o6 _)) ?_))
 have e7:bu C (.sl (.lst [.con (.str qN),.con (.str mW)]) b_ (a_ (.bin .add (.e_ 1) (.blt .int [.cmp .gt (.blt .len [.ix (.v 0) (.e_ 2)]) (.e_ 0)])))) (full [a_ (tb t,d_),a_ (iq f,d_),a_ (sT f.1,d_),a_ (tI f.2.1,d_),a_ (sT f.2.2,d_),a_ (tI t.m0,d_),a_ (tI t.m1,d_),b_,b_,b_,b_,b_])=a_ (.lst ((bs t).map Dat.str),c_):=by
  have J:=tX (C:=C) (ρ:=full [a_ (tb t,d_),a_ (iq f,d_),a_ (sT f.1,d_),a_ (tI f.2.1,d_),a_ (sT f.2.2,d_),a_ (tI t.m0,d_),a_ (tI t.m1,d_),b_,b_,b_,b_,b_]) (a:=.ix (.v 0) (.e_ 2)) rfl;unfold bs;revert J;cases t.fg.isEmpty
  ·intro J;exact MR rfl (kF rfl (nF J rfl) rfl) rfl
  ·intro J;exact MR rfl (kF rfl (nF J rfl) rfl) rfl
 refine eZ e7 (eZ rfl ?_);refine lg (I:=λus ρ=>∃k c j,ρ=BH t f (a_ (.lst ((bs t).map Dat.str),c_)) (us.flatMap λb=>W4.flatMap (hX t f b)) k c j) (nA (d:=.lst ((bs t++[p5]).map Dat.str)) ?_ rfl rfl) ⟨b_,b_,b_,rfl⟩ ?_ ?_
 ·unfold bs;cases t.fg.isEmpty<;>rfl
 ·rintro us b vs _ O ⟨k,c,j,rfl⟩
  have U:us.length<=3:=by
   have:=congrArg fj O;simp only[ag,ba,jj]at this;omega
  have y:=gZ (m:=8) (l:=us) λb _=>gZ (l:=W4) λw _=>C4 t f b w;refine⟨_,rfl,?_⟩;rw[cL];generalize (us.flatMap λb=>W4.flatMap (hX t f b))=pre at y ⊢;refine lg (I:=λws ρ=>∃c j,ρ=BH t f (a_ (.lst ((bs t).map Dat.str),c_)) (pre++ws.flatMap (hX t f b)) (a_ (.str b,d_)) c j) (nA (d:=.lst (W4.map ZK)) rfl rfl rfl) ⟨c,j,by rw[gG,az];rfl⟩ ?_ ?_
  ·rintro ws w vs _ R ⟨c,j,rfl⟩
   have W:ws.length<=4:=by
    have:=congrArg fj R;simp only[ag,ba,jj]at this;exact ab (bb _ _) (af this.symm)
   have h2:=gZ (l:=ws) λw _=>C4 t f b w;refine⟨_,rfl,?_⟩;obtain⟨o,e1,ρ2,rfl,rfl⟩:=Us (es:=pre++ws.flatMap (hX t f b)) ht ho (by rw[ag];omega);exact⟨_,e1,_,rfl,_,_,by rw[cL,aC,cB]⟩
  ·rintro _ ⟨c,j,rfl⟩;exact bK ⟨_,rfl,_,_,_,by rw[cB]⟩
 rintro _ ⟨k,c,j,rfl⟩
 have L:bu C (.cmp .eq (.blt .len [.v 6]) (.e_ 0)) (full (BH t f (a_ (.lst ((bs t).map Dat.str),c_)) (F1 t f) k c j))=a_ (.bl t.m1.isEmpty,d_):=iQ (nF rfl (rV t.m1)) rfl (by
  cases t.m1 with
  |nil=>rfl
  |cons a r=>rfl)
 show Go C _ (BH t f (a_ (.lst ((bs t).map Dat.str),c_)) (F1 t f) k c j) λo=>o=.rt (.lst ((F1 t f++(if t.m1.isEmpty=c_ then []else(bs t).flatMap (A2 t f)++V2.flatMap (A3 t f))).map dR)) c_;generalize F1 t f=G at hF L ⊢
 cases q:t.m1.isEmpty with
 |true=>
   rw[q]at L;refine Kw L rfl ?_;rw[if_pos rfl,az]
 |false=>
   rw[q]at L;refine px L ?_;rw[if_neg (by decide)];refine lg (ρ0:=BH t f (a_ (.lst ((bs t).map Dat.str),d_)) G k c j) (I:=λus ρ=>∃k c j,ρ=BH t f (a_ (.lst ((bs t).map Dat.str),d_)) (G++us.flatMap (A2 t f)) k c j) (by rfl) ⟨k,c,j,by rw[gG,az]⟩ ?_ ?_
   ·rintro us b vs _ O ⟨k,c,j,rfl⟩
    have M:(b == tj)=d_:=by
     have:b∈bs t:=by rw[O];simp
     unfold bs at this;revert this;cases t.fg.isEmpty
     ·intro h
      rcases au.mp h with rfl|h
      ·decide
      ·rw[aL.mp h];decide
     ·intro h;rw[aL.mp h];decide
    have U:us.length<=2:=by
     have:=congrArg fj O;rw[ag]at this;omega
    have y:=gZ (g:=A2 t f) (m:=2) (l:=us) λb _=>by
     have h1:=lj (m:=t.m1) (f:=f) (w:=(119,b,i9));have h2:=lj (m:=t.m1) (f:=f) (w:=(98,b,tj));rw[ag];exact ab (fK h1 h2) (by decide)
    refine⟨_,rfl,?_⟩;rw[cL,cB];have hl:(G++us.flatMap (A2 t f)).length<=100:=by rw[ag];omega
    rw[show G++(us.flatMap (A2 t f)++A2 t f b)=(G++us.flatMap (A2 t f))++qW t.m1 f (119,b,i9)++qW t.m1 f (98,b,tj) by simp[A2]];generalize G++us.flatMap (A2 t f)=H at hl ⊢;have hg1:=lj (m:=t.m1) (f:=f) (w:=(119,b,i9));have z:=sj t.m1 f.2.1 (by have:=ht.h1;have:=ho.cl;omega);unfold WC;rw[PW,PB];refine KA (f':=d_) ?_ (kJ rfl B (by rw[M];exact z) rfl) rfl rfl (aB hl (by decide)) (KA (f':=d_) ?_ (kJ rfl B (by rw[M];exact z) rfl) rfl rfl (by rw[ag];omega) (bK ⟨_,rfl,_,_,_,rfl⟩))
    ·have a1:bu C (.cmp .isin (.con (.str (T [119]))) (.v 4)) (full (BH t f (a_ (.lst ((bs t).map Dat.str),d_)) H (a_ (.str b,d_)) c j))=a_ (.bl (decide (119∈f.2.2)),d_):=iQ rfl rfl pL;have a2:bu C (.cmp .gt (.blt .len [.v 2]) (.e_ 1)) (full (BH t f (a_ (.lst ((bs t).map Dat.str),d_)) H (a_ (.str b,d_)) c j))=a_ (.bl (decide (1<(f.1.length:Int))),d_):=iQ (nF rfl (len_T (by have:=ho.ll;exact ab this (by decide)))) rfl rfl;show bu C (.and _ _) (full (BH t f (a_ (.lst ((bs t).map Dat.str),d_)) H (a_ (.str b,d_)) c j))=_;rw[jy a1,a2];unfold bg;cases decide ((119,b,i9).1∈f.2.2)<;>rfl
    ·refine iQ rfl rfl ?_;rw[pL];show _=a_ (decide (98∈f.2.2) && c_);rw[eO]
   rintro _ ⟨k,c,j,rfl⟩
   have y:=gZ (g:=A2 t f) (m:=2) (l:=bs t) λb _=>by
    have h1:=lj (m:=t.m1) (f:=f) (w:=(119,b,i9));have h2:=lj (m:=t.m1) (f:=f) (w:=(98,b,tj));rw[ag];exact ab (fK h1 h2) (by decide)
   have hl:(G++(bs t).flatMap (A2 t f)).length<=100:=by rw[ag];omega
   rw[<-aC];generalize G++(bs t).flatMap (A2 t f)=H at hl ⊢;refine lg (I:=λws ρ=>∃c j,ρ=BH t f (a_ (.lst ((bs t).map Dat.str),d_)) (H++ws.flatMap (A3 t f)) k c j) (nA (d:=.lst (V2.map ZK)) rfl rfl rfl) ⟨c,j,by rw[gG,az]⟩ ?_ ?_
   ·rintro ws w vs _ R ⟨c,j,rfl⟩
    have Y:w=(109,tj)\/w=(101,i9):=by
     have:w∈V2:=by rw[R];simp
     simpa using this
    have W:ws.length<=2:=by
     have:=congrArg fj R;simp only[ag,ba,jj]at this;exact ab (bb _ _) (af this.symm)
    have h2:=gZ (g:=A3 t f) (l:=ws) λw _=>lj;have Z:(H++ws.flatMap (A3 t f)).length<1000:=by rw[ag];omega
    refine⟨_,rfl,?_⟩;rw[cL,cB,<-aC];refine KA (f':=d_) ?_ (kJ rfl B rfl rfl) rfl rfl Z (bK ⟨_,rfl,_,_,rfl⟩);refine iQ rfl rfl ?_;rw[pL]
    rcases Y with rfl|rfl<;>exact congrArg a_ (eO _).symm
   ·rintro _ ⟨c,j,rfl⟩;exact⟨_,rfl,rfl⟩
abbrev dg(t:Tb)(k:Nat):List Ed:=pF t (48+k,t.fg.getD k 0)
abbrev LE(t:Tb):List Ed:=Hr++(aK t.fg.length).flatMap (dg t)++(if t.fg.isEmpty=c_ then []else [(n8,[],t.m3,mW)])++t.fs.flatMap (qv t)
abbrev UQ(t:Tb)(es:List Ed)(c d g:g_):dv:=[a_ (tb t,d_),a_ (LR t,d_),a_ (.lst (es.map dR),c_),c,d,g]
def Wy:List Sx:=[(.set 4 (.tup [(.ix (.ix (.v 0) (.e_ 2)) (.v 3))])),(.mut .app 2 [(.tup [(.f_ "out"),(.blt .str [(.v 3)]),(.bin .add (.ix (.v 1) (.e_ 2)) (.v 4)),(.f_ "num")])]),(.mut .app 2 [(.tup [(.f_ "done"),(.blt .str [(.v 3)]),(.bin .add (.ix (.v 1) (.e_ 2)) (.v 4)),(.f_ "num")])]),(.mut .app 2 [(.tup [(.f_ "num"),(.blt .str [(.v 3)]),(.v 4),(.f_ "num")])])]
def Au(t:Tb)(f:Fm):(qv t f).length<=30:=by
 have h1:=LC t f;have h2:=Ds t
 have h3:=gZ (g:=A2 t f) (m:=2) (l:=bs t) λb _=>by
  have h1:=lj (m:=t.m1) (f:=f) (w:=(119,b,i9));have h2:=lj (m:=t.m1) (f:=f) (w:=(98,b,tj));rw[ag];exact ab (fK h1 h2) (by decide)
 have c:=gZ (g:=A3 t f) (l:=V2) λw _=>lj;have e:V2.length=2:=rfl;have h5:(if t.m1.isEmpty=c_ then []else(bs t).flatMap (A2 t f)++V2.flatMap (A3 t f)).length<=6:=ite_le (aP _) (by rw[ag];omega);rw[ag];exact ab (fK h1 h5) (by decide)
def QK(ht:CC t){es:List Ed}(q:k<t.fg.length)(hl:es.length<900):∃ρ1,gH c_ [3] (.int (k:Nat)) (UQ t es z B y)=a_ ρ1/\Go C Wy ρ1 λo=>∃g,o=.nx g/\∃z B y,g=UQ t (es++dg t k) z B y:=by
 have hf:=ht.hf;have h2:=ht.h2;refine⟨_,rfl,?_⟩;obtain⟨c,D⟩:∃c,c=t.fg.getD k 0:=⟨_,rfl⟩
 have L:vT (tI t.fg) (.int (k))=a_ (.int c):=by
  show qK _ (k)=_;rw[j6 (by rw[aM,ae q];rfl),D];simp[q]
 have e1:∀{ρ:dv},(ρ[0]?).join=a_ (tb t,d_)->(ρ[3]?).join=a_ (.int (k),d_)->bu C (.ix (.ix (.v 0) (.e_ 2)) (.v 3)) (full ρ)=a_ (.int c,d_):=λ{ρ}j l=>by
  have M:bu C (.v 0) (full ρ)=a_ (tb t,d_):=by
   cases h:ρ[0]? with
   |none=>rw[h]at j;cases j
   |some o=>rw[h]at j;rw[mf,full,aM,h];rw[show o=a_ (tb t,d_)from j];rfl
  have O:bu C (.v 3) (full ρ)=a_ (.int (k),d_):=by
   cases h:ρ[3]? with
   |none=>rw[h]at l;cases l
   |some o=>rw[h]at l;rw[mf,full,aM,h];rw[show o=a_ (.int (k),d_)from l];rfl
  exact LU (LU M rfl rfl) O L
 have st:=(DN (ab q hf)).1;have J:=sj t.m2 [c] (by exact aB h2 (by decide));unfold Wy dg;rw[<-D];refine nD (P:=(·= tI [c])) ⟨tI [c],_,by rw[Dc,fP,e1 rfl rfl];rfl,rfl,rfl⟩ λd hd=>?_;rw[hd];refine nU (e:=(qN,[48+k],t.m2++[c],n8)) (kJ rfl st J rfl) rfl (ab hl (by decide)) ?_;refine nU (e:=(i9,[48+k],t.m2++[c],n8)) (kJ rfl st J rfl) rfl (by rw[ag];exact aB hl (by decide)) ?_;refine nU (e:=(n8,[48+k],[c],n8)) (kJ rfl st rfl rfl) rfl (by rw[ag,ag];exact bD (aB hl (by decide))) (bK ⟨_,rfl,a_ (.int (k),d_),a_ (tI [c],d_),y,?_⟩);rw[aC,aC];rfl
def RH(ht:CC t):Cn D (n+2) 26 [tb t]=a_ (.lst ((LE t).map dR),c_):=by
 have R:∀f∈t.fs,Cn D (n+1) 25 [tb t,iq f]=a_ (.lst ((qv t f).map dR),c_):=λf hf=>RJ ht (ht.ho f hf)
 suffices h:Go (Cn D (n+1)) Z8 [a_ (tb t,d_),b_,b_,b_,b_,b_] λo=>o=.rt (.lst ((LE t).map dR)) c_ by
  obtain⟨_,h1,rfl⟩:=h;exact fA rfl h1
 generalize Cn D (n+1)=C at R ⊢;have hf:=ht.hf;have L:=ht.hl;refine fx (iU rfl (C0 t)) (eZ rfl ?_);refine yw (I:=λus ρ=>∃j y d,ρ=UQ t (Hr++us.flatMap (dg t)) j y d) (P:=(·= t.fg.length)) ⟨t.fg.length,d_,rV t.fg,rfl⟩ (λm h=>(ab (af h) (ab hf (by decide)))) ⟨b_,b_,b_,rfl⟩ ?_ ?_
 ·rintro m rfl us k vs _ B ⟨j,y,d,rfl⟩;have U:=ox B;have c:=gZ (g:=dg t) (l:=us) λk _=>ao 3;obtain⟨ρ1,W,o,Y,Z,rfl,y3,y4,y5,rfl⟩:=QK ht (es:=Hr++us.flatMap (dg t)) U.2 (by rw[ag];show 3+_<_;omega);refine⟨ρ1,W,_,Y,_,rfl,y3,y4,y5,?_⟩;rw[cL,<-aC,cB]
 rintro m rfl _ ⟨j,y,d,rfl⟩;have c:=gZ (g:=dg t) (l:=aK t.fg.length) λk _=>ao 3;rw[aW]at c;have z:(Hr++(aK t.fg.length).flatMap (dg t)).length<=40:=by rw[ag];show 3+_<=_;omega
 show Go C _ _ λo=>o=.rt (.lst ((Hr++(aK t.fg.length).flatMap (dg t)++(if t.fg.isEmpty=c_ then []else [(n8,[],t.m3,mW)])++t.fs.flatMap (qv t)).map dR)) c_;generalize Hr++(aK t.fg.length).flatMap (dg t)=H at z ⊢;refine jc (J:=λρ=>ρ=UQ t (H++if t.fg.isEmpty=c_ then []else [(n8,[],t.m3,mW)]) j y d) (tX rfl) (λq=>?_) (λq=>bK ⟨_,rfl,?_⟩) ?_
 ·refine nU (e:=(n8,[],t.m3,mW)) (kJ rfl rfl rfl rfl) rfl (aB z (by decide)) (bK ⟨_,rfl,?_⟩);have M:t.fg.isEmpty=d_:=by simpa using q
  rw[M];rfl
 ·have M:t.fg.isEmpty=c_:=by simpa using q
  rw[M,if_pos rfl,az]
 ·rintro _ rfl
  have O:(H++if t.fg.isEmpty=c_ then []else [(n8,[],t.m3,mW)]).length<=41:=by
   rw[ag];have:(if t.fg.isEmpty=c_ then []else [(n8,[],t.m3,mW)]:List Ed).length<=1:=ite_le (aP _) (ao _);exact ab (fK z this) (by decide)
  generalize (H++if t.fg.isEmpty=c_ then []else [(n8,[],t.m3,mW)])=H2 at O ⊢;refine lg (I:=λus ρ=>∃d,ρ=UQ t (H2++us.flatMap (qv t)) j y d) (nA rfl rfl (by show(jF (t.fs.map iq) || d_)=c_;rw[l9];rfl)) ⟨d,by rw[gG,az]⟩ ?_ ?_
  ·rintro us f vs _ B ⟨d,rfl⟩;have c:=gZ (l:=us) λf _=>Au t f
   have hus:us.length<=12:=by
    have:=congrArg fj B;rw[ag]at this;omega
   have L:=Au t f;refine⟨_,rfl,fx (yi (ds:=[.lst ((qv t f).map dR)]) rfl ?_ (GO (by rw[aw,aw,ag];omega))) (bK ⟨_,rfl,a_ (iq f,d_),?_⟩)⟩
   ·have e:bu C (.call 25 [.v 0,.v 5]) (full (UQ t (H2++us.flatMap (qv t)) j y (a_ (iq f,d_))))=a_ (.lst ((qv t f).map dR),c_):=R f (by rw[B];simp);show mP C [.call 25 [.v 0,.v 5]] (full (UQ t (H2++us.flatMap (qv t)) j y (a_ (iq f,d_))))=_;rw[fP,e];rfl
   ·rw[<-fT,cL,cB,<-aC H2];rfl
  ·rintro _ ⟨d,rfl⟩;exact⟨_,rfl,rfl⟩
def UX(t:Tb)(w:Nat×bc×bc):Prop:=t.fg.isEmpty=c_->w.2.1≠mW
variable{t:Tb}
def Px(h:e∈E8 f w):e.1=w.2.1:=by
 unfold E8 at h;split at h
 ·rw[aL.mp h]
 ·cases h
def Pu(h:e∈gX t f w):e.1=w.2.1:=by
 rcases aE.mp h with h|h
 ·exact Px h
 ·split at h
  ·cases h
  ·obtain⟨d,c,rfl⟩:=bQ.mp h;exact Px (e:=d) c
def Pw(h:e∈qW m f w):e.1=w.2.1:=by
 unfold qW at h;split at h
 ·rw[aL.mp h]
 ·cases h
def uQ:e∈s0 t↔∃f∈t.fs,∃w∈W6,e∈E8 f w:=by
 simp
def CM:e∈s1 t↔∃f∈t.fs,∃w∈W6,e∈gX t f w:=by
 show e∈(if t.m0.isEmpty=c_ then s0 t else s0 t++(s0 t).map (TJ t.m0))↔_;unfold gX;cases t.m0.isEmpty
 ·constructor
  ·intro h
   rcases aE.mp h with h|h
   ·obtain⟨f,hf,w,g,c⟩:=uQ.mp h;exact⟨f,hf,w,g,aH _ c⟩
   ·obtain⟨j,d,rfl⟩:=bQ.mp h;obtain⟨f,hf,w,g,c⟩:=uQ.mp d;exact⟨f,hf,w,g,ak _ (cH c)⟩
  ·rintro⟨f,hf,w,g,c⟩
   rcases aE.mp c with c|c
   ·exact aH _ (uQ.mpr ⟨f,hf,w,g,c⟩)
   ·obtain⟨j,d,rfl⟩:=bQ.mp c;exact ak _ (cH (uQ.mpr ⟨f,hf,w,g,d⟩))
 ·show e∈s0 t↔∃f∈t.fs,∃w∈W6,e∈E8 f w++[]
  simp only[az];exact uQ
def EE:e∈BF t↔∃f∈t.fs,(∃w∈W6,e∈gX t f w)\/(t.m1.isEmpty=d_/\∃w∈A6,e∈qW t.m1 f w):=by
 show e∈(if t.m1.isEmpty=c_ then s1 t else s1 t++t.fs.flatMap (H6 t.m1))↔_;cases t.m1.isEmpty
 ·constructor
  ·intro h
   rcases aE.mp h with h|h
   ·obtain⟨f,hf,h⟩:=CM.mp h;exact⟨f,hf,.inl h⟩
   ·obtain⟨f,hf,h⟩:=fD.mp h;exact⟨f,hf,.inr ⟨rfl,fD.mp h⟩⟩
  ·rintro⟨f,hf,h|⟨_,h⟩⟩
   ·exact aH _ (CM.mpr ⟨f,hf,h⟩)
   ·exact ak _ (fD.mpr ⟨f,hf,fD.mpr h⟩)
 ·show e∈s1 t↔_;rw[CM];constructor
  ·rintro⟨f,hf,h⟩;exact⟨f,hf,.inl h⟩
  ·rintro⟨f,hf,h|⟨h,_⟩⟩
   ·exact⟨f,hf,h⟩
   ·cases h
def JS:e∈s3 t↔e∈BF t/\(t.fg.isEmpty=c_->e.1≠mW):=by
 show e∈(if t.fg.isEmpty=c_ then(BF t).filter Ag else BF t)↔_;cases t.fg.isEmpty
 ·simp
 simp
def EX(h:hit b w=c_):hX t f b w=gX t f (w.1,b,w.2):=if_pos h
def EY(h:hit b w=d_):hX t f b w=[]:=if_neg (by rw[h];decide)
def W_o:W4.flatMap (hX t f qN)=gX t f (119,qN,i9)++gX t f (98,qN,p5):=by
 show hX t f qN (119,i9)++(hX t f qN (98,p5)++(hX t f qN (109,p5)++(hX t f qN (101,i9)++[])))=_;rw[EX (by decide +kernel),EX (by decide +kernel),EY (by decide +kernel),EY (by decide +kernel),az];simp
def W_l:W4.flatMap (hX t f mW)=gX t f (119,mW,i9)++gX t f (98,mW,p5):=by
 show hX t f mW (119,i9)++(hX t f mW (98,p5)++(hX t f mW (109,p5)++(hX t f mW (101,i9)++[])))=_;rw[EX (by decide +kernel),EX (by decide +kernel),EY (by decide +kernel),EY (by decide +kernel),az];simp
def W_i:W4.flatMap (hX t f p5)=gX t f (109,p5,p5)++gX t f (101,p5,i9):=by
 show hX t f p5 (119,i9)++(hX t f p5 (98,p5)++(hX t f p5 (109,p5)++(hX t f p5 (101,i9)++[])))=_;rw[az];rfl
def ol:¬qN=mW:=by decide
def il:¬p5=mW:=by decide
def al:¬tj=mW:=by decide
def EG:e∈qv t f↔(∃w∈W6,UX t w/\e∈gX t f w)\/(t.m1.isEmpty=d_/\∃w∈A6,UX t w/\e∈qW t.m1 f w):=by
 have h1:e∈F1 t f↔∃w∈W6,UX t w/\e∈gX t f w:=by
  unfold UX;show e∈((if t.fg.isEmpty=c_ then [qN]else [qN,mW])++[p5]).flatMap (λb=>W4.flatMap (hX t f b))↔_;cases t.fg.isEmpty
  ·show e∈W4.flatMap (hX t f qN)++(W4.flatMap (hX t f mW)++(W4.flatMap (hX t f p5)++[]))↔_;rw[W_o,W_l,W_i];simp only[W6,aE,au,bf,or_false,exists_eq_or_imp,exists_eq_left,bM,false_implies,true_and];constructor
   ·rintro((h|h)|(h|h)|(h|h))
    ·exact .inl h
    ·exact .inr (.inr (.inl h))
    ·exact .inr (.inl h)
    ·exact .inr (.inr (.inr (.inl h)))
    ·exact .inr (.inr (.inr (.inr (.inl h))))
    ·exact .inr (.inr (.inr (.inr (.inr h))))
   ·rintro(h|h|h|h|h|h)
    ·exact .inl (.inl h)
    ·exact .inr (.inl (.inl h))
    ·exact .inl (.inr h)
    ·exact .inr (.inl (.inr h))
    ·exact .inr (.inr (.inl h))
    ·exact .inr (.inr (.inr h))
  ·show e∈W4.flatMap (hX t f qN)++(W4.flatMap (hX t f p5)++[])↔_;rw[W_o,W_i];simp only[W6,aE,au,bf,or_false,exists_eq_or_imp,exists_eq_left,true_implies];constructor
   ·rintro((h|h)|(h|h))
    ·exact .inl ⟨ol,h⟩
    ·exact .inr (.inr (.inl ⟨ol,h⟩))
    ·exact .inr (.inr (.inr (.inr (.inl ⟨il,h⟩))))
    ·exact .inr (.inr (.inr (.inr (.inr ⟨il,h⟩))))
   ·rintro(⟨_,h⟩|⟨q,h⟩|⟨_,h⟩|⟨q,h⟩|⟨_,h⟩|⟨_,h⟩)
    ·exact .inl (.inl h)
    ·exact absurd rfl q
    ·exact .inl (.inr h)
    ·exact absurd rfl q
    ·exact .inr (.inl h)
    ·exact .inr (.inr h)
 have h2:e∈(bs t).flatMap (A2 t f)++V2.flatMap (A3 t f)↔∃w∈A6,UX t w/\e∈qW t.m1 f w:=by
  unfold UX;show e∈(if t.fg.isEmpty=c_ then [qN]else [qN,mW]).flatMap (A2 t f)++V2.flatMap (A3 t f)↔_;cases t.fg.isEmpty
  ·show e∈(A2 t f qN++(A2 t f mW++[]))++(qW t.m1 f (109,tj,tj)++(qW t.m1 f (101,tj,i9)++[]))↔_;simp only[A6,A2,aE,au,bf,or_false,exists_eq_or_imp,exists_eq_left,bM,false_implies,true_and];constructor
   ·rintro(((h|h)|(h|h))|(h|h))
    ·exact .inl h
    ·exact .inr (.inr (.inl h))
    ·exact .inr (.inl h)
    ·exact .inr (.inr (.inr (.inl h)))
    ·exact .inr (.inr (.inr (.inr (.inl h))))
    ·exact .inr (.inr (.inr (.inr (.inr h))))
   ·rintro(h|h|h|h|h|h)
    ·exact .inl (.inl (.inl h))
    ·exact .inl (.inr (.inl h))
    ·exact .inl (.inl (.inr h))
    ·exact .inl (.inr (.inr h))
    ·exact .inr (.inl h)
    ·exact .inr (.inr h)
  ·show e∈(A2 t f qN++[])++(qW t.m1 f (109,tj,tj)++(qW t.m1 f (101,tj,i9)++[]))↔_;simp only[A6,A2,aE,au,bf,or_false,exists_eq_or_imp,exists_eq_left,true_implies];constructor
   ·rintro((h|h)|(h|h))
    ·exact .inl ⟨ol,h⟩
    ·exact .inr (.inr (.inl ⟨ol,h⟩))
    ·exact .inr (.inr (.inr (.inr (.inl ⟨al,h⟩))))
    ·exact .inr (.inr (.inr (.inr (.inr ⟨al,h⟩))))
   ·rintro(⟨_,h⟩|⟨q,h⟩|⟨_,h⟩|⟨q,h⟩|⟨_,h⟩|⟨_,h⟩)
    ·exact .inl (.inl h)
    ·exact absurd rfl q
    ·exact .inl (.inr h)
    ·exact absurd rfl q
    ·exact .inr (.inl h)
    ·exact .inr (.inr h)
 rw[aE,h1];cases t.m1.isEmpty
 ·exact or_congr LN (h2.trans ⟨λh=>⟨rfl,h⟩,λh=>h.2⟩)
 ·exact or_congr LN ⟨(λh=>nomatch h),(λh=>nomatch h.1)⟩
def GQ:e∈s3 t↔e∈t.fs.flatMap (qv t):=by
 rw[JS,EE,fD];constructor
 ·rintro⟨⟨f,hf,h⟩,q⟩;refine⟨f,hf,EG.mpr ?_⟩
  rcases h with⟨w,c,h⟩|⟨d,w,c,h⟩
  ·exact .inl ⟨w,c,λz=>Pu h▸q z,h⟩
  ·exact .inr ⟨d,w,c,λz=>Pw h▸q z,h⟩
 ·rintro⟨f,hf,h⟩
  rcases EG.mp h with⟨w,c,q,h⟩|⟨d,w,c,q,h⟩
  ·exact⟨⟨f,hf,.inl ⟨w,c,h⟩⟩,λz=>by rw[Pu h];exact q z⟩
  ·exact⟨⟨f,hf,.inr ⟨d,w,c,h⟩⟩,λz=>by rw[Pw h];exact q z⟩
def Ot(hf:t.fg.length<=10):AX t=(aK t.fg.length).map λk=>(48+k,t.fg.getD k 0):=by
 refine iX (by rw[aw,aW];rw[vv];exact Nat.min_eq_right hf) λi h1 h2=>?_;rw[aw,aW]at h2;have q:=(aN.mp (DN (ab h2 hf)).2).2;rw[List.getElem_zip,q];simp[h2]
def JT(hf:t.fg.length<=10):e∈LE t↔e∈got t:=by
 have hd:(AX t).flatMap (pF t)=(aK t.fg.length).flatMap (dg t):=by rw[Ot hf,List.flatMap_map]
 show e∈Hr++(aK t.fg.length).flatMap (dg t)++(if t.fg.isEmpty=c_ then []else [(n8,[],t.m3,mW)])++t.fs.flatMap (qv t)↔e∈s3 t++Hr++(if t.fg.isEmpty=c_ then []else(n8,[],t.m3,mW)::(AX t).flatMap (pF t))
 rw[hd];simp only[aE,<-GQ];cases q:t.fg.isEmpty
 ·simp only[bM,if_false,au,bf,or_false];constructor
  ·rintro(((h|h)|h)|h)
   ·exact .inl (.inr h)
   ·exact .inr (.inr h)
   ·exact .inr (.inl h)
   ·exact .inl (.inl h)
  ·rintro((h|h)|h|h)
   ·exact .inr h
   ·exact .inl (.inl (.inl h))
   ·exact .inl (.inr h)
   ·exact .inl (.inl (.inr h))
 ·have z:t.fg.length=0:=by rw[iW.mp q];rfl
  rw[z];simp only[if_true,bf,or_false,List.range_zero,gG];exact or_comm
end K30E
namespace K30E
open PySem L2 M K30
def AG:LV (c::r)=(c - 32)::r:=by
 have h:cY (T (c::r)) (a_ 1) b_=T r:=by
  refine(xV (p:=1) (by simp) (ao _) ?_).trans (by simp);have e:max (0:Int) (min ((c::r).length) ((c::r).length))=((c::r).length):=by omega
  simp only[Builtin.Str.strSliceIndices,show((1) > 0)=True by simp,if_true];rw[if_neg (show¬(((c::r).length):Int)<0 from(λz=>(uc z (jU _)))),e];rfl
 unfold LV;rw[h,FH];rfl
def W6B:(W6.all λw=>decide (w.2.1∈j1) && decide (w.2.2∈j1))=c_:=by decide +kernel
def A6B:(A6.all λw=>decide (w.2.1∈j1) && decide (w.2.2∈j1))=c_:=by decide +kernel
def Wh(e:Ed):Prop:=e.1∈j1/\e.2.2.2∈j1/\e.2.1.length<=6/\(e.2.1=[]->e.1=n8/\e.2.2.2=mW)
def pK(h1:e.1∈j1)(h2:e.2.2.2∈j1)(h3:e.2.1.length<=6)(c:e.2.1≠[]):Wh e:=⟨h1,h2,h3,λh=>absurd h c⟩
def Kv(ht:CC t):∀e∈got t,Wh e:=λe d=>by
 rcases aE.mp d with d|d
 ·rcases aE.mp d with d|d
  ·obtain⟨f,hf,h⟩:=EE.mp (JS.mp d).1;have go:=ht.ho f hf
   obtain⟨c,r,k⟩:∃c r,f.1=c::r:=by
    cases q:f.1 with
    |nil=>exact absurd q go.ne
    |cons c r=>exact⟨c,r,rfl⟩
   have ll:=go.ll
   rcases h with⟨w,l,h⟩|⟨_,w,l,h⟩
   ·have g:=br.mp W6B w l;rw[aj,decide_eq_true_eq,decide_eq_true_eq]at g
    have j:∀e∈E8 f w,e=(w.2.1,f.1,f.2.1,w.2.2):=λe h=>by
     unfold E8 at h;split at h
     ·exact aL.mp h
     ·cases h
    rcases aE.mp h with h|h
    ·rw[j e h];exact pK g.1 g.2 ll go.ne
    ·split at h
     ·cases h
     ·obtain⟨y,v,rfl⟩:=bQ.mp h;rw[j y v];refine pK g.1 g.2 ?_ ?_
      ·show(LV f.1).length<=6;rw[k,AG];rw[k]at ll;exact ll
      ·show LV f.1≠[];rw[k,AG];simp
   ·have g:=br.mp A6B w l;rw[aj,decide_eq_true_eq,decide_eq_true_eq]at g;unfold qW at h;split at h
    ·rw[aL.mp h];refine pK g.1 g.2 ?_ ?_
     ·rw[aw];exact ll
     ·rw[k];simp
    ·cases h
  ·have g:(Hr.all λe=>decide (e.1∈j1) && (decide (e.2.2.2∈j1) && (decide (e.2.1.length<=6) && decide (e.2.1≠[]))))=c_:=by decide +kernel
   have:=br.mp g e d;simp only[aj,decide_eq_true_eq]at this;exact pK this.1 this.2.1 this.2.2.1 this.2.2.2
 ·have d:e∈(if t.fg.isEmpty=c_ then []else(n8,[],t.m3,mW)::(AX t).flatMap (pF t)):=d;split at d
  ·cases d
  ·rcases au.mp d with rfl|d
   ·exact⟨by show n8∈j1;decide,by show mW∈j1;decide,aP _,λ_=>⟨rfl,rfl⟩⟩
   ·obtain⟨p,_,h⟩:=fD.mp d;simp only[pF,au,bf,or_false]at h
    rcases h with rfl|rfl|rfl
    ·exact pK (by show qN∈j1;decide) (by show n8∈j1;decide) (by simp) (by simp)
    ·exact pK (by show i9∈j1;decide) (by show n8∈j1;decide) (by simp) (by simp)
    ·exact pK (by show n8∈j1;decide) (by show n8∈j1;decide) (by simp) (by simp)
def E4(ht:CC t):(got t).length<=300:=by
 have h1:=IM ht.hl;have h2:=Jb t;rw[ag,ag];show _+3+_<=_;omega
def KW(ht:CC t):∃E:List Ed,Gi (got t)=E.map dR/\gE E/\∀e,e∈E↔e∈got t:=by
 obtain⟨E,h1,_,h3,d⟩:=Q0 (got t);have ok:=λe c=>Kv ht e ((h3 e).mp c);exact⟨E,h1,⟨λe c=>(ok e c).1,λe c=>(ok e c).2.1,λe c=>ab (ok e c).2.2.1 (by decide),λe c=>(ok e c).2.2.2,ab d (E4 ht)⟩,h3⟩
def RD{E:List Ed}(ht:CC t)(d:Gi (got t)=E.map dR)(g:gE E)(j:∀c∈x,c∈raw t)(hl:x.length<=1000):Cn D (n+5) 15 [tb t,sT x]=a_ (m9 E x,c_):=
 Cp g hl (GB ht j hl) (RK (by rw[GA ht (E4 ht),d]) g.l g.b)
def fo:Option Nat->List Nat->Option Nat
 |none,l=>qo l
 |some a,l=>a_ (GP a l)
theorem yj:∀(l:List Nat)(a c:Nat),GP a (l++[c])=if c<GP a l then c else GP a l
 |[],a,c=>rfl
 |b::l,a,c=>yj l (if b<a then b else a) c
def Oq(o:Option Nat)(l:List Nat)(c:Nat):fo o (l++[c])=a_ (match fo o l with|none=>c|some a=>if c<a then c else a):=by
 cases o with
 |some a=>exact congrArg a_ (yj l a c)
 |none=>
   cases l with
   |nil=>rfl
   |cons b l=>exact congrArg a_ (yj l b c)
variable{E F:List Ed}{x:List Nat}{p:Nat}{s:bc}
abbrev rE(E:List Ed)(x:List Nat)(p:Nat)(e:Ed):Option Nat:=lJ E x (p+e.2.1.length) e.2.2.2
abbrev CS(E:List Ed)(x:List Nat)(p:Nat)(s:bc)(F:List Ed):List Nat:=Ft F x p s (rE E x p)
def W7(h:(e.1 == s && pre x p e)=d_)(us:List Ed):CS E x p s (us++[e])=CS E x p s us:=by
 show(((us++[e]).filter λe=>e.1 == s).filter (pre x p)).filterMap _=_;rw[g8,g8,BX]
 have:([e].filter λe=>e.1 == s).filter (pre x p)=[]:=by
  cases q:e.1 == s
  ·rw[nP (by rw[q];decide)];rfl
  ·rw[q]at h;have h:pre x p e=d_:=h;rw[jt (p:=λe:Ed=>e.1 == s) q,nP (by rw[h];decide)];rfl
 rw[this,qV,az]
def W5(h:(e.1 == s && pre x p e)=c_)(us:List Ed):CS E x p s (us++[e])=CS E x p s us++[e].filterMap λe=>(rE E x p e).map λk=>e.2.2.1.length+k:=by
 rw[aj]at h;show(((us++[e]).filter λe=>e.1 == s).filter (pre x p)).filterMap _=_;rw[g8,g8,BX,jt (p:=λe:Ed=>e.1 == s) h.1,vy,jt h.2,vy]
def WD:(j1.all λs=>decide (((aK 6).filter λi=>pk (ic .index (.lst (j1.map Dat.str)) [.str s]) (a_ (.int (i:Nat),d_)) && decide (j1[i]?=a_ s))≠[]))=c_:=by kernel_rfl
def Kk(hs:s∈j1):∃i:Nat,ic .index (.lst (j1.map Dat.str)) [.str s]=a_ (.int (i:Nat),d_)/\j1[i]?=a_ s:=by
 have h:=of_decide_eq_true (br.mp WD s hs);obtain⟨i,hi⟩:=List.exists_mem_of_ne_nil _ h;have:=(dF.mp hi).2;rw[aj]at this;exact⟨i,mL this.1,of_decide_eq_true this.2⟩
def Wx:List Sx:=[(.set 8 (.bin .add (.v 3) (.blt .len [(.ix (.v 7) (.e_ 1))]))),(.ifs (.and (.cmp .eq (.ix (.v 7) (.e_ 0)) (.v 4)) (.cmp .eq (.sl (.v 1) (a_ (.v 3)) (a_ (.v 8))) (.ix (.v 7) (.e_ 1)))) [(.set 9 (.ix (.ix (.v 2) (.v 8)) (.gp .index (.v 5) [(.ix (.v 7) (.e_ 3))]))),(.ifs (.and (.cmp .nisn (.v 9) (.con .non)) (.or (.cmp .isn (.v 6) (.con .non)) (.cmp .lt (.bin .add (.blt .len [(.ix (.v 7) (.e_ 2))]) (.v 9)) (.v 6)))) [(.set 6 (.bin .add (.blt .len [(.ix (.v 7) (.e_ 2))]) (.v 9)))] [])] [])]
abbrev yX(F E:List Ed)(x:List Nat)(p:Nat)(s:bc)(o:Option Nat)(c d g:g_):dv:=[a_ (.lst (F.map dR),d_),a_ (sT x,d_),a_ (m9 E x,d_),a_ (.int (p:Nat),d_),a_ (.str s,d_),a_ (.lst (j1.map Dat.str),c_),a_ (vD o,d_),c,d,g]
def Ip(h:p<=x.length):vT (m9 E x) (.int (p:Nat))=a_ (nY (lJ E x p)):=by
 exact j6 (by rw[aM,p3 (bD h)];rfl)
def IV(h:j1[i]?=a_ s):vT (nY g) (.int (i:Nat))=a_ (vD (g s)):=by
 exact j6 (by rw[aM,h];rfl)
def RX(e:Ed):decide ((x.drop p).take e.2.1.length=e.2.1)=pre x p e:=decide_eq_decide.mpr ⟨λh=>nN.mpr h.symm,λh=>(nN.mp h).symm⟩
def QI(W:x.length<=1000)(hp:p<=x.length)(L:Wh e):∃ρ1,gH c_ [7] (dR e) (yX F E x p s (fo o (CS E x p s us)) M R g)=a_ ρ1/\Go C Wx ρ1 λq=>∃j,q=.nx j/\∃M R g,j=yX F E x p s (fo o (CS E x p s (us++[e]))) M R g:=by
 refine⟨_,rfl,?_⟩;have hl:=L.2.2.1;have B:fQ .len [sT e.2.1]=a_ (.int (e.2.1.length:Nat),d_):=len_T (ab hl (by decide));have l:((p:Int)+((e.2.1.length:Nat):Int))=((p+e.2.1.length:Nat):Int):=by rfl
 unfold Wx;refine fx (iU (kF rfl (nF rfl B) (by rw[nH,l])) rfl) ?_;generalize D:fo o (CS E x p s us)=O;show Go C _ (yX F E x p s O (a_ (dR e,d_)) (a_ (.int ((p+e.2.1.length:Nat):Int),d_)) g) _;have Y:bu C (.cmp .eq (.ix (.v 7) (.e_ 0)) (.v 4)) (full (yX F E x p s O (a_ (dR e,d_)) (a_ (.int ((p+e.2.1.length:Nat):Int),d_)) g))=a_ (.bl (e.1 == s),d_):=iQ rfl rfl WY
 have Z:bu C (.cmp .eq (.sl (.v 1) (a_ (.v 3)) (a_ (.v 8))) (.ix (.v 7) (.e_ 1))) (full (yX F E x p s O (a_ (dR e,d_)) (a_ (.int ((p+e.2.1.length:Nat):Int),d_)) g))=a_ (.bl (pre x p e),d_):=by
  refine iQ (x':=sT ((x.drop p).take e.2.1.length)) (f:=d_) ?_ rfl ?_
  ·show(if(T x).length<=ax then a_ (Dat.str (cY (T x) (a_ (p:Int)) (a_ ((p+e.2.1.length:Nat):Int))),d_)else b_)=_;rw[if_pos (by rw[qM,gD];exact ab W (by decide)),IH hp (bb _ _),cP]
  ·rw[Zi,RX]
 have a3:bu C (.and (.cmp .eq (.ix (.v 7) (.e_ 0)) (.v 4)) (.cmp .eq (.sl (.v 1) (a_ (.v 3)) (a_ (.v 8))) (.ix (.v 7) (.e_ 1)))) (full (yX F E x p s O (a_ (dR e,d_)) (a_ (.int ((p+e.2.1.length:Nat):Int),d_)) g))=a_ (.bl (e.1 == s && pre x p e),d_):=by
  rw[jy Y,Z];cases e.1 == s<;>rfl
 refine jc (J:=λρ=>∃g,ρ=yX F E x p s (fo o (CS E x p s (us++[e]))) (a_ (dR e,d_)) (a_ (.int ((p+e.2.1.length:Nat):Int),d_)) g) a3 (λq=>?_) (λq=>bK ⟨_,rfl,g,by rw[W7 q,D]⟩) λρ' h=>bK ⟨_,rfl,by obtain⟨z,h⟩:=h;exact⟨_,_,z,h⟩⟩;have q2:pre x p e=c_:=(aj _ _▸q).2;have hlen:=(of_decide_eq_true q2).length_le;rw[dP]at hlen;obtain⟨i,i1,i2⟩:=Kk L.2.1;rw[W5 q us];refine fx (iU (LU (LU rfl rfl (Ip (by omega))) (N0 rfl rfl i1) (IV i2)) (G7 _)) ?_;show Go C _ (yX F E x p s O (a_ (dR e,d_)) (a_ (.int ((p+e.2.1.length:Nat):Int),d_)) (a_ (vD (rE E x p e),d_))) _
 cases U:rE E x p e with
 |none=>
   refine px (f:=d_) ?_ (bK ⟨_,rfl,_,by rw[List.filterMap_cons_none (by rw[U];rfl),qV,az,D]⟩);exact jy (x:=d_) rfl
 |some k=>
   have e1:bu C (.bin .add (.blt .len [.ix (.v 7) (.e_ 2)]) (.v 9)) (full (yX F E x p s O (a_ (dR e,d_)) (a_ (.int ((p+e.2.1.length:Nat):Int),d_)) (a_ (vD (a_ k),d_))))=a_ (.int ((e.2.2.1.length+k:Nat):Int),d_):=kF (y:=.int (k:Nat)) (nF rfl (rV _)) rfl (by rw[nH,show((e.2.2.1.length:Nat):Int)+((k:Nat):Int)=((e.2.2.1.length+k:Nat):Int) by rfl]);rw[List.filterMap_cons_some (b:=e.2.2.1.length+k) (by rw[U];rfl),qV,Oq,D];have b1:∀{w:Ex},bu C (.and (.cmp .nisn (.v 9) (.con .non)) w) (full (yX F E x p s O (a_ (dR e,d_)) (a_ (.int ((p+e.2.1.length:Nat):Int),d_)) (a_ (vD (a_ k),d_))))=bu C w (full (yX F E x p s O (a_ (dR e,d_)) (a_ (.int ((p+e.2.1.length:Nat):Int),d_)) (a_ (vD (a_ k),d_)))):=λ{w}=>jy (x:=c_) rfl;generalize e.2.2.1.length+k=c at e1 ⊢
   cases O with
   |none=>
     refine jc (J:=λρ=>∃g,ρ=yX F E x p s (a_ c) (a_ (dR e,d_)) (a_ (.int ((p+e.2.1.length:Nat):Int),d_)) g) (b:=c_) (f:=d_) ?_ (λ_=>fx (iU (d:=.int (c:Nat)) e1 rfl) (bK ⟨_,rfl,_,rfl⟩)) (λz=>nomatch z) λρ' h=>bK ⟨_,rfl,h⟩;rw[b1];exact se (x:=c_) rfl
   |some a=>
     refine jc (J:=λρ=>∃g,ρ=yX F E x p s (a_ (if c<a then c else a)) (a_ (dR e,d_)) (a_ (.int ((p+e.2.1.length:Nat):Int),d_)) g) (b:=decide (c<a)) (f:=d_) ?_ (λz=>?_) (λz=>?_) λρ' h=>bK ⟨_,rfl,h⟩
     ·rw[b1,se rfl];refine iQ e1 rfl ?_;show a_ (decide ((c:Int)<(a:Int)))=_;rw[decide_eq_decide.mpr (show(c:Int)<(a:Int)↔c<a by simp)]
     ·rw[if_pos (of_decide_eq_true z)];exact fx (iU e1 rfl) (bK ⟨_,rfl,_,rfl⟩)
     ·rw[if_neg (of_decide_eq_false z)];exact bK ⟨_,rfl,_,rfl⟩
def M5(g:gE E)(M:∀e,e∈F↔e∈E)(ok:∀e∈F,Wh e)(O:x.length<=1000)(hp:p<=x.length)(hs:s∈j1):Cn D (n+1) 30 [.lst (F.map dR),sT x,m9 E x,.int (p:Nat),.str s]=a_ (vD (lJ E x p s),d_):=by
 have d:lJ E x p s=fo (if p=x.length/\s∈yW then a_ 0 else b_) (CS E x p s F):=by
  rw[Cv g hp];split
  ·obtain⟨h1,h2⟩:=CF (CS E x p s F) 0;have:=h2 0 jE;exact congrArg a_ (bI (aP _) this)
  ·refine CG λk=>?_
   have c:∀l:List Ed,k∈CS E x p s l↔∃e∈l,(e.1 == s)=c_/\pre x p e=c_/\(rE E x p e).map (λk=>e.2.2.1.length+k)=a_ k:=λl=>by
    rw[lQ];constructor
    ·rintro⟨e,he,h⟩;obtain⟨h1,h2⟩:=dF.mp he;obtain⟨h3,R⟩:=dF.mp h1;exact⟨e,h3,R,h2,h⟩
    ·rintro⟨e,h1,h2,h3,h⟩;exact⟨e,dF.mpr ⟨dF.mpr ⟨h1,h2⟩,h3⟩,h⟩
   rw[c,c];exact⟨λ⟨e,h,r⟩=>⟨e,(M e).mpr h,r⟩,λ⟨e,h,r⟩=>⟨e,(M e).mp h,r⟩⟩
 suffices h:Go (Cn D n) Z4 [a_ (.lst (F.map dR),d_),a_ (sT x,d_),a_ (m9 E x,d_),a_ (.int (p),d_),a_ (.str s,d_),b_,b_,b_,b_,b_] λo=>o=.rt (vD (lJ E x p s)) d_ by
  obtain⟨_,h1,rfl⟩:=h;exact fA rfl h1
 generalize Cn D n=C;rw[d];have j :=len_T (ab O (by decide));refine eZ rfl (fx (iU rfl rfl) ?_);show Go C _ (yX F E x p s b_ b_ b_ b_) _
 have U:bu C (.cmp .eq (.v 3) (.blt .len [.v 1])) (full (yX F E x p s b_ b_ b_ b_))=a_ (.bl (decide (p=x.length)),d_):=iQ rfl (nF rfl j) (by
  show a_ (decide ((p:Int)=(x.length)))=_
  rw[decide_eq_decide.mpr (show(p:Int)=(x.length)↔p=x.length by omega)])
 have y:(j1.all λs=>decide (gJ .isin (.str s) (.lst (yW.map Dat.str))=a_ (decide (s∈yW))))=c_:=by decide +kernel
 have W:bu C (.cmp .isin (.v 4) (.lst [.con (.str qN),.con (.str i9),.con (.str n8)])) (full (yX F E x p s b_ b_ b_ b_))=a_ (.bl (decide (s∈yW)),d_):=iQ rfl rfl (of_decide_eq_true (br.mp y s hs))
 have Y:bu C (.and (.cmp .eq (.v 3) (.blt .len [.v 1])) (.cmp .isin (.v 4) (.lst [.con (.str qN),.con (.str i9),.con (.str n8)]))) (full (yX F E x p s b_ b_ b_ b_))=a_ (.bl (decide (p=x.length/\s∈yW)),d_):=by
  rw[jy U,W];by_cases q:p=x.length
  ·rw[decide_eq_true q,if_pos rfl,decide_eq_decide.mpr (show s∈yW↔p=x.length/\s∈yW from⟨λh=>⟨q,h⟩,λh=>h.2⟩)]
  ·rw[decide_eq_false q,decide_eq_false (show¬(p=x.length/\s∈yW)from λh=>q h.1)];rfl
 refine jc (J:=λρ=>ρ=yX F E x p s (if p=x.length/\s∈yW then a_ 0 else b_) b_ b_ b_) Y (λq=>fx (iU rfl rfl) (bK ⟨_,rfl,by rw[if_pos (of_decide_eq_true q)];rfl⟩)) (λq=>bK ⟨_,rfl,by rw[if_neg (of_decide_eq_false q)]⟩) ?_;rintro _ rfl;generalize (if p=x.length/\s∈yW then a_ 0 else b_)=o;refine lg (I:=λus ρ=>∃z B L,ρ=yX F E x p s (fo o (CS E x p s us)) z B L) (by rfl) ⟨b_,b_,b_,by cases o<;>rfl⟩ ?_ ?_
 ·rintro us e vs _ Z ⟨z,B,L,rfl⟩;exact QI O hp (ok e (by rw[Z];simp))
 ·rintro _ ⟨z,B,L,rfl⟩;exact⟨_,rfl,rfl⟩
end K30E
namespace K30E
open PySem L2 M K30
variable{E F:List Ed}{x:List Nat}
def YZ:List Sx:=[(.ifs (.or (.not (.blt (.isi .list) [(.v 2)])) (.cmp .ne (.blt .len [(.v 2)]) (.e_ 6))) [(.ret (.con (.bl d_)))] []),(.loop c_ [3] (.itv (.v 2)) [(.ifs (.and (.cmp .nisn (.v 3) (.con .non)) (.not (.call 18 [(.v 3)]))) [(.ret (.con (.bl d_)))] [])])]
abbrev Mr(E:List Ed)(x:List Nat)(q:Nat):Dat:=nY (lJ E x q)
def Gs:Cn D (n+1) 18 [.int (k:Nat)]=a_ (.bl c_,d_):=fA rfl (x5 rfl)
def Yr{A:List g_}(d:∀k:Nat,C 18 [.int (k:Nat)]=a_ (.bl c_,d_)):Go C YZ [a_ (a,d_),a_ (b,d_),a_ (nY g,d_),z] λo=>∃ρ,o=.nx ρ/\∃j c,ρ=[a_ (a,d_),a_ (b,d_),j,c]:=by
 refine px (f:=d_) ?_ ?_
 ·rw[se rfl];exact iQ rfl rfl rfl
 ·refine lg (I:=λ_ ρ=>∃c,ρ=[a_ (a,d_),a_ (b,d_),a_ (nY g,d_),c]) (by rfl) ⟨z,rfl⟩ ?_ λρ ⟨c,h⟩=>by rw[h];exact bK ⟨_,rfl,_,_,rfl⟩
  rintro us s vs _ _ ⟨c,rfl⟩;refine⟨_,rfl,?_⟩
  cases g s with
  |none=>exact px (jy (x:=d_) rfl) (bK ⟨_,rfl,_,rfl⟩)
  |some k=>
    refine px (f:=d_) ?_ (bK ⟨_,rfl,_,rfl⟩);have e:bu C (.call 18 [.v 3]) (full [a_ (a,d_),a_ (b,d_),a_ (nY g,d_),a_ (vD (a_ k),d_)])=a_ (.bl c_,d_):=d k;show bh (bu C (.call 18 [.v 3]) (full [a_ (a,d_),a_ (b,d_),a_ (nY g,d_),a_ (vD (a_ k),d_)])) _=_;rw[e];rfl
def RI(l:x.length<=1000):Cn D (n+2) 29 [m9 E x,.int (x.length:Nat)]=a_ (.bl c_,d_):=by
 have j:∀k:Nat,Cn D (n+1) 18 [.int (k)]=a_ (.bl c_,d_):=λk=>Gs
 suffices h:Go (Cn D (n+1)) Z5 [a_ (m9 E x,d_),a_ (.int (x.length),d_),b_,b_] λo=>o=.rt (.bl c_) d_ by
  obtain⟨_,h1,rfl⟩:=h;exact fA rfl h1
 have c:fQ .len [m9 E x]=a_ (.int ((x.length+1:Nat)),d_):=by rw[lu,aw,aW]
 refine px (f:=d_) ?_ ?_
 ·rw[se rfl];refine iQ (nF rfl c) rfl ?_;show a_ (!decide (((x.length+1):Int)=(x.length)+1))=_;rw[decide_eq_true (by rfl)];rfl
 ·refine lg (I:=λ_ ρ=>∃d g,ρ=[a_ (m9 E x,d_),a_ (.int (x.length),d_),d,g]) (by rfl) ⟨b_,b_,rfl⟩ ?_ λρ ⟨d,g,h⟩=>by exact kE rfl rfl
  rintro us q vs _ _ ⟨d,g,rfl⟩;exact⟨_,rfl,Yr (A:=[]) j⟩
def YY:List Sx:=[(.loop c_ [8] (.rng [(.e_ 6)]) [(.ifs (.cmp .ne (.ix (.ix (.v 5) (.v 7)) (.v 8)) (.call 30 [(.v 2),(.v 4),(.v 5),(.v 7),(.ix (.v 6) (.v 8))])) [(.ret (.con (.bl d_)))] [])])]
def Vh(o:Option Nat):gJ .ne (vD o) (vD o)=a_ d_:=by
 cases o with
 |none=>rfl
 |some k=>
   show a_ (!decide ((k:Int)=(k:Int)))=_;rw[decide_eq_true rfl];rfl
abbrev kept(E:List Ed)(x:List Nat):List Dat:=(aK (x.length+1)).map (Mr E x)
def OC(h1:bu C a ρ=a_ (m9 E x,f))(h2:bu C b ρ=a_ (.lst (kept E x),g)):bu C (.cmp .eq a b) ρ=a_ (.bl c_,d_):=by
 refine iQ h1 h2 ?_
 have d:∀l:List (Option Nat),eA 18 (l.map vD)=c_:=λl=>by
  induction l with
  |nil=>rfl
  |cons o r c=>rw[aq,eA,c];cases o<;>rfl
 have nd:∀l:List (Option Nat),hZ (l.map vD)=c_:=λl=>by
  induction l with
  |nil=>rfl
  |cons o r c=>rw[aq,hZ,c];cases o<;>rfl
 have hs:∀l:List Nat,eA 19 (l.map (Mr E x))=c_:=λl=>by
  induction l with
  |nil=>rfl
  |cons q r c=>
    rw[aq,eA,c,eO];have:=d (j1.map (lJ E x q));exact this
 have j:∀l:List Nat,hZ (l.map (Mr E x))=c_:=λl=>by
  induction l with
  |nil=>rfl
  |cons q r c=>
    rw[aq,hZ,c,eO];have:=nd (j1.map (lJ E x q));exact this
 rw[Zh (hs _) (hs _),oR _ (j _)]
def K6(g:Row):fQ .list [nY g]=a_ (nY g,c_):=by
 show a_ (nY g,jF (j1.map λs=>vD (g s)))=_
 have:∀l:List bc,jF (l.map λs=>vD (g s))=c_:=λl=>by
  induction l with
  |nil=>rfl
  |cons a r c=>rw[aq,jF,G7,c];rfl
 rw[this]
theorem K7:∀l:List Nat,qp (oF C 1 c_ [b_] [] (.blt .list [.v 0])) (l.map (Mr E x))=a_ (l.map (Mr E x),c_)
 |[]=>rfl
 |q::l=>by
   have c:=K7 (C:=C) l;have e:bu C (.blt .list [.v 0]) [a_ (Mr E x q)]=a_ (Mr E x q,c_):=nF rfl (K6 _);show bh (j5 a_ (bu C (.blt .list [.v 0]) [a_ (Mr E x q)])) _=_;rw[e,c];rfl
abbrev Qv(N:Dat)(t:Tb)(F E:List Ed)(x:List Nat)(c d g:g_):dv:=[a_ (N,d_),a_ (tb t,d_),a_ (.lst (F.map dR),c_),a_ (.int (x.length:Nat),d_),a_ (sT x,d_),a_ (m9 E x,c_),a_ (.lst (j1.map Dat.str),c_),c,d,g]
def Ur(hl:x.length<=900)(l:C 15 [tb t,sT x]=a_ (m9 E x,c_))(y:C 29 [m9 E x,.int (x.length:Nat)]=a_ (.bl c_,d_))
  (z:∀(q:Nat)(s:bc),q<=x.length->s∈j1->C 30 [.lst (F.map dR),sT x,m9 E x,.int (q:Nat),.str s]=a_ (vD (lJ E x q s),d_)) :
  Go C [.ifs (.not (.call 29 [.v 5,.v 3])) [.ret (.con (.bl d_))] [],.set 6 (.lst [.con (.str qN),.con (.str p5),.con (.str i9),.con (.str n8),.con (.str mW),.con (.str tj)]),.loop c_ [7] (.rng [.bin .add (.v 3) (.e_ 1)]) YY,.set 9 (.comp 1 c_ [] (.itv (.v 5)) [] (.blt .list [.v 0])),.U2 5 (.e_ 0) (.e_ 1),.mut .app 5 [.lst []],.ret (.cmp .eq (.call 15 [.v 1,.v 4]) (.v 9))]
   [a_ (N,d_),a_ (tb t,d_),a_ (.lst (F.map dR),c_),a_ (.int (x.length:Nat),d_),a_ (sT x,d_),a_ (m9 E x,c_),b_,b_,b_,b_] λo=>o=.rt (.bl c_) d_:=by
 refine px (f:=d_) ?_ (eZ rfl ?_)
 ·have e:bu C (.call 29 [.v 5,.v 3]) (full [a_ (N,d_),a_ (tb t,d_),a_ (.lst (F.map dR),c_),a_ (.int (x.length),d_),a_ (sT x,d_),a_ (m9 E x,c_),b_,b_,b_,b_])=a_ (.bl c_,d_):=y;show bh (bu C (.call 29 [.v 5,.v 3]) (full [a_ (N,d_),a_ (tb t,d_),a_ (.lst (F.map dR),c_),a_ (.int (x.length),d_),a_ (sT x,d_),a_ (m9 E x,c_),b_,b_,b_,b_])) _=_;rw[e];rfl
 refine yw (I:=λ_ ρ=>∃k c,ρ=Qv N t F E x k c b_) (P:=(·= x.length+1)) ⟨x.length+1,d_,kF rfl rfl (by rfl),rfl⟩ (λm h=>(ab (af h) (aB hl (by decide)))) ⟨b_,b_,rfl⟩ ?_ ?_
 ·rintro m rfl us q vs _ B ⟨k,c,rfl⟩;have D:=(ox B).2;refine⟨_,rfl,?_⟩;refine yw (I:=λ_ ρ=>∃c,ρ=Qv N t F E x (a_ (.int (q),d_)) c b_) (P:=(·= 6)) ⟨6,d_,rfl,rfl⟩ (λm h=>(ab (af h) (by decide))) ⟨c,rfl⟩ ?_ λm R ρ ⟨c,h⟩=>by rw[h];exact bK ⟨_,rfl,_,_,rfl⟩
  rintro m rfl us i vs _ B ⟨c,rfl⟩;have hi:=(ox B).2;obtain⟨s,hs⟩:∃s,j1[i]?=a_ s:=⟨_,ae (by exact hi)⟩
  refine⟨_,rfl,?_⟩;show Go C _ (Qv N t F E x (a_ (.int (q),d_)) (a_ (.int (i),d_)) b_) _;refine px (f:=d_) ?_ (bK ⟨_,rfl,_,rfl⟩);refine iQ (g:=d_) (LU (LU rfl rfl (Ip (bF D))) rfl (IV hs)) ?_ (Vh _);have J:bu C (.ix (.v 6) (.v 8)) (full (Qv N t F E x (a_ (.int (q),d_)) (a_ (.int (i),d_)) b_))=a_ (.str s,d_):=LU rfl rfl (by exact j6 (by rw[aM,hs];rfl));rw[qD,di,di,di,di,di,J];exact z q s (by omega) (aR hs)
 ·rintro m rfl _ ⟨k,c,rfl⟩;have L:bu C (.comp 1 c_ [] (.itv (.v 5)) [] (.blt .list [.v 0])) (full (Qv N t F E x k c b_))=a_ (.lst (kept E x),c_):=oT rfl (by simp;exact ab hl (by decide)) (K7 _);refine eZ L ?_
  have h1:zj (kept E x).length (0)=a_ 0:=by
   unfold zj;rw[if_pos (by simp),if_pos (by simp)];rfl
  have h2:(kept E x)[0]?=a_ (Mr E x 0):=by rw[aM,p3 (by simp)];rfl
  obtain⟨d,hd⟩:∃d,nE C (.U2 5 (.e_ 0) (.e_ 1)) (Qv N t F E x k c (a_ (.lst (kept E x),c_)))=a_ (.nx ((Qv N t F E x k c (a_ (.lst (kept E x),c_))).set 5 (a_ (.lst d,c_))))/\d.length<=1001:=by
   refine⟨(kept E x).set 0 (.lst ((j1.map λs=>vD (lJ E x 0 s))++[.int 1])),?_,by simp;exact ab hl (by decide)⟩
   have M:JM .app [.int 1] (.lst (kept E x)) (.int 0)=a_ (.lst ((kept E x).set 0 (.lst ((j1.map λs=>vD (lJ E x 0 s))++[.int 1])))):=by
    show((zj (kept E x).length 0).bind λj=>((kept E x)[j]?).bind λe=>(kj .app e [.int 1]).map λO=>Dat.lst ((kept E x).set j O))=_;rw[h1,bw,h2,bw];rfl
   show(JM .app [.int 1] (.lst (kept E x)) (.int 0)).map (λd'=>Out.nx ((Qv N t F E x k c (a_ (.lst (kept E x),c_))).set 5 (a_ (d',c_))))=_;rw[M];rfl
  refine fx hd.1 (fx (yi rfl rfl (oP (aB hd.2 (by decide)))) ?_);refine kE (OC (f:=c_) ?_ rfl) rfl;exact l
def M3{ns:List Int}:Cn D (n+7) 31 [.lst (ns.map Dat.int)]=a_ (.bl c_,d_):=by
 obtain⟨t,b,l,w⟩:=Gu (ns:=ns);obtain⟨E,U,g,W⟩:=KW w.ok;have ok:∀e∈LE t,Wh e:=λe Y=>Kv w.ok e ((JT w.ok.hf).mp Y);have Z:∀e,e∈LE t↔e∈E:=λe=>(JT w.ok.hf).trans (W e).symm;have y:=RH (n:=n+4) w.ok;have hd:Dw (Cn D (n+6)) (.lst (ns.map Dat.int)):=dw;have z:=λ(m:Nat)(h:m<=100)=>IQ (n:=n+3) (ns:=ns) w.ok h;have j:=λ(x:List Nat)(h1:∀c∈x,c∈raw t)(h2:x.length<=1000)=>RD (n:=n+1) w.ok U g h1 h2;have B:=λ(x:List Nat)(h2:x.length<=1000)=>RI (n:=n+4) (E:=E) h2;have J:=λ(x:List Nat)(h2:x.length<=1000)(q:Nat)(s:bc)(h3:q<=x.length)(L:s∈j1)=>M5 (n:=n+5) g Z ok h2 h3 L
 suffices h:Go (Cn D (n+6)) Z3 [a_ (.lst (ns.map Dat.int),d_),b_,b_,b_,b_,b_,b_,b_,b_,b_] λo=>o=.rt (.bl c_) d_ by
  obtain⟨_,h1,rfl⟩:=h;exact fA rfl h1
 generalize Dat.lst (ns.map Dat.int)=N at *;generalize Cn D (n+6)=C at *;show Go C (.set 1 (.call 24 [.v 0])::.set 2 (.call 26 [.v 1])::.set 3 (.call 17 [_,_,_,_])::.ifs (.cmp .eq (.call 17 [_,_,_,_]) (.e_ 0)) [.set 3 (.bin .add (.e_ 13) (.call 17 [_,_,_,_]))] []::.set 4 (.call 28 [.v 0,.v 1,.v 3])::.set 5 (.call 15 [.v 1,.v 4])::_) _ _
 have M:im (tb t)=c_:=by
  show(jF (t.fs.map iq) && (im (LR t) && (im (tI t.fg) && c_)))=c_;rw[l9,C0,o6];rfl
 refine fx (iU l M) (eZ y ?_);refine u6 (P:=(·<=32)) (gr hd rfl rfl rfl rfl (by decide) (by decide) (by decide) λq h=>by omega) (λv=>sU (P:=λ_=>True) (gr hd rfl rfl rfl rfl (by decide) (by decide) (by decide) λ_ _=>trivial) 0) (λv=>KU 13 (P:=(·< 20)) (gr hd rfl rfl rfl rfl (by decide) (by decide) (by decide) λq h=>by omega) λq h=>by omega) λm d=>?_;obtain⟨x,b',O,R,k⟩:=z m (ab d (by decide));subst R;refine fx (iU O rfl) (eZ (j x k (ab d (by decide))) ?_);exact Ur (ab d (by decide)) (j x k (ab d (by decide))) (B x (ab d (by decide))) λq s h3 L=>J x (ab d (by decide)) q s h3 L
end K30E
namespace K30
open M
def math(ns:List Int)(h:ns.length<=63):∃fr,Cn D 12 31 [.lst (ns.map Dat.int)]=a_ (.bl c_,fr):=⟨d_,K30E.M3⟩
end K30
namespace M
open PySem PySem.Spec PyProof.Rows L2
section
variable{K:Fg}
mutual
noncomputable def Nc(K:Fg):Dat->ah->Bool
 |.str x,.str y _=>decide (x=y)
 |.int i,.int j _=>decide (i=j)
 | .tup ds,.ref p=>match K.lookup p with
   |some ⟨.type c,b_,.seq its _,_⟩=>decide (c="tuple") && decide (its.size<=ax) && IZ K ds its.toList
   |_=>d_
 |_,_=>d_
noncomputable def IZ(K:Fg):List Dat->List ah->Bool
 |[],[]=>c_
 |d::ds,u::us=>Nc K d u && IZ K ds us
 |_,_=>d_
end
set_option tactic.hygienic true
mutual
theorem D7:∀(d:Dat)(u:ah),Nc K d u=c_->∃v,RelV v u/\CV K d v
 |.str x,.str y t,h=>by
   cases of_decide_eq_true h;exact⟨.str x,⟨t,rfl⟩,λ_=>rfl,λ_ z=>nomatch z⟩
 |.int i,.int j t,h=>by
   cases of_decide_eq_true h;exact⟨.int i,⟨t,rfl⟩,λ_=>rfl,λ_ z=>nomatch z⟩
 |.tup ds,.ref p,h=>by
   unfold Nc at h;split at h
   ·rename_i c its n l g;obtain⟨h,h3⟩:=iT.mp h;obtain⟨h1,h2⟩:=iT.mp h;cases of_decide_eq_true h1;obtain⟨vs,r,q⟩:=zT ds its.toList h3;exact⟨.ref p,rfl,λF=>⟨p,vs,rfl,.inr ⟨_,its,n,g,rfl,rfl,of_decide_eq_true h2,r⟩,q F⟩,λb z=>by cases z;exact⟨_,g,rfl,rfl⟩⟩
   ·cases h
theorem zT:∀(ds:List Dat)(us:List ah),IZ K ds us=c_->∃vs,cF vs us/\∀F,cO K F ds vs
 |[],[],_=>⟨[],.nil,λ_=>rfl⟩
 |d::ds,u::us,h=>by
   obtain⟨h1,h2⟩:=iT.mp h;obtain⟨v,r,q⟩:=D7 d u h1;obtain⟨vs,c,g⟩:=zT ds us h2;exact⟨v::vs,.cons r c,λF=>⟨v,vs,rfl,q.1 F,g F⟩⟩
end
def W9(K:Fg)(p:bc×Dat):Bool:=match mZ K mainGlobals p.1 with
 |some (a_ u)=>Nc K p.2 u
 |_=>d_
theorem Fu(X:K.In h)(G:h.Ns mainGlobals mg):∀{con:List (bc×Dat)},con.all (W9 K)=c_->∀x d,con.lookup x=a_ d->∃v u,mg x=a_ u/\RelV v u/\CV K d v
 |(y,e)::L,h,x,d,q=>by
   obtain⟨h1,h2⟩:=iT.mp h;rw[fE]at q;split at q
   ·rename_i z;cases q;rw[eq_of_beq z];unfold W9 at h1;split at h1
    ·rename_i u a;obtain⟨v,r,c⟩:=D7 _ _ h1;exact⟨v,u,LD X G a,r,c⟩
    ·cases h1
   ·exact Fu X G h2 x d q
set_option tactic.hygienic false
end
end M
open PySem PySem.W PyProof.Rows
namespace PySem.W.Fast
def tw10429830604582350686:=0
def tw13867590468803868531:=0
def tw939661110241998499:=0
def tw14821316557196063793:=0
def tw5978216857899114244:=0
def tw10532339021869165989:=0
def tw4763909031338408067:=0
def tw1587795259383350713:=0
def tw15442395669131701395:=0
def tw17792324367960691149:=0
def tw5442701335369192184:=0
def tw15777791308659104354:=0
def tw12968222671957178579:=0
def tw14335315768238115964:=0
def tw2472618243634163770:=0
def tw5277376346554172494:=0
def tw6143760697020633804:=0
def tw6497627031534448396:=0
def tw167044276499733644:=0
def tw11295611801889128170:=0
def tw4917260327955889647:=0
def tw14238298609423570436:=0
def tw7549112768721112321:=0
def tw7302838108607175865:=0
def tw2446775752606624994:=0
def tw8823241557432190677:=0
def tw5651588885076557805:=0
def tw7846850614172206617:=0
def tw28562989130403686:=0
def tw5654203952455113179:=0
def tw15691250300649681880:=0
def tw13207787201123900067:=0
def tw10211289525294344979:=0
def tw12236562985635415216:=0
def tw5120174726288836628:=0
def tw1403911407090881611:=0
def tw5154670916592684990:=0
def tw7667743931507283227:=0
def tw7522810151028386734:=0
def tw7555687095770937138:=0
def tw13526552101232578194:=0
def tw81857197106981280:=0
def tw762727120387957483:=0
def tw764244479167694681:=0
def tw581087279131453522:=0
def tw13074245290836910825:=0
def tw13964143807817202517:=0
def tw9412712687777022758:=0
def tw15646823929682567083:=0
def tw16118748455720233733:=0
def tw12097890562610077658:=0
def tw15522210397774153925:=0
def tw13703112028154155260:=0
def tw13379557273958168718:=0
def tw18199166541604164511:=0
def tw17880014715056733542:=0
def tw17345525555741263589:=0
def tw10688170170669933025:=0
def tw3114426562719793714:=0
def tw11994051634849663880:=0
def tw14232282624216555244:=0
def tw13591977246614220467:=0
def tw1202905267739023756:=0
def tw6639347623716855438:=0
def tw7325260713421225188:=0
def tw7012412473719791532:=0
def tw1747587305700853616:=0
def tw11360214461323173477:=0
def tw13152798938803351249:=0
def tw3356091461749561691:=0
def tw6003196335935946202:=0
def tw7204758649091468041:=0
def tw3350334348028611359:=0
def tw8994597622256665142:=0
def tw15576106623447964415:=0
def tw17412331560184136259:=0
def tw3080276284889842491:=0
def tw11999501540065867812:=0
def tw15157842793221218198:=0
def tw5358641891767191056:=0
def tw7605870078274783105:=0
def tw7123514316134755532:=0
def tw2925903369556396477:=0
def tw3716668328937215136:=0
def tw17241029148889359858:=0
def tw8914040865214144200:=0
def tw14101236136877025176:=0
def tw3031984547685547216:=0
def tw14027939273021054942:=0
def tw16446201052354710155:=0
def tw5958415286895880667:=0
def tw12176099206242185173:=0
def tw4906974652073138218:=0
def tw9508189708093299272:=0
def tw4291108638763565706:=0
def tw3073859786578836622:=0
def tw6246657380670303089:=0
def tw17204327470366953781:=0
def tw5897879619253525655:=0
def tw5878911354531251954:=0
def tw15715771546103216318:=0
def tw410627747163209619:=0
def tw6716033026116140487:=0
def tw698608325665669960:=0
def tw7846275908925812522:=0
def tw8809237252742650261:=0
def tw7917764449917436914:=0
def tw16924802036126178207:=0
def tw14021811815438570437:=0
def tw228536268582055628:=0
def tw6622461315127269910:=0
def tw15881777273069494976:=0
def tw17960684313911367585:=0
def tw8397575662337675653:=0
def tw4195057502254751900:=0
def tw3340963520831043345:=0
def tw16191269511097936314:=0
def tw10972322237954337645:=0
def tw317064984133702213:=0
def tw4466045381776063424:=0
def tw6813593337413673665:=0
def tw12077540910616282205:=0
def tw8805567850278047938:=0
def tw7991134320704523327:=0
def tw7362922690246143170:=0
def tw3907641951583595922:=0
def tw14300910677202791124:=0
def tw9079499973894589902:=0
def tw3793816709239509984:=0
def tw17786142423935752623:=0
def tw2498014900394410913:=0
def tw8288569705243356153:=0
def tw16390949635483333107:=0
def tw14766591593575223702:=0
def tw3066362189479138875:=0
def tw17523287027532483872:=0
def tw4462190496460011397:=0
def tw6908441584095159396:=0
def tw11465833208353003168:=0
def tw10866173345288065416:=0
def tw2216417034971243343:=0
def tw14376501070856921061:=0
def tw17512942623807847925:=0
def tw7959358253362030914:=0
def tw10777296211013287749:=0
def tw12264480707463827170:=0
def tw6292157744340115378:=0
def tw10566971938778176969:=0
def tw6804633009875276351:=0
def tw4709702478283455571:=0
def tw17517886215220547828:=0
def tw9066914141023032064:=0
def tw14654268346567131137:=0
def tw2675508897916546695:=0
def tw3444627549145353287:=0
def tw14187916300268465247:=0
def tw12949942106110580900:=0
def tw14530214111722167491:=0
def tw3820794561605366538:=0
def tw1714759697179190924:=0
def tw4110179197335643550:=0
def tw14216706502042522351:=0
def tw6217875427482561137:=0
def tw6280655910163323624:=0
def tw985923676183984478:=0
def tw10981685255072202211:=0
def tw2775710526197935300:=0
def tw11933225172864528838:=0
def tw18327767713424039511:=0
def tw8778746298542796646:=0
def tw9294568100495095279:=0
def tw14825735473682799659:=0
def tw3869049944315369203:=0
def tw7406322040495308358:=0
def tw4854208701398745258:=0
def tw6064907707109413116:=0
def tw12633995764476374158:=0
def tw8216718583533761582:=0
end PySem.W.Fast
set_option maxRecDepth 100000 in
set_option maxHeartbeats 0 in
theorem PySem.Challenge.cw_dots_k30_prices_holds : PySem.Challenge.rw_dots_k30_prices.Holds := by
 w_on;o_law;k_head;(case hw=>w_witness2)
 k_fill
 refine M.walk (l:=m8) (n:=12) (x:="_law_script") rfl ⟨rfl,by decide,by decide⟩ rfl (λw h Y=>PySem.W.kIn_of Y) ?F
 case F=>
  intro w mg fa h KX G hmg
  have Z:∀x∈M.lr,mg x=b_:=by
   refine M.OU KX G ?_
   kernel_rfl
  have T:M.Here (L2.KOf KX) mg K30.D K30.con:=⟨K30.Wg,M.UC KX G (by kernel_rfl) (by kernel_rfl) (λ_ _ _ _ _ _ _=>by kernel_rfl),Z,M.Fu KX G (by kernel_rfl)⟩
  exact M.Td (l:=m8) T (j:=31) rfl rfl hmg K30.math
