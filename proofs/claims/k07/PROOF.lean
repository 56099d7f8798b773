import PyProof.Rows.All
import Wide.All
import OpenK.AllK
import Wide.FinOn
import Lean
import PyProof.EqAt
import PyProof.EqKinds
import PyProof.TupleCall
import PySem.Challenge.RW_dots_k07_lines_refused
set_option tactic.hygienic false
open Option renaming some->a_,none->b_
open Bool renaming true->c_,false->d_
noncomputable section
set_option bootstrap.genMatcherCode false
set_option genInjectivity false
set_option genSizeOf false
open And renaming intro->Mh
open Array renaming getElem?_eq_getElem->a9,length_toList->cu,getElem?_eq_some_iff->dk,getElem?_eq_none->ib,getD_eq_getD_getElem?->lu,forIn_toList->lN,getElem?_toList->n3,append_assoc->FQ,toList_push->Ht
open Bool renaming and_eq_true->af,false_eq_true->bf,and_eq_true_iff->bY,false_ne_true->cJ,or_true->dQ,and_true->eY,not_eq_true'->fj,and_false->fN,not_true->gp,eq_false_iff->ml,or_eq_true->n0,false_and->pk,false_or->qv,and_self->qw,eq_iff_iff->vH,not_false->wy,or_false->zC,true_or->BL,and_assoc->Qc
open Classical renaming propDecidable->lX
open False renaming elim->bB
open ForInStep renaming yield->i7
open Int renaming toNat_natCast->cZ,ofNat_le->dR,lt_of_le_of_lt->dX,le_trans->eJ,natCast_pos->eQ,ofNat_zero_le->fu,ofNat_lt->jb,eq_ofNat_of_zero_le->jN,emod_lt_of_pos->lW,not_le_of_gt->nN,le_of_eq->nZ,emod_nonneg->oH,sub_nonneg_of_le->pL,not_le->xZ,le_add_one->x5,fdiv_eq_ediv_of_nonneg->x6,le_of_lt->BY
open List renaming length_map->ag,map_cons->ah,getElem?_eq_getElem->ao,mem_cons->aq,all_eq_true->aC,mem_append_right->aF,size_toArray->aJ,mem_append->aL,range->aP,mem_singleton->aQ,mem_range->aR,length_cons->aS,not_mem_nil->aX,getElem?_map->aY,mem_append_left->aZ,mem_map->bb,replicate->be,map_map->br,getElem?_eq_some_iff->bx,getElem_mem->bA,append_nil->bJ,cons_append->bV,length_range->bX,set_cons_zero->bZ,length_append->cg,nodup_cons->cv,lookup_cons->cy,getElem?_cons_zero->cz,getElem?_cons_succ->cA,getElem?_set_ne->cD,getElem?_append_left->cG,getElem?_append_right->dn,nil_append->dq,find?_cons->du,all_cons->dv,mem_of_mem_take->dY,mem_of_mem_drop->dZ,any_cons->eF,getD_eq_getElem?_getD->eG,mem_of_getElem?->e8,nodup_append->fh,getElem?_replicate->fi,map_append->fk,set_cons_succ->fL,perm_ext_iff_of_nodup->fM,findIdx?_eq_none_iff->fT,mem_iff_getElem->fX,map_inj_left->fY,length_pos_iff->gY,isEmpty_iff->hG,pairwise_cons->ik,map_nil->ip,length_set->iF,length_take->iZ,filter_cons->i5,mem_or_eq_of_mem_set->ja,map_congr_left->jg,getElem_of_mem->jh,mem_filter->jw,replicate_one->jA,findIdx?_cons->jB,findIdx?_eq_some_iff_getElem->jM,nodup_nil->jQ,getElem?_set_self->jR,length_replicate->kb,getElem?_eq_none->kc,length_nil->kY,getD->lM,range'->mh,getElem?_set->mi,append_assoc->mj,length_eq_zero_iff->nC,length_drop->nD,any_eq_true->nE,forIn_cons->nY,mem_of_mem_tail->pj,replicate_succ->qf,filter_sublist->qg,filterMap_cons->qh,sum_cons->qu,mem_filterMap->rp,contains_cons->rq,pairwise_map->sN,map_set->sO,flatten_cons->sP,range'_succ->tN,length->ux,eq_nil_of_length_eq_zero->uy,of_mem_zip->vG,length_eraseIdx_of_lt->wt,drop_eq_getElem_cons->xY,map_take->zz,map_drop->zA,any_eq_not_all_not->zK,take_of_length_le->BH,range_succ_eq_map->BI,pairwise_lt_range->BJ,getElem_cons_succ->BK,length_singleton->BW,length_filter_le->BX,toList_toArray->FO,replicate_zero->FP,length_modify->Hr,getElem_range->Hs,take_sublist->HP,getElem_drop->HQ,find?_filter->HR,ext_getElem?->HS,zipIdx_cons->LP,ext_getElem->LQ,drop_length->LR,zipIdx_nil->Me,foldl_cons->Mf,filter_nil->Mg,map->P9,forIn_nil->Qa,drop_zero->Qb
open List.Nodup renaming sublist->zB
open List.Pairwise renaming imp_of_mem->rH,nil->wu
open List.Perm renaming eq_of_pairwise->iS
open List.cons renaming injEq->i6,inj->uA
open Nat renaming le_trans->ae,le_refl->aI,le_of_eq->aM,lt_of_le_of_lt->aN,lt_of_lt_of_le->aW,ne_of_lt->bc,le_of_lt->bo,lt_irrefl->bp,le_succ_of_le->bF,le_add_right->bO,zero_le->bQ,le_of_succ_le_succ->cK,succ_le_succ->dF,not_le_of_lt->eh,add_le_add_left->eK,le_of_not_lt->eU,le_antisymm->fV,lt_trans->iu,min_le_right->i9,zero_add->jV,ne_of_gt->jW,le_succ->kP,add_le_of_le_sub->kQ,lt_of_le_of_ne->lV,add_assoc->mX,lt_succ_self->nM,mul_le_mul_right->pK,lt_succ_of_lt->tD,add_comm->tF,reduceLeDiff->uw,reduceAdd->zJ,lt_sub_of_add_lt->FN,pos_of_ne_zero->HM,add_sub_cancel->HN,lt_of_succ_lt->LN,not_lt_zero->P7,min_eq_left->P8
open Ne renaming symm->fJ
open Option renaming bind_some->au,map_some->aH,join_some->eR,getD_some->fD,map->nB,bind->oG,isSome_map->rn,isNone_iff_eq_none->vR,bind_eq_some_iff->xX,getD_none->Hq
open Option.some renaming inj->aO,injEq->jl
open Prod renaming ext->P6
open Prod.mk renaming inj->ka,injEq->vQ
open PyProof.Rows renaming slot_tuple_getitem->cR,callWith_type1->dM,AllBare->kE,IntsAre->lJ,callWith_builtin1->ph,StrsAre->pJ,tupleItemsOf_->FL,IsTup->Hn,subscriptTail_builtinR->HJ
open PyProof.Rows.F renaming plain_set_update_loop->iE,entry_set_update_loop->mR
open PyProof.Rows.IntsAre renaming int_at->Ho,length->HL
open PyProof.Rows.IsTup renaming new->HK
open PySem renaming Value->ak,Shared->aw,wpAny->ax,model->aB,sizeLine->aD,Addr->aE,starEach->aG,Expr->aV,Str->a8,sizeLine_eq->bu,wpAny_mono->bE,Heap->bM,wpAny_call_entry->bP,wpAny_setField_rec->bR,wpAny_holding->ck,Around->cm,wpAny_newObj_type->cH,wpAny_field->cO,cLine->cP,Program->cY,wpAny_truthy_bool->dh,wpAny_callSpecial?_slot->dB,wpAny_seqItems->dE,World->dH,wpAny_Call_Name_kw->fU,mem_of_lookup->gP,codeAny_mono->gQ,codeAny_call_builtin->gR,FuncData->gV,Builtin->gX,wpAny_isInstance->iq,IsPair->ir,wpAny_setState_of->iY,Stmt->i8,SetTable->jk,wpAny_forIn_list->jv,Paired->jC,codeAny_builtin->jO,wpAny_rule->jU,wpAny_getItem_str_slice->j4,wpAny_typeOf->ko,wpAny_pyIter_list->kr,wpAny_loadPart_at->ku,NameKind->kB,Obj->kX,wpAny_standAt->lG,wpAny_specialOf->lR,wpAny_passesOwn->lS,wpAny_execs_nil->lT,Scope->l8,KeyKind->me,wpAny_setField->mS,tupleKind_room_in1->mT,call_meets->mU,IsZip->nU,wpAny_attempt->nV,scanBound->o5,typeIs_str->pF,post_val_or_str->qd,wpAny_updateSeq_pair->rA,wpAny_loadPart->rB,isSubtype_type->rC,Pos->rE,IsPart->rF,wpAny_onRaise->tM,wpAny_tupleItemsOf->um,wpAny_call->uo,concat_meets->vJ,Keyword->vL,wpAny_execs_cons->xP,wpAny_askSetting->xQ,noFill_tuple_add->xR,wpAny_of_eq->zu,BindsTo->BG,MulOk->BS,wpAny_in_heap->FA,wpAny_comprehension_free->FC,seq_tuple_add->FD,plainId_quiet->FE,call->FF,ExceptHandler->FJ,PassesOwn->Hm,seqIndex_neg->HA,pyIter->HB,ExcBaseFacts->HH,Env->HI,isSubtype_tuple_tuple->LJ,builtinLookup_eq_fast->LK,wpAny_letGo->L8,seqIndex_of->L9,GenState->Mb,wpAny_setEntries_of->PY,wpAny_isSubtype_exc->PZ,ElemsOf->P1
open PySem.Around renaming under_plainId->kn,under->zy
open PySem.Builtin renaming bitOr->j6,bitAnd->uv
open PySem.Builtin.Frozenset renaming updateFrom->nX,isAnySet->o7,sizeOf->pI,newClass->Md
open PySem.Builtin.List renaming listFitsIndex->km,listLengthHint->qr,listExtendWith->qt,listSameRef->sM
open PySem.Builtin.Slice renaming slicePlaces->iD,sliceAdjust->kC,sliceApplied->qp
open PySem.Builtin.SmallTypes renaming nextOf->dC,ownedTupleIsFree->h9,ownedTupleHandOut->rm
open PySem.Builtin.Str renaming occurrences->cQ
open PySem.Builtin.Tuple renaming tupleHashOf->eo,tupleExact->iJ,tupleItemsOf->j9,tupleIsExact->qo
open PySem.Calls renaming spliced_nil->l9,Name_function_global->vP,call_function_entry->wq,evalArgs_plain->BV,spliced_cons->FK
open PySem.Challenge renaming rw_dots_k07_lines_refused->lH,pw_dots_k07_lines_refused->lI
open PySem.Code renaming quiet_builtin->lP,isFrame->BF
open PySem.EntryCells renaming newEntry->xW
open PySem.Env renaming kindOf->rG
open PySem.F renaming slot_tuple_iterator_next->fQ,slot_tuple_hash->gD,plainAttrs_list->jq,slot_zip_next->jP,args_tuple_add_2->lU,entry_tuple_add->mf,slot_tuple_add->mW,slot_tuple_eq->nL,args_tuple_iterator_next_1->pH,entry_tuple_iterator_next->qe,sub_list_frozenset->uq,excBase_ValueError->ur,excAttr_ValueError->uu,slot_tuple_index->vM,slot_list_insert->vN,slot_list_append->vO,slot_list_index->wj,slot_list_count->wk,plain_list_iadd->wm,args_zip_next_1->wo,slot_str_split->xT,entry_zip_next->xU,entry_set_init->xV,slot_set_iter->zw,entry_bexc_ga->zx,sub_list_set->zH,args_bexc_ga->zI,called_set->BU
open PySem.Heap renaming get?_push_size->aK,get?_update_other->dD,get?_update_self->dJ,size_push->dO,SameBut->dP,get?_none_of_le->pg,get?_update_ne->FI
open PySem.Heap.SameBut renaming update->nA
open PySem.NameKind renaming free->ee,cell->lO
open PySem.Obj renaming mapSeq->jD,data_mapFields->jE,mapFields->kJ,isFreed_of_fields->o6,cls_mapFields->LM
open PySem.Paired renaming length->pG
open PySem.ScopeKind renaming function->kO
open PySem.SeqAt renaming EqAt->lK,RcNeAt->zG,RcAt->FH
open PySem.SetTable renaming below->ba,grown->kW,has->wg,Probe->Hl,slot->HF,laid->HG
open PySem.SetTable.below renaming go->kA
open PySem.SetTable.probe renaming go->nR
open PySem.Shared renaming TypeIs->we,heap->BD
open PySem.Str renaming ofString->aa,join->tB
open PySem.StrLaws renaming glued_eq_join->nK,found_one->qm
open PySem.Txt renaming join->eT,split->eZ,find->fB,slice->DR
open PySem.Value renaming ref->bI,none->di,type->j7,bool->j8,str->HD,int->HE,isStrOf->P0
open PySem.Value.type renaming inj->nv
open PySem.W renaming Frag->aA,keepIn->de,nsIn->eB,kia_one->fe,exmOne->gC,Looks->ig,OpenLaw->jf,mg_of->j5,looks_findIn->kz,hideAll_get->kH,kitOne->lp,findIn->lq,fnOf->mV,hideAll->nu,codeIn->nW,methodObj->qk,isFn->ql,WalkO->vK,cellsFrom_some->xS,looks_mroIn->zv,hideAll_none->zF,of_hideAll->BP,mg_none_of->BQ,callWith_K->BR,kitx_dict->DQ,kitAny->HC,looks_clsIn->Ma
open PySem.W.KF renaming type_class->BC
open PySem.W.Looks renaming ld->lr
open PySem.Walks renaming list->FG
open PySem.pickOrder renaming go->vI
open Std.Legacy.Range renaming size->PV,forIn_eq_forIn_range'->PX
open Sum renaming inr->ej,inl->jy
open Sum.inl renaming inj->sL
open Sum.inr renaming inj->sJ
open True renaming intro->ie
set_option Elab.async false
set_option compiler.extract_closed false
set_option linter.all false
set_option maxRecDepth 100000
set_option maxHeartbeats 4000000
def bS{α β:Type _}{x:Option α}{f:α->Option β}{b:β}(h:x.bind f=a_ b):∃a,x=a_ a/\f a=a_ b:=xX.mp h
def er{α β:Type _}{x:Option α}{f:α->β}{b:β}(h:x.map f=a_ b):∃a,x=a_ a/\f a=b:=Option.map_eq_some_iff.mp h
open PySem PySem.Spec in def wb9:=@wpAny_bind
open PySem PySem.Spec in def wu9:=@wpAny_pure
open PySem in def hp9:=@Heap.get?_push_of_some
open PySem in def hl9:=@Heap.lt_size
def iw{α:Type _}{a:α}{l:List α}:a∈a::l:=List.mem_cons_self
def jd{α:Type _}(y:α){a:α}{l:List α}(h:a∈l):a∈y::l:=List.mem_cons_of_mem y h
def bG{p:Prop}[Decidable p](h:decide p=c_:=by rfl):p:=of_decide_eq_true h
namespace L2
open PySem
section
variable{A:cm}{s:aw}
structure XM(base:bM)(l:List HI)(e T:aE)(fl:ak)(h h':bM):Prop where
 st:base.StaysIn h'
 fr:h'.FunFrames base l
 tn:base.get? T=b_
 te:T≠e
 ex:∃oe vs,h'.get? e=a_ oe/\oe.data=.fields vs/\vs[1]?=a_ (.ref T)/\∀o ws,h.get? e=a_ o->o.data=.fields ws->oe.cls=o.cls/\oe.dict=o.dict/\vs[0]?=ws[0]?
 en:∃oT ts,h'.get? T=a_ oT/\oT.data=.fields ts/\ts[3]?=a_ fl
 up:h.UpToSlots h'
def vi{base:bM}(hfr:A.frames=a_ (env::outer))(hl:s.heap.FunFrames base (env::outer))(hf:env.frame=a_ L)
  (he:s.heap.get? e=a_ oe)(hkb:base.StaysIn s.heap)(hen:base.get? e=b_)(hd:oe.data=.fields vs)(hsz:1<vs.size)(h:∀h' T,XM base (env::outer) e T (rawInt L) s.heap h'->Q () { s with heap:=h' }) :
  ax M A (do let a <-frameOf env;let pl <-entryPlaceOf L hadNext;let b <-xW head a .none (rawInt L) .none pl;setField (.ref e) 1 b) Q E s:=by
 have out:e∉(env::outer).filterMap (·.frame):=λhm=>by
  obtain⟨_,o,ho,hnf⟩:=hl.mem hm;rw[he]at ho;cases ho;exact hnf vs hd
 refine wb9 (wpAny_frameOf_fun hfr hl hf λh1 x1=>wb9 (wpAny_entryPlaceOf λpl hpl=>?_));unfold xW newFields;refine wb9 (cH ?_ (hpl.sizeOk5 _ _ _ _ _));have e1:h1.get? e=a_ oe:=(x1.2.1 e out).trans he;have b1:base.StaysIn h1:=λb o z=>(x1.2.1 b λm=>by rw[(hl.mem m).1]at z;cases z).trans (hkb b o z);generalize hO:({ cls:=.type "traceback",dict:=b_,data:=.fields ([head,.ref L,.none,rawInt L,.none]++(if pl.isEmpty then be 6 di else pl)).toArray }:kX)=O;have e2:(h1.push O).get? e=a_ oe:=hp9 _ e1;refine mS e2 hd hsz (h _ h1.objs.size ?_);have ne:h1.objs.size≠e:=jW (hl9 e1);have hd3:=jE hd (·.setIfInBounds 1 (bI h1.objs.size));have e3:=dJ (kJ (·.setIfInBounds 1 (bI h1.objs.size))) e2 (o6 hd3);have kp:∀b o,b≠e->h1.get? b=a_ o->((h1.push O).update e (kJ (·.setIfInBounds 1 (bI h1.objs.size)))).get? b=a_ o:=λb o hb z=>(dD _ _ hb.symm).trans (hp9 _ z)
 have nf:∀b o,s.heap.get? b=a_ o->(∀vs,o.data≠.fields vs)->b≠e:=λb o hb hn z=>by
  subst z;rw[he]at hb;cases hb;exact hn vs hd
 have hT:((h1.push O).update e (kJ (·.setIfInBounds 1 (bI h1.objs.size)))).get? h1.objs.size=a_ O:=(dD _ _ ne.symm).trans (aK h1 (by rw[<-hO];rfl));refine⟨λb o z=>kp b o (λy=>by rw[y,hen]at z;cases z) (b1 b o z),hl.of_keeps λb o hb hn=>?_,b1.fresh,ne,⟨_,_,e3,hd3,by simp[hsz],λo ws z1 z2=>?_⟩,⟨O,_,hT,by rw[<-hO],?_⟩,λb o hb hn=>?_⟩
 ·obtain⟨sl,z⟩:=x1.2.2 b o hb;exact⟨_,kp b _ (nf b o hb hn) z,rfl⟩
 ·rw[he]at z1;cases z1;rw[hd]at z2;cases z2;refine⟨LM _ _,?_,by rw[Array.getElem?_setIfInBounds_ne bG]⟩;obtain⟨c,dd,dt,sl⟩:=oe;cases hd;rfl
 ·first|(simp;done)|(rcases hpl with rfl|⟨_,_,_,_,_,_,_,rfl⟩<;>simp)
 ·obtain⟨sl,z⟩:=x1.2.2 b o hb;exact⟨sl,kp b _ (nf b o hb hn) z⟩
end
structure nQ(base:bM)(l:List HI)(e:aE)(cls:ak)(dx:aE)(fl:ak)(h:bM):Prop where
 st:base.StaysIn h
 en:base.get? e=b_
 fr:h.FunFrames base l
 tr:∃oe vs T oT ts,h.get? e=a_ oe/\oe.cls=cls/\oe.dict=a_ dx/\oe.data=.fields vs/\vs[1]?=a_ (.ref T)/\base.get? T=b_/\T≠e/\h.get? T=a_ oT/\oT.data=.fields ts/\ts[3]?=a_ fl
def nQ.there{base:bM}(F:nQ base l e cls dx fl h):∃oe vs,h.get? e=a_ oe/\oe.cls=cls/\oe.dict=a_ dx/\oe.data=.fields vs:=
 let ⟨oe,vs,_,_,_,h1,h2,h3,h4,_⟩:=F.tr;⟨oe,vs,h1,h2,h3,h4⟩
section
variable{A:cm}{s:aw}{base:bM}
def A5{T:aE}{h:bM}(hen:base.get? e=b_)(he:h.get? e=a_ oe)(hd:oe.data=.fields vs)(hx:oe.dict=a_ dx)(g:XM base l e T fl h h'):nQ base l e oe.cls dx fl h':=by
 obtain⟨o2,v2,a1,a2,a3,a4⟩:=g.ex;obtain⟨oT,ts,b1,b2,b3⟩:=g.en;obtain⟨c1,c2,_⟩:=a4 oe vs he hd;exact⟨g.st,hen,g.fr,o2,v2,T,oT,ts,a1,c1,c2.trans hx,a2,a3,g.tn,g.te,b1,b2,b3⟩
def JP(hfr:A.frames=a_ (env::outer))(hl:s.heap.FunFrames base (env::outer))(hf:env.frame=a_ L)(he:s.heap.get? e=a_ oe)(hkb:base.StaysIn s.heap)(hen:base.get? e=b_)(hd:oe.data=.fields vs)(h1:vs[1]?=a_ .none)(hx:oe.dict=a_ dx)
  (h:∀h',nQ base (env::outer) e oe.cls dx (rawInt L) h'->s.heap.UpToSlots h'->Q () { s with heap:=h' }):ax M A (noteFrame (.ref e) env) Q E s:=by
 unfold noteFrame;simp only[hf];refine wb9 (cO he hd h1 ?_);rw[if_neg bG];exact vi hfr hl hf he hkb hen hd (dk.mp h1).1 λh' T g=>h h' (A5 hen he hd hx g) g.up
def Eu(hfr:A.frames=a_ (env::outer))(hf:env.frame=a_ L)(F:nQ base (env::outer) e cls dx .none s.heap)(h:∀h',nQ base (env::outer) e cls dx (rawInt L) h'->s.heap.UpToSlots h'->Q () { s with heap:=h' }):ax M A (noteFrame (.ref e) env) Q E s:=by
 obtain⟨oe,vs,T,oT,ts,he,hc,hx,hd,h1,hnT,hTe,hT,hdT,h3⟩:=F.tr;subst hc;unfold noteFrame;simp only[hf];refine wb9 (cO he hd h1 ?_);rw[if_pos (show(bI T != di)=c_ by simp)];refine wb9 (cO hT hdT h3 ?_);rw[if_neg (show¬((di == rawInt L)=c_) by simp[rawInt])];refine wb9 (mS hT hdT (dk.mp h3).1 ?_);have ot:∀b,b≠T->(s.heap.update T (kJ (·.setIfInBounds 3 di))).get? b=s.heap.get? b:=λb hb=>dD _ _ hb.symm
 have nr:∀b o,s.heap.get? b=a_ o->(∀vs,o.data≠.fields vs)->b≠T:=λb o hb hn z=>by
  subst z;rw[hT]at hb;cases hb;exact hn ts hdT
 have he':=(ot e hTe.symm).trans he;refine vi (s:={ s with heap:=s.heap.update T (kJ (·.setIfInBounds 3 di)) }) hfr (F.fr.of_keeps λb o hb hn=>⟨o,(ot b (nr b o hb hn)).trans hb,rfl⟩) hf he' (λb o z=>(ot b λy=>by rw[y,hnT]at z;cases z).trans (F.st b o z)) F.en hd (dk.mp h1).1 λh' T' g=>h h' (A5 F.en he' hd hx g) λb o hb hn=>g.up b o ((ot b (nr b o hb hn)).trans hb) hn
def ua(F:nQ base l e cls dx fl s.heap)(h:∀h',nQ base l e cls dx .none h'->s.heap.UpToSlots h'->Q () { s with heap:=h' }):ax M A (setFlight (.ref e) b_) Q E s:=by
 obtain⟨oe,vs,T,oT,ts,he,hc,hx,hd,h1,hnT,hTe,hT,hdT,h3⟩:=F.tr;have z3:3<ts.size:=(dk.mp h3).1;unfold setFlight;refine wb9 (cO he hd h1 ?_);rw[if_pos (show(bI T != di)=c_ by simp)];have ot:∀b,b≠T->(s.heap.update T (kJ (·.setIfInBounds 3 ((b_:Option aE).elim di λf=>rawInt f)))).get? b=s.heap.get? b:=λb hb=>dD _ _ hb.symm
 have nr:∀b o,s.heap.get? b=a_ o->(∀vs,o.data≠.fields vs)->b≠T:=λb o hb hn z=>by
  subst z;rw[hT]at hb;cases hb;exact hn ts hdT
 refine mS hT hdT z3 (h _ ⟨λb o z=>(ot b λy=>by rw[y,hnT]at z;cases z).trans (F.st b o z),F.en,F.fr.of_keeps λb o hb hn=>⟨o,(ot b (nr b o hb hn)).trans hb,rfl⟩,oe,vs,T,_,_,(ot e hTe.symm).trans he,hc,hx,hd,h1,hnT,hTe,dJ _ hT (o6 (jE hdT _)),jE hdT _,by simp[z3]⟩ λb o hb hn=>⟨o.slots,(ot b (nr b o hb hn)).trans hb⟩)
def nQ.out(F:nQ base (env::outer) e cls dx fl s.heap):nQ base outer e cls dx fl s.heap:=⟨F.st,F.en,let ⟨_,_,k⟩:=F.fr;k,F.tr⟩
def C7(hfr:A.frames=a_ (env::outer))(hl:s.heap.FunFrames base (env::outer))(hf:env.frame=a_ L)(he:s.heap.get? e=a_ oe)(hkb:base.StaysIn s.heap)(hen:base.get? e=b_)(hd:oe.data=.fields vs)(h1:vs[1]?=a_ .none)(hx:oe.dict=a_ dx)
  (h:∀h',nQ base outer e oe.cls dx .none h'->s.heap.UpToSlots h'->Q () { s with heap:=h' }):ax M A (leaving env (.ref e)) Q E s:=by
 unfold leaving;exact wb9 (JP hfr hl hf he hkb hen hd h1 hx λh1 F u=>ua (s:={ s with heap:=h1 }) F λh2 F2 u2=>h h2 (nQ.out (s:={ s with heap:=h2 }) F2) (u.trans u2))
def GI(hfr:A.frames=a_ (env::outer))(hf:env.frame=a_ L)(F:nQ base (env::outer) e cls dx .none s.heap)(h:∀h',nQ base outer e cls dx .none h'->s.heap.UpToSlots h'->Q () { s with heap:=h' }):ax M A (leaving env (.ref e)) Q E s:=by
 unfold leaving;exact wb9 (Eu hfr hf F λh1 F u=>ua (s:={ s with heap:=h1 }) F λh2 F2 u2=>h h2 (nQ.out (s:={ s with heap:=h2 }) F2) (u.trans u2))
end
section
variable{A:cm}{h:bM}{os:OsState}
variable{C:aE}{sub:List ak}
noncomputable abbrev Gk(h:bM)(C:aE)(us:List ak):bM:=(h.push { cls:=.type "tuple",data:=.seq us.toArray }).push { cls:=.ref C,data:=.fields #[.ref h.objs.size,.none,.none,.none,.bool d_,.none] }
def Ce(F:HH B newId initId bmB)(T:OwnTail h bmB bm){fI:aE}{oI:kX}(hC:h.get? C=a_ (excClassObj nm q C N bs bm hdct sn sub ab col dd k0 k1 k2 k3 k5 newId))(hn:h.Ns N mN)
  (hi:mN "__init__"=a_ (.ref fI))(hfI:h.get? fI=a_ oI)(hfc:oI.cls=.type "function")
  (hq:ax (aB prog w) A (call (.ref fI) (.ref (h.objs.size+1)::us)) (λr s'=>r=.none/\Q (.done (.ret (.ref (h.objs.size+1)))) s') E ⟨Gk h C us,g,d,t,os⟩)
  (hus:us.length<=aD):ax (aB prog w) A (gX.«type.__call__» ⟨.ref C::us,[]⟩) Q E ⟨h,g,d,t,os⟩:=by
 repeat (first|with_reducible refine ku hC ?_|with_reducible refine wpAny_madeBy_exc hC ?_|wp_step)
 refine codeAny_call_builtin_code (lP _ F.quiet) (wpAny_check_new_subT F T hC (codeAny_exc_new_subT F T hC ?_ hus));show ax _ _ _ _ _ _;have kp:∀b o,h.get? b=a_ o->((h.push { cls:=.type "tuple",data:=.seq us.toArray }).push { cls:=.ref C,data:=.fields #[.ref h.objs.size,.none,.none,.none,.bool d_,.none] }).get? b=a_ o:=λb o z=>hp9 _ (hp9 _ z);have hC1:=kp _ _ hC;have hX:((h.push { cls:=.type "tuple",data:=.seq us.toArray }).push { cls:=.ref C,data:=.fields #[.ref h.objs.size,.none,.none,.none,.bool d_,.none] }).get? (h.objs.size+1)=a_ { cls:=.ref C,data:=.fields #[.ref h.objs.size,.none,.none,.none,.bool d_,.none] }:=by heap_get
 have hcC:(bI C::bm).contains (.ref C)=c_:=by simp
 unfold isInstance
 repeat (first|with_reducible refine ku hX ?_|(with_reducible refine PZ hC1 ?_;rw[hcC])|wp_step)
 show ax _ _ (typeLookup (.ref C) _) _ _ _;refine wpAny_typeLookup_tail hC1 (hn.keeps kp) (T.keeps kp) F.mroIs F.init.lookup ?_;rw[hi];refine ck (wb9 ?_);unfold bindSpecial;refine wb9 (ko (T:="function") ⟨_,kp _ _ hfI,hfc⟩ ?_);rw[if_pos bG];refine wu9 (wb9 (bE hq (λr s' hr=>?_) λ_ _ x=>x));obtain⟨rfl,hQ⟩:=hr
 wp_walk
 exact hQ
def GG(F:HH B newId initId bmB)(T:OwnTail h bmB bm){fI:aE}{oI:kX}(hC:h.get? C=a_ (excClassObj nm q C N bs bm hdct sn sub ab col dd k0 k1 k2 k3 k5 newId))(hn:h.Ns N mN)
  (hi:mN "__init__"=a_ (.ref fI))(hfI:h.get? fI=a_ oI)(hfc:oI.cls=.type "function")
  (hq:ax (aB prog w) (A.under (.builtin "type.__call__" ⟨.ref C::us,[]⟩)) (call (.ref fI) (.ref (h.objs.size+1)::us)) (λr s'=>r=.none/\Q (.ref (h.objs.size+1)) s') E ⟨Gk h C us,g,d,t,os⟩)
  (hus:us.length<=aD):ax (aB prog w) A (call (.ref C) us) Q E ⟨h,g,d,t,os⟩:=by
 have f1:=tc_lookup;have f2:=tc_bind (.ref C);have hty:(⟨h,g,d,t,os⟩:aw).TypeIs (.ref C) "type":=⟨_,hC,rfl⟩
 refine uo (codeAny_of_tree ?_);show ax _ _ (callAny (.ref C) _) _ _ _
 repeat (any_goals (first|assumption|with_reducible refine ku hC ?_|wp_step))
 exact⟨rfl,codeAny_call_builtin_at (lP _ (by decide +kernel)) entry_typeCall (wpAny_check_type_call_sub hC (Ce F T hC hn hi hfI hfc hq hus))⟩
end
section
variable{A:cm}
variable{bm:List ak}{sub:List ak}
def CJ(hbase:bm.contains (.type "BaseException")=c_)(hh:A.handled=b_)
  (h:ax M A x (λv s₁=>∃e t dx,v=.ref e/\s₁.heap.get? C=a_ (excClassObj nm q C N bs bm hdct sn sub ab col dd k0 k1 k2 k3 k5 newId)/\
   s₁.heap.get? e=a_ { cls:=.ref C,dict:=a_ dx,data:=.fields #[.ref t,.none,.none,.none,.bool d_,.none] }/\E (.ref e) s₁) E s) :
  ax M A (raiseStmt env (a_ x) b_) Q E s:=by
 have hcB:(bI C::bm).contains (.type "BaseException")=c_:=by rw[rq,hbase,dQ]
 unfold raiseStmt;refine wb9 (bE h (λv s₁ z=>?_) λ_ _ y=>y);obtain⟨e,t,dx,rfl,hC,he,hE⟩:=z;obtain⟨hp,g,d,tk,os⟩:=s₁
 repeat (first|with_reducible refine ku he ?_|with_reducible refine ku hC ?_|(with_reducible refine PZ hC ?_;rw[hcB])|wp_step)
 exact wpAny_raiseNew_none hh hE
end
section
variable{A:cm}
variable{bm:List ak}{sub:List ak}
def CK(F:HH B newId initId bmB){fI:aE}(hbase:bm.contains (.type "BaseException")=c_)(hh:A.handled=b_)(hplain:(backTo cpos (aG args env)).any (·.1)=d_)(hi:mN "__init__"=a_ (.ref fI))
  (h:ax (aB prog w) A (eval (.Name x np) env) (λf s₁=>f=.ref C/\ax (aB prog w) A (evalArgs (.ref C) c_ (backTo cpos (aG args env)) [])
   (λa s₂=>a.kw=[]/\a.pos.length<=aD/\s₂.heap.get? C=a_ (excClassObj nm q C N bs bm hdct sn sub ab col dd k0 k1 k2 k3 k5 newId)/\s₂.heap.Ns N mN/\OwnTail s₂.heap bmB bm/\(∃oI,s₂.heap.get? fI=a_ oI/\oI.cls=.type "function")/\
    ax (aB prog w) (A.under (.builtin "type.__call__" ⟨.ref C::a.pos,[]⟩)) (call (.ref fI) (.ref (s₂.heap.objs.size+1)::a.pos)) (λr s₃=>r=.none/\s₃.heap.get? C=a_ (excClassObj nm q C N bs bm hdct sn sub ab col dd k0 k1 k2 k3 k5 newId)/\
     (∃t dx,s₃.heap.get? (s₂.heap.objs.size+1)=a_ { cls:=.ref C,dict:=a_ dx,data:=.fields #[.ref t,.none,.none,.none,.bool d_,.none] })/\E (.ref (s₂.heap.objs.size+1)) s₃) E ⟨Gk s₂.heap C a.pos,s₂.gens,s₂.drawn,s₂.toks,s₂.os⟩) E s₁) E s) :
  ax (aB prog w) A (exec (.Raise (a_ (.Call (.Name x np) args [] cpos)) b_ pos) env) Q E s:=by
 rw[arm_exec_Raise]
 have key:ax (aB prog w) A (eval (.Call (.Name x np) args [] cpos) env) (λv s₁=>∃e t dx,v=.ref e/\s₁.heap.get? C=a_ (excClassObj nm q C N bs bm hdct sn sub ab col dd k0 k1 k2 k3 k5 newId)/\
   s₁.heap.get? e=a_ { cls:=.ref C,dict:=a_ dx,data:=.fields #[.ref t,.none,.none,.none,.bool d_,.none] }/\E (.ref e) s₁) E s:=by
  refine wpAny_Call_ofName (bE h (λf s₁ h₁=>?_) λ_ _ y=>y);obtain⟨rfl,h₁⟩:=h₁;unfold callWith;refine wb9 (ck (bE h₁ (λa s₂ h₂=>wb9 (lG ?_)) λ_ _ y=>y));obtain⟨apos,akw⟩:=a;obtain⟨hkw,hlen,hC,hn,T,⟨oI,hI1,hI2⟩,h₂⟩:=h₂;obtain rfl:akw=[]:=hkw;obtain⟨hp,g,d,tk,os⟩:=s₂;simp only[hplain];refine wb9 (wpAny_keeperOf_exc hC ?_);refine wb9 (GG F T hC hn hi hI1 hI2 (bE h₂ (λr s₃ z=>?_) λ_ _ y=>y) hlen);obtain⟨rfl,z1,⟨t,dx,z2⟩,z3⟩:=z;exact⟨rfl,wb9 (ck (wpAny_point (wu9 ⟨_,t,dx,rfl,z1,z2,z3⟩)))⟩
 refine wb9 (lG (CJ (C:=C) (nm:=nm) (q:=q) (N:=N) (bs:=bs) (bm:=bm) (hdct:=hdct) (sn:=sn) (sub:=sub) (ab:=ab) (col:=col) (dd:=dd) (k0:=k0) (k1:=k1) (k2:=k2) (k3:=k3) (k5:=k5) (newId:=newId) hbase hh ?_));exact wb9 (bE key (λv s₃ z=>wb9 (lG (wu9 z))) λ_ _ y=>y)
end
end L2
namespace L2
open PySem PySem.W Builtin Builtin.ObjectAttr
noncomputable def yx:List ak->Bool
 |.ref _::r=>yx r
 |[.type a,.type b,.type c,.type d]=>a == "ValueError" && b == "Exception" && c == "BaseException" && d == "object"
 |_=>d_
theorem Es:∀{l:List ak},yx l=c_->(∀self,refuseLoop self "__setattr__" l=pure ())/\l.contains (.type "object")=c_
 |.ref c::r,e=>by
   obtain⟨h1,h2⟩:=Es (l:=r) (by cases r<;>first|exact e|cases e);exact⟨λself=>(refuseLoop_ref self _ c r).trans (h1 self),by rw[rq,h2,dQ]⟩
 |[.type a,.type b,.type c,.type d],e=>by
   simp only[yx,af,beq_iff_eq]at e;obtain⟨⟨⟨rfl,rfl⟩,rfl⟩,rfl⟩:=e;exact⟨PySem.F.store_ValueError.passes,bG⟩
def HW(K:aA)(C:aE):Bool:=(clsIn K C).any λcd=>yx cd.mro && cd.hasDict
section
variable{s:aw}{K:aA}{ox:kX}
def NI(hfs:ox.data=.fields vs)(X:K.In s.heap)(I:InstAt s.heap x ox C b_)(hp:HW K C=c_)(ha:findIn K (.ref C) name=a_ b_)
  (h:∀h' tk',h'.get? x=a_ { ox with dict:=a_ s.heap.objs.size }->h'.Ns1 s.heap.objs.size (λy=>if y=name then a_ v else b_)->(∀b o,b≠x->s.heap.get? b=a_ o->h'.get? b=a_ o)->s.heap.objs.size<h'.objs.size->R (.ok (.ret .none)) { s with heap:=h',toks:=tk' }) :
  codeAny (aB prog w) A (.call (.builtin "object.__setattr__") ⟨[.ref x,.str name tk,v],[]⟩) R s:=by
 have SF:=PySem.F.store_object;obtain⟨cd,hc,ho⟩:=any_some hp;obtain⟨ho,hdc⟩:=bY.mp ho;obtain⟨pa,ob⟩:=Es ho
 have ne:cd.mro.isEmpty=d_:=by cases q:cd.mro with|nil=>rw[q]at ho;cases ho|cons _ _=>rfl
 have sub:ig (aB prog w) s.heap (isInstance (.ref x) (.type "object")) c_:=I.type.andThen (zv X (by unfold mroIn;rw[hc,au,if_neg (by rw[ne];decide),ob]));refine gR SF.slot.plain SF.entry (@check_slot (aB prog w) _ _ s "object.__setattr__" "object" "__setattr__" (.ref x) [.str name tk,v] [] _ SF.kind SF.split sub (SF.args (.ref x) (.str name tk) v) ?_);have hm:ig (aB prog w) s.heap (mroOf (.ref C)) cd.mro:=(Ma X hc).andThen .now;rw[osa_eq,refuse_eq];refine wb9 (wb9 (I.type.here (wb9 (hm.here ?_))));rw[pa];refine wu9 (wb9 (I.type.here (wb9 ((kz X ha).here (wb9 (Looks.now.here ?_))))));obtain⟨hh,g,d,t,os⟩:=s;obtain⟨hx,hcl,hn,hd⟩:=I;obtain⟨oc,odi,oda,osl⟩:=ox;dsimp only at hcl hd hx;subst hcl
 cases odi with
 |some q=>exact bB hd
 |none=>
   refine wb9 (wu9 (wb9 (wb9 (rB hx (wb9 ((Ma X hc).here ?_))))));dsimp only at hfs;subst hfs;rw[hdc];have hx1:(hh.push { cls:=.type "dict",data:=.dict #[] }).get? x=a_ { cls:=.ref C,data:=.fields vs,slots:=osl }:=hp9 _ hx;have hxs:x≠hh.objs.size:=bc (hl9 hx);show ax _ _ (alloc { cls:=.type "dict",data:=.dict #[] } >>= λd=>update x (λo=>{ cls:=o.cls,dict:=a_ d,data:=o.data,slots:=o.slots }) >>= λ_=>pure (a_ d)) _ _ _;refine wb9 (wpAny_alloc' (wb9 (wpAny_update' hx1 (wu9 ?_))));have hgd:((hh.push { cls:=.type "dict",data:=.dict #[] }).update x λo=>{ cls:=o.cls,dict:=a_ hh.objs.size,data:=o.data,slots:=o.slots }).get? hh.objs.size=a_ { cls:=.type "dict",data:=.dict #[] }:=(FI _ _ _ _ hxs.symm).trans (Heap.get?_push_at rfl rfl);have hnd:((hh.push { cls:=.type "dict",data:=.dict #[] }).update x λo=>{ cls:=o.cls,dict:=a_ hh.objs.size,data:=o.data,slots:=o.slots }).Ns hh.objs.size (λ_=>b_):=⟨_,#[],_,hgd,rfl,λe he=>absurd he (by simp),λ_=>rfl⟩
   show ax _ _ (storeInDict hh.objs.size (.str name tk) name v) _ _ _;unfold storeInDict newKeyGuard;refine wb9 (wu9 (wb9 (wpAny_nsSet1 (Heap.Ns1.of_empty hnd) λh' hn' hs=>?_)));obtain⟨oD,esD,epD,hoD,hdD,hcD⟩:=hn'.count (Within.cons name v Within.nil);refine wb9 (wpAny_lookBehind hoD (by rw[hdD];exact pastItsLine_dict (ae hcD (by rw[aS,kY,bu];decide))) ?_);refine wu9 (h h' _ ((hs.2 x hxs).trans (dJ _ hx1 rfl)) hn' (λb o hb z=>(hs.2 b (bc (hl9 z))).trans ((FI _ _ _ _ hb).trans (hp9 _ z))) (hl9 hoD))
end
section
variable{h:bM}{os:OsState}{a C dx:aE}{K:aA}{name:a8}
noncomputable def zM(K:aA)(C:aE)(name:a8):Bool:=findIn K (.ref C) "__getattribute__" == a_ (a_ (.builtin "BaseException.__getattribute__")) && findIn K (.ref C) name == a_ b_ && findIn K (.ref C) "__getattr__" == a_ b_ && mroIn K C (.type "BaseException") == a_ c_ && hasDictIn K C
def XO(a C dx:aE):bM->Prop:=λh=>∃oe,h.get? a=a_ oe/\oe.cls=.ref C/\oe.dict=a_ dx/\∃vs,oe.data=.fields vs
def C5(X:K.In h)(x:XO a C dx h)(hh:hasDictIn K C=c_)(hn:h.Ns dx mA):ig M h (inOwnDict name (.ref a)) (mA name):=λA Q E s k q=>by
 obtain⟨oe,he,hc,hd,vs,hv⟩:=x;obtain⟨cd,h1,h2⟩:=any_some hh;obtain⟨oc,odi,oda,osl⟩:=oe;dsimp only at hc hd hv;subst hc hd hv;have L:=Ma (M:=M) X h1
 have body:ax M A (instanceDict a d_) (λz s'=>ax M A (inDict name z) Q E s') E s:=by
  unfold instanceDict;refine wb9 (rB (k _ _ he) ?_);dsimp only;refine wb9 (L A _ E s k ?_);rw[h2];exact wu9 (wpAny_nsGet (hn.keeps k) q)
 exact wb9 (wb9 (rB (k _ _ he) body))
def Mn(X:K.In h)(q:zM K C name=c_)(x:XO a C dx h)(hn:h.Ns dx mA)(hv:mA name=a_ v)(ho:handedIn v=c_)(hq:Q v ⟨h,g,d,t+1,os⟩):ax (aB prog w) A (getAttr (.ref a) name expr) Q E ⟨h,g,d,t,os⟩:=by
 unfold zM at q;simp only[af,beq_iff_eq]at q;obtain⟨⟨⟨⟨q1,q2⟩,q3⟩,q5⟩,q6⟩:=q;have LO:=C5 (M:=aB prog w) (name:=name) X x q6 hn;rw[hv]at LO;obtain⟨oe,he,hc,_,vs,hd⟩:=x;have L0:ig (aB prog w) h (typeOf (.ref a)) (.ref C):=hc▸(lr he).andThen .now;have L1:=kz (M:=aB prog w) X q1;have L2:=kz (M:=aB prog w) X q2;have L3:=kz (M:=aB prog w) X q3;have L5:=zv (M:=aB prog w) X q5;unfold getAttr getAttrBy;refine wb9 (wpAny_mkText (ck (wb9 (L0.at (wb9 (L1.at ?_))))));dsimp only;rw[if_neg (by simp[onTheHeap])];have GA:=uu.ga;have f3:=GA.bind (.ref a);have fx:(expr && onTheHeap (.builtin "BaseException.__getattribute__"))=d_:=by cases expr<;>rfl
 unfold getAttrByItsOwn hookBefore callGetattribute boundAndCalled;rw[fx]
 repeat (any_goals (first|assumption|with_reducible refine Looks.at (by assumption) ?_|wp_step))
 refine gR GA.plain zx ?_;have hk:builtinKind "BaseException.__getattribute__"=a_ .slot:=by decide +kernel
 have hsplit:splitId "BaseException.__getattribute__"=a_ ("BaseException","__getattribute__"):=by decide +kernel
 have ha:=zI (.ref a) (.str name t);have LI:ig (aB prog w) h (isInstance (.ref a) (.type "BaseException")) c_:=L0.andThen L5;simp only[checkBuiltinCall,hk,hsplit];refine wb9 (LI.at ?_)
 repeat (any_goals (first|assumption|with_reducible refine Looks.at (by assumption) ?_|wp_step))
 show ax _ _ (handedOut v) _ _ _;rw[handedOut_of ho];exact wu9 hq
end
end L2
namespace L2
open PySem PySem.W PySem.W Builtin Builtin.ObjectAttr Builtin.Getset_descriptor
section
variable{os:OsState}{C:aE}{K:aA}
noncomputable def vS(K:aA)(C:aE):Bool:=findIn K (.ref C) "__getattribute__" == a_ (a_ (.builtin "BaseException.__getattribute__")) && findIn K (.ref C) "__class__" == a_ (a_ (.builtin "object.__class__")) &&
 findIn K (.ref C) "__getattr__" == a_ b_ && mroIn K C (.type "object") == a_ c_ && mroIn K C (.type "BaseException") == a_ c_
def Mo(X:K.In h)(q:vS K C=c_)(x:XO a C dx h)(hq:Q (a_ (.ref C)) ⟨h,g,d,t+1,os⟩):ax (aB prog w) A (getAttr? (.ref a) "__class__") Q E ⟨h,g,d,t,os⟩:=by
 unfold vS at q;simp only[af,beq_iff_eq]at q;obtain⟨⟨⟨⟨q1,q2⟩,q3⟩,q4⟩,q5⟩:=q;obtain⟨oe,he,hc,_,vs,hd⟩:=x;have L0:ig (aB prog w) h (typeOf (.ref a)) (.ref C):=hc▸(lr he).andThen .now;have L1:=kz (M:=aB prog w) X q1;have L2:=kz (M:=aB prog w) X q2;have L3:=kz (M:=aB prog w) X q3;have L4:=zv (M:=aB prog w) X q4;have L5:=zv (M:=aB prog w) X q5;unfold getAttr? getAttrBy? getAttrBy;refine wb9 (wpAny_mkText (wb9 (nV (ck (wb9 (L0.at (wb9 (L1.at ?_))))))));dsimp only;rw[if_neg (by simp[onTheHeap])];have GA:=uu.ga;have f3:=GA.bind (.ref a);unfold getAttrByItsOwn hookBefore callGetattribute boundAndCalled
 repeat (any_goals (first|assumption|with_reducible refine Looks.at (by assumption) ?_|wp_step))
 refine gR GA.plain zx ?_;have hk:builtinKind "BaseException.__getattribute__"=a_ .slot:=by decide +kernel
 have hsplit:splitId "BaseException.__getattribute__"=a_ ("BaseException","__getattribute__"):=by decide +kernel
 have ha:=zI (.ref a) (.str "__class__" t);have LI:ig (aB prog w) h (isInstance (.ref a) (.type "BaseException")) c_:=L0.andThen L5;simp only[checkBuiltinCall,hk,hsplit];refine wb9 (LI.at ?_);have f5:typeOf (.builtin "object.__class__")=pure (.type "getset_descriptor"):=BC;have hT5:∀(g:Array Mb)(d:Drawn)(t:Nat)(os:OsState),(⟨h,g,d,t,os⟩:aw).TypeIs (.builtin "object.__class__") "getset_descriptor":=λ_ _ _ _=>BC;have hT6:=hT5 g d (t+1) os;have f6:=PySem.F.slot_gs_get.lookup;have f7:=PySem.F.slot_gs_set.lookup
 repeat (any_goals (first|assumption|with_reducible refine Looks.at (by assumption) ?_|wp_step))
 refine gR KF.slot_gs.plain KF.entry_gs (KF.slot_gs.check _ _ _ _ _ _ _ _ BC (KF.args_gs _ _ _) ?_);unfold gX.«getset_descriptor.__get__» descrGet;rw[dga_obj];refine wb9 (wu9 ?_);unfold descrGetter descrCheckInstance descrNameAndClass isInstance;simp only[KF.owner_class]
 repeat lk
 refine⟨lP _ (by decide +kernel),jO KF.entry_class ?_⟩;unfold gX.«object.__class__» shownTypeOf
 repeat lk
 exact hq
set_option tactic.hygienic true in
def Kc(q:vS K C=c_):KitX K (.ref a) (.ref C) (XO a C dx) where
 ty:=λM h X ⟨oe,he,hc,_⟩=>hc▸(lr he).andThen .now
 it:=λM h X x=>by
  unfold vS at q;simp only[af,beq_iff_eq]at q;obtain⟨cd,hc,_⟩:=bS q.1.2;unfold clsIn at hc;split at hc
  ·rename_i ho;intro A' Q' E' s' k q;unfold isType loadHead;exact wb9 (rB (k _ _ (X _ _ ho)) (wu9 q))
  ·cases hc
 ne:=λh tp dd its n sl X htp=>by
  unfold vS at q;simp only[af,beq_iff_eq]at q;obtain⟨cd,hc,_⟩:=bS q.1.2;refine ml.mpr λq=>?_;have e:C=tp:=Value.ref.inj (beq_iff_eq.mp q);subst e;unfold clsIn at hc;split at hc
  ·rename_i ho;have z:=(X _ _ ho).symm.trans htp;cases z
  ·cases hc
 ca:=λ{prog w A E Q s}X x k=>by
  obtain⟨h,g,d,t,os⟩:=s;exact Mo X q x k
end
end L2
namespace L2
open PySem PySem.Spec PyProof.Rows
abbrev Key:=Sum Int a8
noncomputable def pz:Key->ak->Bool
 |.inl k,v=>Value.isInt k v
 |.inr x,v=>P0 x v
noncomputable def Y2(w:dH):Key->Int
 |.inl k=>hashInt k
 |.inr x=>hashStr w x
def dU:∀{k:Key}{v:ak},pz k v=c_->(∃i t,k=jy i/\v=HE i t)\/(∃x t,k=ej x/\v=HD x t)
 |.inl i,v,h=>by
   obtain⟨t,e⟩:=Value.isInt_shape (k:=i) (v:=v) h;exact .inl ⟨i,t,rfl,e⟩
 |.inr x,v,h=>by
   obtain⟨t,e⟩:=Value.isStrOf_shape (x:=x) (v:=v) h;exact .inr ⟨x,t,rfl,e⟩
def wZ(i:Int)(t:Tok):pz (.inl i) (.int i t)=c_:=by simp[pz,Value.isInt]
def sd(x:a8)(t:Tok):pz (.inr x) (.str x t)=c_:=by simp[pz,P0]
def TF(a b:Int):decide ((jy a:Key)=jy b)=(a == b):=by
 by_cases e:a=b
 ·subst e;simp
 ·have h:¬(jy a:Key)=jy b:=λq=>e (sL q);rw[decide_eq_false h];exact(beq_eq_false_iff_ne.mpr e).symm
def Tx(a b:a8):decide ((ej a:Key)=ej b)=decide (a=b):=by
 by_cases e:a=b
 ·subst e;simp
 ·have h:¬(ej a:Key)=ej b:=λq=>e (sJ q);rw[decide_eq_false h,decide_eq_false e]
def TC(a:Int)(b:a8):decide ((jy a:Key)=ej b)=d_:=decide_eq_false (λq=>nomatch q)
def TB(a:a8)(b:Int):decide ((ej a:Key)=jy b)=d_:=decide_eq_false (λq=>nomatch q)
def bT(prog:cY)(w:dH):me prog w Key where
 is:=pz
 hash:=Y2 w
 inj:=λv a b ha hb=>by
  rcases dU ha with⟨i,t,rfl,rfl⟩|⟨x,t,rfl,rfl⟩
  ·rcases dU hb with⟨j,u,rfl,e⟩|⟨y,u,rfl,e⟩
   ·injection e with e1 _;rw[e1]
   ·exact nomatch e
  ·rcases dU hb with⟨j,u,rfl,e⟩|⟨y,u,rfl,e⟩
   ·exact nomatch e
   ·injection e with e1 _;rw[e1]
 byValue:=λk v h=>by
  rcases dU h with⟨i,t,rfl,rfl⟩|⟨x,t,rfl,rfl⟩<;>rfl
 pyHash:=λhv h=>by
  rcases dU hv with⟨i,t,rfl,rfl⟩|⟨x,t,rfl,rfl⟩
  ·exact wpAny_pyHash_int h
  ·exact wpAny_pyHash_str h
 eqBool:=λhu hv h=>by
  rcases dU hu with⟨i,t,rfl,rfl⟩|⟨x,t,rfl,rfl⟩
  ·rcases dU hv with⟨j,u,rfl,rfl⟩|⟨y,u,rfl,rfl⟩
   ·rw[TF]at h;exact wpAny_eqBool_int h
   ·rw[TC]at h;exact SeqAt.EqAt.int_str i t y u _ _ _ _ h
  ·rcases dU hv with⟨j,u,rfl,rfl⟩|⟨y,u,rfl,rfl⟩
   ·rw[TB]at h;exact SeqAt.EqAt.str_int x t j u _ _ _ _ h
   ·rw[Tx]at h;exact wpAny_eqBool_str h
 «strs» :=λk x t v h=>by
  rcases dU h with⟨i,u,rfl,e⟩|⟨y,u,rfl,e⟩
  ·exact nomatch e
  ·injection e with e1 _
   subst e1;cases v<;>rfl
def Az(prog:cY)(w:dH)(i:Int)(t:Tok):(bT prog w).is (.inl i) (.int i t)=c_:=wZ i t
def Ay(prog:cY)(w:dH)(x:a8)(t:Tok):(bT prog w).is (.inr x) (.str x t)=c_:=sd x t
def U7(h h':bM):Prop:=∀b o,h.get? b=a_ o->o.cls=.type "tuple"->(∃its n,o.data=.seq its n)->h'.get? b=a_ o
structure Ik(P:cY)(w:dH) where
 κ:Type
 d:Nat
 is:bM->κ->ak->Prop
 hash:κ->Int
 draw:κ->Nat
 inj:∀{h:bM}{x y:κ}{v:ak},is h x v->is h y v->x=y
 mr:∀{h h':bM}{k:κ}{v:ak},U7 h h'->is h k v->is h' k v
 hsh:∀{A:cm}{E:ak->aw->Prop}{s:aw}{k:κ}{v:ak}{Q:Int->aw->Prop},A.units+d<=cP->is s.heap k v->Q (hash k) { s with toks:=s.toks+draw k }->ax (aB P w) A (pyHash v) Q E s
 eqb:∀{A:cm}{E:ak->aw->Prop}{s:aw}{x y:κ}{u v:ak}{Q:Bool->aw->Prop},A.units+d<=cP->is s.heap x u->is s.heap y v->(x=y->Q c_ s)->(x≠y->Q d_ s)->ax (aB P w) A (eqBool u v) Q E s
 qui:∀{A:cm}{E:ak->aw->Prop}{s:aw}{k:κ}{v:ak}{Q:Bool->aw->Prop}{n:Nat},d<=n->is s.heap k v->Q c_ s->ax (aB P w) A (eqIsQuiet n v) Q E s
 cla:∀{A:cm}{E:ak->aw->Prop}{s:aw}{k:κ}{v:ak}{Q:Bool->aw->Prop}{n:Nat},d<=n->is s.heap k v->Q d_ s->ax (aB P w) A (ofAClassStatement n v) Q E s
 hbv:∀{A:cm}{E:ak->aw->Prop}{s:aw}{k:κ}{v:ak}{Q:Bool->aw->Prop}{n:Nat},d<=n->is s.heap k v->(∀b,Q b s)->ax (aB P w) A (hashByValue n v) Q E s
section
variable{P:cY}{w:dH}{A:cm}{E:ak->aw->Prop}{z0:aw}{I:Ik P w}
def Lc(hv:carriedByValue v=c_)(h:Q d_ z0):ax (aB P w) A (ofAClassStatement n v) Q E z0:=by
 cases v<;>first|(cases hv;done)|(unfold ofAClassStatement;exact wu9 h)|(cases n<;>(unfold ofAClassStatement;exact wu9 h))
def Uc(hv:carriedByValue v=c_)(h:∀b,Q b z0):ax (aB P w) A (hashByValue n v) Q E z0:=by
 cases v<;>first|(cases hv;done)|(unfold hashByValue;exact wu9 (h _))|(cases n<;>(unfold hashByValue;exact wu9 (h _)))
abbrev GL(P:cY)(w:dH):Ik P w where
 κ:=Key
 d:=0
 is:=λ_ k v=>(bT P w).is k v=c_
 hash:=(bT P w).hash
 draw:=λ_=>1
 inj:=λex ey=>(bT P w).inj _ _ _ ex ey
 mr:=λ_ x=>x
 hsh:=λ_ gk h=>(bT P w).pyHash gk h
 eqb:=λ{A E s x y u v Q}_ ex ey h1 h2=>(bT P w).eqBool ex ey (by
  by_cases e:x=y
  ·rw[decide_eq_true e];exact h1 e
  ·rw[decide_eq_false e];exact h2 e)
 qui:=λ_ gk h=>by rw[eqIsQuiet_byValue _ ((bT P w).byValue _ _ gk)];exact wu9 h
 cla:=λ_ gk h=>Lc ((bT P w).byValue _ _ gk) h
 hbv:=λ_ gk h=>Uc ((bT P w).byValue _ _ gk) h
inductive zr (I:Ik P w) (h:bM):List I.κ->List ak->Prop
 |nil:zr I h [] []
 |cons {k:I.κ} {v:ak} {ks:List I.κ} {vs:List ak}:I.is h k v->zr I h ks vs->zr I h (k::ks) (v::vs)
def zE(I:Ik P w)(h:bM)(ks:List I.κ)(p:aE):Prop:=∃o its0 n,h.get? p=a_ o/\o.cls=.type "tuple"/\o.data=.seq its0 n/\zr I h ks its0.toList
theorem zr.inj(ex:zr I h x vs)(ey:zr I h y vs):x=y:=by
 induction ex generalizing y with
 |nil=>cases ey;rfl
 |cons h1 _ ih=>
   cases ey with
   |cons h2 t2=>rw[I.inj h1 h2,ih t2]
theorem zr.mr(k:U7 h h')(x:zr I h ks vs):zr I h' ks vs:=by
 induction x with
 |nil=>exact .nil
 |cons h1 _ ih=>exact .cons (I.mr k h1) ih
def zE.typeIs(x:zE I z0.heap ks p):z0.TypeIs (.ref p) "tuple":=let ⟨o,_,_,go,gc,_⟩:=x;⟨o,go,gc⟩
def zE.inj(ex:zE I h x p)(ey:zE I h y p):x=y:=by
 obtain⟨o,its0,n,go,_,gd,gi⟩:=ex;obtain⟨o',items',n',ho',_,hd',hi'⟩:=ey;obtain rfl:o=o':=aO (go.symm.trans ho');rw[gd]at hd'
 injection hd' with h1 _
 subst h1;exact gi.inj hi'
def zE.mr(k:U7 h h')(x:zE I h ks p):zE I h' ks p:=
 let ⟨o,its,n,h1,h2,h3,h4⟩:=x;⟨o,its,n,k p o h1 h2 ⟨_,_,h3⟩,h2,h3,h4.mr k⟩
noncomputable def ES(I:Ik P w)(ks:List I.κ):Int:=reduceHash (eo (ks.map I.hash))
def Ks(i_:A.units+(I.d+1)<=cP)(gk:zE I z0.heap ks p)(h:Q (ES I ks) { z0 with toks:=z0.toks+((ks.map I.draw).sum+1) }) :
  ax (aB P w) A (pyHash (.ref p)) Q E z0:=by
 have gt:=gk.typeIs;obtain⟨o,its0,n,go,_,gd,gi⟩:=gk;unfold pyHash
 first|unfold pyHashByItsType|skip
 first|refine wb9 (wpAny_cRoomFor_or (.inr (aN (bO _ _) i_)) ?_)|skip
 refine wb9 (lR gt gD.lookup ?_);show ax _ _ (if(a_ (Value.builtin "tuple.__hash__") == a_ di)=c_ then _ else _) Q E z0;rw[if_neg (by rw[beq_builtin_none];exact cJ)];refine wb9 (lR gt gD.lookup ?_);show ax _ _ (callSpecialIfBoundUnlessNone? (.ref p) "__hash__" _ >>= _) Q E z0;refine wb9 (wpAny_callSpecialIfBoundUnlessNone?_slot gt gD (bP gD gt PySem.F.entry_tuple_hash ?_ (PySem.F.args_tuple_hash_1 _)));show ax _ _ (j9 (.ref p) >>= _) _ _ z0;refine wb9 (um go gd ?_);refine wb9 ?_;rw[<-lN]
 refine jv _
  (λtl(b:Array Int)z1=>∃pre suf,ks=pre++suf/\zr I z0.heap suf tl/\b.toList=pre.map I.hash/\z1={ z0 with toks:=z0.toks+(pre.map I.draw).sum })
  _ ?_ ?_ _ _ ⟨[],ks,rfl,gi,rfl,rfl⟩
 ·rintro x tl b z1 ⟨pre,suf,rfl,gl,gb,rfl⟩
  cases gl with
  | @cons k _ ks' _ h1 gl'=>
    refine wb9 (I.hsh (s:={ z0 with toks:=z0.toks+(pre.map I.draw).sum }) ?_ h1 ?_)
    ·show A.units+1+I.d<=cP;omega
    first
     |exact wu9 ⟨pre++[k],ks',by simp,gl',by simp[gb],by simp[mX]⟩
     |exact wb9 (wu9 (wu9 ⟨pre++[k],ks',by simp,gl',by simp[gb],by simp[mX]⟩))
 ·rintro b z1 ⟨pre,suf,rfl,gl,gb,rfl⟩;cases gl;rw[bJ]at h;show ax _ _ (retInt (eo b.toList)) _ _ _;rw[gb];refine wpAny_ret_mkInt ?_;show ax _ _ (if(decide (-(2:Int) ^ 63<=eo (pre.map I.hash)) && decide (eo (pre.map I.hash)<2 ^ 63))=c_ then _ else _) Q E _;unfold ES reduceHash at h;by_cases ge:(decide (-(2:Int) ^ 63<=eo (pre.map I.hash)) && decide (eo (pre.map I.hash)<2 ^ 63))=c_
  ·rw[if_pos ge];rw[if_pos ge]at h;exact wu9 (by simpa [mX]using h)
  ·rw[if_neg ge];rw[if_neg ge]at h;exact wb9 (jU (wu9 (by simpa [mX]using h)))
def K3(i_:A.units+I.d<=cP)(ex:zE I z0.heap x p)(ey:zE I z0.heap y b)(h1:x=y->R (.done (.ret (.bool c_))) z0)(h2:x≠y->R (.done (.ret (.bool d_))) z0) :
  ax (aB P w) A (gX.«tuple.__eq__» ⟨[.ref p,.ref b],[]⟩) R E z0:=by
 have gtb:=ey.typeIs;obtain⟨oa,xs,na,goa,_,gda,gia⟩:=ex;obtain⟨ob,ys,nb,gob,_,gdb,gib⟩:=ey;show ax _ _ (isInstance (.ref b) (.type "tuple") >>= _) _ _ z0;refine wb9 (iq gtb LJ ?_);simp only[if_false,bf,gp];refine wb9 (um goa gda ?_);refine wb9 (um gob gdb ?_);refine wb9 ?_
 refine jv _
  (λtl r z1=>r.1=b_/\z1=z0/\∃x' y' xs' ys',tl=List.zip xs' ys'/\zr I z0.heap x' xs'/\zr I z0.heap y' ys'/\(x'=y'↔x=y)/\(xs'.length == ys'.length)=(xs.size == ys.size))
  _ ?_ ?_ _ _ ⟨rfl,rfl,x,y,xs.toList,ys.toList,rfl,gia,gib,Iff.rfl,by simp⟩
 ·rintro⟨u,v⟩ tl r z1 ⟨ge,rfl,x',y',xs',ys',gz,hx',hy',gdec,glen⟩
  cases hx' with
  |nil=>simp at gz
  | @cons k1 u' x'' xs'' q1 hx''=>
    cases hy' with
    |nil=>simp at gz
    | @cons k2 v' y'' ys'' q2 hy''=>
      simp only[vQ,i6,List.zip_cons_cons]at gz;obtain⟨⟨rfl,rfl⟩,rfl⟩:=gz;refine wb9 (I.eqb i_ q1 q2 (λgk=>?_) λgk=>?_)
      ·subst gk;simp only[if_false,bf,gp];refine wu9 ⟨rfl,rfl,x'',y'',xs'',ys'',rfl,hx'',hy'',?_,by simpa using glen⟩;rw[<-gdec];exact⟨λe=>by rw[e],λe=>(uA e).2⟩
      ·simp only[wy,if_true];exact wb9 (wu9 (wu9 (wu9 (h2 λe=>gk (uA (gdec.mpr e)).1))))
 ·rintro⟨r1,r2⟩ z1 ⟨ge,rfl,x',y',xs',ys',gz,hx',hy',gdec,glen⟩;simp only at ge;subst ge;refine wu9 ?_;show R (.done (.ret (.bool (xs.size == ys.size)))) z1;rw[<-glen]
  cases hx' with
  |nil=>
    cases hy' with
    |nil=>exact h1 (gdec.mp rfl)
    |cons _ _=>exact h2 λe=>nomatch gdec.mpr e
  |cons _ _=>
    cases hy' with
    |nil=>exact h2 λe=>nomatch gdec.mpr e
    |cons _ _=>simp at gz
def Xh(i_:A.units+(I.d+1)<=cP)(ex:zE I z0.heap x p)(ey:zE I z0.heap y b)(h1:x=y->Q c_ z0)(h2:x≠y->Q d_ z0) :
  ax (aB P w) A (eqBool (.ref p) (.ref b)) Q E z0:=by
 unfold eqBool
 try with_reducible refine ck ?_
 show ax _ _ (if(bI p == bI b)=c_ then _ else _) Q E z0;by_cases fab:(bI p == bI b)=c_
 ·rw[if_pos fab];have e:p=b:=by have:=eq_of_beq fab;injection this
  subst e;obtain rfl:=ex.inj ey;exact wb9 (jU (wu9 (h1 rfl)))
 ·rw[if_neg fab]
  exact wb9 (wpAny_richCompare_same_room (op:=.Eq) ex.typeIs ey.typeIs nL
   (bP nL ex.typeIs PySem.F.entry_tuple_eq (K3 (by show A.units+1+I.d<=cP;omega) ex ey (λe=>⟨_,rfl,(λe=>nomatch e),dh (h1 e)⟩) λe=>⟨_,rfl,(λe=>nomatch e),dh (h2 e)⟩) (PySem.F.args_tuple_eq_2 _ _)) (by omega))
def Ef(hn:I.d<=n)(gk:zE I z0.heap ks p)(h:Q c_ z0):ax (aB P w) A (eqIsQuiet (n+1) (.ref p)) Q E z0:=by
 have gt:=gk.typeIs;obtain⟨o,its0,m,go,_,gd,gi⟩:=gk;unfold eqIsQuiet;refine wb9 (lR gt nL.lookup ?_);show ax _ _ (isInstance (.ref p) (.type "tuple") >>= _) _ _ z0;refine wb9 (iq gt LJ ?_);simp only[if_false,bf,gp];refine wb9 (dE go gd ?_);refine wb9 ?_;show ax _ _ (forIn its0 _ _) _ _ z0;rw[<-lN];refine jv _ (λtl r z1=>r.1=b_/\z1=z0/\∃l,zr I z0.heap l tl) _ ?_ ?_ _ _ ⟨rfl,rfl,_,gi⟩
 ·rintro v tl r z1 ⟨ge,rfl,l,gl⟩
  cases gl with
  | @cons k _ ks' _ h1 gl'=>
    refine wb9 (I.qui hn h1 ?_);simp only[if_false,bf,gp];exact wu9 ⟨rfl,rfl,ks',gl'⟩
 ·rintro⟨r1,r2⟩ z1 ⟨ge,rfl,_⟩;simp only at ge;subst ge;exact wu9 h
def Pc(hn:I.d<=n)(gk:zE I z0.heap ks p)(h:Q d_ z0):ax (aB P w) A (ofAClassStatement (n+1) (.ref p)) Q E z0:=by
 obtain⟨o,its0,m,go,gc,gd,gi⟩:=gk;unfold ofAClassStatement;refine wb9 (wpAny_typeOf_ref go ?_);rw[gc];dsimp only;refine wb9 (wu9 ?_);simp only[if_false,bf,gp];refine wb9 (dE go gd ?_);refine wb9 ?_;show ax _ _ (forIn its0 _ _) _ _ z0;rw[<-lN];refine jv _ (λtl r z1=>r.1=b_/\z1=z0/\∃l,zr I z0.heap l tl) _ ?_ ?_ _ _ ⟨rfl,rfl,_,gi⟩
 ·rintro v tl r z1 ⟨ge,rfl,l,gl⟩
  cases gl with
  | @cons k _ ks' _ h1 gl'=>
    refine wb9 (I.cla hn h1 ?_);simp only[if_false,bf];exact wu9 ⟨rfl,rfl,ks',gl'⟩
 ·rintro⟨r1,r2⟩ z1 ⟨ge,rfl,_⟩;simp only at ge;subst ge;exact wu9 h
def W6(hn:I.d<=n)(gk:zE I z0.heap ks p)(h:∀b,Q b z0):ax (aB P w) A (hashByValue (n+1) (.ref p)) Q E z0:=by
 have gt:=gk.typeIs;obtain⟨o,its0,m,go,gc,gd,gi⟩:=gk;unfold hashByValue;refine wb9 (lR gt gD.lookup ?_);dsimp only;refine wb9 (dE go gd ?_);refine wb9 ?_;show ax _ _ (forIn its0 _ _) _ _ z0;rw[<-lN];refine jv _ (λtl r z1=>r.1=b_/\z1=z0/\∃l,zr I z0.heap l tl) _ ?_ ?_ _ _ ⟨rfl,rfl,_,gi⟩
 ·rintro v tl r z1 ⟨ge,rfl,l,gl⟩
  cases gl with
  | @cons k _ ks' _ h1 gl'=>
    refine wb9 (I.hbv hn h1 λb=>?_);cases b
    ·exact wu9 (wu9 (h _))
    ·exact wu9 ⟨rfl,rfl,ks',gl'⟩
 ·rintro⟨r1,r2⟩ z1 ⟨ge,rfl,_⟩;simp only at ge;subst ge;exact wu9 (h _)
abbrev tupI(I:Ik P w):Ik P w where
 κ:=Sum Key (List I.κ)
 d:=I.d+1
 is:=λh k v=>match k with
  |.inl k=>(bT P w).is k v=c_
  |.inr ks=>∃b,v=.ref b/\zE I h ks b
 hash:=λk=>match k with
  |.inl k=>(bT P w).hash k
  |.inr ks=>ES I ks
 draw:=λk=>match k with
  |.inl _=>1
  |.inr ks=>(ks.map I.draw).sum+1
 inj:=λ{h x y v}ex ey=>by
  cases x with
  |inl k=>
    cases y with
    |inl k'=>exact congrArg _ ((bT P w).inj _ _ _ ex ey)
    |inr ks=>obtain⟨b,rfl,_⟩:=ey;exact nomatch ((bT P w).byValue _ _ ex)
  |inr ks=>
    obtain⟨b,rfl,q⟩:=ex
    cases y with
    |inl k'=>exact nomatch ((bT P w).byValue _ _ ey)
    |inr ks'=>obtain⟨b',e,q'⟩:=ey;cases e;exact congrArg _ (q.inj q')
 mr:=λ{h h' k v}q x=>by
  cases k with
  |inl k=>exact x
  |inr ks=>obtain⟨b,e,z⟩:=x;exact⟨b,e,z.mr q⟩
 hsh:=λ{A E s k v Q}i_ gk h=>by
  cases k with
  |inl k=>exact(bT P w).pyHash gk h
  |inr ks=>obtain⟨b,rfl,z⟩:=gk;exact Ks i_ z h
 eqb:=λ{A E s x y u v Q}i_ ex ey h1 h2=>by
  cases x with
  |inl k=>
    cases y with
    |inl k'=>exact(GL P w).eqb (by show A.units+0<=cP;exact ae (bO _ _) i_) ex ey (λe=>h1 (by rw[e])) λe=>h2 λz=>e (sL z)
    |inr ks=>
      obtain⟨b,rfl,o,its,n,go,gc,gd,_⟩:=ey;have ht:s.heap.IsTuple b its:=⟨o,go,gc,n,gd⟩
      rcases dU ex with⟨i,t,rfl,rfl⟩|⟨z,t,rfl,rfl⟩
      ·exact SeqAt.EqAt.int_tuple i t ht (aN (bO _ _) i_) _ _ _ _ (h2 λe=>nomatch e)
      ·exact SeqAt.EqAt.str_tuple z t ht (by omega) _ _ _ _ (h2 λe=>nomatch e)
  |inr ks=>
    obtain⟨b,rfl,q⟩:=ex
    cases y with
    |inl k'=>
      obtain⟨o,its,n,go,gc,gd,_⟩:=q;have ht:s.heap.IsTuple b its:=⟨o,go,gc,n,gd⟩
      rcases dU ey with⟨i,t,rfl,rfl⟩|⟨z,t,rfl,rfl⟩
      ·exact SeqAt.EqAt.tuple_int i t ht (by omega) _ _ _ _ (h2 λe=>nomatch e)
      ·exact SeqAt.EqAt.tuple_str z t ht (by omega) _ _ _ _ (h2 λe=>nomatch e)
    |inr ks'=>
      obtain⟨b',rfl,q'⟩:=ey;exact Xh i_ q q' (λe=>h1 (by rw[e])) λe=>h2 λz=>e (sJ z)
 qui:=λ{A E s k v Q n}hn gk h=>by
  cases k with
  |inl k=>exact(GL P w).qui (bQ _) gk h
  |inr ks=>
    obtain⟨b,rfl,z⟩:=gk
    cases n with
    |zero=>exact((eh hn (bQ _))).elim
    |succ n=>exact Ef (cK hn) z h
 cla:=λ{A E s k v Q n}hn gk h=>by
  cases k with
  |inl k=>exact(GL P w).cla (bQ _) gk h
  |inr ks=>
    obtain⟨b,rfl,z⟩:=gk
    cases n with
    |zero=>omega
    |succ n=>exact Pc (cK hn) z h
 hbv:=λ{A E s k v Q n}hn gk h=>by
  cases k with
  |inl k=>exact(GL P w).hbv (bQ _) gk h
  |inr ks=>
    obtain⟨b,rfl,z⟩:=gk
    cases n with
    |zero=>omega
    |succ n=>exact W6 (cK hn) z h
end
abbrev N2:=Sum Key (List Key)
abbrev NK:=Sum Key (List N2)
noncomputable instance aal:DecidableEq N2:=instDecidableEqSum
instance aak:DecidableEq NK:=instDecidableEqSum
abbrev i2(P:cY)(w:dH):Ik P w:=tupI (GL P w)
abbrev i3(P:cY)(w:dH):Ik P w:=tupI (i2 P w)
abbrev Ve(P:cY)(w:dH):bM->List NK->List ak->Prop:=zr (i3 P w)
abbrev Z3(P:cY)(w:dH):bM->List NK->aE->Prop:=zE (i3 P w)
abbrev SX(P:cY)(w:dH):List NK->Int:=ES (i3 P w)
section
variable{A:cm}{z0:aw}
def Yl:(i3 P w).d<=7:=by show 2<=7;simp
def Zl(i_:A.units+3<=cP)(ex:Z3 P w z0.heap x p)(ey:Z3 P w z0.heap y b)(h:Q (decide (x=y)) z0) :
  ax (aB P w) A (eqBool (.ref p) (.ref b)) Q E z0:=
 Xh i_ ex ey (λe=>by rw[decide_eq_true e]at h;exact h) λe=>by rw[decide_eq_false e]at h;exact h
end
def sV(P:cY)(w:dH):HeapKind P w (List NK) where
 is:=Z3 P w
 hash:=SX P w
 draws:=λks=>(ks.map (i3 P w).draw).sum+1
 room:=λA=>A.units+3<=cP
 inj:=λex ey=>ex.inj ey
 keeps:=λ{h h' k a d o es ep}x go gd es0=>x.mr λb o' e _ ⟨i1,n1,q⟩=>(es0.2 b λz=>by
  subst z;rw[go]at e;cases e
  rw[gd]at q;cases q).trans e
 pyHash:=λi_ gk h=>Ks i_ gk h
 eqBool:=λi_ ex ey h=>Zl i_ ex ey h
 quiet:=λgk h=>Ef Yl gk h
inductive V where
 |non|bl (b:Bool)|int (i:Int)|str (x:a8)|byt (b:Array UInt8)|flt (b:UInt64)|ref (a:aE)|ty (n:String)
 deriving DecidableEq
def RelV:V->ak->Prop
 |.non,u=>u=di
 |.bl b,u=>u=j8 b
 |.int i,u=>∃t,u=HE i t
 |.str x,u=>∃t,u=HD x t
 |.byt b,u=>∃t,u=Value.bytes b t
 |.flt b,u=>∃t,u=Value.float b t
 |.ref a,u=>u=bI a
 |.ty n,u=>u=j7 n
abbrev bW:List V->List ak->Prop:=jC RelV
def bW.length(r:bW xs us):xs.length=us.length:=pG r
theorem bW.get:∀{xs:List V}{us:List ak}{i:Nat}{x:V},bW xs us->xs[i]?=a_ x->∃u,us[i]?=a_ u/\RelV x u
 |_,_,_,_,.nil,e=>by simp at e
 |_,_,0,_,.cons r _,e=>by simp at e;subst e;exact⟨_,rfl,r⟩
 |_,_,i+1,x,.cons _ t,e=>by
   obtain⟨u,h1,h2⟩:=bW.get (i:=i) (x:=x) t (by simpa using e);exact⟨u,by simpa using h1,h2⟩
theorem bW.set(r:RelV x u):∀{xs:List V}{us:List ak}(i:Nat),bW xs us->bW (xs.set i x) (us.set i u)
 |_,_,_,.nil=>.nil
 |_,_,0,.cons _ t=>.cons r t
 |_,_,i+1,.cons q t=>.cons q (bW.set r i t)
theorem bW.append:∀{xs ys:List V}{us ws:List ak},bW xs us->bW ys ws->bW (xs++ys) (us++ws)
 |_,_,_,_,.nil,s=>s
 |_,_,_,_,.cons r t,s=>.cons r (bW.append t s)
theorem bW.take:∀{xs:List V}{us:List ak}(n:Nat),bW xs us->bW (xs.take n) (us.take n)
 |_,_,0,_=>.nil
 |_,_,_+1,.nil=>.nil
 |_,_,n+1,.cons r t=>.cons r (bW.take n t)
theorem bW.drop:∀{xs:List V}{us:List ak}(n:Nat),bW xs us->bW (xs.drop n) (us.drop n)
 |_,_,0,r=>r
 |_,_,_+1,.nil=>.nil
 |_,_,n+1,.cons _ t=>bW.drop n t
def vF:Option V->Option ak->Prop
 |some v,a_ u=>RelV v u
 |none,b_=>True
 |_,_=>False
def KV{κ:Type}:List (κ×V)->List (κ×ak)->Prop:=jC λ(p:κ×V)(q:κ×ak)=>p.1=q.1/\RelV p.2 q.2
def kV:Key->V
 |.inl i=>.int i
 |.inr x=>.str x
inductive HO where
 |lst (xs:List V)
 |tup (xs:List V)
 |dK (k_:List (Key×V))|dT (k_:List (List Key×V))
 |dN (xs:List (List NK×aE))
 |set (S:Int->Bool) (n:Nat)
 |ins (C dx:aE) (fs:List (a8×V))
 |own (x:aE)
 |xd (fs:List (a8×V))
 |met (f x:aE)
 |rng (lo hi:Int)
 |kL (o:kX) (u:HO)
 |tbl (ps:Array ak)
 |ext (φ:bM->Prop)
abbrev Hp:=aE->Option HO
noncomputable def upd(H:Hp)(a:aE)(o:HO):Hp:=λb=>if b=a then a_ o else H b
def bh:upd H a o a=a_ o:=by unfold upd;rw[if_pos rfl]
def bq(h:b≠a):upd H a o b=H b:=by unfold upd;rw[if_neg h]
def Mt:upd (upd H a o) a u=upd H a u:=by
 funext b;unfold upd;split<;>rfl
def WG{H:Hp}{a b:aE}{o u:HO}(h:H a=a_ o)(h':H b=a_ u)(d:o≠u):a≠b:=by
 intro e;subst e;rw[h]at h';exact d (aO h')
def cC{H:Hp}{a b:aE}{o:HO}(h:H a=a_ o)(h':H b=b_):a≠b:=by
 intro e;subst e;rw[h]at h';cases h'
section
variable(P:cY)(w:dH)
def iH(H:Hp)(h:bM)(a:aE):HO->Prop
 |.lst xs=>xs.length<=aD/\∃(its:List ak) (n:Nat),bW xs its/\h.get? a=a_ { cls:=.type "list",data:=.seq its.toArray n }
 |.tup xs=>xs.length<=aD/\∃its:List ak,bW xs its/\Hn h a its.toArray
 |.dK k_=>k_.length<=aD/\(a == sysModules)=d_/\∃vs,KV k_ vs/\h.DictOf (bT P w) a vs
 | .dT k_=>k_.length<=aD/\(a == sysModules)=d_/\∃xs:List (List Key×aE×ak),
   jC (λ(p:List Key×V)(q:List Key×aE×ak)=>p.1=q.1/\H q.2.1=a_ (.tup (p.1.map kV))/\RelV p.2 q.2.2) k_ xs/\
   ∃o es ep,h.get? a=a_ o/\o.ExactDict/\o.data=.dict es ep/\es.toList=xs.map (entryOfKey (tupleKind (bT P w)))/\(xs.map (·.1)).Nodup
 |.dN xs=>xs.length<=aD/\(a == sysModules)=d_/\∃o es ep,h.get? a=a_ o/\o.ExactDict/\o.data=.dict es ep/\es.toList=xs.map (λx=>entryOfKey (sV P w) (x.1,x.2,.bool c_))/\(xs.map (·.1)).Nodup
 |.set S n=>h.SetOf (intKind P w) a S n
 | .ins C dx fs=>H dx=a_ (.own a)/\fs.length<=1000/\dx≠a/\h.get? a=a_ (PySem.W.instObj C dx)/\
   ∃mA,h.Ns1 dx mA/\(∀f,vF (fs.lookup f) (mA f))/\PySem.Within mA (fs.map (·.1))
 |.own _=>∃o,h.get? a=a_ o
 |.xd fs=>∃mA,h.Ns1 a mA/\∀f,vF (fs.lookup f) (mA f)
 |.rng lo hi=>∃t u v,h.get? a=a_ { cls:=.type "range",data:=.fields #[.int lo t,.int hi u,.int 1 v] }
 |.kL o u=>h.get? a=a_ o/\iH H h a u
 |.tbl ps=>h.get? a=a_ { cls:=.none,data:=.fields ps }
 |.met f x=>h.get? a=a_ (qk (.ref f) (.ref x))
 |.ext φ=>φ h/\(∃o,h.get? a=a_ o)/\∀h1 h2:bM,φ h1->(∀o,h1.get? a=a_ o->h2.get? a=a_ o)->φ h2
def pe(H:Hp)(h:bM):Prop:=∀a o,H a=a_ o->iH P w H h a o
end
section
variable{P:cY}{w:dH}{H:Hp}{h h':bM}{a:aE}{o:HO}
theorem iH.lt(x:iH P w H h a o):a<h.objs.size:=by
 cases o with
 |lst xs=>obtain⟨_,_,_,_,e⟩:=x;exact hl9 e
 |tup xs=>obtain⟨_,_,_,p⟩:=x;exact p.lt
 |dK k_=>obtain⟨_,_,_,_,o,_,_,e,_⟩:=x;exact hl9 e
 |dT k_=>obtain⟨_,_,_,_,o,_,_,e,_⟩:=x;exact hl9 e
 |dN xs=>obtain⟨_,_,o,_,_,e,_⟩:=x;exact hl9 e
 |set S n=>obtain⟨o,_,_,_,e,_⟩:=x;exact hl9 e
 |ins C dx fs=>obtain⟨_,_,_,e,_⟩:=x;exact hl9 e
 |own y=>obtain⟨_,e⟩:=x;exact hl9 e
 |xd fs=>obtain⟨_,⟨_,_,_,e,_⟩,_⟩:=x;exact hl9 e
 |rng lo hi=>obtain⟨_,_,_,e⟩:=x;exact hl9 e
 |kL ob u=>obtain⟨e,_⟩:=x;exact hl9 e
 |tbl ps=>exact hl9 (show h.get? a=a_ _ from x)
 |met f y=>exact hl9 (show h.get? a=a_ _ from x)
 |ext φ=>obtain⟨_,⟨_,e⟩,_⟩:=x;exact hl9 e
theorem Paired.Te{α β:Type}{F G:α->β->Prop}:∀{l₁:List α}{l₂:List β},jC F l₁ l₂->(∀a b,F a b->G a b)->jC G l₁ l₂
 |_,_,.nil,_=>.nil
 |_,_,.cons r t,f=>.cons (f _ _ r) (Paired.Te t f)
def iH.mr(x:iH P w H h a o)(k:∀b u,(b=a\/H b=a_ (.own a))->h.get? b=a_ u->h'.get? b=a_ u)
  (ho:∀b,H b=a_ (.own a)->H' b=a_ (.own a))(ht:∀b xs,H b=a_ (.tup xs)->H' b=a_ (.tup xs)):iH P w H' h' a o:=by
 induction o with
 |lst xs=>obtain⟨z,its,n,r,e⟩:=x;exact⟨z,its,n,r,k _ _ (.inl rfl) e⟩
 |tup xs=>obtain⟨z,its,r,ob,e,c⟩:=x;exact⟨z,its,r,ob,k _ _ (.inl rfl) e,c⟩
 |dK k_=>obtain⟨z,y,vs,r,ob,es,ep,e,c⟩:=x;exact⟨z,y,vs,r,ob,es,ep,k _ _ (.inl rfl) e,c⟩
 |dT k_=>
   obtain⟨z,y,xs,r,ob,es,ep,e,c⟩:=x;exact⟨z,y,xs,Paired.Te r λp q z=>⟨z.1,ht _ _ z.2.1,z.2.2⟩,ob,es,ep,k _ _ (.inl rfl) e,c⟩
 |dN xs=>obtain⟨z,y,ob,es,ep,e,c⟩:=x;exact⟨z,y,ob,es,ep,k _ _ (.inl rfl) e,c⟩
 |set S n=>obtain⟨ob,es,ep,t,e,c⟩:=x;exact⟨ob,es,ep,t,k _ _ (.inl rfl) e,c⟩
 |ins C dx fs=>
   obtain⟨d,z,ne,e,mA,⟨od,es,ep,e2,c⟩,r⟩:=x;exact⟨ho _ d,z,ne,k _ _ (.inl rfl) e,mA,⟨od,es,ep,k _ _ (.inr d) e2,c⟩,r⟩
 |own y=>obtain⟨ob,e⟩:=x;exact⟨ob,k _ _ (.inl rfl) e⟩
 |xd fs=>obtain⟨mA,⟨od,es,ep,e,c⟩,r⟩:=x;exact⟨mA,⟨od,es,ep,k _ _ (.inl rfl) e,c⟩,r⟩
 |rng lo hi=>obtain⟨t,u,v,e⟩:=x;exact⟨t,u,v,k _ _ (.inl rfl) e⟩
 |kL ob u ih=>obtain⟨e,q⟩:=x;exact⟨k _ _ (.inl rfl) e,ih q⟩
 |tbl ps=>
   have e:h.get? a=a_ { cls:=.none,data:=.fields ps }:=x;show h'.get? a=a_ { cls:=.none,data:=.fields ps };exact k a _ (.inl rfl) e
 |met f y=>
   have e:h.get? a=a_ (qk (.ref f) (.ref y)):=x;show h'.get? a=a_ (qk (.ref f) (.ref y));exact k a _ (.inl rfl) e
 |ext φ=>obtain⟨p,⟨o,e⟩,st⟩:=x;exact⟨st _ _ p λo q=>k _ _ (.inl rfl) q,⟨o,k _ _ (.inl rfl) e⟩,st⟩
def pe.lt(x:pe P w H h)(e:H a=a_ o):a<h.objs.size:=(x a o e).lt
def pe.fresh(x:pe P w H h)(e:h.objs.size<=a):H a=b_:=by
 cases q:H a with
 |none=>rfl
 |some u=>exact absurd (aW (x.lt q) e) (bp _)
def pe.kept(x:pe P w H h)(k:∀b u,h.get? b=a_ u->h'.get? b=a_ u):pe P w H h':=λa o e=>
 (x a o e).mr (λb u _ q=>k b u q) (λ_ q=>q) λ_ _ q=>q
def pe.laid(x:pe P w H h)(k:∀b u,h.get? b=a_ u->h'.get? b=a_ u)(hp:h.objs.size<=a)(new:iH P w (upd H a o) h' a o):pe P w (upd H a o) h':=λb u e=>by
 have hn:=x.fresh hp;by_cases hb:b=a
 ·subst hb;rw[bh]at e;cases e;exact new
 ·rw[bq hb]at e;exact(x b u e).mr (λc v _ q=>k c v q) (λc q=>by rw[bq (cC q hn)];exact q) λc xs q=>by rw[bq (cC q hn)];exact q
end
def Rd(H:Hp)(a:aE)(u:HO):Prop:=H a=a_ u\/∃o,H a=a_ (.kL o u)
def Rd.ok(r:Rd H a u)(x:pe P w H h):iH P w H h a u:=by
 rcases r with r|⟨o,r⟩
 ·exact x a u r
 ·obtain⟨_,q⟩:=x a _ r;exact q
def VA:Option HO->Prop
 |some (.lst _)=>True
 |some (.dK _)=>True
 |some (.dT _)=>True
 |some (.dN _)=>True
 |some (.set _ _)=>True
 |some (.ins _ _ _)=>True
 |some (.ext _)=>True
 |_=>False
section
variable{h':bM}
def pe.write(ok:pe P w H h)(mu:VA (H x))(he:e=x\/H e=a_ (.own x))(k:∀b u,b≠e->h.get? b=a_ u->h'.get? b=a_ u)(heo:∃u,h'.get? e=a_ u)
  (new:iH P w (upd H x o') h' x o'):pe P w (upd H x o') h':=λb u q=>by
 have nown:∀c y,H c=a_ (.own y)->c≠x:=λc y r z=>by subst z;rw[r]at mu;exact mu
 have ntup:∀c xs,H c=a_ (.tup xs)->c≠x:=λc xs r z=>by subst z;rw[r]at mu;exact mu
 by_cases hb:b=x
 ·subst hb;rw[bh]at q;cases q;exact new
 ·rw[bq hb]at q;by_cases hbe:b=e
  ·have q':H b=a_ (.own x):=by
    rcases he with z|z
    ·exact absurd (hbe.trans z) hb
    ·rw[hbe];exact z
   rw[q]at q';cases q';obtain⟨v,hv⟩:=heo;exact⟨v,by rw[hbe];exact hv⟩
  ·refine(ok b u q).mr (λc v hc r=>k c v ?_ r) (λc r=>by rw[bq (nown c b r)];exact r) λc xs r=>by rw[bq (ntup c xs r)];exact r
   rcases hc with rfl|hc
   ·exact hbe
   ·rintro rfl
    rcases he with z|z
    ·exact nown c b hc z
    ·rw[hc]at z;cases z;exact hb rfl
end
structure Un(fs ex:List aE)(H H':Hp)(h h':bM):Prop where
 keep:∀b o,h.get? b=a_ o->H b=b_->b∉fs->b∉ex->h'.get? b=a_ o
 slot:∀b o,h.get? b=a_ o->H b=b_->b∈fs->b∉ex->∃sl,h'.get? b=a_ { o with slots:=sl }
 free:∀b o,h.get? b=a_ o->H b=b_->b∉ex->H' b=b_
 there:∀b o,h.get? b=a_ o->b∉ex->∃o',h'.get? b=a_ o'
 tups:∀b xs,H b=a_ (.tup xs)->H' b=a_ (.tup xs)
 frzs:∀b o u,H b=a_ (.kL o u)->H' b=a_ (.kL o u)
 tbls:∀b ps,H b=a_ (.tbl ps)->∃more,H' b=a_ (.tbl (ps++more))
section
variable{h h':bM}
def Un.any(u:Un fs ex H H1 h h1)(q:h.get? b=a_ ob)(n:H b=b_)(hx:b∉ex):∃sl,h1.get? b=a_ { ob with slots:=sl }:=by
 by_cases hb:b∈fs
 ·exact u.slot b ob q n hb hx
 ·exact⟨ob.slots,u.keep b ob q n hb hx⟩
def Un.kept(k:∀b u,h.get? b=a_ u->h'.get? b=a_ u):Un fs ex H H h h':=
 ⟨λb ob q _ _ _=>k b ob q,λb ob q _ _ _=>⟨ob.slots,k b ob q⟩,λ_ _ _ n _=>n,λb ob q _=>⟨ob,k b ob q⟩,λ_ _ q=>q,λ_ _ _ q=>q,λ_ ps q=>⟨#[],by rw[q];simp⟩⟩
def Un.refl:Un fs ex H H h h:=Un.kept λ_ _ q=>q
def Un.laid(k:∀b u,h.get? b=a_ u->h'.get? b=a_ u)(hp:h.objs.size<=a)(hn:H a=b_):Un fs ex H (upd H a o) h h' where
 keep:=λb u q _ _ _=>k b u q
 slot:=λb u q _ _ _=>⟨u.slots,k b u q⟩
 free:=λb u q n _=>by rw[bq (bc (aW (hl9 q) hp))];exact n
 there:=λb u q _=>⟨u,k b u q⟩
 tups:=λb xs q=>by rw[bq (cC q hn)];exact q
 frzs:=λb u xs q=>by rw[bq (cC q hn)];exact q
 tbls:=λb ps q=>⟨#[],by rw[bq (cC q hn),q];simp⟩
def Un.write(mu:VA (H x))(he:e=x\/H e=a_ (.own x))(k:∀b u,b≠e->h.get? b=a_ u->h'.get? b=a_ u)(heo:∃u,h'.get? e=a_ u):Un fs ex H (upd H x o) h h':=by
 have hx:∀b,H b=b_->b≠x:=λb n z=>by subst z;rw[n]at mu;exact mu
 have hb:∀b,H b=b_->b≠e:=λb n z=>by
  subst z
  rcases he with r|r
  ·exact hx b n r
  ·rw[n]at r;cases r
 have hm:∀b u,H b=a_ u->¬VA (a_ u)->b≠x:=λb u q nm z=>by subst z;rw[q]at mu;exact nm mu
 refine⟨λb u q n _ _=>k b u (hb b n) q,λb u q n _ _=>⟨u.slots,k b u (hb b n) q⟩,λb u q n _=>by rw[bq (hx b n)];exact n,λb u q _=>?_,
  λb xs q=>by rw[bq (hm b _ q λz=>z)];exact q,λb u xs q=>by rw[bq (hm b _ q λz=>z)];exact q,λb ps q=>⟨#[],by rw[bq (hm b _ q λz=>z),q];simp⟩⟩
 by_cases hbe:b=e
 ·subst hbe;exact heo
 ·exact⟨u,k b u hbe q⟩
end
noncomputable def XW(h:bM)(H:Hp):List aE:=(aP h.objs.size).filter λa=>(H a).isSome
def yQ(h:bM)(H:Hp):bM:=nu h (XW h H)
def GP(h:bM)(H:Hp):(yQ h H).objs.size=h.objs.size:=PySem.W.hideAll_size _ _
def Kr{h:bM}(e:h.get? b=a_ o)(n:H b=b_):(yQ h H).get? b=a_ o:=
 kH _ e λhm=>by
  have q:(H b).isSome=c_:=(jw.mp hm).2;rw[n]at q;simp at q
def NZ(e:(yQ h H).get? b=a_ o):h.get? b=a_ o/\H b=b_:=by
 have e':h.get? b=a_ o:=BP (XW h H) e;refine⟨e',?_⟩
 cases q:H b with
 |none=>rfl
 |some x=>
   have hm:b∈XW h H:=jw.mpr ⟨aR.mpr (hl9 e'),by simp[q]⟩;have z:(yQ h H).get? b=b_:=zF (XW h H) hm;rw[z]at e;cases e
noncomputable def PJ(g h:bM)(L:aE):List (aE×kX):=(aP h.objs.size).filterMap λa=>if a=L\/(g.get? a).isSome=c_ then b_ else(h.get? a).map λo=>(a,o)
def rest(g h:bM)(L d:aE):List (aE×kX):=(PJ g h L).filter λp=>decide (p.1≠d)
structure Mod(K:aA)(mg:a8->Option ak)(base:bM):Prop where
 kin:K.In base
 glob:base.Ns mainGlobals mg
 blt:∃mb,base.Ns builtinsNs mb/\∀x:a8,x≠"__name__"->mb x=bootBuiltins x
 nolimit:base.NoLimit
structure Cx where
 prog:cY
 w:dH
 K:aA
 mg:a8->Option ak
 base:bM
 A:cm
 N:List a8
 s₀:aw
 H₀:Hp
 env:HI
 outer:List HI
 stack:List HI
 ex:List aE
 fn:a8->Bool
 calm:Bool
 pn:List (aE×kX)
 xe:ak->aw->Prop
def nF(l:List HI):List aE:=l.filterMap (·.frame)
abbrev Cx.fs(X:Cx):List aE:=nF X.outer
def LA(sc:l8)(x:a8):Prop:=sc.names.lookup x=a_ .local\/sc.names.lookup x=a_ .cell\/sc.names.lookup x=a_ .free
def Loc(sc:l8)(x:a8):Prop:=sc.names.lookup x=a_ .local\/sc.names.lookup x=a_ .cell
def Look(env:HI)(h:bM)(m:a8->Option ak)(x:a8)(u:ak):Prop:=
 (env.kindOf x=a_ .local/\m x=a_ u)\/((env.kindOf x=a_ .cell\/env.kindOf x=a_ .free)/\∃c,env.cells.lookup x=a_ c/\h.IsCell c (a_ u))
structure Cx.Ok(X:Cx):Prop where
 mod:Mod X.K X.mg X.base
 kind:X.env.scope.kind=.function
 glob:X.env.globals=mainGlobals
 blt:X.env.builtins=builtinsNs
 above:X.s₀.heap.objs.size<=X.env.locals
 inj:∀x y c,X.env.cells.lookup x=a_ c->X.env.cells.lookup y=a_ c->x=y
 has:∀x,(X.env.kindOf x=a_ .cell\/X.env.kindOf x=a_ .free)->∃c,X.env.cells.lookup x=a_ c
 cab:∀x c,X.fn x=c_->X.env.cells.lookup x=a_ c->X.s₀.heap.objs.size<=c
 hd:X.calm=c_->X.A.handled=b_
 frames:X.A.frames=a_ X.stack
 MC:X.stack=X.outer\/(X.stack=X.env::X.outer/\X.env.frame=a_ X.env.locals)
 exf:∀b∈X.ex,b≠X.env.locals/\∀x c,X.env.cells.lookup x=a_ c->c≠b
 bs:∀b o,X.base.get? b=a_ o->X.s₀.heap.get? b=a_ o/\X.H₀ b=b_
 bsz:X.base.objs.size<=X.s₀.heap.objs.size
 noex:∀b o,X.base.get? b=a_ o->b∉X.ex
 exfs:∀b∈X.ex,b∉X.fs
 pS:X.s₀.heap.FunFrames X.base X.outer
 frf:∀b∈X.fs,X.H₀ b=b_
structure Inv(X:Cx)(h_:List (aE×kX))(σ:List (Option V))(H:Hp)(s:aw):Prop where
 ok:X.Ok
 os:s.os=X.s₀.os
 bare:kE s.gens
 base:Un X.fs X.ex X.H₀ H X.s₀.heap s.heap
 loc:∃m,s.heap.Ns X.env.locals m/\∀(i:Nat)(x:a8)(v:V),X.N[i]?=a_ x->σ[i]?=a_ (a_ v)->LA X.env.scope x->∃u,RelV v u/\Look X.env s.heap m x u
 cell:∀x c,X.env.cells.lookup x=a_ c->∃v,s.heap.IsCell c v
 free:H X.env.locals=b_
 freeC:∀x c,X.env.cells.lookup x=a_ c->H c=b_
 pin:∀p∈X.pn++h_,s.heap.get? p.1=a_ p.2/\H p.1=b_/\p.1≠X.env.locals/\p.1∉X.fs/\∀v,p.2.data≠.cell v
 hok:pe X.prog X.w H s.heap
 len:σ.length=X.N.length
section
variable{X:Cx}{h_:List (aE×kX)}{σ:List (Option V)}{H:Hp}{s:aw}{h':bM}
def Cx.Ok.SY(ok:X.Ok)(e:X.base.get? b=a_ o):b∉X.fs:=λhb=>by
 have:=(ok.pS.mem hb).1;rw[e]at this;cases this
def Inv.bs(I:Inv X h_ σ H s):∀b o,X.base.get? b=a_ o->s.heap.get? b=a_ o/\H b=b_:=λb o e=>
 ⟨I.base.keep b o (I.ok.bs b o e).1 (I.ok.bs b o e).2 (I.ok.SY e) (I.ok.noex b o e),I.base.free b o (I.ok.bs b o e).1 (I.ok.bs b o e).2 (I.ok.noex b o e)⟩
def Inv.bk(I:Inv X h_ σ H s):∀b o,X.base.get? b=a_ o->s.heap.get? b=a_ o:=λb o e=>(I.bs b o e).1
def Inv.mod(I:Inv X h_ σ H s):Mod X.K X.mg X.base:=I.ok.mod
def Inv.tJ(I:Inv X h_ σ H s):X.K.In s.heap:=I.ok.mod.kin.keeps I.bk
def Inv.fr(I:Inv X h_ σ H s):∃m,Fr X.base X.env.locals s.heap m:=
 let ⟨m,hn,_⟩:=I.loc
 ⟨m,hn,I.bk,ae I.ok.bsz I.ok.above⟩
def Inv.lt(I:Inv X h_ σ H s):X.env.locals<s.heap.objs.size:=let ⟨_,hn,_⟩:=I.loc;hn.lt
def Inv.sz(I:Inv X h_ σ H s):X.s₀.heap.objs.size<=s.heap.objs.size:=ae I.ok.above (bo I.lt)
def Inv.WD(I:Inv X h_ σ H s)(h:s.heap.objs.size<=a):a∉X.fs:=λhb=>by
 obtain⟨_,o,ho,_⟩:=I.ok.pS.mem hb;exact absurd (aW (hl9 ho) (ae I.sz h)) (bp _)
def Inv.QE(I:Inv X h_ σ H s):∀x c,X.env.cells.lookup x=a_ c->c≠X.env.locals:=λx c e z=>by
 obtain⟨v,o,ho,hd⟩:=I.cell x c e;obtain⟨m,⟨o',es,ep,ho',hd',_⟩,_⟩:=I.loc;rw[z,ho']at ho;cases ho;rw[hd']at hd;cases hd
theorem Inv.pS(I:Inv X h_ σ H s):s.heap.FunFrames X.base X.outer:=by
 have all:∀(l:List HI),(∀b∈nF l,b∈X.fs)->X.s₀.heap.FunFrames X.base l->s.heap.FunFrames X.base l:=by
  intro l
  induction l with
  |nil=>intro _ _;trivial
  |cons env r ih=>
    intro hs hl;obtain⟨hk,⟨L,o,hf,hn,ho,hd⟩,hr⟩:=hl;have hL:L∈X.fs:=hs L (by unfold nF;rw[qh,hf];exact iw);obtain⟨sl,e⟩:=I.base.slot L o ho (I.ok.frf L hL) hL λz=>I.ok.exfs L z hL;exact⟨hk,⟨L,_,hf,hn,e,hd⟩,ih (λb hb=>hs b (by unfold nF;rw[qh,hf];exact jd _ hb)) hr⟩
 exact all X.outer (λ_ hb=>hb) I.ok.pS
def Inv.stack(I:Inv X h_ σ H s):s.heap.FunFrames X.base X.stack:=by
 rcases I.ok.MC with e|⟨e,hf⟩
 ·rw[e];exact I.pS
 ·rw[e];obtain⟨m,hn,_⟩:=I.loc;refine .cons (by rw[I.ok.kind];decide) hf hn ?_ I.pS;exact pg (ae I.ok.bsz I.ok.above)
def Inv.uG(I:Inv X h_ σ H s):∀b∈nF X.stack,b∈X.env.locals::X.fs:=λb hb=>by
 rcases I.ok.MC with e|⟨e,hf⟩
 ·rw[e]at hb;exact jd _ hb
 ·rw[e]at hb;unfold nF at hb;rw[qh,hf]at hb;exact hb
def Inv.yh(I:Inv X h_ σ H s):∀b∈nF X.stack,H b=b_:=λb hb=>by
 rcases aq.mp (I.uG b hb)with e|hb
 ·rw[e];exact I.free
 ·obtain⟨_,o,ho,_⟩:=I.ok.pS.mem hb;exact I.base.free b o ho (I.ok.frf b hb) λz=>I.ok.exfs b z hb
def Inv.step{g':Array Mb}{t':Nat}{d':Drawn}{ch:List aE}(I:Inv X h_ σ H s)
  (hch:∀b∈ch,(b∈X.ex\/X.s₀.heap.objs.size<=b)/\b≠X.env.locals/\(∀x c,X.env.cells.lookup x=a_ c->c≠b)/\∀p∈X.pn++h_,p.1≠b)
  (keep:∀b o,b≠X.env.locals->b∉X.fs->b∉ch->s.heap.get? b=a_ o->H b=b_->h'.get? b=a_ o)
  (slot:∀b o,b≠X.env.locals->b∈X.fs->b∉ch->s.heap.get? b=a_ o->H b=b_->∃sl,h'.get? b=a_ { o with slots:=sl })(free:∀b o,b∉ch->s.heap.get? b=a_ o->H b=b_->H' b=b_)
  (there:∀b o,b∉ch->s.heap.get? b=a_ o->∃o',h'.get? b=a_ o')
  (tups:∀b xs,H b=a_ (.tup xs)->H' b=a_ (.tup xs))(frzs:∀b o u,H b=a_ (.kL o u)->H' b=a_ (.kL o u))(tbls:∀b ps,H b=a_ (.tbl ps)->∃more,H' b=a_ (.tbl (ps++more)))
  (ns:∀m,s.heap.Ns X.env.locals m->h'.Ns X.env.locals m)(hok:pe X.prog X.w H' h')(hg:kE g') :
  Inv X h_ σ H' { s with heap:=h',gens:=g',drawn:=d',toks:=t' }:=by
 have neL:∀b o,X.s₀.heap.get? b=a_ o->b≠X.env.locals:=λb o e=>bc (aW (hl9 e) I.ok.above)
 have neC:∀b o,X.s₀.heap.get? b=a_ o->b∉X.ex->b∉ch:=λb o e hx hb=>by
  rcases(hch b hb).1 with z|z
  ·exact hx z
  ·exact absurd (aW (hl9 e) z) (bp _)
 have cellK:∀x c,X.env.cells.lookup x=a_ c->∀v,s.heap.IsCell c v->h'.IsCell c v:=λx c e v z4=>by
  obtain⟨o,ho,hd⟩:=z4;have nch:c∉ch:=λz=>(hch c z).2.2.1 x c e rfl;by_cases hc:c∈X.fs
  ·obtain⟨sl,q⟩:=slot c o (I.QE x c e) hc nch ho (I.freeC x c e);exact⟨_,q,hd⟩
  ·exact⟨o,keep c o (I.QE x c e) hc nch ho (I.freeC x c e),hd⟩
 refine⟨I.ok,I.os,hg,⟨λb o e n hb hx=>?_,λb o e n hb hx=>?_,λb o e n hx=>?_,λb o e hx=>?_,λb xs e=>tups b xs (I.base.tups b xs e),λb o xs e=>frzs b o xs (I.base.frzs b o xs e),λb ps e=>?_⟩,?_,λx c e=>?_,?_,λx c e=>?_,λp hp=>?_,hok,I.len⟩
 ·exact keep b o (neL b o e) hb (neC b o e hx) (I.base.keep b o e n hb hx) (I.base.free b o e n hx)
 ·obtain⟨sl,e1⟩:=I.base.slot b o e n hb hx;obtain⟨sl',e2⟩:=slot b _ (neL b o e) hb (neC b o e hx) e1 (I.base.free b o e n hx);exact⟨sl',e2⟩
 ·obtain⟨o',e1⟩:=I.base.there b o e hx;exact free b o' (neC b o e hx) e1 (I.base.free b o e n hx)
 ·obtain⟨o',e1⟩:=I.base.there b o e hx;exact there b o' (neC b o e hx) e1
 ·obtain⟨m1,e1⟩:=I.base.tbls b ps e;obtain⟨m2,e2⟩:=tbls b _ e1;exact⟨m1++m2,by rw[e2,FQ]⟩
 ·obtain⟨m,hn,hl⟩:=I.loc;refine⟨m,ns m hn,λi x v e1 e2 e3=>?_⟩;obtain⟨u,r,l⟩:=hl i x v e1 e2 e3;refine⟨u,r,?_⟩
  rcases l with l|⟨k,c,e,z⟩
  ·exact .inl l
  ·exact .inr ⟨k,c,e,cellK x c e _ z⟩
 ·obtain⟨v,z⟩:=I.cell x c e;exact⟨v,cellK x c e v z⟩
 ·obtain⟨m,⟨o,_,_,ho,_⟩,_⟩:=I.loc;exact free _ o (λz=>(hch _ z).2.1 rfl) ho I.free
 ·obtain⟨v,o,ho,hd⟩:=I.cell x c e;exact free c o (λz=>(hch c z).2.2.1 x c e rfl) ho (I.freeC x c e)
 ·obtain⟨e,n,ne,nf,d⟩:=I.pin p hp;have nch:p.1∉ch:=λz=>(hch p.1 z).2.2.2 p hp rfl;exact⟨keep p.1 p.2 ne nf nch e n,free p.1 p.2 nch e n,ne,nf,d⟩
def Inv.un(I:Inv X h_ σ H s)(u:Un X.fs [] H H' s.heap h')(hok:pe X.prog X.w H' h'):Inv X h_ σ H' { s with heap:=h',toks:=t' }:=by
 obtain⟨m,⟨o,es,ep,ho,r⟩,_⟩:=id I.loc;obtain⟨sl,hL⟩:=u.any ho I.free (by simp)
 exact I.step (g':=s.gens) (d':=s.drawn) (ch:=[]) (λ_ z=>nomatch z) (λb o _ hb _ e n=>u.keep b o e n hb (by simp)) (λb o _ hb _ e n=>u.slot b o e n hb (by simp)) (λb o _ e n=>u.free b o e n (by simp)) (λb o _ e=>u.there b o e (by simp)) u.tups u.frzs u.tbls (λm' hm=>by
  obtain⟨o',es',ep',ho',r'⟩:=hm;rw[ho]at ho';cases ho'
  exact⟨_,es',ep',hL,r'⟩) hok I.bare
def Inv.call(I:Inv X h_ σ H s)(u:Un (nF X.stack) ch H H' s.heap h')(hok:pe X.prog X.w H' h')(hg:kE g')
  (hch:∀b∈ch,(b∈X.ex\/X.s₀.heap.objs.size<=b)/\b≠X.env.locals/\(∀x c,X.env.cells.lookup x=a_ c->c≠b)/\∀p∈X.pn++h_,p.1≠b) :
  Inv X h_ σ H' { s with heap:=h',gens:=g',drawn:=d',toks:=t' }:=by
 obtain⟨m,⟨o,es,ep,ho,r⟩,_⟩:=id I.loc;obtain⟨sl,hL⟩:=u.any ho I.free λz=>(hch _ z).2.1 rfl
 exact I.step (ch:=ch) hch (λb o hL hb hc e n=>u.keep b o e n (λz=>(aq.mp (I.uG b z)).elim hL hb) hc) (λb o _ _ hc e n=>u.any e n hc) (λb o hc e n=>u.free b o e n hc) (λb o hc e=>u.there b o e hc) u.tups u.frzs u.tbls (λm' hm=>by
  obtain⟨o',es',ep',ho',r'⟩:=hm;rw[ho]at ho';cases ho'
  exact⟨_,es',ep',hL,r'⟩) hok hg
def Inv.turned(I:Inv X h_ σ H s)(k:∀b o,b≠it->s.heap.get? b=a_ o->h'.get? b=a_ o)(hn:H it=b_)(hL:it≠X.env.locals)
  (h1:it∈X.ex\/X.s₀.heap.objs.size<=it)(h2:∀x c,X.env.cells.lookup x=a_ c->c≠it)(h3:∀p∈X.pn++h_,p.1≠it):Inv X h_ σ H { s with heap:=h',toks:=t' }:=by
 have nit:∀b u,H b=a_ u->b≠it:=λb u e z=>by rw[z,hn]at e;cases e
 refine I.step (g':=s.gens) (d':=s.drawn) (ch:=[it]) (λb hb=>?_) (λb o _ _ hc e _=>k b o (λz=>hc (by simp[z])) e) (λb o _ _ hc e _=>⟨o.slots,k b o (λz=>hc (by simp[z])) e⟩) (λ_ _ _ _ n=>n)
  (λb o hc e=>⟨o,k b o (λz=>hc (by simp[z])) e⟩) (λ_ _ e=>e) (λ_ _ _ e=>e) (λb ps e=>⟨#[],by rw[e];simp⟩) (λm hm=>?_) (λb u e=>?_) I.bare
 ·have e:b=it:=by simpa using hb
  subst e;exact⟨h1,hL,h2,h3⟩
 ·obtain⟨o,es,ep,ho,r⟩:=hm;exact⟨o,es,ep,k _ o (fJ hL) ho,r⟩
 ·refine(I.hok b u e).mr (λc v hc q=>k c v ?_ q) (λ_ q=>q) λ_ _ q=>q
  rcases hc with z|z
  ·rw[z];exact nit b u e
  ·exact nit c _ z
def Inv.tok(I:Inv X h_ σ H s)(t:Nat):Inv X h_ σ H { s with toks:=t }:=I.un (h':=s.heap) (t':=t) Un.refl I.hok
def Inv.kept(I:Inv X h_ σ H s)(k:∀b u,s.heap.get? b=a_ u->h'.get? b=a_ u):Inv X h_ σ H { s with heap:=h',toks:=t' }:=I.un (Un.kept k) (I.hok.kept k)
def Inv.laid(I:Inv X h_ σ H s)(k:∀b u,s.heap.get? b=a_ u->h'.get? b=a_ u)(hp:s.heap.objs.size<=a)(new:iH X.prog X.w (upd H a o) h' a o) :
  Inv X h_ σ (upd H a o) { s with heap:=h',toks:=t' }:=I.un (Un.laid k hp (I.hok.fresh hp)) (I.hok.laid k hp new)
def Inv.write(I:Inv X h_ σ H s)(mu:VA (H x))(he:e=x\/H e=a_ (.own x))(k:∀b u,b≠e->s.heap.get? b=a_ u->h'.get? b=a_ u)(heo:∃u,h'.get? e=a_ u)
  (new:iH X.prog X.w (upd H x o) h' x o):Inv X h_ σ (upd H x o) { s with heap:=h',toks:=t' }:=I.un (Un.write mu he k heo) (I.hok.write mu he k heo new)
def Inv.weak{σ':List (Option V)}(I:Inv X h_ σ H s)(hl:σ'.length=σ.length)(w:∀(i:Nat)v,σ'[i]?=a_ (a_ v)->σ[i]?=a_ (a_ v)):Inv X h_ σ' H s:=
 ⟨I.ok,I.os,I.bare,I.base,let ⟨m,hn,hl'⟩:=I.loc;⟨m,hn,λi x v e1 e2 e3=>hl' i x v e1 (w i v e2) e3⟩,I.cell,I.free,I.freeC,I.pin,I.hok,hl.trans I.len⟩
def Inv.qG(I:Inv X h_ σ H s)(h:∀p∈pins',s.heap.get? p.1=a_ p.2/\H p.1=b_/\p.1≠X.env.locals/\p.1∉X.fs/\∀v,p.2.data≠.cell v):Inv X pins' σ H s:=
 ⟨I.ok,I.os,I.bare,I.base,I.loc,I.cell,I.free,I.freeC,λp hp=>(aL.mp hp).elim (λz=>I.pin p (aZ _ z)) (h p),I.hok,I.len⟩
def Ar{N:List a8}(hN:N.Nodup){i j:Nat}{x:a8}(a:N[i]?=a_ x)(b:N[j]?=a_ x):i=j:=by
 obtain⟨h1,e1⟩:=bx.mp a;obtain⟨h2,e2⟩:=bx.mp b;exact(List.getElem_inj hN).mp (e1.trans e2.symm)
def F6(I:Inv X h_ σ H s)(hN:X.N.Nodup)(hi:X.N[i]?=a_ x)(hx:Loc X.env.scope x)(r:RelV v u)
  (h:∀s',Inv X h_ (σ.set i (a_ v)) H s'->(∃a,dP a s.heap s'.heap/\(a=X.env.locals\/X.env.cells.lookup x=a_ a))->Q () s')(hf:X.fn x=c_\/X.env.scope.names.lookup x=a_ .local):ax M A (storeName X.env x u) Q E s:=by
 obtain⟨m,hn,hl⟩:=id I.loc;have hcls:(X.env.scope.kind == .class || (X.env.scope.kind == .module && X.env.locals != X.env.globals))=d_:=by rw[I.ok.kind];rfl
 have hiσ:i<σ.length:=by rw[I.len];exact(bx.mp hi).1
 have QE:=I.QE
 have tracked:∀{a:aE}{h':bM},(∃o,s.heap.get? a=a_ o/\H a=b_)->dP a s.heap h'->pe X.prog X.w H h':=λ{a h'}ha hs b ob e=>by
  obtain⟨_,_,hfree⟩:=ha;refine(I.hok b ob e).mr (λc w' hc q=>(hs.2 c ?_).trans q) (λ_ q=>q) λ_ _ q=>q;rintro rfl
  rcases hc with rfl|hc
  ·rw[hfree]at e;cases e
  ·rw[hfree]at hc;cases hc
 rcases hx with hk|hk
 ·refine wpAny_storeName_local hk hn (λh' hn' hs=>?_) hcls;obtain⟨oL,_,_,hoL,_⟩:=id hn;refine h _ ⟨I.ok,I.os,I.bare,⟨λb o e n hb hx=>?_,λb o e n hb hx=>?_,I.base.free,λb o e hx=>?_,I.base.tups,I.base.frzs,I.base.tbls⟩,⟨_,hn',λj y v' e1 e2 e3=>?_⟩,λy c e=>?_,I.free,I.freeC,λp hp=>?_,tracked ⟨oL,hoL,I.free⟩ hs,by simpa using I.len⟩ ⟨_,hs,.inl rfl⟩
  ·exact(hs.2 b (bc (aW (hl9 e) I.ok.above))).trans (I.base.keep b o e n hb hx)
  ·obtain⟨sl,e1⟩:=I.base.slot b o e n hb hx;exact⟨sl,(hs.2 b (bc (aW (hl9 e) I.ok.above))).trans e1⟩
  ·obtain⟨o',e1⟩:=I.base.there b o e hx;exact⟨o',(hs.2 b (bc (aW (hl9 e) I.ok.above))).trans e1⟩
  ·by_cases hj:j=i
   ·subst hj;rw[hi]at e1;cases e1;rw[jR hiσ]at e2;cases e2;exact⟨u,r,.inl ⟨hk,by simp⟩⟩
   ·rw[cD (fJ hj)]at e2;obtain⟨u',r',q⟩:=hl j y v' e1 e2 e3;refine⟨u',r',?_⟩
    rcases q with⟨k,e⟩|⟨k,c,e,z⟩
    ·refine .inl ⟨k,?_⟩;have:y≠x:=λe=>hj (Ar hN e1 (e▸hi));simp[this,e]
    ·exact .inr ⟨k,c,e,z.sameBut hs (QE y c e)⟩
  ·obtain⟨w',z⟩:=I.cell y c e;exact⟨w',z.sameBut hs (QE y c e)⟩
  ·obtain⟨e,n,ne,nf,d⟩:=I.pin p hp;exact⟨(hs.2 p.1 ne).trans e,n,ne,nf,d⟩
 ·have hfn:X.fn x=c_:=by
   rcases hf with z|z
   ·exact z
   ·rw[z]at hk;cases hk
  obtain⟨c,hc⟩:=I.ok.has x (.inl hk);obtain⟨w',z⟩:=I.cell x c hc;refine wpAny_storeName_cell I.ok.kind hk hc z (λh' hc' hs=>?_);obtain⟨oc,hoc,hocd⟩:=id z;refine h { s with heap:=h' } ⟨I.ok,I.os,I.bare,⟨λb o e n hb hx=>?_,λb o e n hb hx=>?_,I.base.free,λb o e hx=>?_,I.base.tups,I.base.frzs,I.base.tbls⟩,⟨m,hn.sameBut hs (fJ (QE x c hc)),λj y v' e1 e2 e3=>?_⟩,λy c' e=>?_,I.free,I.freeC,λp hp=>?_,tracked ⟨oc,hoc,I.freeC x c hc⟩ hs,by simpa using I.len⟩ ⟨c,hs,.inr hc⟩
  ·exact(hs.2 b (bc (aW (hl9 e) (I.ok.cab x c hfn hc)))).trans (I.base.keep b o e n hb hx)
  ·obtain⟨sl,e1⟩:=I.base.slot b o e n hb hx;exact⟨sl,(hs.2 b (bc (aW (hl9 e) (I.ok.cab x c hfn hc)))).trans e1⟩
  ·obtain⟨o',e1⟩:=I.base.there b o e hx;exact⟨o',(hs.2 b (bc (aW (hl9 e) (I.ok.cab x c hfn hc)))).trans e1⟩
  ·by_cases hj:j=i
   ·subst hj;rw[hi]at e1;cases e1;rw[jR hiσ]at e2;cases e2;exact⟨u,r,.inr ⟨.inl hk,c,hc,hc'⟩⟩
   ·rw[cD (fJ hj)]at e2;obtain⟨u',r',q⟩:=hl j y v' e1 e2 e3;refine⟨u',r',?_⟩
    rcases q with q|⟨k,c',e,z'⟩
    ·exact .inl q
    ·refine .inr ⟨k,c',e,z'.sameBut hs ?_⟩;rintro rfl;exact hj (Ar hN e1 (I.ok.inj _ _ _ e hc▸hi))
  ·by_cases hcc:c'=c
   ·subst hcc;exact⟨_,hc'⟩
   ·obtain⟨w2,z2⟩:=I.cell y c' e;exact⟨w2,z2.sameBut hs hcc⟩
  ·obtain⟨e,n,ne,nf,d⟩:=I.pin p hp;refine⟨(hs.2 p.1 ?_).trans e,n,ne,nf,d⟩;intro q;rw[q,hoc]at e;have q':oc=p.2:=aO e;exact d w' (by rw[<-q'];exact hocd)
def og(I:Inv X h_ σ H s)(hN:X.N.Nodup)(hi:X.N[i]?=a_ x)(hx:Loc X.env.scope x)(r:RelV v u)
  (h:∀s',Inv X h_ (σ.set i (a_ v)) H s'->Q () s')(hf:X.fn x=c_\/X.env.scope.names.lookup x=a_ .local):ax M A (storeName X.env x u) Q E s:=
 F6 I hN hi hx r (λs' I' _=>h s' I') hf
def Inv.QG{s':aw}(I:Inv X h_ σ H s)(ho:s'.os=s.os)(u:Un (nF X.stack) ch H H' s.heap s'.heap)(hok:pe X.prog X.w H' s'.heap)(hg:kE s'.gens)
  (hch:∀b∈ch,(b∈X.ex\/X.s₀.heap.objs.size<=b)/\b≠X.env.locals/\(∀x c,X.env.cells.lookup x=a_ c->c≠b)/\∀p∈X.pn++h_,p.1≠b):Inv X h_ σ H' s':=by
 obtain⟨h',g',d',t',o'⟩:=s';have e:o'=s.os:=ho;subst e;exact I.call (g':=g') (t':=t') (d':=d') u hok hg hch
end
abbrev XK:=ak->Option aE->Hp->Prop
abbrev St:=List (Option V)
abbrev VK:=V->Hp->Prop
abbrev TE:=St->Hp->VK->Prop
abbrev TT:=St->Hp->(Bool->Hp->Prop)->Prop
abbrev TA:=St->Hp->(List V->Hp->Prop)->Prop
structure Ends where
 nx:St->Hp->Prop
 rt:VK
 bk:St->Hp->Prop:=λ_ _=>False
 ct:St->Hp->Prop:=λ_ _=>False
abbrev TS:=Ends->St->Hp->Prop
def EP(X:Cx)(h_:List (aE×kX))(σ:St)(Q:VK)(u:ak)(s':aw):Prop:=∃v H',Inv X h_ σ H' s'/\RelV v u/\Q v H'
def TP(X:Cx)(h_:List (aE×kX))(σ:St)(Q:Bool->Hp->Prop)(b:Bool)(s':aw):Prop:=∃H',Inv X h_ σ H' s'/\Q b H'
def AP(X:Cx)(h_:List (aE×kX))(σ:St)(Q:List V->Hp->Prop)(us:List ak)(s':aw):Prop:=∃vs H',Inv X h_ σ H' s'/\bW vs us/\Q vs H'
def SP(X:Cx)(h_:List (aE×kX))(D:Ends)(f:Flow)(s':aw):Prop:=
 match f with
 |.next=>∃σ' H',Inv X h_ σ' H' s'/\D.nx σ' H'
 |.brk=>∃σ' H',Inv X h_ σ' H' s'/\D.bk σ' H'
 |.cont=>∃σ' H',Inv X h_ σ' H' s'/\D.ct σ' H'
 |.ret u=>∃v σ' H',Inv X h_ σ' H' s'/\RelV v u/\D.rt v H'
def PE(X:Cx)(e:aV)(t:TE):Prop:=
 ∀(h_:List (aE×kX))(s:aw)(σ:St)(H:Hp)(Q:VK),Inv X h_ σ H s->t σ H Q->ax (aB X.prog X.w) X.A (eval e X.env) (EP X h_ σ Q) X.xe s
def PT(X:Cx)(e:aV)(t:TT):Prop:=
 ∀(h_:List (aE×kX))(s:aw)(σ:St)(H:Hp)(Q:Bool->Hp->Prop),Inv X h_ σ H s->t σ H Q->ax (aB X.prog X.w) X.A (isTrue e X.env (eval e X.env)) (TP X h_ σ Q) X.xe s
def PW(X:Cx)(e:aV)(t:TT):Prop:=
 ∀(whole:Sem ak)(h_:List (aE×kX))(s:aw)(σ:St)(H:Hp)(Q:Bool->Hp->Prop),Inv X h_ σ H s->t σ H Q->ax (aB X.prog X.w) X.A (isTrue e X.env whole) (TP X h_ σ Q) X.xe s
def PW.pt(h:PW X e t):PT X e t:=h _
def PA(X:Cx)(es:List aV)(t:TA):Prop:=
 ∀(pos:rE)(h_:List (aE×kX))(s:aw)(σ:St)(H:Hp)(Q:List V->Hp->Prop),Inv X h_ σ H s->t σ H Q->ax (aB X.prog X.w) X.A (spliced (backTo pos (aG es X.env))) (AP X h_ σ Q) X.xe s
def PS(X:Cx)(st:i8)(t:TS):Prop:=
 ∀(h_:List (aE×kX))(s:aw)(σ:St)(H:Hp)(D:Ends),Inv X h_ σ H s->t D σ H->ax (aB X.prog X.w) X.A (exec st X.env) (SP X h_ D) X.xe s
def DL(X:Cx)(st:List i8)(t:TS):Prop:=
 ∀(h_:List (aE×kX))(s:aw)(σ:St)(H:Hp)(D:Ends),Inv X h_ σ H s->t D σ H->ax (aB X.prog X.w) X.A (execs st X.env) (SP X h_ D) X.xe s
def hZ (h:ax M A t Q E s)(hQ:∀a s,Q a s->Q' a s):ax M A t Q' E s:=bE h hQ λ_ _ x=>x
section
variable{X:Cx}
def bin{a b:aV}{ta tb:TE}(ha:PE X a ta)(hb:PE X b tb){h_:List (aE×kX)}{s:aw}{σ:St}{H:Hp}{R:V->V->Hp->Prop}(I:Inv X h_ σ H s)(h:ta σ H λx H1=>tb σ H1 λy H2=>R x y H2)
  {α:Type}{Q:α->aw->Prop}{f:ak->ak->Sem α}
  (hf:∀v u s2 x y H2,Inv X h_ σ H2 s2->RelV x v->RelV y u->R x y H2->ax (aB X.prog X.w) X.A (f v u) Q X.xe s2) :
  ax (aB X.prog X.w) X.A (eval a X.env) (λv s₁=>ax (aB X.prog X.w) X.A (eval b X.env) (λu s₂=>ax (aB X.prog X.w) X.A (f v u) Q X.xe s₂) X.xe s₁) X.xe s:=by
 refine hZ (ha h_ s σ H _ I h) λv s1 ⟨x,H1,I1,r1,q1⟩=>?_;refine hZ (hb h_ s1 σ H1 _ I1 q1) λu s2 ⟨y,H2,I2,r2,q2⟩=>?_;exact hf v u s2 x y H2 I2 r1 r2 q2
def Iv(i:Nat):TE:=λσ H Q=>∃v,σ[i]?=a_ (a_ v)/\Q v H
def tC(v:V):TE:=λ_ H Q=>Q v H
def pO(hN:X.N[i]?=a_ x)(hv:LA X.env.scope x)(hd:(x == ("__debug__":a8))=d_)(hcd:(x == ("__classdict__":a8))=d_):PE X (.Name x pos) (Iv i):=by
 intro h_ s σ H Q I h;obtain⟨v,e,h⟩:=h;obtain⟨m,hn,hl⟩:=I.loc;obtain⟨u,r,l⟩:=hl i x v hN e hv;have fin:EP X h_ σ Q u s:=⟨v,H,I,r,h⟩
 rcases l with⟨hk,hm⟩|⟨hk,c,hc,hcell⟩
 ·exact wpAny_Name (wpAny_loadName_local I.ok.kind hk hn hm fin) hd
 ·rcases hk with hk|hk
  ·exact wpAny_Name (wpAny_loadName_cell I.ok.kind hk hc hcell fin) hd
  ·exact wpAny_Name (wpAny_loadName_free I.ok.kind hk hc hcell fin hcd) hd
def Sj{i j pos}:PE X (.Constant (.int i) j pos) (tC (.int i)):=λ_ _ _ H _ I h=>wpAny_Constant_int ⟨.int i,H,I.tok _,⟨_,rfl⟩,h⟩
def Ws{b j pos}:PE X (.Constant (.bool b) j pos) (tC (.bl b)):=λ_ _ _ H _ I h=>Constant_bool ⟨.bl b,H,I,rfl,h⟩
def Sh{j pos}:PE X (.Constant .none j pos) (tC .non):=λ_ _ _ H _ I h=>Constant_none ⟨.non,H,I,rfl,h⟩
def Se{x j pos}:PE X (.Constant (.str x) j pos) (tC (.str x)):=λ_ _ _ H _ I h=>Calls.Constant_str ⟨.str x,H,I.tok _,⟨_,rfl⟩,h⟩
def Gl(X:Cx)(x:a8):Prop:=X.env.kindOf x=a_ .globalImplicit
def oU(I:Inv X h_ σ H s)(hg:Gl X x)(hm:X.mg x=a_ u)(h:Q u s)
  (hd:(x == ("__debug__":a8))=d_):ax (aB X.prog X.w) X.A (eval (.Name x pos) X.env) Q E s:=
 vP I.ok.kind hg (Calls.loadGlobal_global (by rw[I.ok.glob];exact I.mod.glob.keeps I.bk) hm h) hd
def m8(I:Inv X h_ σ H s)(hg:Gl X x)(hm:X.mg x=b_)(hv:bootBuiltins x=a_ u)(h:Q u s)
  (hn:x≠"__name__":=by decide)(hd:(x == ("__debug__":a8))=d_:=by decide):ax (aB X.prog X.w) X.A (eval (.Name x pos) X.env) Q E s:=by
 obtain⟨mb,h1,h2⟩:=I.mod.blt;exact vP I.ok.kind hg (Calls.loadGlobal_builtin (by rw[I.ok.glob];exact I.mod.glob.keeps I.bk) hm (by rw[I.ok.blt];exact h1.keeps I.bk) ((h2 x hn).trans hv) h) hd
def tW(hg:Gl X x)(hm:X.mg x=a_ u)(r:RelV v u)(hd:(x == ("__debug__":a8))=d_):PE X (.Name x pos) (tC v):=
 λ_ _ _ H _ I h=>oU I hg hm ⟨v,H,I,r,h⟩ hd
def Er(hg:Gl X x)(hm:X.mg x=b_)(hv:bootBuiltins x=a_ u)(r:RelV v u)(hn:x≠"__name__")(hd:(x == ("__debug__":a8))=d_):PE X (.Name x pos) (tC v):=
 λ_ _ _ H _ I h=>m8 I hg hm hv ⟨v,H,I,r,h⟩ hn hd
variable{ta tb:TE}
variable{rest:List aV}
def Yv(t u:TT):TT:=λσ H Q=>t σ H λc H1=>if c=c_ then u σ H1 Q else Q d_ H1
def tOr(t u:TT):TT:=λσ H Q=>t σ H λc H1=>if c=c_ then Q c_ H1 else u σ H1 Q
def Yq(t:TT):TT:=λσ H Q=>t σ H λc H1=>Q (!c) H1
def Nv(ha:PT X a tA):PW X (.BoolOp .And [a] pos) tA:=by
 intro wh h_ s σ H Q I h;refine isTrue_and (hZ (ha h_ s σ H Q I h) λc s1 e=>?_)
 cases c with
 |true=>exact isTrue_and_nil e
 |false=>exact e
def R0(ha:PT X a tA):PW X (.BoolOp .Or [a] pos) tA:=by
 intro wh h_ s σ H Q I h;refine isTrue_or (hZ (ha h_ s σ H Q I h) λc s1 e=>?_)
 cases c with
 |false=>exact isTrue_or_nil e
 |true=>exact e
def R3(ha:PT X a tA)(hb:PW X (.BoolOp .And (b::rest) pos) tB'):PW X (.BoolOp .And (a::b::rest) pos) (Yv tA tB'):=by
 intro wh h_ s σ H Q I h;refine isTrue_and (hZ (ha h_ s σ H _ I h) λc s1 ⟨H1,I1,q1⟩=>?_)
 cases c with
 |true=>exact hb wh h_ s1 σ H1 Q I1 q1
 |false=>exact⟨H1,I1,q1⟩
def Wi(ha:PT X a tA)(hb:PW X (.BoolOp .Or (b::rest) pos) tB'):PW X (.BoolOp .Or (a::b::rest) pos) (tOr tA tB'):=by
 intro wh h_ s σ H Q I h;refine isTrue_or (hZ (ha h_ s σ H _ I h) λc s1 ⟨H1,I1,q1⟩=>?_)
 cases c with
 |true=>exact⟨H1,I1,q1⟩
 |false=>exact hb wh h_ s1 σ H1 Q I1 q1
def R7(ha:PT X a tA):PT X (.UnaryOp .Not a pos) (Yq tA):=by
 intro h_ s σ H Q I h;exact isTrue_not (ha h_ s σ H (λc H1=>Q (!c) H1) I h)
def VT(ta tb:TE):TE:=λσ H Q=>ta σ H λx H1=>∃c,x=.bl c/\if c=c_ then tb σ H1 Q else Q (.bl d_) H1
def Yp(ta tb:TE):TE:=λσ H Q=>ta σ H λx H1=>∃c,x=.bl c/\if c=c_ then Q (.bl c_) H1 else tb σ H1 Q
def Sf{op}(h:PE X a t):PE X (.BoolOp op [a] pos) t:=λh_ s σ H Q I hw=>BoolOp_one (h h_ s σ H Q I hw)
def Sl(ha:PE X a ta)(hb:PE X (.BoolOp .And (b::rest) pos) tb):PE X (.BoolOp .And (a::b::rest) pos) (VT ta tb):=by
 intro h_ s σ H Q I h;refine BoolOp_and (hZ (ha h_ s σ H _ I h) λv s1 ⟨x,H1,I1,r1,q1⟩=>?_);obtain⟨c,rfl,q1⟩:=q1;cases r1;refine dh ?_
 cases c with
 |true=>exact hb h_ s1 σ H1 Q I1 q1
 |false=>exact⟨.bl d_,H1,I1,rfl,q1⟩
def Wp(ha:PE X a ta)(hb:PE X (.BoolOp .Or (b::rest) pos) tb):PE X (.BoolOp .Or (a::b::rest) pos) (Yp ta tb):=by
 intro h_ s σ H Q I h;refine BoolOp_or (hZ (ha h_ s σ H _ I h) λv s1 ⟨x,H1,I1,r1,q1⟩=>?_);obtain⟨c,rfl,q1⟩:=q1;cases r1;refine dh ?_
 cases c with
 |false=>exact hb h_ s1 σ H1 Q I1 q1
 |true=>exact⟨.bl c_,H1,I1,rfl,q1⟩
def tIf(t:TT)(ta tb:TE):TE:=λσ H Q=>t σ H λc H1=>if c=c_ then ta σ H1 Q else tb σ H1 Q
def JD(hc:PT X c tA)(ha:PE X a ta)(hb:PE X b tb):PE X (.IfExp c a b pos) (tIf tA ta tb):=by
 intro h_ s σ H Q I h;refine wpAny_IfExp (hZ (hc h_ s σ H _ I h) λd s1 ⟨H1,I1,q1⟩=>?_)
 cases d with
 |true=>exact ha h_ s1 σ H1 Q I1 q1
 |false=>exact hb h_ s1 σ H1 Q I1 q1
end
def pd(K:aA)(H:Hp)(a:aE)(xs:List V):Prop:=
 Rd H a (.lst xs)\/
  ∃(o:kX) (its:Array ak) (n:Nat),K.lookup a=a_ o/\o.cls=.type "list"/\o.dict=b_/\o.data=.seq its n/\its.size<=aD/\bW xs its.toList
def wa(K:aA)(H:Hp)(a:aE)(xs:List V):Prop:=
 Rd H a (.tup xs)\/
  ∃(o:kX) (its:Array ak) (n:Nat),K.lookup a=a_ o/\o.cls=.type "tuple"/\o.data=.seq its n/\its.size<=aD/\bW xs its.toList
noncomputable def ZQ:ak->Option V
 |.none=>a_ .non
 |.bool b=>a_ (.bl b)
 |.int i _=>a_ (.int i)
 |.str x _=>a_ (.str x)
 |.bytes b _=>a_ (.byt b)
 |.float b _=>a_ (.flt b)
 |.ref a=>a_ (.ref a)
 |.type n=>a_ (.ty n)
 |_=>b_
def RelV.abs(r:RelV x u):ZQ u=a_ x:=by
 cases x with
 |non=>cases r;rfl
 |bl _=>cases r;rfl
 |int _=>obtain⟨t,rfl⟩:=r;rfl
 |str _=>obtain⟨t,rfl⟩:=r;rfl
 |byt _=>obtain⟨t,rfl⟩:=r;rfl
 |flt _=>obtain⟨t,rfl⟩:=r;rfl
 |ref _=>cases r;rfl
 |ty _=>cases r;rfl
def RelV.inj(r:RelV x u)(q:RelV y u):x=y:=aO (r.abs.symm.trans q.abs)
theorem bW.inj:∀{xs ys:List V}{us:List ak},bW xs us->bW ys us->xs=ys
 |_,_,_,.nil,.nil=>rfl
 |_,_,_,.cons r t,.cons r' t'=>by rw[r.inj r',bW.inj t t']
section
def pd.of{K:aA}(h:H a=a_ (.lst xs)):pd K H a xs:=.inl (.inl h)
def Inv.list(I:Inv X h_ σ H s)(h:pd X.K H a xs):∃its:List ak,bW xs its/\PlainL s.heap a its.toArray/\xs.length<=aD:=by
 rcases h with h|⟨o,its,n,hk,hc,hd,hs,hz,r⟩
 ·obtain⟨z,its,n,r,e⟩:=h.ok I.hok;exact⟨its,r,⟨_,n,e,rfl,rfl,rfl⟩,z⟩
 ·refine⟨its.toList,r,⟨o,n,I.tJ a o hk,hc,hd,by simpa using hs⟩,?_⟩;have e:=r.length;simp only[cu]at e;exact ae (aM e) hz
def Inv.tuple(I:Inv X h_ σ H s)(h:wa X.K H a xs):∃its:List ak,bW xs its/\Hn s.heap a its.toArray/\xs.length<=aD:=by
 rcases h with h|⟨o,its,n,hk,hc,hs,hz,r⟩
 ·obtain⟨z,its,r,p⟩:=h.ok I.hok;exact⟨its,r,p,z⟩
 ·refine⟨its.toList,r,⟨o,I.tJ a o hk,hc,n,by simpa using hs⟩,?_⟩;have e:=r.length;simp only[cu]at e;exact ae (aM e) hz
def Inv.qO(I:Inv X h_ σ H s)(h:pd X.K H a xs)(h':pd X.K H a ys):xs=ys:=by
 obtain⟨its,r,⟨o,n,e,_,_,d⟩,_⟩:=I.list h;obtain⟨its',r',⟨o',n',e',_,_,d'⟩,_⟩:=I.list h';rw[e]at e';cases e';rw[d]at d'
 injection d' with d1 _
 have:its=its':=by simpa using congrArg Array.toList d1
 subst this;exact r.inj r'
def Inv.oK(I:Inv X h_ σ H s)(h:wa X.K H a xs)(h':wa X.K H a ys):xs=ys:=by
 obtain⟨its,r,⟨o,e,_,n,d⟩,_⟩:=I.tuple h;obtain⟨its',r',⟨o',e',_,n',d'⟩,_⟩:=I.tuple h';rw[e]at e';cases e';rw[d]at d'
 injection d' with d1 _
 have:its=its':=by simpa using congrArg Array.toList d1
 subst this;exact r.inj r'
end
noncomputable abbrev Cx.n4(X:Cx)(E:ak->aw->Prop):Cx:={ X with xe:=E }
abbrev Cx.kZ(X:Cx):Cx:=X.n4 λ_ _=>False
def Cx.Ok.n4{X:Cx}(ok:X.Ok)(E:ak->aw->Prop):(X.n4 E).Ok:=
 ⟨ok.mod,ok.kind,ok.glob,ok.blt,ok.above,ok.inj,ok.has,ok.cab,ok.hd,ok.frames,ok.MC,ok.exf,ok.bs,ok.bsz,ok.noex,ok.exfs,ok.pS,ok.frf⟩
def Cx.Ok.iT{X:Cx}(ok:(X.n4 E).Ok):X.Ok:=
 ⟨ok.mod,ok.kind,ok.glob,ok.blt,ok.above,ok.inj,ok.has,ok.cab,ok.hd,ok.frames,ok.MC,ok.exf,ok.bs,ok.bsz,ok.noex,ok.exfs,ok.pS,ok.frf⟩
section
variable{X:Cx}
def Inv.n4(I:Inv X h_ σ H s)(E:ak->aw->Prop):Inv (X.n4 E) h_ σ H s:=⟨I.ok.n4 E,I.os,I.bare,I.base,I.loc,I.cell,I.free,I.freeC,I.pin,I.hok,I.len⟩
def Inv.iT(I:Inv (X.n4 E) h_ σ H s):Inv X h_ σ H s:=⟨I.ok.iT,I.os,I.bare,I.base,I.loc,I.cell,I.free,I.freeC,I.pin,I.hok,I.len⟩
theorem SP.iT{D:Ends}(h:SP (X.n4 E) h_ D f s'):SP X h_ D f s':=by
 cases f with
 |next=>obtain⟨σ',H',I,q⟩:=h;exact⟨σ',H',I.iT,q⟩
 |brk=>obtain⟨σ',H',I,q⟩:=h;exact⟨σ',H',I.iT,q⟩
 |cont=>obtain⟨σ',H',I,q⟩:=h;exact⟨σ',H',I.iT,q⟩
 |ret u=>obtain⟨v,σ',H',I,r,q⟩:=h;exact⟨v,σ',H',I.iT,r,q⟩
def PE.kZ(h:PE X.kZ e t):PE X e t:=λh_ s σ H Q I hw=>
 bE (h h_ s σ H Q (I.n4 _) hw) (λ_ _ ⟨v,H',I',r,q⟩=>⟨v,H',I'.iT,r,q⟩) λ_ _ z=>bB z
def PT.kZ(h:PT X.kZ e t):PT X e t:=λh_ s σ H Q I hw=>
 bE (h h_ s σ H Q (I.n4 _) hw) (λ_ _ ⟨H',I',q⟩=>⟨H',I'.iT,q⟩) λ_ _ z=>bB z
end
section
variable{st:i8}{rest:List i8}{t u:TS}{te:TE}{pos:rE}
def VQ:TS:=λD σ H=>D.nx σ H
def Yn(t u:TS):TS:=λD σ H=>t { D with nx:=u D } σ H
def Nz:DL X [] VQ:=λ_ _ σ H _ I h=>lT ⟨σ,H,I,h⟩
def Jq(h1:PS X st t)(h2:DL X rest u):DL X (st::rest) (Yn t u):=by
 intro h_ s σ H D I h;refine xP (hZ (h1 h_ s σ H { D with nx:=u D } I h) λf s1 q=>?_)
 cases f with
 |next=>
   obtain⟨σ',H',I',q⟩:=q;exact h2 h_ s1 σ' H' D I' q
 |ret v=>exact q
 |brk=>exact q
 |cont=>exact q
def Ek(h1:PS X st t):DL X [st] t:=by
 intro h_ s σ H D I h;refine xP (hZ (h1 h_ s σ H D I h) λf s1 q=>?_)
 cases f with
 |next=>exact lT q
 |ret v=>exact q
 |brk=>exact q
 |cont=>exact q
def Inv.quiet(I:Inv X h_ σ H s):interactive X.env=d_:=by simp[interactive,I.ok.kind]
def Qi(te:TE):TS:=λD σ H=>te σ H λ_ H1=>D.nx σ H1
def yu(he:PE X e te)(hs:swapsWith e b_ pos.line X.env=pure d_):PS X (.Expr e pos) (Qi te):=by
 intro h_ s σ H D I h;exact wpAny_Expr_any (hZ (he h_ s σ H _ I h) λv s1 ⟨x,H1,I1,r1,q1⟩=>⟨σ,H1,I1,q1⟩) I.quiet hs
def Yo(te:TE):TS:=λD σ H=>te σ H D.rt
def CN(he:PE X e te):PS X (.Return (a_ e) pos) (Yo te):=by
 intro h_ s σ H D I h;exact wpAny_Return_some (hZ (he h_ s σ H _ I h) λv s1 ⟨x,H1,I1,r1,q1⟩=>⟨x,σ,H1,I1,r1,q1⟩)
def Ys(c:TT)(t u:TS):TS:=λD σ H=>c σ H λb H1=>if b=c_ then t D σ H1 else u D σ H1
def Wj(hc:PT X c tc)(ha:DL X a t)(hb:DL X b u):PS X (.If c a b pos) (Ys tc t u):=by
 intro h_ s σ H D I h;refine wpAny_If (hZ (hc h_ s σ H _ I h) λd s1 ⟨H1,I1,q1⟩=>?_)
 cases d with
 |true=>exact ha h_ s1 σ H1 D I1 q1
 |false=>exact hb h_ s1 σ H1 D I1 q1
end
abbrev TG:=V->St->Hp->(St->Hp->Prop)->Prop
abbrev QU:=List V->St->Hp->(St->Hp->Prop)->Prop
def PG(X:Cx)(target:aV)(t:TG):Prop:=
 ∀(h_:List (aE×kX))(s:aw)(σ:St)(H:Hp)(v:V)(u:ak)(Q:St->Hp->Prop),Inv X h_ σ H s->RelV v u->t v σ H Q->
  ax (aB X.prog X.w) X.A (assign target X.env u) (λ_ s'=>∃σ' H',Inv X h_ σ' H' s'/\Q σ' H') X.xe s
def Vz(X:Cx)(ts:List aV)(t:QU):Prop:=
 ∀(h_:List (aE×kX))(s:aw)(σ:St)(H:Hp)(vs:List V)(us:List ak)(Q:St->Hp->Prop),Inv X h_ σ H s->bW vs us->t vs σ H Q->
  ax (aB X.prog X.w) X.A (assignInOrder ((assignEach ts X.env).map (·.2)) us) (λ_ s'=>∃σ' H',Inv X h_ σ' H' s'/\Q σ' H') X.xe s
abbrev XG:=V->V->V->Hp->(Hp->Prop)->Prop
def PM(X:Cx)(t:XG):Prop:=
 ∀(h_:List (aE×kX))(s:aw)(σ:St)(H:Hp)(o i v:V)(ov iv u:ak)(Q:Hp->Prop),Inv X h_ σ H s->RelV o ov->RelV i iv->RelV v u->t o i v H Q->
  ax (aB X.prog X.w) X.A (setItem ov iv u) (λ_ s'=>∃H',Inv X h_ σ H' s'/\Q H') X.xe s
section
variable{X:Cx}{pos:rE}
def kh(i:Nat):TG:=λv σ H Q=>Q (σ.set i (a_ v)) H
def Ep(hN:X.N.Nodup)(hi:X.N[i]?=a_ x)(hx:Loc X.env.scope x)(hf:X.fn x=c_\/X.env.scope.names.lookup x=a_ .local):PG X (.Name x pos) (kh i):=by
 intro h_ s σ H v u Q I r h;exact wpAny_assign_Name (og I hN hi hx r (λs' I'=>⟨_,H,I',h⟩) hf)
def GR:QU:=λvs σ H Q=>vs=[]/\Q σ H
def xt(t:TG)(u:QU):QU:=λvs σ H Q=>∃v r,vs=v::r/\t v σ H λσ' H'=>u r σ' H' Q
def Eo:Vz X [] GR:=by
 intro h_ s σ H vs us Q I r h;obtain⟨e,h⟩:=h;subst e;cases r;exact assignInOrder_nil ⟨σ,H,I,h⟩
def Ak(h1:PG X e t)(h2:Vz X es u)
  (hs:(assignEach (e::es) X.env).map (·.2)=assign e X.env::(assignEach es X.env).map (·.2):=by rfl):Vz X (e::es) (xt t u):=by
 intro h_ s σ H vs us Q I r h;obtain⟨v,vr,e1,h⟩:=h;subst e1
 cases r with
 |cons r rr=>
   rw[hs];refine assignInOrder_cons (hZ (h1 h_ s σ H _ _ _ I r h) λ_ s1 ⟨σ1,H1,I1,q1⟩=>?_);exact h2 h_ s1 σ1 H1 _ _ Q I1 rr q1
def Kz(K:aA)(n:Nat)(t:QU):TG:=λv σ H Q=>∃a xs,v=.ref a/\wa K H a xs/\xs.length=n/\t xs σ H Q
def Jx(hc:X.calm=c_)(h:Vz X es t)
  (hn:(assignEach es X.env).length=n)(hst:(assignEach es X.env).findIdx? (·.1)=b_):PG X (.Tuple es k pos) (Kz X.K n t):=by
 intro h_ s σ H v u Q I r hw;obtain⟨a,xs,e1,hq,hl,hw⟩:=hw;subst e1;cases r;obtain⟨its,rv,ht,hz⟩:=I.tuple hq;refine assign_Tuple_tuple (I.ok.hd hc) ht (by simp[hn,<-hl,rv.length]) hst λh' hx=>?_;have I1:Inv X h_ σ H { s with heap:=h' }:=I.kept (t':=s.toks) λb o e=>hx b o (bc (hl9 e)) e;exact h h_ _ σ H xs _ Q I1 (by simpa using rv) hw
def Ud(to ti:TE)(t:XG):TG:=λv σ H Q=>to σ H λo H1=>ti σ H1 λi H2=>t o i v H2 λH3=>Q σ H3
def Jz(ho:PE X o to)(hi:PE X i ti)(hs:PM X t)
  (ha:∀v,assign (.Subscript o i pos) X.env v=(do
   let ov <-holding [v] (eval o X.env);let iv <-holding [v,ov] (eval i X.env)
   standAt pos
   holding [v,ov,iv] (setItem ov iv v)
   release [v,ov,iv] []):=by intro _;rfl):PG X (.Subscript o i pos) (Ud to ti t):=by
 intro h_ s σ H v u Q I r h;rw[ha];refine wb9 (ck (hZ (ho h_ s σ H _ I h) λov s1 ⟨x,H1,I1,r1,q1⟩=>?_));refine wb9 (ck (hZ (hi h_ s1 σ H1 _ I1 q1) λiv s2 ⟨y,H2,I2,r2,q2⟩=>?_));refine wb9 (lG (wb9 (ck (hZ (hs h_ s2 σ H2 x y v ov iv u _ I2 r1 r2 r q2) λ_ s3 ⟨H3,I3,q3⟩=>?_))));exact wpAny_release ⟨σ,H3,I3,q3⟩
def Cg(te:TE)(g:TG):TS:=λD σ H=>te σ H λx H1=>g x σ H1 D.nx
def CO(he:PE X e te)(hg:PG X tg g)(hs:swapsWithSole [tg] e pos.line X.env=pure d_)(hw:swappedStores [tg] e X.env=pure b_)
  (h1:(assignEach [tg] X.env).map (·.2)=[assign tg X.env]):PS X (.Assign [tg] e pos) (Cg te g):=by
 intro h_ s σ H D I h;refine wpAny_Assign_stores (hZ (he h_ s σ H _ I h) λv s1 ⟨x,H1,I1,r1,q1⟩=>?_) hs hw;rw[h1];exact hZ (hg h_ s1 σ H1 x v _ I1 r1 q1) λ_ s2 q=>q
def Jr(hN:X.N.Nodup)(hi:X.N[i]?=a_ x)(hx:Loc X.env.scope x)(he:PE X e te)(hs:swapsWith e (a_ (.Name x pos')) pos.line X.env=pure d_)(hf:X.fn x=c_\/X.env.scope.names.lookup x=a_ .local) :
  PS X (.Assign [.Name x pos'] e pos) (Cg te (kh i)):=by
 intro h_ s σ H D I h;refine wpAny_Assign_Name (hZ (he h_ s σ H _ I h) λv s1 ⟨y,H1,I1,r1,q1⟩=>?_) hs;exact og I1 hN hi hx r1 (λs2 I2=>⟨_,H1,I2,q1⟩) hf
end
section
end
structure It where
 go:Nat->Hp->Prop
 yld:Nat->Hp->V->Hp->Prop
 stop:Nat->Hp->Prop
def qc(X:Cx)(h_:List (aE×kX))(H:Hp)(b:aE):Prop:=
 H b=b_/\b≠X.env.locals/\b∉X.fs/\(b∈X.ex\/X.s₀.heap.objs.size<=b)/\(∀x c,X.env.cells.lookup x=a_ c->c≠b)/\∀p∈X.pn++h_,p.1≠b
def Inv.Bb(I:Inv X h_ σ H s)(hb:s.heap.objs.size<=b)(hn:H' b=b_):qc X h_ H' b:=by
 refine⟨hn,jW (aW I.lt hb),I.WD hb,.inr (ae I.sz hb),λx c e z=>?_,λp hp z=>?_⟩
 ·obtain⟨v,q⟩:=I.cell x c e;exact absurd (aW q.lt (by rw[z];exact hb)) (bp _)
 ·exact absurd (aW (hl9 (I.pin p hp).1) (by rw[z];exact hb)) (bp _)
structure Turn(P:cY)(w:dH)(K:aA)(tg:aV)(J:It)(fp:List aE)(it:aE)(tn:Nat->bM->Prop):Prop where
 mem:it∈fp
 obj:∀i h,tn i h->∀b∈fp,∃o,h.get? b=a_ o/\∀v,o.data≠.cell v
 keep:∀i h h',tn i h->(∀b∈fp,∀o,h.get? b=a_ o->h'.get? b=a_ o)->tn i h'
 item:∀(X:Cx),X.prog=P->X.w=w->X.K=K->X.calm=c_->∀(i:Nat)(h_:List (aE×kX))(s:aw)(σ:St)(H:Hp)(E:ak->aw->Prop),Inv X h_ σ H s->(∀b∈fp,qc X h_ H b)->tn i s.heap->J.go i H->
  ax (aB P w) X.A (pyNext (.ref it)) (λr s1=>∃u,r=a_ u/\
   ax (aB P w) X.A (letOwnedTupleGo tg (.ref it) u) (λ_ s2=>∃x H',Inv X h_ σ H' s2/\RelV x u/\J.yld i H x H'/\tn (i+1) s2.heap/\∀b∈fp,H' b=b_) E s1) E s
 done:∀(X:Cx),X.prog=P->X.w=w->X.K=K->X.calm=c_->∀(i:Nat)(h_:List (aE×kX))(s:aw)(σ:St)(H:Hp)(E:ak->aw->Prop),Inv X h_ σ H s->(∀b∈fp,qc X h_ H b)->tn i s.heap->J.stop i H->
  ax (aB P w) X.A (pyNext (.ref it)) (λr s1=>r=b_/\Inv X h_ σ H s1) E s
 self:∀(A:cm)(i:Nat)(s:aw)(Q:ak->aw->Prop)(E:ak->aw->Prop),tn i s.heap->Q (.ref it) s->ax (aB P w) A (HB (.ref it)) Q E s
abbrev TI:=St->Hp->(It->Hp->Prop)->Prop
def ZY(X:Cx)(h_:List (aE×kX))(σ:St)(tg:aV)(R:It->Hp->Prop)(itv:ak)(s2:aw):Prop:=
 ∃(it:aE) (fp:List aE) (tn:Nat->bM->Prop) (J:It) (H':Hp),itv=.ref it/\Inv X h_ σ H' s2/\Turn X.prog X.w X.K tg J fp it tn/\tn 0 s2.heap/\(∀b∈fp,qc X h_ H' b)/\R J H'
def PI(X:Cx)(tg iter:aV)(wi:TI):Prop:=
 ∀(h_:List (aE×kX))(s:aw)(σ:St)(H:Hp)(R:It->Hp->Prop),Inv X h_ σ H s->wi σ H R->
  ax (aB X.prog X.w) X.A (eval iter X.env) (λv s1=>ax (aB X.prog X.w) X.A (HB v) (ZY X h_ σ tg R) X.xe s1) X.xe s
def A7{s:aw}(ho:s.heap.get? it=a_ o)(hc:o.cls=.type n)(hd:o.data=.fields vs)
  (hn:["enumerate","zip","dict_itemiterator","dict_reverseitemiterator","odict_iterator","itertools.zip_longest","itertools.pairwise"].contains n=d_)(hQ:Q () s):ax M A (letOwnedTupleGo tg (.ref it) u) Q E s:=by
 unfold letOwnedTupleGo
 cases tg<;>first
  |exact wu9 hQ
  | (cases u<;>first
    |exact wu9 hQ
    | (refine wb9 (wpAny_load ho ?_)
       rw[hc,hd];show ax M A (if(["enumerate","zip","dict_itemiterator","dict_reverseitemiterator","odict_iterator","itertools.zip_longest","itertools.pairwise"].contains n && vs[0]? == a_ (rawInt _))=c_ then _ else _) Q E s;rw[if_neg (by intro h;rw[hn,pk]at h;cases h)]
       exact wu9 hQ))
def Z1(K:aA)(a:aE):It:=
 ⟨λi H=>∃xs x,pd K H a xs/\xs[i]?=a_ x,λi H x H'=>H'=H/\∀xs,pd K H a xs->xs[i]?=a_ x,λi H=>∃xs,pd K H a xs/\xs.length<=i⟩
def Z0(K:aA)(a:aE):It:=
 ⟨λi H=>∃xs x,wa K H a xs/\xs[i]?=a_ x,λi H x H'=>H'=H/\∀xs,wa K H a xs->xs[i]?=a_ x,λi H=>∃xs,wa K H a xs/\xs.length<=i⟩
def XJ(lo:Int)(n:Nat):It:=⟨λi _=>i<n,λi H x H'=>H'=H/\x=.int (lo+i),λi _=>n<=i⟩
def FU{K:aA}(a it:aE):Turn P w K tg (Z1 K a) [it] it (λi h=>h.IsListIter it a i) where
 mem:=by simp
 obj:=λi h st b hb=>by
  have e:b=it:=by simpa using hb
  subst e;obtain⟨o,e,c,d⟩:=st;exact⟨o,e,λv z=>by rw[d]at z;cases z⟩
 keep:=λi h h' st k=>st.at λo e=>k it (by simp) o e
 item:=by
  intro X hP hw hK hc i h_ s σ H E I hf st hg;subst hP hw hK;obtain⟨xs,x,hq,hx⟩:=hg;obtain⟨its,rv,p,hz⟩:=I.list hq;obtain⟨u,hu,ru⟩:=rv.get hx;obtain⟨f0,f1,f2,f3,f4,f5⟩:=hf it (by simp);refine wpAny_pyNext_list_item st p.isList (x:=u) (by simpa using hu) λh' st' sb=>?_;have I1:Inv X h_ σ H { s with heap:=h' }:=I.turned (t':=s.toks) (λb o hb e=>(sb.2 b hb).trans e) f0 f1 f3 f4 f5;obtain⟨o,e,c,d⟩:=id st';exact⟨u,rfl,A7 (s:={ s with heap:=h' }) e c d bG ⟨x,H,I1,ru,⟨rfl,λys hy=>by rw[I.qO hy hq];exact hx⟩,st',λb hb=>(hf b hb).1⟩⟩
 done:=by
  intro X hP hw hK hc i h_ s σ H E I hf st hg;subst hP hw hK;obtain⟨xs,hq,hx⟩:=hg;obtain⟨its,rv,p,hz⟩:=I.list hq;obtain⟨f0,f1,f2,f3,f4,f5⟩:=hf it (by simp);have hl:=rv.length;exact wpAny_pyNext_list_end (I.ok.hd hc) st p.isList (by simp;exact ae (aM hl.symm) hx) λh' eb=>⟨rfl,I.turned (t':=s.toks) (λb o hb e=>eb b o hb e) f0 f1 f3 f4 f5⟩
 self:=λ_ _ _ _ _ st h=>wpAny_pyIter_listiter st h
def B9{K:aA}(a it:aE):Turn P w K tg (Z0 K a) [it] it (λi h=>h.IsTupleIter it a i) where
 mem:=by simp
 obj:=λi h st b hb=>by
  have e:b=it:=by simpa using hb
  subst e;obtain⟨o,e,c,d⟩:=st;exact⟨o,e,λv z=>by rw[d]at z;cases z⟩
 keep:=λi h h' st k=>st.at λo e=>k it (by simp) o e
 item:=by
  intro X hP hw hK hc i h_ s σ H E I hf st hg;subst hP hw hK;obtain⟨xs,x,hq,hx⟩:=hg;obtain⟨its,rv,p,hz⟩:=I.tuple hq;obtain⟨u,hu,ru⟩:=rv.get hx;obtain⟨f0,f1,f2,f3,f4,f5⟩:=hf it (by simp);refine wpAny_pyNext_tuple_item st (show s.heap.IsTuple a its.toArray from p) (x:=u) (by simpa using hu) λh' st' sb=>?_;have I1:Inv X h_ σ H { s with heap:=h' }:=I.turned (t':=s.toks) (λb o hb e=>(sb.2 b hb).trans e) f0 f1 f3 f4 f5;obtain⟨o,e,c,d⟩:=id st';exact⟨u,rfl,A7 (s:={ s with heap:=h' }) e c d bG ⟨x,H,I1,ru,⟨rfl,λys hy=>by rw[I.oK hy hq];exact hx⟩,st',λb hb=>(hf b hb).1⟩⟩
 done:=by
  intro X hP hw hK hc i h_ s σ H E I hf st hg;subst hP hw hK;obtain⟨xs,hq,hx⟩:=hg;obtain⟨its,rv,p,hz⟩:=I.tuple hq;obtain⟨f0,f1,f2,f3,f4,f5⟩:=hf it (by simp);have hl:=rv.length;exact wpAny_pyNext_tuple_end (I.ok.hd hc) st (show s.heap.IsTuple a its.toArray from p) (by simp;exact ae (aM hl.symm) hx) λh' eb=>⟨rfl,I.turned (t':=s.toks) (λb o hb e=>eb b o hb e) f0 f1 f3 f4 f5⟩
 self:=λ_ _ _ _ _ st h=>wpAny_pyIter_tupleiter st h
def Cb{K:aA}(it:aE)(lo:Int)(n:Nat):Turn P w K tg (XJ lo n) [it] it (λi h=>IsRangeIter h it (lo+(i:Nat) * 1) ((n:Int) - (i:Nat)) 1) where
 mem:=by simp
 obj:=λi h st b hb=>by
  have e:b=it:=by simpa using hb
  subst e
  exact⟨_,st,λv z=>by
   have z':Data.fields _=Data.cell v:=z
   cases z'⟩
 keep:=λi h h' st k=>k it (by simp) _ st
 item:=by
  intro X hP hw hK hc i h_ s σ H E I hf st hg;subst hP hw hK;obtain⟨f0,f1,f2,f3,f4,f5⟩:=hf it (by simp);have W:=Walks.range (prog:=X.prog) (w:=X.w) (I.ok.hd hc) it lo 1 n;refine W.item i s _ _ hg st λv h' tk hv st' kk=>?_;obtain⟨t,rfl⟩:=hv;have I1:Inv X h_ σ H { s with heap:=h',toks:=tk }:=I.turned (λb o hb e=>kk b o (by simpa using hb) e) f0 f1 f3 f4 f5;refine⟨_,rfl,A7 (s:={ s with heap:=h',toks:=tk }) (n:="range_iterator") st' rfl rfl bG ⟨.int (lo+i),H,I1,⟨t,?_⟩,⟨rfl,rfl⟩,st',λb hb=>(hf b hb).1⟩⟩;rw[Int.mul_one]
 done:=by
  intro X hP hw hK hc i h_ s σ H E I hf st hg;subst hP hw hK;obtain⟨f0,f1,f2,f3,f4,f5⟩:=hf it (by simp);exact wpAny_pyNext_range_end (I.ok.hd hc) st (by have:n<=i:=hg;omega) λh' eb=>⟨rfl,I.turned (t':=s.toks) (λb o hb e=>eb b o hb e) f0 f1 f3 f4 f5⟩
 self:=λ_ _ _ _ _ st h=>wpAny_pyIter_rangeiter st h
section
variable{X:Cx}
def W5(K:aA)(tl:TE):TI:=λσ H R=>tl σ H λx H1=>∃a,x=.ref a/\(∃xs,pd K H1 a xs)/\R (Z1 K a) H1
def Zb(K:aA)(tl:TE):TI:=λσ H R=>tl σ H λx H1=>∃a,x=.ref a/\(∃xs,wa K H1 a xs)/\R (Z0 K a) H1
def En(hl:PE X l tl):PI X tg l (W5 X.K tl):=by
 intro h_ s σ H R I h;refine hZ (hl h_ s σ H _ I h) λv s1 ⟨x,H1,I1,r1,q1⟩=>?_;obtain⟨a,e,⟨xs,hq⟩,q⟩:=q1;subst e;cases r1;obtain⟨its,rv,p,hz⟩:=I1.list hq;refine kr p.isList ?_;refine⟨s1.heap.objs.size,[s1.heap.objs.size],_,_,H1,rfl,I1.kept (t':=s1.toks) λb o e=>hp9 _ e,FU a _,⟨_,aK _ rfl,rfl,rfl⟩,λb hb=>?_,q⟩;have e:b=s1.heap.objs.size:=by simpa using hb
 subst e;exact I1.Bb (aI _) (I1.hok.fresh (aI _))
def Jv(hl:PE X l tl):PI X tg l (Zb X.K tl):=by
 intro h_ s σ H R I h;refine hZ (hl h_ s σ H _ I h) λv s1 ⟨x,H1,I1,r1,q1⟩=>?_;obtain⟨a,e,⟨xs,hq⟩,q⟩:=q1;subst e;cases r1;obtain⟨its,rv,p,hz⟩:=I1.tuple hq;refine wpAny_pyIter_tuple (show s1.heap.IsTuple a its.toArray from p) ?_;refine⟨s1.heap.objs.size,[s1.heap.objs.size],_,_,H1,rfl,I1.kept (t':=s1.toks) λb o e=>hp9 _ e,B9 a _,⟨_,aK _ rfl,rfl,rfl⟩,λb hb=>?_,q⟩;have e:b=s1.heap.objs.size:=by simpa using hb
 subst e;exact I1.Bb (aI _) (I1.hok.fresh (aI _))
def Ah{lo:Int}(I:Inv X h_ σ H s)(h1:-(2 ^ 62)<=lo)(h2:lo<2 ^ 62)(h3:-(2 ^ 62)<=hi)(h4:hi<2 ^ 62)
  (q:R (XJ lo (hi - lo).toNat) H):ax (aB X.prog X.w) X.A (HB (.ref s.heap.objs.size)) (ZY X h_ σ tg R) E { s with heap:=s.heap.push { cls:=.type "range",data:=.fields #[.int lo t,.int hi u,.int 1 v] },toks:=tk }:=by
 refine wpAny_pyIter_range (IsRange.new ..) (small_one h1 h2 h3 h4) ?_;have I1:Inv X h_ σ H { s with heap:=s.heap.push { cls:=.type "range",data:=.fields #[.int lo t,.int hi u,.int 1 v] },toks:=tk }:=I.kept λb o e=>hp9 _ e
 refine⟨(s.heap.push { cls:=.type "range",data:=.fields #[.int lo t,.int hi u,.int 1 v] }).objs.size,[(s.heap.push { cls:=.type "range",data:=.fields #[.int lo t,.int hi u,.int 1 v] }).objs.size],_,_,H,rfl,
  I1.kept (t':=tk) λb o e=>hp9 _ e,Cb _ lo (hi - lo).toNat,?_,λb hb=>?_,q⟩
 ·have e1:lo+((0:Nat):Int) * 1=lo:=by simp
  have e2:(((hi - lo).toNat:Nat):Int) - ((0:Nat):Int)=Builtin.Range.rangeSize lo hi 1:=by rw[rangeSize_one];split<;>omega
  show IsRangeIter _ _ (lo+((0:Nat):Int) * 1) ((((hi - lo).toNat:Nat):Int) - ((0:Nat):Int)) 1;rw[e1,e2];exact aK _ rfl
 ·have e:b=(s.heap.push { cls:=.type "range",data:=.fields #[.int lo t,.int hi u,.int 1 v] }).objs.size:=by simpa using hb
  subst e;exact I1.Bb (aI _) (I1.hok.fresh (aI _))
def W4(ta:TA):TI:=λσ H R=>ta σ H λvs H1=>∃j:Int,vs=[.int j]/\-(2 ^ 62)<=j/\j<2 ^ 62/\R (XJ 0 j.toNat) H1
def W3(ta:TA):TI:=λσ H R=>ta σ H λvs H1=>∃i j:Int,vs=[.int i,.int j]/\(-(2 ^ 62)<=i/\i<2 ^ 62/\-(2 ^ 62)<=j/\j<2 ^ 62)/\R (XJ i (j - i).toNat) H1
def Gq(hg:Gl X "range")(hm:X.mg "range"=b_)(ha:PA X [a] ta)(hs:aG [a] X.env=[(d_,eval a X.env)]):PI X tg (.Call (.Name "range" p) [a] [] pos) (W4 ta):=by
 intro h_ s σ H R I h;refine Call_ (m8 I hg hm boot_range (dM (hZ (ha pos h_ s σ H _ I h) λus s1 ⟨vs,H1,I1,r1,q1⟩=>?_) hs rfl));obtain⟨j,e,q1,q2,q⟩:=q1;subst e
 cases r1 with
 |cons r rr=>
   cases rr;obtain⟨t,rfl⟩:=r;exact call_range_1 (Ah I1 (by simp) (by simp) q1 q2 (by simpa using q))
def Gp(hg:Gl X "range")(hm:X.mg "range"=b_)(ha:PA X [a,b] ta)(hs:aG [a,b] X.env=[(d_,eval a X.env),(d_,eval b X.env)])(hs2:aG [b] X.env=[(d_,eval b X.env)]) :
  PI X tg (.Call (.Name "range" p) [a,b] [] pos) (W3 ta):=by
 intro h_ s σ H R I h;refine Call_ (m8 I hg hm boot_range (dM (hZ (ha pos h_ s σ H _ I h) λus s1 ⟨vs,H1,I1,r1,q1⟩=>?_) (by rw[hs,hs2]) (by rw[hs2];rfl)));obtain⟨i,j,e,⟨q1,q2,q3,q4⟩,q⟩:=q1;subst e
 cases r1 with
 |cons r rr=>
   cases rr with
   |cons r' rr=>
     cases rr;obtain⟨t,rfl⟩:=r;obtain⟨t',rfl⟩:=r';exact call_range_2 (Ah I1 q1 q2 q3 q4 q)
def Yt(wi:TI)(g:TG)(tb:TS):TS:=λD σ H=>wi σ H λJ H1=>∃W:Nat->Nat->St->Hp->Prop,(∃m,W 0 m σ H1)/\∀i m σ H,W i m σ H->
 (J.stop i H/\D.nx σ H)\/(J.go i H/\∃N:St->Hp->Prop,(∀σ' H',N σ' H'->∃m',m'<m/\W (i+1) m' σ' H')/\∀x H',J.yld i H x H'->g x σ H' λσ2 H2=>tb { D with nx:=N,ct:=N,bk:=D.nx } σ2 H2)
def lZ(fp:List aE)(h:bM):List (aE×kX):=fp.filterMap λb=>(h.get? b).map λo=>(b,o)
def m7{h:bM}(hb:b∈fp)(e:h.get? b=a_ o):(b,o)∈lZ fp h:=rp.mpr ⟨b,hb,by rw[e];rfl⟩
def wR(hp:p∈lZ fp h):p.1∈fp/\h.get? p.1=a_ p.2:=by
 obtain⟨b,hb,e⟩:=rp.mp hp
 cases q:h.get? b with
 |none=>rw[q]at e;cases e
 |some o=>
   rw[q]at e;have e':(b,o)=p:=aO e;subst e';exact⟨hb,q⟩
def Inv.pinned(I:Inv X h_ σ H s)(hf:∀b∈fp,qc X h_ H b)(ho:∀b∈fp,∃o,s.heap.get? b=a_ o/\∀v,o.data≠.cell v):Inv X (h_++lZ fp s.heap) σ H s:=
 I.qG λp hp=>(aL.mp hp).elim (λz=>I.pin p (aF _ z)) λz=>by
  obtain⟨hb,e⟩:=wR z;obtain⟨f0,f1,f2,_⟩:=hf p.1 hb;obtain⟨o,e',d⟩:=ho p.1 hb;rw[e]at e';cases e';exact⟨e,f0,f1,f2,d⟩
def Inv.mq(I:Inv X (h_++pl) σ H s):Inv X h_ σ H s:=I.qG λp hp=>I.pin p (aF _ (aZ _ hp))
def Jt{iter:aV}{tb:TS}(hp:Hm (aB X.prog X.w) X.A X.env X.xe)(hc:X.calm=c_)(hi:PI X tg iter wi)(hg:PG X tg g)(hb:DL X body tb)
  (hs:∀x,foldedSetIterable iter X.env x=pure x):PS X (.For tg iter body [] pos) (Yt wi g tb):=by
 intro h_ s σ H D I h;refine wpAny_For (hZ (hi h_ s σ H _ I h) λv s1 h1=>hZ h1 λitv s2 h2=>?_) hs;obtain⟨it,fp,tn,J,H2,e,I2,T,st2,f2,W,⟨m0,w0⟩,turn⟩:=h2;subst e;have stat:∀{H':Hp},(∀b∈fp,H' b=b_)->∀b∈fp,qc X h_ H' b:=λhn b hb=>⟨hn b hb,(f2 b hb).2⟩
 refine codeAny_forLoop_any (λn s'=>∃i σ' H',Inv X h_ σ' H' s'/\tn i s'.heap/\(∀b∈fp,H' b=b_)/\W i n σ' H') ?_ m0 ⟨0,σ,H2,I2,st2,λb hb=>(f2 b hb).1,w0⟩;rintro n s3 ⟨i,σ3,H3,I3,st3,fr3,w3⟩
 rcases turn i n σ3 H3 w3 with⟨stop,qn⟩|⟨go,N,hN,step⟩
 ·refine lS hp (hZ (T.done X rfl rfl rfl hc i h_ s3 σ3 H3 X.xe I3 (stat fr3) st3 stop) λr s4 ⟨hr,I4⟩=>?_);subst hr;exact lT ⟨σ3,H3,I4,qn⟩
 ·refine lS hp (hZ (T.item X rfl rfl rfl hc i h_ s3 σ3 H3 X.xe I3 (stat fr3) st3 go) λr s4 ⟨u,hr,h4⟩=>?_);subst hr;refine lS hp (hZ h4 λ_ s5 ⟨x,H5,I5,r5,y5,st5,fr5⟩=>?_);have I5':=I5.pinned (stat fr5) (T.obj _ _ st5);refine lS hp (hZ (hg _ s5 σ3 H5 x u _ I5' r5 (step x H5 y5)) λ_ s6 ⟨σ6,H6,I6,q6⟩=>?_);refine lS hp (hZ (hb _ s6 σ6 H6 _ I6 q6) λf s7 q7=>?_)
  have again:∀{σ7:St}{H7:Hp},Inv X (h_++lZ fp s5.heap) σ7 H7 s7->N σ7 H7->∃m,m<n/\∃i σ' H',Inv X h_ σ' H' s7/\tn i s7.heap/\(∀b∈fp,H' b=b_)/\W i m σ' H':=λ{σ7 H7}I7 n7=>by
   obtain⟨m',hm,w7⟩:=hN σ7 H7 n7;refine⟨m',hm,i+1,σ7,H7,I7.mq,T.keep _ _ _ st5 λb hb o e=>(I7.pin (b,o) (aF _ (aF _ (m7 hb e)))).1,λb hb=>?_,w7⟩;obtain⟨o,e,d⟩:=T.obj _ _ st5 b hb;exact(I7.pin (b,o) (aF _ (aF _ (m7 hb e)))).2.1
  cases f with
  |next=>obtain⟨σ7,H7,I7,n7⟩:=q7;exact again I7 n7
  |cont=>obtain⟨σ7,H7,I7,n7⟩:=q7;exact again I7 n7
  |brk=>obtain⟨σ7,H7,I7,q7⟩:=q7;exact⟨σ7,H7,I7.mq,q7⟩
  |ret v=>obtain⟨x7,σ7,H7,I7,r7,q7⟩:=q7;exact⟨x7,σ7,H7,I7.mq,r7,q7⟩
end
abbrev R2:=V->V->Hp->VK->Prop
def iO(X:Cx)(f:ak->ak->Sem ak)(r:R2):Prop:=
 ∀(h_:List (aE×kX))(s:aw)(σ:St)(H:Hp)(x y:V)(v u:ak)(Q:VK),Inv X h_ σ H s->RelV x v->RelV y u->r x y H Q->
  ax (aB X.prog X.w) X.A (f v u) (EP X h_ σ Q) X.xe s
def ZS(X:Cx)(f:ak->Sem ak)(r:V->Hp->VK->Prop):Prop:=
 ∀(h_:List (aE×kX))(s:aw)(σ:St)(H:Hp)(x:V)(v:ak)(Q:VK),Inv X h_ σ H s->RelV x v->r x H Q->
  ax (aB X.prog X.w) X.A (f v) (EP X h_ σ Q) X.xe s
def ju(X:Cx)(f:ak)(r:List V->Hp->VK->Prop):Prop:=
 ∀(h_:List (aE×kX))(s:aw)(σ:St)(H:Hp)(xs:List V)(us:List ak)(Q:VK),Inv X h_ σ H s->bW xs us->r xs H Q->
  ax (aB X.prog X.w) X.A (call f us) (EP X h_ σ Q) X.xe s
def ZT(X:Cx)(r:V->Hp->(Bool->Hp->Prop)->Prop):Prop:=
 ∀(h_:List (aE×kX))(s:aw)(σ:St)(H:Hp)(x:V)(v:ak)(Q:Bool->Hp->Prop),Inv X h_ σ H s->RelV x v->r x H Q->
  ax (aB X.prog X.w) X.A (truthy v) (TP X h_ σ Q) X.xe s
def VO(r:R2)(ta tb:TE):TE:=λσ H Q=>ta σ H λx H1=>tb σ H1 λy H2=>r x y H2 Q
def tUn(r:V->Hp->VK->Prop)(ta:TE):TE:=λσ H Q=>ta σ H λx H1=>r x H1 Q
def rI(C:Int->Int->Prop)(g:Int->Int->V):R2:=λx y H Q=>∃i j,x=.int i/\y=.int j/\C i j/\Q (g i j) H
def Hv(g:Int->Int->V):R2:=λx y H Q=>∃i j,x=.int i/\y=.int j/\Q (g i j) H
def rU(g:Int->V):V->Hp->VK->Prop:=λx H Q=>∃i,x=.int i/\Q (g i) H
section
variable{X:Cx}{tb:TE}
def UZ(ha:PE X a ta)(hb:PE X b tb){h_:List (aE×kX)}{s:aw}{σ:St}{H:Hp}{R:V->V->Hp->Prop}(I:Inv X h_ σ H s)
  (h:ta σ H λx H1=>tb σ H1 λy H2=>R x y H2){Q:ak->aw->Prop}{f:ak->ak->Sem ak}
  (hf:∀v u s2 x y H2,Inv X h_ σ H2 s2->RelV x v->RelV y u->R x y H2->ax (aB X.prog X.w) X.A (f v u) Q X.xe s2) :
  ax (aB X.prog X.w) X.A (eval a X.env) (λv s₁=>ax (aB X.prog X.w) X.A (eval b X.env) (λu s₂=>ax (aB X.prog X.w) X.A (f v u) Q X.xe s₂) X.xe s₁) X.xe s:=by
 refine hZ (ha h_ s σ H _ I h) λv s1 ⟨x,H1,I1,r1,q1⟩=>?_;refine hZ (hb h_ s1 σ H1 _ I1 q1) λu s2 ⟨y,H2,I2,r2,q2⟩=>?_;exact hf v u s2 x y H2 I2 r1 r2 q2
def Wq(ho:iO X (binaryOp op) r)(ha:PE X a ta)(hb:PE X b tb):PE X (.BinOp a op b pos) (VO r ta tb):=by
 intro h_ s σ H Q I h;exact wpAny_BinOp (UZ ha hb I h λv u s2 x y H2 I2 rx ry q=>ho h_ s2 σ H2 x y v u Q I2 rx ry q)
def Wo(ho:ZS X (unaryOp op) r)(ha:PE X a ta):PE X (.UnaryOp op a pos) (tUn r ta):=by
 intro h_ s σ H Q I h;exact UnaryOp_ (hZ (ha h_ s σ H _ I h) λv s1 ⟨x,H1,I1,r1,q1⟩=>ho h_ s1 σ H1 x v Q I1 r1 q1)
def Wz{f:ak->ak->Sem ak}{C:Int->Int->Prop}{g:Int->Int->Int}
  (rule:∀(i j:Int)(t u:Tok)(s:aw)(Q:ak->aw->Prop)(E:ak->aw->Prop),C i j->Q (.int (g i j) s.toks) { s with toks:=s.toks+1 }->ax (aB X.prog X.w) X.A (f (.int i t) (.int j u)) Q E s) :
  iO X f (rI C λi j=>.int (g i j)):=by
 intro h_ s σ H x y v u Q I rx ry h;obtain⟨i,j,rfl,rfl,hc,q⟩:=h;obtain⟨t,rfl⟩:=rx;obtain⟨t',rfl⟩:=ry;exact rule i j t t' s _ _ hc ⟨.int (g i j),H,I.tok _,⟨_,rfl⟩,q⟩
def NX{f:ak->ak->Sem ak}{g:Int->Int->Int}
  (rule:∀(i j:Int)(t u:Tok)(s:aw)(Q:ak->aw->Prop)(E:ak->aw->Prop),Q (.int (g i j) s.toks) { s with toks:=s.toks+1 }->ax (aB X.prog X.w) X.A (f (.int i t) (.int j u)) Q E s) :
  iO X f (Hv λi j=>.int (g i j)):=by
 intro h_ s σ H x y v u Q I rx ry h;obtain⟨i,j,rfl,rfl,q⟩:=h;obtain⟨t,rfl⟩:=rx;obtain⟨t',rfl⟩:=ry;exact rule i j t t' s _ _ ⟨.int (g i j),H,I.tok _,⟨_,rfl⟩,q⟩
def NY{f:ak->ak->Sem ak}{g:Int->Int->Bool}
  (rule:∀(i j:Int)(t u:Tok)(s:aw)(Q:ak->aw->Prop)(E:ak->aw->Prop),Q (.bool (g i j)) s->ax (aB X.prog X.w) X.A (f (.int i t) (.int j u)) Q E s) :
  iO X f (Hv λi j=>.bl (g i j)):=by
 intro h_ s σ H x y v u Q I rx ry h;obtain⟨i,j,rfl,rfl,q⟩:=h;obtain⟨t,rfl⟩:=rx;obtain⟨t',rfl⟩:=ry;exact rule i j t t' s _ _ ⟨.bl (g i j),H,I,rfl,q⟩
def PU(i j:Int):Prop:=0<j/\j<1073741824
def LH(i j:Int):Prop:=0<=j/\j<=1000000/\i.natAbs<2 ^ 64
def Hk(i j:Int):Prop:=(-(2 ^ 64)<i/\i<2 ^ 64)\/(-(2 ^ 64)<j/\j<2 ^ 64)
def Hk.ok(h:Hk i j):IntMulOk i j:=by
 rcases h with⟨h1,h2⟩|⟨h1,h2⟩
 ·exact .of_left (intBits_le_64 h1 h2)
 ·exact .of_right (intBits_le_64 h1 h2)
def B8(k:Nat):(0:Int)<=2 ^ k:=by
 rw[two_pow_cast];exact Int.natCast_nonneg _
def SM:iO X (binaryOp .Add) (Hv λi j=>.int (i+j)):=NX λ_ _ _ _ _ _ _ q=>add_int q
def Sm:iO X (binaryOp .Sub) (Hv λi j=>.int (i - j)):=NX λ_ _ _ _ _ _ _ q=>sub_int q
def Su:iO X (binaryOp .Mult) (rI Hk λi j=>.int (i * j)):=Wz λ_ _ _ _ _ _ _ hc q=>mul_int q hc.ok
def NT:iO X (binaryOp .FloorDiv) (rI PU λi j=>.int (i / j)):=Wz λi j _ _ _ _ _ hc q=>by
 have h1:(0:Int)<j:=hc.1;have h2:j<1073741824:=hc.2;exact floordiv_int (λz=>(nN h1 (nZ z))) (by rw[x6 i (BY h1)];exact q) (.inl (PyProof.noPylong_small (by omega)))
def Sv:iO X (binaryOp .Mod) (rI (λ_ j=>0<j) λi j=>.int (i % j)):=Wz λi j _ _ _ _ _ hc q=>by
 have h1:(0:Int)<j:=hc;exact mod_int' (λz=>(nN h1 (nZ z))) (by rw[Int.fmod_eq_emod_of_nonneg i (BY h1)];exact q)
def So:iO X (binaryOp .LShift) (rI LH λi j=>.int (i * 2 ^ j.toNat)):=Wz λ_ _ _ _ _ _ _ hc q=>lshift_int_small hc.1 hc.2.1 hc.2.2 q
def Sn:iO X (binaryOp .RShift) (rI (λ_ j=>0<=j) λi j=>.int (i / 2 ^ j.toNat)):=Wz λi j _ _ _ _ _ hc q=>
 rshift_int hc (by rw[x6 i (B8 _)];exact q)
def SK:iO X (binaryOp .BitAnd) (Hv λi j=>.int (uv i j)):=NX λ_ _ _ _ _ _ _ q=>and_int q
def Wu:iO X (binaryOp .BitOr) (Hv λi j=>.int (j6 i j)):=NX λ_ _ _ _ _ _ _ q=>or_int q
def unI{f:ak->Sem ak}{g:Int->Int}
  (rule:∀(i:Int)(t:Tok)(s:aw)(Q:ak->aw->Prop)(E:ak->aw->Prop),Q (.int (g i) s.toks) { s with toks:=s.toks+1 }->ax (aB X.prog X.w) X.A (f (.int i t)) Q E s) :
  ZS X f (rU λi=>.int (g i)):=by
 intro h_ s σ H x v Q I rx h;obtain⟨i,rfl,q⟩:=h;obtain⟨t,rfl⟩:=rx;exact rule i t s _ _ ⟨.int (g i),H,I.tok _,⟨_,rfl⟩,q⟩
def Q0:ZS X (unaryOp .USub) (rU λi=>.int (-i)):=unI λ_ _ _ _ _ q=>neg_int q
end
section
variable{b:aV}{ta tb tc:TE}
def Dl(I:Inv X h_ σ H s)(q:Q (.bl k) H)(e:k=k'):EP X h_ σ Q (.bool k') s:=by
 subst e;exact⟨.bl k,H,I,rfl,q⟩
def Wv:iO X (compareOp .Lt) (Hv λi j=>.bl (decide (i<j))):=NY λ_ _ _ _ _ _ _ q=>lt_int q
def Ww:iO X (compareOp .LtE) (Hv λi j=>.bl (decide (i<=j))):=NY λ_ _ _ _ _ _ _ q=>le_int q
def Wx:iO X (compareOp .Gt) (Hv λi j=>.bl (decide (j<i))):=NY λ_ _ _ _ _ _ _ q=>gt_int q
def Wy:iO X (compareOp .GtE) (Hv λi j=>.bl (decide (j<=i))):=NY λ_ _ _ _ _ _ _ q=>ge_int q
def Gu:iO X (compareOp .In) (λx y H Q=>∃i j,x=.str i/\y=.str j/\Q (.bl (!(cQ j i 0 j.length 1).isEmpty)) H):=by
 intro h_ s σ H x y v u Q I rx ry h;obtain⟨i,j,rfl,rfl,q⟩:=h;obtain⟨t,rfl⟩:=rx;obtain⟨t',rfl⟩:=ry;exact in_str (Dl I q rfl)
def Sz:iO X (compareOp .Is) (λx y H Q=>y=.non/\Q (.bl (decide (x=.non))) H):=by
 intro h_ s σ H x y v u Q I rx ry h;obtain⟨rfl,q⟩:=h;cases ry;refine is_none_gen (Dl I q ?_)
 cases x<;>first
  |(cases rx;rfl)
  |(obtain⟨t,rfl⟩:=rx;rfl)
def NO:iO X (compareOp .IsNot) (λx y H Q=>y=.non/\Q (.bl (!decide (x=.non))) H):=by
 intro h_ s σ H x y v u Q I rx ry h;obtain⟨rfl,q⟩:=h;cases ry;refine isnot_none_gen (Dl I q ?_)
 cases x<;>first
  |(cases rx;rfl)
  |(obtain⟨t,rfl⟩:=rx;rfl)
def NF(ho:iO X (compareOp op) r)(ha:PE X a ta)(hb:PE X b tb)(hm:behindInMarks op b=d_):PE X (.Compare a [op] [b] pos) (VO r ta tb):=by
 intro h_ s σ H Q I h;exact wpAny_Compare1 (UZ ha hb I h λv u s2 x y H2 I2 rx ry q=>ho h_ s2 σ H2 x y v u Q I2 rx ry q) hm
def Qh(t:TE):TT:=λσ H Q=>t σ H λx H'=>∃k,x=.bl k/\Q k H'
def Ny(ho:iO X (compareOp op) r)(ha:PE X a ta)(hb:PE X b tb)(hm:behindInMarks op b=d_):PT X (.Compare a [op] [b] pos) (Qh (VO r ta tb)):=by
 intro h_ s σ H Q I h
 refine wpAny_isTrue_Compare1 (hZ (ha h_ s σ H _ I h) λv s1 ⟨x,H1,I1,r1,q1⟩=>hZ (hb h_ s1 σ H1 _ I1 q1) λu s2 ⟨y,H2,I2,r2,q2⟩=>
  hZ (ho h_ s2 σ H2 x y v u _ I2 r1 r2 q2) λc s3 ⟨z,H3,I3,r3,k,e,q3⟩=>?_) hm
 subst e;cases r3;exact dh ⟨H3,I3,q3⟩
def Cf(r r':R2)(ta tb tc:TE):TE:=λσ H Q=>ta σ H λx H1=>tb σ H1 λy H2=>r x y H2 λz H3=>∃k,z=.bl k/\
 (if k=c_ then tc σ H3 λw' H4=>r' y w' H4 Q else Q (.bl d_) H3)
def JF(ho:iO X (compareOp op) r)(ho':iO X (compareOp op') r')(ha:PE X a ta)(hb:PE X b tb)(hc:PE X c tc)
  (hm:lastMarks [op,op'] [b,c]=d_):PE X (.Compare a [op,op'] [b,c] pos) (Cf r r' ta tb tc):=by
 intro h_ s σ H Q I h
 refine Compare_chain (hZ (ha h_ s σ H _ I h) λv s1 ⟨x,H1,I1,r1,q1⟩=>chain_link (hZ (hb h_ s1 σ H1 _ I1 q1) λu s2 ⟨y,H2,I2,r2,q2⟩=>
  hZ (ho h_ s2 σ H2 x y v u _ I2 r1 r2 q2) λd s3 ⟨z,H3,I3,r3,k,e,q3⟩=>?_)) hm
 subst e;cases r3;refine dh ?_
 cases k with
 |false=>exact ite_ff ⟨.bl d_,H3,I3,rfl,q3⟩
 |true=>exact ite_tt (chain_last (hZ (hc h_ s3 σ H3 _ I3 q3) λw' s4 ⟨z',H4,I4,r4,q4⟩=>ho' h_ s4 σ H4 y z' u w' Q I4 r2 r4 q4))
def Jp(ho:iO X (compareOp op) r)(ho':iO X (compareOp op') r')(ha:PE X a ta)(hb:PE X b tb)(hc:PE X c tc)
  (hm:lastMarks [op,op'] [b,c]=d_):PT X (.Compare a [op,op'] [b,c] pos) (Qh (Cf r r' ta tb tc)):=by
 intro h_ s σ H Q I h
 refine isTrue_chain (hZ (ha h_ s σ H _ I h) λv s1 ⟨x,H1,I1,r1,q1⟩=>test_link (hZ (hb h_ s1 σ H1 _ I1 q1) λu s2 ⟨y,H2,I2,r2,q2⟩=>
  hZ (ho h_ s2 σ H2 x y v u _ I2 r1 r2 q2) λd s3 ⟨z,H3,I3,r3,k,e,q3⟩=>?_)) hm
 subst e;cases r3;refine dh ?_
 cases k with
 |false=>
   obtain⟨k',e',q'⟩:=q3;cases e';exact ite_ff ⟨H3,I3,q'⟩
 |true=>
   refine ite_tt (test_last (hZ (hc h_ s3 σ H3 _ I3 q3) λw' s4 ⟨z',H4,I4,r4,q4⟩=>hZ (ho' h_ s4 σ H4 y z' u w' _ I4 r2 r4 q4) λd' s5 ⟨z2,H5,I5,r5,k2,e2,q5⟩=>?_));subst e2;cases r5;exact dh ⟨H5,I5,q5⟩
def U8(K:aA)(x:V)(H:Hp)(k:Bool):Prop:=
 match x with
 |.non=>k=d_
 |.bl b=>k=b
 |.int i=>k=(i != 0)
 |.str y=>y.length<=aD/\k=((y.length:Int) != 0)
 |.byt y=>y.size<=aD/\k=((y.size:Int) != 0)
 |.ref p=>(∃xs,pd K H p xs/\k=!xs.isEmpty)\/(∃xs,wa K H p xs/\k=!xs.isEmpty)\/∃k_,H p=a_ (.dK k_)/\k=!k_.isEmpty
 |_=>False
def Dg{κ:Type}{k_:List (κ×V)}{vs:List (κ×ak)}(r:KV k_ vs):(!vs.isEmpty)=!k_.isEmpty:=by
 cases r<;>rfl
def vh(r:bW xs its):(!its.toArray.isEmpty)=!xs.isEmpty:=by
 cases r<;>simp
def pQ:(aD:Nat)<2 ^ 63:=by rw[bu];decide
def Ii:ZT X (λx H Q=>∃k,U8 X.K x H k/\Q k H):=by
 intro h_ s σ H x v Q I rx h;obtain⟨k,e,q⟩:=h;have hl:=pQ;have hs:aD=16777216:=bu
 cases x with
 |non=>
   cases rx;have e':k=d_:=e;subst e';exact truthy_none ⟨H,I,q⟩
 |bl b=>
   cases rx;have e':k=b:=e;subst e';exact dh ⟨H,I,q⟩
 |int i=>
   obtain⟨t,rfl⟩:=rx;have e':k=(i != 0):=e;subst e';exact PySem.P.truthy_int ⟨H,I,q⟩
 |str y=>
   obtain⟨t,rfl⟩:=rx;obtain⟨hy,e'⟩:y.length<=aD/\k=((y.length:Int) != 0):=e;subst e';exact PySem.P.truthy_str (by omega) ⟨H,I.tok _,q⟩
 |byt y=>
   obtain⟨t,rfl⟩:=rx;obtain⟨hy,e'⟩:y.size<=aD/\k=((y.size:Int) != 0):=e;subst e';exact PySem.W.truthy_bytes (ae hy bG) ⟨H,I.tok _,q⟩
 |ref p=>
   cases rx;have e':(∃xs,pd X.K H p xs/\k=!xs.isEmpty)\/(∃xs,wa X.K H p xs/\k=!xs.isEmpty)\/∃k_,H p=a_ (.dK k_)/\k=!k_.isEmpty:=e
   rcases e' with⟨xs,hx,e'⟩|⟨xs,hx,e'⟩|⟨k_,hx,e'⟩
   ·subst e';obtain⟨its,r,pl,hz⟩:=I.list hx;have hlen:=r.length;exact wpAny_truthy_list pl.isList (by simp only[aJ];omega) ⟨H,I.tok _,by rw[vh r];exact q⟩
   ·subst e';obtain⟨its,r,pl,hz⟩:=I.tuple hx;have hlen:=r.length;exact truthy_tuple pl (by simp only[aJ];omega) ⟨H,I.tok _,by rw[vh r];exact q⟩
   ·subst e';obtain⟨hz,hS,vs,r,m⟩:k_.length<=aD/\(p == sysModules)=d_/\∃vs,KV k_ vs/\s.heap.DictOf (bT X.prog X.w) p vs:=I.hok p _ hx;have hlen:k_.length=vs.length:=pG r;exact wpAny_truthy_dict hS m (by omega) ⟨H,I.tok _,by rw[Dg r];exact q⟩
 |_=>exact(show False from e).elim
def Jo(ha:PE X a ta)(he:∀whole,isTrue a X.env whole=(do let v <-whole;standAt a.pos;holding [v] (truthy v))) :
  PT X a (λσ H Q=>ta σ H λx H'=>∃k,U8 X.K x H' k/\Q k H'):=by
 intro h_ s σ H Q I h;exact isTrue_plain (hZ (ha h_ s σ H _ I h) λv s1 ⟨x,H1,I1,r1,q1⟩=>Ii h_ s1 σ H1 x v Q I1 r1 q1) (he _)
def CT:iO X (binaryOp .Add) (λx y H Q=>∃i j,x=.str i/\y=.str j/\i.length+j.length<=aD/\Q (.str (i++j)) H):=by
 intro h_ s σ H x y v u Q I rx ry h;obtain⟨i,j,rfl,rfl,hz,q⟩:=h;obtain⟨t,rfl⟩:=rx;obtain⟨t',rfl⟩:=ry;exact add_str (λt' tk=>⟨.str (i++j),H,I.tok _,⟨_,rfl⟩,q⟩) hz
def vals1(r:bW [x] us):∃u,us=[u]/\RelV x u:=by
 cases r with
 |cons r1 r2=>cases r2;exact⟨_,rfl,r1⟩
def vals2(r:bW [x,y] us):∃u w',us=[u,w']/\RelV x u/\RelV y w':=by
 cases r with
 |cons r1 r2=>
   cases r2 with
   |cons r3 r4=>cases r4;exact⟨_,_,rfl,r1,r3⟩
def Ha:ju X (.type "int") (λxs H Q=>(∃i,xs=[.int i]/\Q (.int i) H)\/∃k,xs=[.bl k]/\Q (.int (if k then 1 else 0)) H):=by
 intro h_ s σ H xs us Q I r h
 rcases h with⟨i,rfl,q⟩|⟨k,rfl,q⟩
 ·obtain⟨u,rfl,t,rfl⟩:=vals1 r;exact call_int_int ⟨.int i,H,I,⟨_,rfl⟩,q⟩
 ·obtain⟨u,rfl,r1⟩:=vals1 r;cases r1;exact call_int_bool ⟨.int (if k then 1 else 0),H,I.tok _,⟨_,rfl⟩,q⟩
def zi:ju X (.type "str") (λxs H Q=>∃i,xs=[.int i]/\i.natAbs.log2<1920/\Q (.str (toString i)) H):=by
 intro h_ s σ H xs us Q I r h;obtain⟨i,rfl,hz,q⟩:=h;obtain⟨u,rfl,t,rfl⟩:=vals1 r;exact PySem.P.str_of_int hz ⟨.str _,H,I.tok _,⟨_,rfl⟩,q⟩
end
section
variable{K:aA}
end
noncomputable def rR(f:a8)(v:V):List (a8×V)->List (a8×V)
 |[]=>[(f,v)]
 |(g,x)::r=>if g=f then(g,v)::r else(g,x)::rR f v r
def vF.some_of(r:vF (a_ v) o):∃u,o=a_ u/\RelV v u:=by
 cases o with
 |none=>exact(show False from r).elim
 |some u=>exact⟨u,rfl,r⟩
section
end
section
def PF(hb:attributeBase e f env (eval e env)=eval e env)
  (h:ax (aB prog w) A (eval e env) (λo s₁=>ax (aB prog w) A (getAttr o f c_) Q E s₁) E s):ax (aB prog w) A (eval (.Attribute e f pos) env) Q E s:=
 Attribute_any_ h (by rw[arm_eval_Attribute,hb])
end
section
variable{tv:TE}
end
section
end
structure je(k:Nat)(A:cm):Prop where
 hd:A.handled=b_
 dp:A.depth+3 * k+5<recursionLimit
 un:A.units+16 * k+200<cP
def je.mono(r:je k A)(h:j<=k):je j A:=⟨r.hd,by have:=r.dp;omega,by have:=r.un;omega⟩
def je.deeper(r:je (k+1) A)(env:HI):je k (A.deeper env):=
 ⟨r.hd,by have:=r.dp;show A.depth+1+3 * k+5<_;omega,by have:=r.un;show A.units+3+16 * k+200<_;omega⟩
def C3{A:cm}:(A.under (.builtin "type.__call__" ⟨.ref C::us,kw⟩)).depth=A.depth+1:=by
 first|rfl|simp[zy,Code.weight,Code.isCreation,Code.isGuard,Code.isCaller,Code.frames,BF,guardIds]
def C2{A:cm}:(A.under (.builtin "type.__call__" ⟨.ref C::us,kw⟩)).units=A.units+1:=by
 first|rfl|simp[zy,Code.cUnits,Code.frames,BF]
def je.make(r:je (k+1) A)(C:aE)(us:List ak)(kw:List (a8×ak)):je k (A.under (.builtin "type.__call__" ⟨.ref C::us,kw⟩)):=
 ⟨r.hd,by have:=r.dp;rw[C3];omega,by have:=r.un;rw[C2];omega⟩
def je.depth(r:je k A):A.depth<recursionLimit:=by have:=r.dp;omega
def je.units(r:je k A):A.units+64<cP:=by have:=r.un;omega
def VP:TA:=λ_ H Q=>Q [] H
def VR(ta:TE)(tr:TA):TA:=λσ H Q=>ta σ H λx H1=>tr σ H1 λxs H2=>Q (x::xs) H2
section
variable{t:TA}
def rV:PA X [] VP:=λ_ _ _ _ H Q I h=>l9 ⟨[],H,I,.nil,h⟩
def kT(ha:PE X e te)(hr:PA X es t)(hs:aG (e::es) X.env=(d_,eval e X.env)::aG es X.env:=by rfl):PA X (e::es) (VR te t):=by
 intro pos h_ s σ H Q I h;rw[hs];show ax _ _ (spliced ((d_,eval e X.env)::backTo pos (aG es X.env))) _ _ s;refine FK (hZ (ha h_ s σ H _ I h) λu s1 ⟨x,H1,I1,r1,q1⟩=>?_);exact hZ (hr pos h_ s1 σ H1 _ I1 q1) λus s2 ⟨xs,H2,I2,r2,q2⟩=>⟨x::xs,H2,I2,.cons r1 r2,q2⟩
def Ym(t:TA):TE:=λσ H Q=>t σ H λxs H1=>xs.length<=aD/\∀p,H1 p=b_->Q (.ref p) (upd H1 p (.tup xs))
def Yr(t:TA):TE:=λσ H Q=>t σ H λxs H1=>xs.length<=aD/\∀p,H1 p=b_->Q (.ref p) (upd H1 p (.lst xs))
def JB{x1}(h:PA X es t):PE X (.Tuple es x1 pos) (Ym t):=by
 intro h_ s σ H Q I hq;refine wpAny_Tuple_spliced (hZ (h pos h_ s σ H _ I hq) λus s1 ⟨xs,H1,I1,r,z,q⟩=>⟨by rw[<-r.length];exact z,?_⟩);have hf:H1 s1.heap.objs.size=b_:=I1.hok.fresh (aI _);refine⟨.ref s1.heap.objs.size,upd H1 s1.heap.objs.size (.tup xs),I1.laid (t':=s1.toks) (λb u e=>hp9 _ e) (aI _) ?_,rfl,q _ hf⟩;exact⟨z,us,r,⟨_,aK _ rfl,rfl,_,rfl⟩⟩
def Si(h:PA X es t):PE X (.List es pos) (Yr t):=by
 intro h_ s σ H Q I hq;refine wpAny_List_spliced (hZ (h pos h_ s σ H _ I hq) λus s1 ⟨xs,H1,I1,r,z,q⟩=>⟨by rw[<-r.length];exact z,?_⟩);have hf:H1 s1.heap.objs.size=b_:=I1.hok.fresh (aI _);refine⟨.ref s1.heap.objs.size,upd H1 s1.heap.objs.size (.lst xs),I1.laid (t':=s1.toks) (λb u e=>hp9 _ e) (aI _) ?_,rfl,q _ hf⟩;exact⟨z,us,0,r,aK _ rfl⟩
end
abbrev Sp:=List V->Hp->VK->XK->Prop
abbrev Vh:=List HI->Hp->aw->XK->ak->aw->Prop
structure fP(P:cY)(w:dH)(K:aA)(mg:a8->Option ak)(base:bM)(A:cm)(outer:List HI)(s:aw)(H:Hp):Prop where
 frames:A.frames=a_ outer
 mod:Mod K mg base
 bs:∀b o,base.get? b=a_ o->s.heap.get? b=a_ o/\H b=b_
 bsz:base.objs.size<=s.heap.objs.size
 pS:s.heap.FunFrames base outer
 frf:∀b∈nF outer,H b=b_
 hok:pe P w H s.heap
 bare:kE s.gens
def CE(outer:List HI)(P:cY)(w:dH)(H:Hp)(s:aw)(Q:VK)(u:ak)(s':aw):Prop:=
 ∃v H',s'.os=s.os/\kE s'.gens/\Un (nF outer) [] H H' s.heap s'.heap/\pe P w H' s'.heap/\RelV v u/\Q v H'
def CR(CX:Vh)(outer:List HI)(P:cY)(w:dH)(H:Hp)(s:aw)(Q:VK)(E:XK)(r:Result)(s':aw):Prop:=
 match r with
 |.ok (.ret u)=>CE outer P w H s Q u s'
 |.ok _=>False
 |.error e=>CX outer H s E e s'
structure jx(P:cY)(w:dH)(K:aA)(mg:a8->Option ak)(base:bM)(CX:Vh)(k:Nat)(f:aE)(fd:gV)(ps:List a8)(sp:Sp):Prop where
 len:∀vs H Q E,sp vs H Q E->vs.length=ps.length
 run:∀(A:cm)(outer:List HI)(s:aw)(H:Hp)(args:Args)(us:List ak)(vs:List V)(Q:VK)(E:XK),je k A->fP P w K mg base A outer s H->BG s fd args (ps.zip us)->bW vs us->sp vs H Q E->
  codeAny (aB P w) A (.call (.ref f) args) (CR CX outer P w H s Q E) s
def jx.imp{K:aA}{base:bM}(F:jx P w K mg base CX k f fd ps sp)
  (h:∀vs H Q E,sp' vs H Q E->sp vs H Q E):jx P w K mg base CX k f fd ps sp':=
 ⟨λvs H Q E q=>F.len vs H Q E (h _ _ _ _ q),λA outer s H args us vs Q E hr he hb hv hs=>F.run A outer s H args us vs Q E hr he hb hv (h _ _ _ _ hs)⟩
def fP.make{K:aA}{base:bM}(e:fP P w K mg base A outer s H)(C:aE)(us:List ak)(kw:List (a8×ak)) :
  fP P w K mg base (A.under (.builtin "type.__call__" ⟨.ref C::us,kw⟩)) outer s H:=⟨by first|exact e.frames|(simpa [zy,Code.envs,BF,pushEnvs]using e.frames),e.mod,e.bs,e.bsz,e.pS,e.frf,e.hok,e.bare⟩
section
def Inv.Uy(I:Inv X h_ σ H s):fP X.prog X.w X.K X.mg X.base X.A X.stack s H:=
 ⟨I.ok.frames,I.ok.mod,I.bs,ae I.ok.bsz I.sz,I.stack,I.yh,I.hok,I.bare⟩
def Inv.after(I:Inv X h_ σ H s)(h:CE X.stack X.prog X.w H s Q u s'):EP X h_ σ Q u s':=by
 obtain⟨v,H',os,bare,un,hok,r,q⟩:=h;obtain⟨hh,g,d,t,os'⟩:=s';obtain rfl:os'=s.os:=os;exact⟨v,H',I.call (h':=hh) (g':=g) (d':=d) (t':=t) (ch:=[]) un hok bare (λb z=>absurd z (by simp)),r,q⟩
end
def Iz(sp:Sp)(dvs:List V)(E:XK)(t:TA):TE:=λσ H Q=>t σ H λvs H1=>sp (vs++dvs) H1 Q E
def Binds(K:aA)(fd:gV)(ps:List a8)(ds:List ak):Prop:=
 ∀(s:aw)(us:List ak),K.In s.heap->(us++ds).length=ps.length->BG s fd ⟨us,[]⟩ (ps.zip (us++ds))
def Binds.all{K:aA}{ps:List a8}(h:∀us:List ak,us.length=ps.length->bindArgs fd ⟨us,[]⟩=pure (ps.zip us)):Binds K fd ps []:=λs us _ hl=>by
 rw[bJ]at hl ⊢;exact .of_eq (h us hl)
def oE(CX:Vh)(X:Cx)(E:XK):Prop:=∀(h_:List (aE×kX))(σ:St)(H:Hp)(s:aw)(e:ak)(s':aw),Inv X h_ σ H s->CX X.stack H s E e s'->X.xe e s'
section
variable{X:Cx}{f C:aE}
def Jb(F:jx X.prog X.w X.K X.mg X.base CX k f fd ps sp)(hr:je k X.A)(hb:Binds X.K fd ps ds)(hd:bW dvs ds)(hx:oE CX X E)
  (I:Inv X h_ σ H s)(r:bW vs us)(h:sp (vs++dvs) H Q E):ax (aB X.prog X.w) X.A (call (.ref f) us) (EP X h_ σ Q) X.xe s:=by
 have r2:bW (vs++dvs) (us++ds):=r.append hd;have hl:(us++ds).length=ps.length:=by rw[<-r2.length];exact F.len _ _ _ _ h
 refine uo (gQ (F.run X.A X.stack s H ⟨us,[]⟩ (us++ds) (vs++dvs) Q E hr I.Uy (hb s us I.tJ hl) r2 h) λr s' hq=>?_)
 cases r with
 |error e=>exact hx h_ σ H s e s' I hq
 |ok fl=>
   cases fl with
   |ret u=>exact I.after hq
   |next=>exact bB hq
   |brk=>exact bB hq
   |cont=>exact bB hq
def yw(F:jx X.prog X.w X.K X.mg X.base CX k f fd ps sp)(hr:je k X.A)(hg:Gl X x)(hm:X.mg x=a_ (.ref f))(hk:de X.K (.ref f)=c_)(hb:Binds X.K fd ps ds)(hd:bW dvs ds)(hx:oE CX X E)
  (ha:PA X (e::es) t)(hdb:(x == ("__debug__":a8))=d_)(he:aG (e::es) X.env=(d_,eval e X.env)::aG es X.env)(hpl:(backTo pos (aG es X.env)).any (·.1)=d_) :
  PE X (.Call (.Name x p) (e::es) [] pos) (Iz sp dvs E t):=by
 intro h_ s σ H Q I h;refine fU (oU I hg hm ?_ hdb);refine BR (h₀:=X.base) I.ok.mod.kin hk (hZ (ha pos h_ s σ H _ I h) λus s1 ⟨vs,H1,I1,r,q⟩=>⟨I1.tJ,?_⟩) he hpl;exact Jb F hr hb hd hx I1 r q
def JG(F:jx X.prog X.w X.K X.mg X.base CX k f fd ps sp)(hr:je k X.A)(hg:Gl X x)(hm:X.mg x=a_ (.ref f))(hk:de X.K (.ref f)=c_)(hb:Binds X.K fd ps ds)(hd:bW dvs ds)(hx:oE CX X E)
  (hdb:(x == ("__debug__":a8))=d_):PE X (.Call (.Name x p) [] [] pos) (Iz sp dvs E VP):=by
 intro h_ s σ H Q I h;refine fU (oU I hg hm ?_ hdb);exact PySem.W.callWith_K0 I.tJ hk (Jb (us:=[]) F hr hb hd hx I .nil h)
structure Mk(K:aA)(C f:aE):Prop where
 makes:PySem.W.makesIn K C=c_
 init:lq K (.ref C) "__init__"=a_ (a_ (.ref f))
 fn:ql K (.ref f)=c_
 kp:de K (.ref C)=c_
end
section
end
structure o4(N P:List a8)(sc:l8):Prop where
 kind:sc.kind=.function
 co:sc.isCoroutine=d_
 gen:sc.isGenerator=d_
 nd:N.Nodup
 pre:N.take P.length=P
 par:∀x∈P,sc.names.lookup x=a_ .local\/sc.names.lookup x=a_ .cell
 nofree:∀y∈sc.names,y.2≠.free
theorem xI{kindOf:a8->Option kB}:∀{binds:List (a8×ak)}{m:a8->Option ak},(∀v,(x,v)∉binds)->bindL kindOf binds m x=m x
 |[],_,_=>rfl
 |(n,v)::r,m,h=>by
   unfold bindL;rw[xI λw hw=>h w (jd _ hw)];split
   ·have:x≠n:=by rintro rfl;exact h v iw
    simp[this]
   ·rfl
theorem xK{kindOf:a8->Option kB}:∀{binds:List (a8×ak)}{m:a8->Option ak},(∀v,(x,v)∉binds)->bindC kindOf binds m x=m x
 |[],_,_=>rfl
 |(n,v)::r,m,h=>by
   unfold bindC;rw[xK λw hw=>h w (jd _ hw)];split
   ·rfl
   ·have:x≠n:=by rintro rfl;exact h v iw
    simp[this]
theorem xJ{kindOf:a8->Option kB}:∀{P:List a8} {vs:List ak} {i:Nat} {m:a8->Option ak},P.Nodup->P[i]?=a_ x->vs[i]?=a_ v->kindOf x=a_ .local->
  bindL kindOf (P.zip vs) m x=a_ v
 |[],_,_,_,_,h,_,_=>by simp at h
 |_::_,[],_,_,_,_,h,_=>by simp at h
 |p::P,w::vs,0,m,nd,h1,h2,hk=>by
   simp at h1 h2;subst h1;subst h2;show bindL kindOf ((p,w)::P.zip vs) m p=_;unfold bindL;rw[xI λv hv=>(cv.mp nd).1 (vG hv).1,if_pos hk];simp
 |p::P,w::vs,i+1,m,nd,h1,h2,hk=>by
   show bindL kindOf ((p,w)::P.zip vs) m x=_;unfold bindL;exact xJ (i:=i) (cv.mp nd).2 (by simpa using h1) (by simpa using h2) hk
theorem xM{kindOf:a8->Option kB}:∀{P:List a8} {vs:List ak} {i:Nat} {m:a8->Option ak},P.Nodup->P[i]?=a_ x->vs[i]?=a_ v->kindOf x≠a_ .local->
  bindC kindOf (P.zip vs) m x=a_ v
 |[],_,_,_,_,h,_,_=>by simp at h
 |_::_,[],_,_,_,_,h,_=>by simp at h
 |p::P,w::vs,0,m,nd,h1,h2,hk=>by
   simp at h1 h2;subst h1;subst h2;show bindC kindOf ((p,w)::P.zip vs) m p=_;unfold bindC;rw[xK λv hv=>(cv.mp nd).1 (vG hv).1,if_neg hk];simp
 |p::P,w::vs,i+1,m,nd,h1,h2,hk=>by
   show bindC kindOf ((p,w)::P.zip vs) m x=_;unfold bindC;exact xM (i:=i) (cv.mp nd).2 (by simpa using h1) (by simpa using h2) hk
noncomputable def start(N:List a8)(vs:List V):St:=vs.map a_++be (N.length - vs.length) b_
noncomputable def mJ(CX:Vh)(P:cY)(w:dH)(K:aA)(mg:a8->Option ak)(base:bM)(N:List a8)(qual:a8)(scope:l8)(f:aE)(cd:ak)(A:cm)(outer:List HI)(s:aw)(H:Hp)(E:XK):Cx where
 prog:=P
 w:=w
 K:=K
 mg:=mg
 base:=base
 A:=A.deeper (envOfC qual scope s.heap.objs.size f cd)
 N:=N
 s₀:=s
 H₀:=H
 env:=envOfC qual scope s.heap.objs.size f cd
 outer:=outer
 stack:=envOfC qual scope s.heap.objs.size f cd::outer
 ex:=[]
 calm:=c_
 fn:=λ_=>c_
 pn:=[]
 xe:=λe s'=>ax (aB P w) (A.deeper (envOfC qual scope s.heap.objs.size f cd)) (leaving (envOfC qual scope s.heap.objs.size f cd) e) (λ_ s''=>CX outer H s E e s'') (λe' s''=>CX outer H s E e' s'') s'
def Bm{sc:l8}(h:sc.names.lookup x=a_ .cell):∃c,(cellsFrom n sc.names []).lookup x=a_ c:=by
 have q:=xS sc.names n [] (.inl h);exact Option.isSome_iff_exists.mp q
def GN{K:aA}{base:bM}{A:cm}{vs:List V}
  (S:o4 N ps scope)(hd:A.handled=b_)(e0:fP P w K mg base A outer s H)(hl:vs.length=ps.length)(r:bW vs us)
  (x:InCallC s s.heap.objs.size (bindL (envOfC qual scope s.heap.objs.size f cd).kindOf (ps.zip us) λ_=>b_) (cellsFrom (s.heap.objs.size+1) scope.names []) (bindC (envOfC qual scope s.heap.objs.size f cd).kindOf (ps.zip us) λ_=>b_) s1) :
  Inv (mJ CX P w K mg base N qual scope f cd A outer s H E) [] (start N vs) H s1:=by
 have hpl:ps.length<=N.length:=by have:=congrArg ux S.pre;rw[iZ]at this;exact ae (aM this.symm) (i9 _ _)
 obtain⟨h1,tk,rfl,hk⟩:=x.done;have noA:∀b:aE,b∉(mJ CX P w K mg base N qual scope f cd A outer s H E).ex:=λb z=>absurd (show b∈([]:List aE)from z) (by simp)
 refine⟨⟨e0.mod,S.kind,rfl,rfl,aI _,λy z c h1 h2=>?_,λy hy=>?_,λy c _ h=>?_,λ_=>hd,Around.frames_deeper e0.frames,.inr ⟨rfl,rfl⟩,λb z=>absurd z (noA b),e0.bs,e0.bsz,λb _ _=>noA b,λb z=>absurd z (noA b),e0.pS,e0.frf⟩,
  rfl,e0.bare,Un.kept hk,⟨_,x.toInCall.ns,λi y v h1 h2 h3=>?_⟩,λy c h=>⟨_,x.cell y c h⟩,e0.hok.fresh (aI _),λy c h=>?_,λp hp=>absurd (show p∈([]:List (aE×kX))from hp) (by simp),e0.hok.kept hk,?_⟩
 ·exact name_of_addr x.apart (gP h1) (gP h2)
 ·have hy:scope.names.lookup y=a_ .cell\/scope.names.lookup y=a_ .free:=hy
  rcases hy with hy|hy
  ·exact Bm hy
  ·exact absurd rfl (S.nofree _ (gP hy))
 ·exact bo (x.above y c (gP h))
 ·have hi:i<vs.length:=by
   unfold start at h2;by_cases hi:i<vs.length
   ·exact hi
   ·rw[dn (by simpa using hi)]at h2;rw[fi]at h2;split at h2<;>cases h2
  have ha:vs[i]?=a_ v:=by
   unfold start at h2;rw[cG (by simpa using hi),aY]at h2
   cases e:vs[i]? with
   |none=>rw[e]at h2;cases h2
   |some a=>rw[e]at h2;cases h2;rfl
  obtain⟨u,hu,rv⟩:=r.get ha
  have hp:ps[i]?=a_ y:=by
   rw[<-S.pre,List.getElem?_take_of_lt (ae hi (aM hl))];exact h1
  have ndP:ps.Nodup:=by rw[<-S.pre];exact S.nd.sublist (HP _ _)
  refine⟨u,rv,?_⟩
  rcases S.par y (e8 hp)with k|k
  ·exact .inl ⟨k,xJ ndP hp hu k⟩
  ·obtain⟨c,e⟩:=Bm (n:=s.heap.objs.size+1) k;refine .inr ⟨.inl k,c,e,?_⟩;have q:=x.cell y c e;rw[xM ndP hp hu (by show scope.names.lookup y≠_;rw[k];decide)]at q;exact q
 ·exact e0.hok.fresh (bo (x.above y c (gP h)))
 ·unfold start;show _=N.length;rw[cg,ag,kb];exact Nat.add_sub_of_le (ae (aM hl) hpl)
def Qy{K:aA}{base:bM}{kV ct:ak}
  (lk:K.lookup f=a_ ⟨oc,od,.func (mV name qual params body scope dV kV doc pm an cdv ct),osl⟩)(hcd:nW K cdv qual=c_)(S:o4 N ps scope)
  (len:∀vs H Q E,sp vs H Q E->vs.length=ps.length)
  (hbody:∀(A:cm)(outer:List HI)(s:aw)(H:Hp)(vs:List V)(Q:VK)(E:XK),je k (A.deeper (envOfC qual scope s.heap.objs.size f cdv))->sp vs H Q E->
   ∃t,DL (mJ CX P w K mg base N qual scope f cdv A outer s H E) body t/\t { nx:=λ_ H'=>Q .non H',rt:=Q } (start N vs) H) :
  jx P w K mg base CX (k+1) f (mV name qual params body scope dV kV doc pm an cdv ct) ps sp:=by
 refine⟨len,λA outer s H args us vs Q E hr e0 hb r hsp=>?_⟩;have hl:=len _ _ _ _ hsp;have KX:K.In s.heap:=e0.mod.kin.keeps λb o e=>(e0.bs b o e).1;have lim:s.heap.NoLimit:=e0.mod.nolimit.keeps λb o e=>(e0.bs b o e).1
 have hkind:∀y∈ps.zip us,scope.names.lookup y.1=a_ .local\/(scope.names.lookup y.1=a_ .cell/\((cellsFrom (s.heap.objs.size+1) scope.names []).lookup y.1).isSome=c_):=λz0 hy=>by
  obtain⟨n,v⟩:=z0
  rcases S.par n (vG hy).1 with q|q
  ·exact .inl q
  ·exact .inr ⟨q,xS _ _ _ (.inl q)⟩
 refine codeAny_call_function hr.depth (KX _ _ lk) rfl S.co S.gen rfl (PySem.W.codeRec_of KX hcd) (hb _ _ _ _ ?_);refine wpAny_newFunctionEnv_cells S.kind hkind λenv he s1 x=>?_;subst he;refine⟨lim.keeps x.toInCall.keep,codeAny_func ?_⟩;obtain⟨t,ht,hq⟩:=hbody A outer s H vs Q E (hr.deeper _) hsp;have I:Inv (mJ CX P w K mg base N qual scope f cdv A outer s H E) [] (start N vs) H s1:=GN S hr.hd e0 hl r x;refine bE (ht [] s1 (start N vs) H _ I hq) (λfl s' hs=>?_) λe s' hs=>hs
 have fin:∀{σ':St}{H':Hp}{v:V}{u:ak},Inv (mJ CX P w K mg base N qual scope f cdv A outer s H E) [] σ' H' s'->RelV v u->Q v H'->CE outer P w H s Q u s':=
  λ{σ' H' v u}J rv q=>⟨v,H',J.os,J.bare,J.base,J.hok,rv,q⟩
 cases fl with
 |ret u=>
   obtain⟨v,σ',H',J,rv,q⟩:=hs;exact fin J rv q
 |next=>
   obtain⟨σ',H',J,q⟩:=hs;exact fin (v:=V.non) (u:=di) J rfl q
 |brk=>
   obtain⟨_,_,_,q⟩:=hs;exact bB q
 |cont=>
   obtain⟨_,_,_,q⟩:=hs;exact bB q
section
variable{t:TA}{id T:String}{r:List V->Hp->VK->Prop}
def Yu(r:List V->Hp->VK->Prop)(t:TA):TE:=λσ H Q=>t σ H λvs H1=>r vs H1 Q
def qH(hc:ju X (.builtin id) r)(hg:Gl X x)(hm:X.mg x=b_)(hv:bootBuiltins x=a_ (.builtin id))(ha:PA X (e::es) t)(hn:x≠"__name__")(hdb:(x == ("__debug__":a8))=d_)
  (he:aG (e::es) X.env=(d_,eval e X.env)::aG es X.env)(hpl:(backTo pos (aG es X.env)).any (·.1)=d_):PE X (.Call (.Name x p) (e::es) [] pos) (Yu r t):=by
 intro h_ s σ H Q I h;refine fU (m8 I hg hm hv ?_ hn hdb);exact ph (hZ (ha pos h_ s σ H _ I h) λus s1 ⟨vs,H1,I1,r1,q1⟩=>hc h_ s1 σ H1 vs us Q I1 r1 q1) he hpl
def Gr(hc:ju X (.type T) r)(hg:Gl X x)(hm:X.mg x=b_)(hv:bootBuiltins x=a_ (.type T))(ha:PA X (e::es) t)(hn:x≠"__name__")(hdb:(x == ("__debug__":a8))=d_)
  (he:aG (e::es) X.env=(d_,eval e X.env)::aG es X.env)(hpl:(backTo pos (aG es X.env)).any (·.1)=d_):PE X (.Call (.Name x p) (e::es) [] pos) (Yu r t):=by
 intro h_ s σ H Q I h;refine fU (m8 I hg hm hv ?_ hn hdb);exact dM (hZ (ha pos h_ s σ H _ I h) λus s1 ⟨vs,H1,I1,r1,q1⟩=>hc h_ s1 σ H1 vs us Q I1 r1 q1) he hpl
end
end L2
namespace HT
open PySem PyProof.Rows
section
open PySem.SeqAt
open PySem.AutoSeq1 (wpAny_loadPart')
open PySem.MeetsSeq PySem.MeetsSeq2 PySem.MeetsSeq3
end
section
variable{s:aw}
def Pe{vs ws:List ak}(ht:Hn s.heap t vs.toArray)(hb:Hn s.heap b ws.toArray)(hv:vs≠[])
  (h1:ws=[]->Q (.ref t) s)(h2:ws≠[]->Q (.ref s.heap.objs.size) { s with heap:=s.heap.push { cls:=.type "tuple",data:=.seq (vs++ws).toArray } })
  (hsz:vs.length+ws.length<=aD):ax (aB prog w) A (binaryOp .Add (.ref t) (.ref b)) Q E s:=by
 obtain⟨⟨cls,dd,data,sl⟩,ho,hc,n,hd⟩:=id ht;obtain⟨⟨cls2,dd2,data2,Qj⟩,ho2,hc2,n2,hd2⟩:=id hb;simp only at hc hd hc2 hd2;subst hc hd hc2 hd2;have e:vs.toArray++ws.toArray=(vs++ws).toArray:=by simp
 by_cases hw:ws=[]
 ·exact vJ ⟨_,ho,rfl⟩ ⟨_,ho2,rfl⟩ xR FD mW mf (lU _ _)
   (tuple_addW1 t b vs.toArray ws.toArray n n2 dd dd2 sl Qj (by simpa using hv) (by simp[hw])) ⟨ho,ho2,h1 hw⟩
 ·refine vJ ⟨_,ho,rfl⟩ ⟨_,ho2,rfl⟩ xR FD mW mf (lU _ _)
   (tuple_addW2 t b vs.toArray ws.toArray n n2 dd dd2 sl Qj (by simpa using hv) (by simpa using hw) (by rw[aJ,aJ];exact hsz)) ⟨ho,ho2,?_⟩
  rw[e];exact h2 hw
noncomputable def ic(n d:Nat):Option Int->Nat
 |none=>d
 |some v=>if v<0 then(v+(n:Int)).toNat else min v.toNat n
def zX(n d:Nat):ic n d b_=d:=rfl
def Nc(n d k:Nat):ic n d (a_ (k:Int))=min k n:=by
 show(if(k:Int)<0 then((k:Int)+(n:Int)).toNat else min (k:Int).toNat n)=min k n;rw[if_neg (by simp),cZ]
def IX(n d:Nat)(hd:d<=n)(o:Option Int):ic n d o<=n:=by
 cases o with
 |none=>exact hd
 |some v=>
   show(if v<0 then(v+(n:Int)).toNat else min v.toNat n)<=n;by_cases hv:v<0
   ·rw[if_pos hv];omega
   ·rw[if_neg hv];exact i9 _ _
def Ff(v:Int)(n d:Nat):(if v<0 then max (v+(n:Int)) 0 else min v (n:Int))=((ic n d (a_ v):Nat):Int):=by
 show(if v<0 then max (v+(n:Int)) 0 else min v (n:Int))=(((if v<0 then(v+(n:Int)).toNat else min v.toNat n):Nat):Int)
 by_cases hv:v<0
 ·simp only[if_pos hv];simp
 ·simp only[if_neg hv];omega
def DK(lo hi:Option Int)(n:Nat):kC lo hi 1 (n:Int)=(((ic n 0 lo:Nat):Int),((ic n n hi:Nat):Int)):=by
 have h1:¬((1:Int)<0):=bG;unfold kC;simp only[h1,if_false];refine P6 ?_ ?_
 ·cases lo with
  |none=>rfl
  |some v=>exact Ff v n 0
 ·cases hi with
  |none=>rfl
  |some v=>exact Ff v n n
def CS(i j:Nat):iD (i:Int) (j:Int) 1=j - i:=by
 unfold iD;have h1:(1:Int) > 0:=bG;simp only[h1,if_true,Int.ediv_one];split<;>omega
def uK(p:rF v o)(h:Q o s):ax (aB prog w) A (Builtin.Slice.slicePartIndex v) Q E s:=by
 cases p with
 |none=>exact slicePart_none h
 |int i t=>exact slicePart_int h
def mw{sl:aE}{vl vu:ak}{lo hi:Option Int}{n:Nat}{Q:Int×Int×Nat->aw->Prop}(hs:s.heap.IsSliceOf sl vl vu .none)(pl:rF vl lo)(pu:rF vu hi)
  (h:Q (((ic n 0 lo:Nat):Int),1,ic n n hi - ic n 0 lo) s):ax (aB prog w) A (qp (.ref sl) (pure (n:Int))) Q E s:=by
 obtain⟨os,hos,hcs,hds⟩:=id hs;unfold qp Builtin.Slice.sliceFields;refine wb9 (wb9 (cO hos hds (x:=vl) rfl (wb9 (cO hos hds (x:=vu) rfl (wb9 (cO hos hds (x:=.none) rfl (wu9 ?_)))))));refine wb9 (slicePart_none ?_);show ax _ _ (if((1:Int) == 0)=c_ then _ else _) _ _ s;rw[if_neg bG];refine wb9 (uK pl (wb9 (uK pu (wb9 (wu9 ?_)))));show ax _ _ (match kC lo hi 1 (n:Int)with|(lo,hi)=>pure (lo,(1:Int),iD lo hi 1)) _ _ s;rw[DK lo hi n];show ax _ _ (pure (((ic n 0 lo:Nat):Int),(1:Int),iD ((ic n 0 lo:Nat):Int) ((ic n n hi:Nat):Int) 1)) _ _ s;rw[CS];exact wu9 h
def Ju(xs:Array ak)(i k:Nat):((aP k).filterMap λ(m:Nat)=>xs[((i:Int)+(m:Int) * 1).toNat]?).toArray=((xs.toList.drop i).take k).toArray:=by
 have e:(λ(m:Nat)=>xs[((i:Int)+(m:Int) * 1).toNat]?)=λm=>xs[i+m]? :=by
  funext m;have:((i:Int)+(m:Int) * 1).toNat=i+m:=by omega
  rw[this]
 rw[e];have:=pick_run xs i k;rw[List.filterMap_map]at this;have e2:((λx=>xs[x]?) ∘ λx=>i+x)=λm=>xs[i+m]? :=rfl;rw[e2]at this;rw[this]
def qT{sl:aE}{lo:Option Int}(ht:Hn s.heap t items)(hs:s.heap.IsSliceOf sl vl vu .none)(pl:rF vl lo)(pu:rF vu hi)
  (hw:¬(ic items.size 0 lo=0/\ic items.size items.size hi=items.size))
  (h:Q (.ref s.heap.objs.size) { s with heap:=s.heap.push { cls:=.type "tuple",data:=.seq ((items.toList.drop (ic items.size 0 lo)).take (ic items.size items.size hi - ic items.size 0 lo)).toArray } })
  (hsz:items.size<=aD):ax (aB prog w) A (getItem (.ref t) (.ref sl)) Q E s:=by
 have htake:sizeOk (.seq ((items.toList.drop (ic items.size 0 lo)).take (ic items.size items.size hi - ic items.size 0 lo)).toArray):=by
  show((items.toList.drop (ic items.size 0 lo)).take (ic items.size items.size hi - ic items.size 0 lo)).toArray.size<=aD;rw[aJ,iZ,nD,cu];omega
 have hj:ic items.size items.size hi<=items.size:=IX _ _ (aI _) hi;obtain⟨os,hos,hcs,hds⟩:=id hs;have hTs:s.TypeIs (.ref sl) "slice":=⟨os,hos,hcs⟩
 unfold getItem
 try with_reducible refine ck ?_
 first|refine wb9 (wu9 ?_)|skip
 refine wb9 (wpAny_sequenceKey ht.typeIs bG ?_)
 refine wb9 (dB (name:=aa "__getitem__") ht.typeIs cR
  (bP cR ht.typeIs entry_tuple_getitem ?_ (args_tuple_getitem _ _)))
 show ax _ _ (j9 (.ref t) >>= _) _ _ s;refine wb9 (FL ht ?_);refine wb9 (ko hTs ?_);rw[if_pos bG];refine wb9 (mw hs pl pu ?_)
 have hno:¬((((ic items.size 0 lo:Nat):Int) == 0 && (1:Int) == 1 && (ic items.size items.size hi - ic items.size 0 lo) == items.size)=c_):=by
  intro q;rw[af,af]at q;have q1:((ic items.size 0 lo:Nat):Int)=0:=eq_of_beq q.1.1;have q2:ic items.size items.size hi - ic items.size 0 lo=items.size:=eq_of_beq q.2;exact hw ⟨by omega,fV hj (ae (aM q2.symm) (Nat.sub_le _ _))⟩
 show ax _ _ (if(((ic items.size 0 lo:Nat):Int) == 0 && (1:Int) == 1 && (ic items.size items.size hi - ic items.size 0 lo) == items.size)=c_ then _ else _) _ _ s;rw[if_neg hno,Ju]
 first
  |exact wb9 (m:=iJ _) (cH (wu9 ⟨_,rfl,wu9 h⟩) htake)
  |exact wb9 (m:=iJ _) (cH (wb9 (wu9 (wu9 ⟨_,rfl,wu9 h⟩))) htake)
  |exact wb9 (wb9 (m:=iJ _) (cH (wu9 (wu9 ⟨_,rfl,wu9 h⟩)) htake))
  |exact wb9 (wb9 (m:=iJ _) (cH (wu9 ⟨_,rfl,wu9 h⟩) htake))
end
end HT
namespace L2
open PySem PySem.Spec PyProof.Rows
abbrev TO:=St->Hp->(Option Int->Hp->Prop)->Prop
def PO(X:Cx)(e:Option aV)(t:TO):Prop:=
 ∀(h_:List (aE×kX))(s:aw)(σ:St)(H:Hp)(Q:Option Int->Hp->Prop),Inv X h_ σ H s->t σ H Q->
  ax (aB X.prog X.w) X.A (evalPart e X.env) (λu s'=>∃o H',Inv X h_ σ H' s'/\rF u o/\Q o H') X.xe s
def My:TO:=λ_ H Q=>Q b_ H
def VN(t:TE):TO:=λσ H Q=>t σ H λx H1=>∃i,x=.int i/\Q (a_ i) H1
section
variable{X:Cx}{te:TE}{lo hi:Option aV}{tl th:TO}
def NC:PO X b_ My:=by
 intro h_ s σ H Q I h;rw[evalPart_none];exact wu9 ⟨b_,H,I,.none,h⟩
def NB(h:PE X e te):PO X (a_ e) (VN te):=by
 intro h_ s σ H Q I hw;rw[evalPart_some];refine hZ (h h_ s σ H _ I hw) λu s1 ⟨x,H1,I1,r1,q1⟩=>?_;obtain⟨i,rfl,q⟩:=q1;obtain⟨t,rfl⟩:=r1;exact⟨a_ i,H1,I1,.int i t,q⟩
def Yd(X:Cx)(r:V->Option Int->Option Int->Hp->VK->Prop):Prop:=
 ∀(h_:List (aE×kX))(s:aw)(σ:St)(H:Hp)(x:V)(v vl vu:ak)(lo hi:Option Int)(sl:aE)(Q:VK),Inv X h_ σ H s->RelV x v->s.heap.IsSliceOf sl vl vu .none->rF vl lo->rF vu hi->r x lo hi H Q->
  ∃T id,typeLookup (.type T) "__getitem__"=pure (a_ (.builtin id))/\s.TypeIs v T/\ax (aB X.prog X.w) X.A (getItem v (.ref sl)) (EP X h_ σ Q) X.xe s
def tSl(r:V->Option Int->Option Int->Hp->VK->Prop)(te:TE)(tl th:TO):TE:=λσ H Q=>te σ H λx H1=>tl σ H1 λl H2=>th σ H2 λu H3=>r x l u H3 Q
def JC(hr:Yd X r)(he:PE X e te)(hl:PO X lo tl)(hu:PO X hi th):PE X (.Subscript e (.Slice lo hi b_ p2) pos) (tSl r te tl th):=by
 intro h_ s σ H Q I h;refine Subscript_ (hZ (he h_ s σ H _ I h) λv s1 ⟨x,H1,I1,r1,q1⟩=>?_);refine wpAny_Slice (hZ (hl h_ s1 σ H1 _ I1 q1) λvl s2 ⟨l,H2,I2,pl,q2⟩=>hZ (hu h_ s2 σ H2 _ I2 q2) λvu s3 ⟨u,H3,I3,pu,q3⟩=>?_);rw[evalPart_none];refine wu9 ?_;have I4:Inv X h_ σ H3 { s3 with heap:=s3.heap.push { cls:=.type "slice",data:=.fields #[vl,vu,.none] } }:=I3.kept (t':=s3.toks) λb ob q=>hp9 _ q;obtain⟨T,id,hT,ht,hg⟩:=hr h_ { s3 with heap:=s3.heap.push { cls:=.type "slice",data:=.fields #[vl,vu,.none] } } σ H3 x v vl vu l u s3.heap.objs.size Q I4 r1 (Heap.IsSliceOf.new ..) pl pu q3;show ax (aB X.prog X.w) X.A (subscriptTail e (.Slice lo hi b_ p2) v (.ref s3.heap.objs.size)) (EP X h_ σ Q) X.xe { s3 with heap:=s3.heap.push { cls:=.type "slice",data:=.fields #[vl,vu,.none] } };exact tail_any (ops:=[.ref s3.heap.objs.size,v]) ht hT hg (by with_unfolding_all rfl)
def zf(xs:List V)(lo hi:Option Int):List V:=(xs.drop (HT.ic xs.length 0 lo)).take (HT.ic xs.length xs.length hi - HT.ic xs.length 0 lo)
def sY(xs:List V)(lo hi:Option Int):(zf xs lo hi).length<=xs.length:=by
 unfold zf;rw[iZ,nD];exact ae (i9 _ _) (Nat.sub_le _ _)
def YF(K:aA):V->Option Int->Option Int->Hp->VK->Prop:=λx lo hi H Q=>∃a xs,x=.ref a/\wa K H a xs/\
 ¬(HT.ic xs.length 0 lo=0/\HT.ic xs.length xs.length hi=xs.length)/\∀p,H p=b_->Q (.ref p) (upd H p (.tup (zf xs lo hi)))
def Ro:Yd X (YF X.K):=by
 intro h_ s σ H x v vl vu lo hi sl Q I rx hs pl pu h;obtain⟨a,xs,rfl,hx,hw,q⟩:=h;cases rx;obtain⟨its,r,ht,hz⟩:=I.tuple hx;have hlen:its.toArray.size=xs.length:=by rw[aJ];exact r.length.symm
 refine⟨"tuple",_,cR.lookup,ht.typeIs,?_⟩;refine HT.qT ht hs pl pu (by rw[hlen];exact hw) ?_ (by rw[hlen];exact hz);rw[hlen];refine⟨.ref s.heap.objs.size,_,I.laid (t':=s.toks) (o:=.tup (zf xs lo hi)) (λb ob q=>hp9 _ q) (aI _) ?_,rfl,q _ (I.hok.fresh (aI _))⟩;exact⟨ae (sY xs lo hi) hz,_,(r.drop (HT.ic xs.length 0 lo)).take (HT.ic xs.length xs.length hi - HT.ic xs.length 0 lo),HK _ _⟩
def Wh(K:aA):R2:=λx y H Q=>∃a b xs ys,x=.ref a/\y=.ref b/\wa K H a xs/\wa K H b ys/\xs≠[]/\xs.length+ys.length<=aD/\
 (ys=[]->Q (.ref a) H)/\(ys≠[]->∀p,H p=b_->Q (.ref p) (upd H p (.tup (xs++ys))))
def bW.yI(r:bW xs us):us=[]↔xs=[]:=by
 cases r with
 |nil=>simp
 |cons _ _=>simp
def NU:iO X (binaryOp .Add) (Wh X.K):=by
 intro h_ s σ H x y v u Q I rx ry h;obtain⟨a,b,xs,ys,rfl,rfl,ha,hb,hx,hz,q1,q2⟩:=h;cases rx;cases ry;obtain⟨its,r1,p1,_⟩:=I.tuple ha;obtain⟨j_,r2,p2,_⟩:=I.tuple hb;refine HT.Pe p1 p2 (λz=>hx (r1.yI.mp z)) (λz=>⟨.ref a,H,I,rfl,q1 (r2.yI.mp z)⟩) (λz=>?_) (by rw[<-r1.length,<-r2.length];exact hz);refine⟨.ref s.heap.objs.size,_,I.laid (t':=s.toks) (o:=.tup (xs++ys)) (λb ob q=>hp9 _ q) (aI _) ?_,rfl,q2 (λw=>z (r2.yI.mpr w)) _ (I.hok.fresh (aI _))⟩;exact⟨by rw[cg];exact hz,_,r1.append r2,HK _ _⟩
end
noncomputable def EM(n:Nat)(i:Int):Option Nat:=if 0<=i then(if i<n then a_ i.toNat else b_)else if -(n:Int)<=i then a_ (i+n).toNat else b_
def nJ{α:Type}(xs:List α)(i:Int):Option α:=(EM xs.length i).bind λj=>xs[j]?
def yM(h:EM n i=a_ j):seqIndex? i n=a_ j/\j<n/\-(n:Int)<=i/\i<n:=by
 unfold EM at h;by_cases h0:0<=i
 ·rw[if_pos h0]at h;by_cases h1:i<n
  ·rw[if_pos h1]at h;have e:i.toNat=j:=aO h;exact⟨by rw[L9 h0 h1,e],by omega,by omega,h1⟩
  ·rw[if_neg h1]at h;cases h
 ·rw[if_neg h0]at h;by_cases h1:-(n:Int)<=i
  ·rw[if_pos h1]at h;have e:(i+n).toNat=j:=aO h;exact⟨by rw[HA (xZ.mp h0) h1,e],by omega,h1,eJ (xZ.mp h0) (fu _)⟩
  ·rw[if_neg h1]at h;cases h
def zp (h:nJ xs i=a_ v):∃j,seqIndex? i xs.length=a_ j/\xs[j]?=a_ v/\j<xs.length/\-(xs.length:Int)<=i/\i<xs.length:=by
 unfold nJ at h
 cases e:EM xs.length i with
 |none=>rw[e]at h;cases h
 |some j=>
   rw[e]at h;obtain⟨h1,h2,h3,h4⟩:=yM e;exact⟨j,h1,h,h2,h3,h4⟩
def gu{α:Type}{xs:List α}{j:Nat}{v:α}(h:xs[j]?=a_ v):nJ xs (j:Int)=a_ v:=by
 have hj:j<xs.length:=(bx.mp h).1
 have e:EM xs.length (j:Int)=a_ j:=by
  unfold EM;rw[if_pos (fu _),if_pos (jb.mpr hj)];simp
 unfold nJ;rw[e];exact h
def zq(b:aV):Prop:=∀o i,subscripted b d_ o i=operate [o,i] (getItem o i)
def VC(X:Cx)(r:R2):Prop:=
 ∀(value slice:aV)(h_:List (aE×kX))(s:aw)(σ:St)(H:Hp)(x y:V)(v u:ak)(Q:VK),Inv X h_ σ H s->RelV x v->RelV y u->r x y H Q->
  subscripted slice d_ v u=operate [v,u] (getItem v u)->ax (aB X.prog X.w) X.A (subscriptTail value slice v u) (EP X h_ σ Q) X.xe s
def QV(X:Cx)(id:String)(r:V->List V->Hp->VK->Prop):Prop:=
 ∀(h_:List (aE×kX))(s:aw)(σ:St)(H:Hp)(x:V)(xs:List V)(v:ak)(us:List ak)(Q:VK),Inv X h_ σ H s->RelV x v->bW xs us->r x xs H Q->
  ax (aB X.prog X.w) X.A (call (.builtin id) (v::us)) (EP X h_ σ Q) X.xe s
section
variable{a:aV}{tb:TE}
def Wr(hr:VC X r)(ha:PE X a ta)(hb:PE X b tb)(hs:zq b):PE X (.Subscript a b pos) (VO r ta tb):=by
 intro h_ s σ H Q I h;exact Subscript_ (UZ ha hb I h λv u s2 x y H2 I2 rx ry q=>hr a b h_ s2 σ H2 x y v u Q I2 rx ry q (hs _ _))
def YK(K:aA):R2:=λx y H Q=>∃p xs i v,x=.ref p/\y=.int i/\pd K H p xs/\nJ xs i=a_ v/\Q v H
def YI(K:aA):R2:=λx y H Q=>∃p xs i v,x=.ref p/\y=.int i/\wa K H p xs/\nJ xs i=a_ v/\Q v H
def YJ:R2:=λx y H Q=>∃z i c,x=.str z/\y=.int i/\z.length<=aD/\nJ z.cps.toList i=a_ c/\Q (.str ⟨#[c]⟩) H
def Ol:VC X (YK X.K):=by
 intro value slice h_ s σ H x y v u Q I rx ry h hs;obtain⟨p,xs,i,z,rfl,rfl,hq,he,q⟩:=h;cases rx;obtain⟨t,rfl⟩:=ry;obtain⟨its,r,pl,hz⟩:=I.list hq;obtain⟨j,h1,h2,h3,h4,h5⟩:=zp he;obtain⟨w,ew,rw'⟩:=r.get h2;have hl:=r.length;have hn:=pQ;have fin:EP X h_ σ Q w s:=⟨z,H,I,rw',q⟩
 by_cases h0:0<=i
 ·have hj:i.toNat=j:=by
   rw[L9 h0 h5]at h1;exact aO h1
  exact item_listR pl.isList h0 (eJ h5 (eJ (dR.mpr hz) bG)) (by rw[hj];simpa using ew) fin hs
 ·have hj:(i+(its.toArray.size:Int)).toNat=j:=by
   rw[HA (xZ.mp h0) h4]at h1;rw[aJ,<-hl];exact aO h1
  exact HJ (x:=w) pl.isList.typeIs slot_list_getitem.lookup
   (wpAny_getItem_list_neg (Q:=λr s'=>r=w/\EP X h_ σ Q r s') pl.isList (by omega) (by rw[aJ]<;>omega) (by omega) (by rw[hj];simpa using ew) ⟨rfl,fin⟩) hs
def TM:VC X (YI X.K):=by
 intro value slice h_ s σ H x y v u Q I rx ry h hs;obtain⟨p,xs,i,z,rfl,rfl,hq,he,q⟩:=h;cases rx;obtain⟨t,rfl⟩:=ry;obtain⟨its,r,pl,hz⟩:=I.tuple hq;obtain⟨j,h1,h2,h3,h4,h5⟩:=zp he;obtain⟨w,ew,rw'⟩:=r.get h2;have hl:=r.length;have hn:=pQ;have fin:EP X h_ σ Q w s:=⟨z,H,I,rw',q⟩
 exact HJ (x:=w) pl.typeIs slot_tuple_getitem.lookup
  (getItem_tuple (j:=j) (Q:=λr s'=>r=w/\EP X h_ σ Q r s') pl (by omega) (eJ h5 (eJ (dR.mpr hz) bG)) (by rw[aJ,<-hl];exact h1) (by simpa using ew) ⟨rfl,fin⟩) hs
def TN:VC X YJ:=by
 intro value slice h_ s σ H x y v u Q I rx ry h hs;obtain⟨z,i,c,rfl,rfl,hz,he,q⟩:=h;obtain⟨t,rfl⟩:=rx;obtain⟨t',rfl⟩:=ry;obtain⟨j,h1,h2,h3,h4,h5⟩:=zp he;have hl:z.cps.toList.length=z.length:=by simp[Str.length]
 rw[hl]at h1 h4 h5;have hn:=pQ
 exact tail_any (pF s z t) slot_str_getitem.lookup (getItem_str (c:=c) (by
  have e1:decide (i < -(2 ^ 63:Int))=d_:=decide_eq_false (by omega);have e2:decide (i>=2 ^ 63)=d_:=decide_eq_false (by omega)
  rw[e1,e2,zC]) (by rw[h1];simpa using h2) ⟨.str ⟨#[c]⟩,H,I.tok _,⟨_,rfl⟩,q⟩) hs
def C1(its:List ak)(n j:Nat)(u:ak):jD (·.setIfInBounds j u) { cls:=.type "list",data:=.seq its.toArray n }={ cls:=.type "list",data:=.seq (its.set j u).toArray n }:=by
 simp[jD]
def Inv.lst(I:Inv X h_ σ H s)(h:H p=a_ (.lst xs)) :
  ∃(its:List ak) (n:Nat),bW xs its/\s.heap.get? p=a_ { cls:=.type "list",data:=.seq its.toArray n }/\xs.length<=aD:=by
 obtain⟨z,its,n,r,e⟩:=I.hok p _ h;exact⟨its,n,r,e,z⟩
def Inv.Tg{its its':List ak}(I:Inv X h_ σ H s)(h:H p=a_ (.lst xs))
  (ho:s.heap.get? p=a_ { cls:=.type "list",data:=.seq its.toArray n })(hf:f { cls:=.type "list",data:=.seq its.toArray n }={ cls:=.type "list",data:=.seq its'.toArray n' })(r:bW ys its')(hz:ys.length<=aD)(t:Nat) :
  Inv X h_ σ (upd H p (.lst ys)) { s with heap:=s.heap.update p f,toks:=t }:=by
 have e:(s.heap.update p f).get? p=a_ { cls:=.type "list",data:=.seq its'.toArray n' }:=by
  rw[dJ f ho (by rw[hf]<;>rfl),hf]
 refine I.write (x:=p) (e:=p) (by rw[h];trivial) (.inl rfl) (λb u hb q=>(dD _ _ (fJ hb)).trans q) ⟨_,e⟩ ?_;exact⟨hz,its',n',r,e⟩
def Jm:V->V->V->Hp->(Hp->Prop)->Prop:=λo i v H Q=>∃p xs k j,o=.ref p/\i=.int k/\H p=a_ (.lst xs)/\EM xs.length k=a_ j/\Q (upd H p (.lst (xs.set j v)))
def set_list:PM X Jm:=by
 intro h_ s σ H o i v ov iv u Q I ro ri rv h;obtain⟨p,xs,k,j,rfl,rfl,hp,hj,q⟩:=h;cases ro;obtain⟨t,rfl⟩:=ri;obtain⟨its,n,r,ho,hz⟩:=I.lst hp;obtain⟨h1,h2,h3,h4⟩:=yM hj;have hl:=r.length;have hn:=pQ
 have I':Inv X h_ σ (upd H p (.lst (xs.set j v))) { s with heap:=s.heap.update p (jD (·.setIfInBounds j u)) }:=
  I.Tg hp ho (C1 its n j u) (r.set rv j) (by rw[iF];exact hz) s.toks
 by_cases h0:0<=k
 ·have hk:k.toNat=j:=by
   rw[L9 h0 h4]at h1;exact aO h1
  exact PySem.W.ki_setAt ho h0 (eJ h4 (eJ (dR.mpr hz) bG)) (by rw[aJ,<-hl];exact h4) (by rw[hk];exact⟨_,I',q⟩)
 ·have hk:(k+(its.toArray.size:Int)).toNat=j:=by
   rw[HA (xZ.mp h0) h3]at h1;rw[aJ,<-hl];exact aO h1
  exact PySem.W.ki_setBack ho (by omega) (by rw[aJ,<-hl];exact h3) (by omega) (by rw[hk];exact⟨_,I',q⟩)
def yi(lo hi:Option Int)(n:Nat):(sliceBounds lo hi b_ n).1=((HT.ic n 0 lo:Nat):Int)/\(sliceBounds lo hi b_ n).2.1=((HT.ic n n hi:Nat):Int)/\(sliceBounds lo hi b_ n).2.2=1:=by
 refine⟨?_,?_,rfl⟩
 ·cases lo with
  |none=>simp[sliceBounds,HT.ic]
  |some i=>
    simp only[sliceBounds,HT.ic,Hq,show(1:Int) > 0 by decide,if_true];by_cases h:i<0
    ·simp only[h,if_true]<;>omega
    ·simp only[h,if_false]<;>omega
 ·cases hi with
  |none=>simp[sliceBounds,HT.ic]
  |some i=>
    simp only[sliceBounds,HT.ic,Hq,show(1:Int) > 0 by decide,if_true];by_cases h:i<0
    ·simp only[h,if_true]<;>omega
    ·simp only[h,if_false]<;>omega
def vT(its:List ak)(lo hi:Option Int):slicePick its.toArray lo hi b_=((its.drop (HT.ic its.length 0 lo)).take (HT.ic its.length its.length hi - HT.ic its.length 0 lo)).toArray:=by
 obtain⟨h1,h2,h3⟩:=yi lo hi its.toArray.size;unfold slicePick;rw[h1,h2,h3];simp only[sliceRange_one,pick_run,aJ]<;>rfl
def YG(K:aA):V->Option Int->Option Int->Hp->VK->Prop:=λx lo hi H Q=>∃a xs,x=.ref a/\pd K H a xs/\∀p,H p=b_->Q (.ref p) (upd H p (.lst (zf xs lo hi)))
def MM:Yd X (YG X.K):=by
 intro h_ s σ H x v vl vu lo hi sl Q I rx hs pl pu h;obtain⟨a,xs,rfl,hx,q⟩:=h;cases rx;obtain⟨its,r,ht,hz⟩:=I.list hx;have hlen:=r.length;refine⟨"list",_,slot_list_getitem.lookup,ht.isList.typeIs,?_⟩;refine wpAny_getItem_list_slice ht.isList hs pl pu .none (by simp) ?_ (by rw[aJ]<;>exact ae (aM hlen.symm) hz);rw[vT,<-hlen];refine⟨.ref s.heap.objs.size,_,I.laid (t':=s.toks) (o:=.lst (zf xs lo hi)) (λb ob q=>hp9 _ q) (aI _) ?_,rfl,q _ (I.hok.fresh (aI _))⟩;exact⟨ae (sY xs lo hi) hz,_,0,(r.drop (HT.ic xs.length 0 lo)).take (HT.ic xs.length xs.length hi - HT.ic xs.length 0 lo),aK _ rfl⟩
noncomputable def xv:V->Bool
 |.non=>c_
 |.bl _=>c_
 |.int _=>c_
 |.str _=>c_
 |_=>d_
def yz:iO X (compareOp .NotIn) (λx y H Q=>∃i j,x=.str i/\y=.str j/\Q (.bl (!(!(cQ j i 0 j.length 1).isEmpty))) H):=by
 intro h_ s σ H x y v u Q I rx ry h;obtain⟨i,j,rfl,rfl,q⟩:=h;obtain⟨t,rfl⟩:=rx;obtain⟨t',rfl⟩:=ry;exact notIn_str ⟨.bl _,H,I,rfl,q⟩
def rj:ju X (.builtin "len") (λxs H Q=>∃p ys,xs=[.ref p]/\(pd X.K H p ys\/wa X.K H p ys)/\Q (.int ys.length) H):=by
 intro h_ s σ H xs us Q I r h;obtain⟨p,ys,rfl,hq,q⟩:=h;obtain⟨u,rfl,rx⟩:=vals1 r;cases rx;have hn:=pQ
 rcases hq with hq|hq
 ·obtain⟨its,r',pl,hz⟩:=I.list hq;have hlen:=r'.length;exact Calls.call_len_list pl.isList (by simp only[aJ]<;>omega) ⟨.int ys.length,H,I.tok _,⟨s.toks+1,by rw[aJ,hlen]⟩,q⟩
 ·obtain⟨its,r',pl,hz⟩:=I.tuple hq;have hlen:=r'.length;exact len_tuple pl (by simp only[aJ]<;>omega) ⟨.int ys.length,H,I.tok _,⟨s.toks+1,by rw[aJ,hlen]⟩,q⟩
def zj:ju X (.builtin "len") (λxs H Q=>∃z,xs=[.str z]/\z.length<=aD/\Q (.int z.length) H):=by
 intro h_ s σ H xs us Q I r h;obtain⟨z,rfl,hz,q⟩:=h;obtain⟨u,rfl,t,rfl⟩:=vals1 r;have hn:=pQ;exact len_str (by omega) ⟨.int z.length,H,I.tok _,⟨_,rfl⟩,q⟩
def rh:ju X (.type "list") (λxs H Q=>∃p ys,xs=[.ref p]/\(pd X.K H p ys\/wa X.K H p ys)/\∀l,H l=b_->Q (.ref l) (upd H l (.lst ys))):=by
 intro h_ s σ H xs us Q I r h;obtain⟨p,ys,rfl,hq,q⟩:=h;obtain⟨u,rfl,rx⟩:=vals1 r;cases rx
 have fin:∀(its:List ak),bW ys its->ys.length<=aD->∀(h':bM) (c':Nat),(∀b o',s.heap.get? b=a_ o'->h'.get? b=a_ o')->
   h'.get? s.heap.objs.size=a_ { cls:=.type "list",dict:=b_,data:=.seq its.toArray c',slots:=#[] }->EP X h_ σ Q (.ref s.heap.objs.size) { s with heap:=h' }:=λits r' hz h' c' kp e=>
  ⟨.ref s.heap.objs.size,_,I.laid (t':=s.toks) kp (aI _) (show iH X.prog X.w _ h' _ (.lst ys)from⟨hz,its,c',r',e⟩),rfl,q _ (I.hok.fresh (aI _))⟩
 rcases hq with hq|hq
 ·obtain⟨its,r',pl,hz⟩:=I.list hq;have hlen:=r'.length;obtain⟨o,ho,hc,n,hd⟩:=pl.isList;exact call_list_seq p (.inl rfl) ho hc hd (λh' c' kp e=>fin its r' hz h' c' kp e) (by simp only[aJ]<;>omega)
 ·obtain⟨its,r',pl,hz⟩:=I.tuple hq;have hlen:=r'.length;obtain⟨o,ho,hc,n,hd⟩:=pl;exact call_list_seq p (.inr rfl) ho hc hd (λh' c' kp e=>fin its r' hz h' c' kp e) (by simp only[aJ]<;>omega)
def pB:ju X (.type "tuple") (λxs H Q=>∃p ys,xs=[.ref p]/\((pd X.K H p ys/\∀l,H l=b_->Q (.ref l) (upd H l (.tup ys)))\/(wa X.K H p ys/\Q (.ref p) H))):=by
 intro h_ s σ H xs us Q I r h;obtain⟨p,ys,rfl,h⟩:=h;obtain⟨u,rfl,rx⟩:=vals1 r;cases rx
 rcases h with⟨hq,q⟩|⟨hq,q⟩
 ·obtain⟨its,r',pl,hz⟩:=I.list hq;have hlen:=r'.length;refine call_tuple_list pl.isList (λh' kp=>?_) (by simp only[aJ]<;>omega);have I1:Inv X h_ σ H { s with heap:=h' }:=I.kept (t':=s.toks) kp
  have I2:Inv X h_ σ (upd H h'.objs.size (.tup ys)) { s with heap:=h'.push { cls:=.type "tuple",data:=.seq its.toArray } }:=
   I1.laid (t':=s.toks) (λb o e=>hp9 _ e) (aI _) (show iH X.prog X.w _ _ _ (.tup ys)from⟨hz,its,r',HK _ _⟩)
  exact⟨.ref h'.objs.size,_,I2,rfl,q _ (I1.hok.fresh (aI _))⟩
 ·obtain⟨its,r',pl,hz⟩:=I.tuple hq;exact call_tuple_same pl ⟨.ref p,H,I,rfl,q⟩
def Yk(K:aA)(T:String)(x:V)(H:Hp):Prop:=match x with
 |.str _=>T="str"
 |.int _=>T="int"
 | .ref p=>(T="list"/\∃xs,pd K H p xs)\/(T="tuple"/\∃o,K.lookup p=a_ o/\o.cls=.type "tuple"/\o.dict=b_)\/
   (T="dict"/\((∃k_,H p=a_ (.dK k_))\/∃k_,H p=a_ (.dT k_)))\/(T="set"/\∃S n,H p=a_ (.set S n))
 |_=>False
def Q2{T:String}(I:Inv X h_ σ H s)(r:RelV x v)(ty:Yk X.K T x H) :
  s.TypeIs v T/\∀a,v=.ref a->∃ob,s.heap.get? a=a_ ob/\ob.dict=b_:=by
 cases x with
 |str z=>
   obtain⟨t,rfl⟩:=r;cases(show T="str" from ty);exact⟨pF s z t,λ_ e=>nomatch e⟩
 |int i=>
   obtain⟨t,rfl⟩:=r;cases(show T="int" from ty);exact⟨typeIs_int s i t,λ_ e=>nomatch e⟩
 |ref p=>
   cases r
   rcases ty with⟨rfl,xs,hq⟩|⟨rfl,o,hk,hc,hd⟩|⟨rfl,hk⟩|⟨rfl,S,n,hk⟩
   ·obtain⟨its,_,pl,_⟩:=I.list hq;refine⟨pl.isList.typeIs,λa e=>?_⟩;cases e;obtain⟨o,n,e,c,hd,_⟩:=pl;exact⟨o,e,hd⟩
   ·refine⟨⟨o,I.tJ p o hk,hc⟩,λa e=>?_⟩;cases e;exact⟨o,I.tJ _ o hk,hd⟩
   ·have z:∃o,s.heap.get? p=a_ o/\o.ExactDict:=by
     rcases hk with⟨k_,hk⟩|⟨k_,hk⟩
     ·obtain⟨_,_,_,_,o,_,_,e,ex,_⟩:=I.hok p _ hk;exact⟨o,e,ex⟩
     ·obtain⟨_,_,_,_,o,_,_,e,ex,_⟩:=I.hok p _ hk;exact⟨o,e,ex⟩
    obtain⟨o,e,ex⟩:=z;refine⟨⟨o,e,ex.1⟩,λa e2=>?_⟩;cases e2;exact⟨o,e,ex.2.1⟩
   ·obtain⟨o,_,_,_,e,ex,_⟩:=I.hok p _ hk;refine⟨⟨o,e,ex.1⟩,λa e2=>?_⟩;cases e2;exact⟨o,e,ex.2.1⟩
 |_=>exact bB ty
def XX(K:aA)(T:String)(r:V->List V->Hp->VK->Prop)(to:TE)(t:TA):TE:=λσ H Q=>to σ H λx H1=>Yk K T x H1/\t σ H1 λxs H2=>r x xs H2 Q
variable{apos:rE}{T id:String}
def wQ(pa:PlainAttrs T)(slot:Slot T name id)(hty:typeOf (.builtin id)=pure (.type "method_descriptor"))(hm:QV X id r)(ho:PE X o to)(ha:PA X (e::es) t)
  (hbase:attributeBase o name X.env (eval o X.env)=eval o X.env)
  (hfew:((backTo cpos (aG (e::es) X.env)).all (λx=>!x.1) && (backToKw cpos (keywordEach [] X.env)).all (λx=>x.1.isSome)
   && decide ((e::es).length+([]:List vL).length+(if([]:List vL).isEmpty then 0 else 1)<30))=c_:=by rfl)
  (hline:(apos.endLine == cpos.line)=c_:=by rfl)(hs:aG (e::es) X.env=(d_,eval e X.env)::aG es X.env:=by rfl)(hplain:(backTo cpos (aG es X.env)).any (·.1)=d_:=by rfl) :
  PE X (.Call (.Attribute o name apos) (e::es) [] cpos) (XX X.K T r to t):=by
 intro h_ s σ H Q I h;refine wpAny_Call_method_late hbase hfew hline rfl (hZ (ho h_ s σ H _ I h) λv s1 ⟨x,H1,I1,r1,ty,q1⟩=>?_);obtain⟨h1,h2⟩:=Q2 I1 r1 ty;refine⟨T,id,pa,slot,hty,h1,h2,?_⟩;have hA:=ha cpos h_ s1 σ H1 _ I1 q1;rw[hs]at hA ⊢;refine Calls.callWith_builtin (by show(d_ || (backTo cpos (aG es X.env)).any (·.1))=d_;rw[hplain]<;>rfl) (BV ?_);exact hZ hA λus s2 ⟨vs,H2,I2,r2,q2⟩=>hm h_ s2 σ H2 x vs v us Q I2 r1 r2 q2
end
def MtM(X:Cx)(id:String)(r:V->List V->Hp->VK->Prop):Prop:=
 ∀(h_:List (aE×kX))(s:aw)(σ:St)(H:Hp)(x:V)(xs:List V)(v:ak)(us:List ak)(Q:VK),Inv X h_ σ H s->RelV x v->bW xs us->r x xs H Q->
  ax (aB X.prog X.w) X.A (call (.builtin id) (v::us)) (EP X h_ σ Q) X.xe s
def bW.one:∀{x:V}{us:List ak},bW [x] us->∃u,us=[u]/\RelV x u
 |_,_,.cons r .nil=>⟨_,rfl,r⟩
section
def Inv.WL{its its':List ak}(I:Inv X h_ σ H s)(hH:H l=a_ (.lst xs))
  (e:s.heap.get? l=a_ { cls:=.type "list",data:=.seq its.toArray n })(hf:f its.toArray=its'.toArray)(hv:bW ys its')(hz:ys.length<=aD) :
  Inv X h_ σ (upd H l (.lst ys)) { s with heap:=s.heap.update l (jD f),toks:=t' }:=by
 have q:=PySem.IsL.update e f;rw[hf]at q;refine I.write (x:=l) (e:=l) (by rw[hH];exact trivial) (.inl rfl) (λb' u hb hu=>(dD s.heap (jD f) (fJ hb)).trans hu) ⟨_,q⟩ ?_;exact⟨hz,its',_,hv,q⟩
def Inv.WO(I:Inv X h_ σ H s)(hv:bW ys its)(hz:ys.length<=aD) :
  Inv X h_ σ (upd H s.heap.objs.size (.lst ys)) { s with heap:=s.heap.push { cls:=.type "list",data:=.seq its.toArray },toks:=t' }:=
 I.laid (λ_ _ q=>hp9 _ q) (aI _) ⟨hz,its,0,hv,aK _ rfl⟩
def Inv.fresh(I:Inv X h_ σ H s):H s.heap.objs.size=b_:=I.hok.fresh (aI _)
def Inv.WK(I:Inv X h_ σ H s)(hH:H l=a_ (.lst xs)):xs.length<=aD/\∃(its:List ak) (n:Nat),bW xs its/\xs.length=its.length/\s.heap.get? l=a_ { cls:=.type "list",data:=.seq its.toArray n }:=by
 obtain⟨z,its,n,r,e⟩:=I.hok l _ hH;exact⟨z,its,n,r,r.length,e⟩
end
section
def Ee:V->List V->Hp->VK->Prop:=λx vs H Q=>∃l xs y,x=.ref l/\vs=[y]/\H l=a_ (.lst xs)/\xs.length<aD/\Q .non (upd H l (.lst (xs++[y])))
def GC:MtM X "list.append" Ee:=by
 intro h_ s σ H x vs v us Q I rx rv h;obtain⟨l,xs,y,rfl,rfl,hH,hz,q⟩:=h;cases rx;obtain⟨u,rfl,ru⟩:=rv.one;obtain⟨z,its,n,r,hl,e⟩:=I.WK hH;refine mU vO ⟨_,e,rfl⟩ F.entry_list_append (F.args_list_append_2 _ _) (PySem.list_append l its.toArray n u (by rw[aJ];exact ae (aM hl.symm) z)) ⟨e,?_⟩;refine⟨.non,_,I.WL (its':=its++[u]) hH e (by simp) (r.append (.cons ru .nil)) ?_,rfl,q⟩;rw[cg,BW];exact hz
end
section
end
section
end
end L2
namespace Att
open PySem PySem.W PySem.Calls PyProof.Rows
def tK:∀(ns:List Int)(vs:List ak),WellAll P h vs (ns.map WData.int)->lJ vs ns:=by
 intro ns
 induction ns with
 |nil=>
   intro vs w;rw[ip]at w;cases w;exact .nil
 |cons n ns ih=>
   intro vs w;rw[ah]at w
   cases w with
   |cons a b=>
     cases a;exact .cons _ _ (ih _ b)
def F9{l:jf}(hn:l.most=a_ n)
  (hpre:l.row.toRowW.claim.pre args=c_)(hwl:WellAll P h vals args) :
  ∃a vs ns,vals=[bI a]/\args=[WData.list (ns.map WData.int)]/\h.get? a=a_ { cls:=.type "list",data:=.seq vs.toArray }/\lJ vs ns/\ns.length<=n:=by
 have hsh:WShape.hasAll [] args [.list .int]=c_:=(pre_splitW hpre).1;have hc:l.pre.holds [] { args:=args }=c_:=(pre_splitW hpre).2;obtain⟨d,r,rfl,h1,h2⟩:=hasAllW_cons hsh;obtain rfl:=hasAllW_nil h2;obtain⟨xs,rfl,h3⟩:=hasW_list h1;obtain⟨ns,rfl⟩:=items_int h3
 have hlen:ns.length<=n:=by
  unfold OpenLaw.pre at hc
  have h4:(WTm.not (.lt (.lit (.int (n:Int))) (.len (.arg 0)))).holds [] { args:=[.list (ns.map .int)] }=c_:=by
   have h4:=(holds_andW hc).1;rw[hn]at h4;exact h4
  have h5:=condW_of h4 (w_not (w_lt w_lit (w_len_list (w_arg rfl))));rw[ag]at h5;refine eU λq=>?_;have q':(n:Int)<((ns.length:Nat):Int):=jb.mpr q
  first
   |(rw[decide_eq_true q']at h5;exact absurd h5 bG)
   |(simp at h5;omega)
 cases hwl with
 |cons w1 w2=>
   cases w2
   cases w1 with
   |list ho hall=>exact⟨_,_,ns,rfl,rfl,ho,tK ns _ hall,hlen⟩
def Gm(l:jf)(args:List WData):l.row.toRowW.claim.post args (.bool c_) args=c_:=
 postW_of (r:=l.row.toRowW) (X:=(c_ == c_))
  (show WShape.has [] (.bool c_) .bool=c_ by first|rfl|decide|simp[WShape.has,WShape.arms,WShape.armsAll])
  (show(WTm.eq .res (.lit (.bool c_))).value [] { args:=args,res:=a_ (.bool c_),after:=args }=a_ (.bool (c_ == c_))from w_eq_bool (w_res rfl) w_lit) rfl
def Bv{l:jf}{d:DefRec}
  (hn:l.most=a_ n)(hdf:d.params.defaults=[])
  (call:∀(w:dH)(s₀ s₁:aw)(mg mb:a8->Option ak)(fa:aE)(o:kX)(pm cd doc:ak)(a:aE)(vs:List ak)(ns:List Int),
   Ground q loose [] XP w s₀ mg mb s₁.heap->YP w s₁.heap->
   s₁.heap.get? fa=a_ o->o.data=.func (docDef d.name d.params d.body d.scope pm cd doc)->s₁.heap.CodeRec cd d.name->mg d.name=a_ (.ref fa)->
   s₁.heap.get? a=a_ { cls:=.type "list",data:=.seq vs.toArray }->lJ vs ns->ns.length<=n->s₁.gens=#[]->
   codeAny (aB l.prog w) callerA (.call (.ref fa) ⟨[.ref a],[]⟩) (λr s'=>r=.ok (.ret (.bool c_))/\OldK s₁.heap s'.heap/\s'.os=s₁.os/\kE s'.gens) s₁) :
  vK q loose XP YP l.row.toRowW d [] (λf vs=>FF f vs):=by
 intro w s₀ s₁ mg mb G Y fa o pm cd doc dV kV ho hd hcd hD hmg hg args vals as hpre hlay hrd hwl hlo;obtain rfl:dV=.none:=Dflts.none hD hdf;obtain rfl:kV=.none:=Dflts.noKw hD;obtain⟨a,vs,ns,rfl,rfl,hobj,hints,hlen⟩:=F9 hn hpre hwl;refine enter_call (gQ (call w s₀ s₁ mg mb fa o pm cd doc a vs ns G Y ho (fd_plain hd) hcd hmg hobj hints hlen hg) λr s' hq=>?_);obtain⟨rfl,h2,h3,h4⟩:=hq;exact⟨.inl ⟨.bool c_,.bool c_,[],rfl,λ_=>rfl,.bool c_,Gm l _,λ_=>⟨wu,λ_ hm=>(nomatch hm)⟩⟩,h2,h3,h4⟩
section
variable{K:aA}
end
end Att
namespace L2
open PySem PySem.Spec PyProof.Rows
theorem wB:∀{vs:List ak}{ns:List Int},lJ vs ns->bW (ns.map V.int) vs
 |_,_,.nil=>.nil
 |_,_,.cons n t h=>.cons ⟨t,rfl⟩ (wB h)
def Vd(H:Hp):Prop:=∀b,H b=b_\/∃o xs,H b=a_ (.kL o (.lst xs))
def Kb{K:aA}{s₁:aw}{vs:List ak}
  (KX:K.In s₁.heap)(hns:s₁.heap.Ns mainGlobals mg)(hb:s₁.heap.Ns builtinsNs mb)(hbb:∀x:a8,x≠"__name__"->mb x=bootBuiltins x)(hlim:s₁.heap.NoLimit)(hg:s₁.gens=#[])
  (ha:s₁.heap.get? a=a_ { cls:=.type "list",data:=.seq vs.toArray })(hi:lJ vs ns)(hl:ns.length<=aD)(hr:je k callerA)
  (F:∀base:bM,K.In base->base.Ns mainGlobals mg->jx P w K mg base CX k fa fd [x] sp)(hbind:∀(s:aw)(u:ak),BG s fd ⟨[u],[]⟩ [(x,u)])
  (hsp:∀H:Hp,Vd H->pd K H a (ns.map V.int)->sp [.ref a] H (λv _=>v=.bl c_) λ_ _ _=>False)
  (hCX:∀H e s',CX [] H s₁ (λ_ _ _=>False) e s'->False) :
  codeAny (aB P w) callerA (.call (.ref fa) ⟨[.ref a],[]⟩) (λr s'=>r=.ok (.ret (.bool c_))/\OldK s₁.heap s'.heap/\s'.os=s₁.os/\kE s'.gens) s₁:=by
 have rv:=wB hi;have lenV:=hi.length
 have core:∀H:Hp,Vd H->pd K H a (ns.map V.int)->pe P w H s₁.heap->(∀b,H b≠b_->b=a)->(H a≠b_->K.lookup a=b_)->
   codeAny (aB P w) callerA (.call (.ref fa) ⟨[.ref a],[]⟩) (λr s'=>r=.ok (.ret (.bool c_))/\OldK s₁.heap s'.heap/\s'.os=s₁.os/\kE s'.gens) s₁:=by
  intro H hO hS hok hA hK;have base_of:∀{b:aE}{o:kX},s₁.heap.get? b=a_ o->H b=b_->(yQ s₁.heap H).get? b=a_ o:=λe n=>Kr e n
  have noA:∀{b:aE}{o:kX}{es:Array DictEntry}{ep:Nat},s₁.heap.get? b=a_ o->o.data=.dict es ep->H b=b_:=λ{b o es ep}e d=>by
   cases q:H b with
   |none=>rfl
   |some u=>
     have e':b=a:=hA b (by rw[q];simp);subst e';rw[ha]at e;cases e;have d':Data.seq vs.toArray _=Data.dict es ep:=d;cases d'
  have nsK:∀{b:aE}{m:a8->Option ak},s₁.heap.Ns b m->(yQ s₁.heap H).Ns b m:=λ{b m} ⟨o,es,ep,e,d,r⟩=>⟨o,es,ep,base_of e (noA e d),d,r⟩
  have hKb:K.In (yQ s₁.heap H):=λb o e=>base_of (KX b o e) (by
   cases q:H b with
   |none=>rfl
   |some u=>
     have e':b=a:=hA b (by rw[q];simp);subst e'
     rw[hK (by rw[q];simp)]at e;cases e)
  have hM:Mod K mg (yQ s₁.heap H):=⟨hKb,nsK hns,⟨mb,nsK hb,hbb⟩,let ⟨mc,h1,h2⟩:=hlim;⟨mc,nsK h1,h2⟩⟩
  have e0:fP P w K mg (yQ s₁.heap H) callerA [] s₁ H:=⟨rfl,hM,λb o e=>NZ e,aM (GP _ _),trivial,λb hb=>absurd (show b∈([]:List aE)from hb) (by simp),hok,.of_eq hg⟩
  refine gQ ((F _ hKb (nsK hns)).run callerA [] s₁ H ⟨[.ref a],[]⟩ [.ref a] [.ref a] _ _ hr e0 (hbind s₁ (.ref a)) (.cons rfl .nil) (hsp H hO hS)) λr s' h=>?_
  cases r with
  |error e=>exact(hCX H e s' h).elim
  |ok fl=>
    cases fl with
    |next=>exact bB h
    |brk=>exact bB h
    |cont=>exact bB h
    |ret u=>
      obtain⟨v,H',os,bare,un,hok',r',q⟩:=h;have q':v=.bl c_:=q;subst q';obtain rfl:u=j8 c_:=r';refine⟨rfl,OldK.of_keep λb o e=>?_,os,bare⟩
      cases q:H b with
      |none=>exact un.keep b o e q (by intro z;exact absurd (show b∈([]:List aE)from z) (by simp)) (by simp)
      |some u=>
        rcases hO b with z|⟨ob,xs,z⟩
        ·rw[q]at z;cases z
        ·have z2:=un.frzs b ob _ z;obtain⟨e1,_⟩:=hok b _ z;obtain⟨e2,_⟩:=hok' b _ z2;rw[e]at e1;cases e1;exact e2
 cases hk:K.lookup a with
 |some o=>
   have e:=KX a o hk;rw[ha]at e;cases e;refine core (λ_=>b_) (λ_=>.inl rfl) (.inr ⟨_,vs.toArray,_,hk,rfl,rfl,rfl,by rw[aJ,lenV];exact hl,by simpa using rv⟩) (λb u z=>by have z':(b_:Option HO)=a_ u:=z;cases z') (λb z=>absurd rfl z) λz=>absurd rfl z
 |none=>
   refine core (λb=>if b=a then a_ (.kL { cls:=.type "list",data:=.seq vs.toArray } (.lst (ns.map V.int)))else b_) (λb=>?_) (.inl (.inr ⟨{ cls:=.type "list",data:=.seq vs.toArray },if_pos rfl⟩)) (λb u z=>?_) (λb z=>?_) λ_=>hk
   ·by_cases hb:b=a
    ·exact .inr ⟨_,_,if_pos hb⟩
    ·exact .inl (if_neg hb)
   ·by_cases hb:b=a
    ·have z':=(if_pos hb).symm.trans z;cases z';subst hb;exact⟨ha,by rw[ag];exact hl,vs,_,rv,ha⟩
    ·have z':=(if_neg hb).symm.trans z;cases z'
   ·by_cases hb:b=a
    ·exact hb
    ·exact absurd (if_neg hb) z
abbrev KOf{K:aA}{h:bM}(_:K.In h):aA:=K
def Mr{l:jf}{n k:Nat}{q:cY}{loose:List a8}{XP:(a8->Option ak)->bM->Prop}{YP:dH->bM->Prop}{d:DefRec}{K:Params->aA}{CX:dH->Vh}{sp:dH->Sp}{x:a8}
  (hn:l.most=a_ n)(hn2:n<=aD)(hdf:d.params.defaults=[])(hr:je k callerA)
  (hY:∀(w:dH)(h:bM),YP w h->(K w.params).In h)
  (F:∀(w:dH)(mg:a8->Option ak)(fa:aE)(h:bM),(K w.params).In h->h.Ns mainGlobals mg->mg d.name=a_ (.ref fa)->
   ∃fd:gV,(∀(s:aw)(u:ak),BG s fd ⟨[u],[]⟩ [(x,u)])/\
    ∀base:bM,(K w.params).In base->base.Ns mainGlobals mg->jx l.prog w (K w.params) mg base (CX w) k fa fd [x] (sp w))
  (hsp:∀(w:dH)(H:Hp)(a:aE)(ns:List Int),ns.length<=n->Vd H->pd (K w.params) H a (ns.map V.int)->sp w [.ref a] H (λv _=>v=.bl c_) λ_ _ _=>False)
  (hCX:∀(w:dH)(H:Hp)(s:aw)(e:ak)(s':aw),CX w [] H s (λ_ _ _=>False) e s'->False) :
  vK q loose XP YP l.row.toRowW d [] (λf vs=>FF f vs):=by
 refine Att.Bv hn hdf λw s₀ s₁ mg mb fa o pm cd doc a vs ns G Y ho hd hcd hmg hobj hints hlen hg=>?_;have KX:=hY w _ Y;obtain⟨fd,hb,hF⟩:=F w mg fa _ KX G.T.g hmg;exact Kb KX G.T.g G.T.b G.T.builtins G.T.nolimit hg hobj hints (ae hlen hn2) hr hF hb (λH hO hS=>hsp w H a ns hlen hO hS) λH e s'=>hCX w H s₁ e s'
end L2
namespace L2
open PySem PySem.Spec PyProof.Rows
noncomputable def uf(s:i8):Arguments:=match s with
 |.FunctionDef _ a _ _ _ _ _ _ _ _=>a
 |_=>{ posonlyargs:=[],args:=[],vararg:=b_,kwonlyargs:=[],kw_defaults:=[],kwarg:=b_,defaults:=[] }
noncomputable def jj(s:i8):List i8:=match s with
 |.FunctionDef _ _ b _ _ _ _ _ _ _=>b
 |_=>[]
noncomputable def cV(s:i8):l8:=match s with
 |.FunctionDef _ _ _ _ _ _ sc _ _ _=>sc
 |_=>{ kind:=.function,names:=[],isGenerator:=d_,isCoroutine:=d_ }
abbrev Fy:Vh:=λ_ _ _ _ _ _=>False
abbrev E0:XK:=λ_ _ _=>False
def Qo:oE Fy X E0:=λ_ _ _ _ _ _ _ h=>h.elim
structure Z5(K:aA)(x qual:a8)(st:i8)(f:aE)(fd:gV):Prop where
 ex:∃(oc:ak) (od:Option aE) (kV doc pm:ak) (an:Option aE) (cdv ct:ak) (osl:Array (Option ak)),
  fd=mV x qual (uf st) (jj st) (cV st) .none kV doc pm an cdv ct/\K.lookup f=a_ ⟨oc,od,.func fd,osl⟩/\nW K cdv qual=c_
 kp:de K (.ref f)=c_
section
variable{K:aA}{base:bM}
end
section
end
def Dc{A B:Prop}(h:B):if d_=c_ then A else B:=by
 rw[if_neg cJ];exact h
def C9{A B:Prop}(h:A):if c_=c_ then A else B:=by
 rw[if_pos rfl];exact h
def bN(H H':Hp):Prop:=∀b o,H b=a_ o->H' b=a_ o
def bN.refl(H:Hp):bN H H:=λ_ _ h=>h
def bN.trans(a:bN H H1)(b:bN H1 H2):bN H H2:=λc o h=>b c o (a c o h)
def bN.free(e:bN H H')(h:H' l=Option.none):H l=Option.none:=by
 cases q:H l with
 |none=>rfl
 |some o=>
   rw[e l o q]at h;cases h
def bN.seq{K:aA}(e:bN H H')(h:pd K H a xs):pd K H' a xs:=by
 rcases h with(h|⟨o,h⟩)|h
 ·exact .inl (.inl (e _ _ h))
 ·exact .inl (.inr ⟨o,e _ _ h⟩)
 ·exact .inr h
section
variable{κ:Type}[DecidableEq κ]
noncomputable def n6(k_:List (κ×V))(k:κ):Option V:=(k_.find? λkv=>decide (kv.1=k)).map (·.2)
noncomputable def putK(k_:List (κ×V))(k:κ)(v:V):List (κ×V):=
 if(k_.any λkv=>decide (kv.1=k))=c_ then k_.map (λkv=>if kv.1=k then(kv.1,v)else kv)else k_++[(k,v)]
def qx{p:κ×V}{r:List (κ×V)}{k:κ}(e:p.1=k):n6 (p::r) k=a_ p.2:=by simp[n6,du,e]
def n5{p:κ×V}{r:List (κ×V)}{k:κ}(e:¬p.1=k):n6 (p::r) k=n6 r k:=by simp[n6,du,e]
theorem zO(k:κ):∀k_:List (κ×V),(k_.any λkv=>decide (kv.1=k))=(n6 k_ k).isSome
 |[]=>rfl
 |p::r=>by
   rw[eF];by_cases e:p.1=k
   ·simp only[qx e,decide_eq_true e,BL,Option.isSome_some]
   ·rw[n5 e,decide_eq_false e,qv];exact zO k r
def sW(k_:List (κ×V))(k:κ)(v:V):(putK k_ k v).length<=k_.length+1:=by
 unfold putK;split
 ·rw[ag];simp
 ·rw[cg,aS,kY];exact aI _
def vF.mH(r:vF o u):o.isSome=u.isSome:=by
 cases o with
 | none=>cases u with
   |none=>rfl
   |some _=>exact(show False from r).elim
 | some _=>cases u with
   |none=>exact(show False from r).elim
   |some _=>rfl
def KV.val(r:KV k_ vs)(k:κ):vF (n6 k_ k) (valueAt vs k):=by
 unfold KV at r
 induction r with
 |nil=>exact ie
 | @cons p q ps qs h t ih=>
   obtain⟨h1,h2⟩:=h;by_cases e:p.1=k
   ·have e':q.1=k:=h1.symm.trans e;have b:valueAt (q::qs) k=a_ q.2:=by simp[valueAt,du,e']
    rw[qx e,b];exact h2
   ·have e':¬q.1=k:=λz=>e (h1.trans z);have b:valueAt (q::qs) k=valueAt qs k:=by simp[valueAt,du,e']
    rw[n5 e,b];exact ih
theorem KV.any(r:KV k_ vs)(k:κ):(k_.any λkv=>decide (kv.1=k))=vs.any λkv=>decide (kv.1=k):=by
 unfold KV at r
 induction r with
 |nil=>rfl
 |cons h t ih=>rw[eF,eF,ih,h.1]
def KV.RX(r:KV k_ vs)(k:κ)(ry:RelV y u) :
  KV (k_.map λkv=>if kv.1=k then(kv.1,y)else kv) (vs.map λkv=>if kv.1=k then(kv.1,u)else kv):=by
 unfold KV at r ⊢
 induction r with
 |nil=>exact .nil
 | @cons p q ps qs h t ih=>
   rw[ah,ah];refine .cons ?_ ih;obtain⟨h1,h2⟩:=h;by_cases e:p.1=k
   ·rw[if_pos e,if_pos (h1.symm.trans e)];exact⟨h1,ry⟩
   ·rw[if_neg e,if_neg (λz=>e (h1.trans z))];exact⟨h1,h2⟩
def KV.put(r:KV k_ vs)(k:κ)(ry:RelV y u):KV (putK k_ k y) (stored vs k u):=by
 unfold putK stored;rw[r.any k];by_cases e:(vs.any λkv=>decide (kv.1=k))=c_
 ·rw[if_pos e,if_pos e];exact r.RX k ry
 ·rw[if_neg e,if_neg e];exact Paired.snoc r ⟨rfl,ry⟩
def KV.length{k_:List (κ×V)}{vs:List (κ×ak)}(r:KV k_ vs):k_.length=vs.length:=pG r
end
def sX(r:RelV (kV k) u):(bT P w).is k u=c_:=by
 cases k with
 |inl i=>obtain⟨t,e⟩:=(show ∃t,u=HE i t from r);subst e;exact Az P w i t
 |inr x=>obtain⟨t,e⟩:=(show ∃t,u=HD x t from r);subst e;exact Ay P w x t
theorem xj:∀{ks:List Key}{us:List ak},bW (ks.map kV) us->ItemsAre (bT P w) ks us
 |[],_,r=>by rw[ip]at r;cases r;exact .nil
 |k::ks,_,r=>by
   rw[ah]at r
   cases r with
   |cons h t=>exact .cons (sX h) (xj t)
abbrev KT(H:Hp):List (List Key×V)->List (List Key×aE×ak)->Prop:=jC λp q=>p.1=q.1/\H q.2.1=a_ (.tup (p.1.map kV))/\RelV p.2 q.2.2
def KT.val(r:KT H k_ xs)(k:List Key):vF (n6 k_ k) ((atKey xs k).map (·.2)):=by
 induction r with
 |nil=>exact ie
 | @cons p q ps qs h t ih=>
   obtain⟨h1,_,h2⟩:=h;by_cases e:p.1=k
   ·have e':q.1=k:=h1.symm.trans e;have b:atKey (q::qs) k=a_ q.2:=by simp[atKey,du,e']
    rw[qx e,b];exact h2
   ·have e':¬q.1=k:=λz=>e (h1.trans z);have b:atKey (q::qs) k=atKey qs k:=by simp[atKey,du,e']
    rw[n5 e,b];exact ih
def KT.RX(r:KT H k_ xs)(k:List Key)(ry:RelV y u) :
  KT H (k_.map λkv=>if kv.1=k then(kv.1,y)else kv) (xs.map (putAt k u)):=by
 induction r with
 |nil=>exact .nil
 | @cons p q ps qs h t ih=>
   rw[ah,ah];refine .cons ?_ ih;obtain⟨h1,h2,h3⟩:=h;unfold putAt;by_cases e:p.1=k
   ·rw[if_pos e,if_pos (h1.symm.trans e)];exact⟨h1,h2,ry⟩
   ·rw[if_neg e,if_neg (λz=>e (h1.trans z))];exact⟨h1,h2,h3⟩
def KT.put(r:KT H k_ xs)(k:List Key)(hb:H b=a_ (.tup (k.map kV)))(ry:RelV y u) :
  KT H (putK k_ k y) (storedH xs k b u):=by
 have e:(k_.any λkv=>decide (kv.1=k))=(atKey xs k).isSome:=by
  rw[zO,(r.val k).mH,rn]
 unfold putK storedH;rw[e];by_cases q:(atKey xs k).isSome=c_
 ·rw[if_pos q,if_pos q];exact r.RX k ry
 ·rw[if_neg q,if_neg q];exact Paired.snoc r ⟨rfl,hb,ry⟩
def KT.keeps(r:KT H k_ xs)(ht:∀b ys,H b=a_ (.tup ys)->H' b=a_ (.tup ys)):KT H' k_ xs:=
 Paired.Te r λ_ _ z=>⟨z.1,ht _ _ z.2.1,z.2.2⟩
section
def Qk(ok:pe P w H h)(e:Rd H a u):iH P w H h a u:=e.ok ok
def xy(ok:pe P w H h)(e:Rd H a (.dK k_)):k_.length<=aD/\(a == sysModules)=d_/\∃vs,KV k_ vs/\h.DictOf (bT P w) a vs:=
 show iH P w H h a (.dK k_)from Qk ok e
def QD(ok:pe P w H h)(e:H a=a_ (.dK k_)):k_.length<=aD/\(a == sysModules)=d_/\∃vs,KV k_ vs/\h.DictOf (bT P w) a vs:=xy ok (.inl e)
def vf{ks:List Key}(ok:pe P w H h)(e:H a=a_ (.tup (ks.map kV))):(tupleKind (bT P w)).is h ks a:=by
 obtain⟨_,its,r,o,h1,h2,n,h3⟩:=(show iH P w H h a (.tup (ks.map kV))from ok a _ e)
 exact⟨o,its.toArray,n,h1,h2,h3,by simpa using xj r⟩
def Bj(ok:pe P w H h)(e:Rd H a (.dT k_)):k_.length<=aD/\(a == sysModules)=d_/\
  ∃xs,KT H k_ xs/\h.DictOfH (tupleKind (bT P w)) a xs:=by
 obtain⟨z,y,xs,r,o,es,ep,h1,h2,h3,h4,h5⟩:=(show iH P w H h a (.dT k_)from Qk ok e)
 refine⟨z,y,xs,r,o,es,ep,h1,h2,h3,h4,λx hx=>?_,h5⟩
 have all:∀{l:List (List Key×V)}{m:List (List Key×aE×ak)},KT H l m->∀x∈m,(tupleKind (bT P w)).is h x.1 x.2.1:=by
  intro l m q
  induction q with
  |nil=>intro x hx;exact nomatch hx
  | @cons p q ps qs hq t ih=>
    intro x hx
    rcases aq.mp hx with e|hx
    ·subst e;exact vf ok (by rw[<-hq.1];exact hq.2.1)
    ·exact ih x hx
 exact all r x hx
def Xi(ok:pe P w H h)(e:H a=a_ (.dT k_)):k_.length<=aD/\(a == sysModules)=d_/\
  ∃xs,KT H k_ xs/\h.DictOfH (tupleKind (bT P w)) a xs:=Bj ok (.inl e)
end
def wc(H:Hp)(a:aE)(y:V)(r:Option V):Prop:=
 (∃k_ k,Rd H a (.dK k_)/\y=kV k/\r=n6 k_ k)\/∃k_ k b,Rd H a (.dT k_)/\y=.ref b/\H b=a_ (.tup (k.map kV))/\r=n6 k_ k
def PR(H:Hp)(a:aE)(y v:V)(H':Hp):Prop:=
 (∃k_ k,H a=a_ (.dK k_)/\y=kV k/\k_.length<aD/\H'=upd H a (.dK (putK k_ k v)))\/
 ∃k_ k b,H a=a_ (.dT k_)/\y=.ref b/\H b=a_ (.tup (k.map kV))/\k_.length<aD/\H'=upd H a (.dT (putK k_ k v))
def wc.k{H:Hp}{a:aE}{k_:List (Key×V)}{k:Key}(e:H a=a_ (.dK k_)):wc H a (kV k) (n6 k_ k):=.inl ⟨k_,k,.inl e,rfl,rfl⟩
def PR.k{H:Hp}{a:aE}{k_:List (Key×V)}{k:Key}{v:V}(e:H a=a_ (.dK k_))(hl:k_.length<aD):PR H a (kV k) v (upd H a (.dK (putK k_ k v))):=.inl ⟨k_,k,e,rfl,hl,rfl⟩
section
variable{A:cm}
def Inv.big(I:Inv X h_ σ H s):sysModules<s.heap.objs.size:=by
 have h:mainGlobals<s.heap.objs.size:=(I.mod.glob.keeps I.bk).lt;exact iu bG h
def GX(hu:A.units+1<cP)(I:Inv X h_ σ H s)(g:wc H a y (a_ v))(ry:RelV y u)(h:∀w' s',Inv X h_ σ H s'->RelV v w'->Q w' s') :
  ax (aB X.prog X.w) A (getItem (.ref a) u) Q E s:=by
 rcases g with⟨k_,k,e,ey,l⟩|⟨k_,k,b,e,ey,eb,l⟩
 ·subst ey;obtain⟨z,hd,vs,rel,dd⟩:=xy I.hok e;obtain⟨w',hw,rw'⟩:=vF.some_of (v:=v) (o:=valueAt vs k) (by rw[l];exact rel.val k);exact wpAny_getItem_of (sX ry) dd.mapOf hw (h w' _ (I.tok _) rw')
 ·subst ey;cases(show u=bI b from ry);obtain⟨z,hd,xs,rel,dd⟩:=Bj I.hok e;obtain⟨w',hw,rw'⟩:=vF.some_of (v:=v) (o:=(atKey xs k).map (·.2)) (by rw[l];exact rel.val k);obtain⟨p,hp,hp2⟩:=er hw;refine wpAny_getItem_heap (mT hu) (vf I.hok eb) dd hp ?_;rw[hp2];exact h w' _ (I.tok _) rw'
def Zr(hu:A.units+1<cP)(I:Inv X h_ σ H s)(g:wc H a y o)(ry:RelV y u)(h:∀s',Inv X h_ σ H s'->Q (.bool o.isSome) s') :
  ax (aB X.prog X.w) A (compareOp .In u (.ref a)) Q E s:=by
 rcases g with⟨k_,k,e,ey,l⟩|⟨k_,k,b,e,ey,eb,l⟩
 ·subst ey;obtain⟨z,hd,vs,rel,dd⟩:=xy I.hok e;refine wpAny_in_of (sX ry) hd dd.mapOf ?_;rw[<-(rel.val k).mH,<-l];exact h _ (I.tok _)
 ·subst ey;cases(show u=bI b from ry);obtain⟨z,hd,xs,rel,dd⟩:=Bj I.hok e;refine FA (mT hu) (vf I.hok eb) hd dd ?_;have q:=(rel.val k).mH;rw[rn]at q;rw[<-q,<-l];exact h _ (I.tok _)
def O2(hu:A.units+1<cP)(I:Inv X h_ σ H s)(g:wc H a y o)(ry:RelV y u)(h:∀s',Inv X h_ σ H s'->Q (.bool (!o.isSome)) s') :
  ax (aB X.prog X.w) A (compareOp .NotIn u (.ref a)) Q E s:=by
 rcases g with⟨k_,k,e,ey,l⟩|⟨k_,k,b,e,ey,eb,l⟩
 ·subst ey;obtain⟨z,hd,vs,rel,dd⟩:=xy I.hok e;refine wpAny_notIn_of (sX ry) hd dd.mapOf ?_;rw[<-(rel.val k).mH,<-l];exact h _ (I.tok _)
 ·subst ey;cases(show u=bI b from ry);obtain⟨z,hd,xs,rel,dd⟩:=Bj I.hok e;refine wpAny_notIn_heap (mT hu) (vf I.hok eb) hd dd ?_;have q:=(rel.val k).mH;rw[rn]at q;rw[<-q,<-l];exact h _ (I.tok _)
def zd(I:Inv X h_ σ H s)(mu:VA (H a))(hs:dP a s.heap h')(he:∃q,h'.get? a=a_ q)(new:iH X.prog X.w (upd H a ob) h' a ob) :
  Inv X h_ σ (upd H a ob) { s with heap:=h',toks:=t' }:=
 I.write (x:=a) (e:=a) mu (.inl rfl) (λb q hb z=>(hs.2 b hb).trans z) he new
def UC{h':bM}{k_:List (Key×V)}(z:k_.length<=aD)(hd:(a == sysModules)=d_)(rel:KV k_ vs)(dd:h'.DictOf (bT P w) a vs) :
  iH P w H' h' a (.dK k_):=⟨z,hd,vs,rel,dd⟩
def GW(hu:A.units+1<cP)(I:Inv X h_ σ H s)(g:PR H a y v H')(ry:RelV y u)(rv:RelV v r)(h:∀s',Inv X h_ σ H' s'->Q () s') :
  ax (aB X.prog X.w) A (setItem (.ref a) u r) Q E s:=by
 rcases g with⟨k_,k,e,ey,l,eH⟩|⟨k_,k,b,e,ey,eb,l,eH⟩
 ·subst ey eH;obtain⟨z,hd,vs,rel,dd⟩:=QD I.hok e;have hz:vs.length<=aD:=by rw[<-rel.length];exact z
  have hl:(putK k_ k v).length<=aD:=by have:=sW k_ k v;exact ae this l
  refine wpAny_setItem_pairs (hsz:=hz) (sX ry) dd λh' dd' hs=>h _ ?_;have he:∃q,h'.get? a=a_ q:=let ⟨q,_,_,hq,_⟩:=dd';⟨q,hq⟩;exact zd I (by rw[e];exact ie) hs he (UC hl hd (rel.put k rv) dd')
 ·subst ey eH;cases(show u=bI b from ry);obtain⟨z,hd,xs,rel,dd⟩:=Xi I.hok e;have hz:xs.length<=aD:=by rw[<-pG rel];exact z
  have hl:(putK k_ k v).length<=aD:=by have:=sW k_ k v;exact ae this l
  refine wpAny_setItem_heap (hsz:=hz) (mT hu) (vf I.hok eb) dd λh' dd' hs=>h _ ?_;obtain⟨q,es,ep,hq,h2,h3,h4,_,h5⟩:=dd';refine zd I (by rw[e];exact ie) hs ⟨q,hq⟩ ⟨hl,hd,_,(rel.put k eb rv).keeps λc ys ec=>?_,q,es,ep,hq,h2,h3,h4,h5⟩;rw[bq (WG ec e (λz=>nomatch z))];exact ec
end
section
def Xl(I:Inv X h_ σ H s)(e:Rd H a (.dK k_))(h:∀t s',Inv X h_ σ H s'->Q (.int k_.length t) s'):ax (aB X.prog X.w) A (call (.builtin "len") [.ref a]) Q E s:=by
 obtain⟨z,hd,vs,rel,dd⟩:=xy I.hok e;refine call_len_dict hd dd (by rw[<-rel.length];rw[bu]at z;exact dX (dR.mpr z) bG) ?_;rw[<-rel.length];exact h _ _ (I.tok _)
end
def Bk(I:Inv X h_ σ H s)(g:wc H a y o):s.TypeIs (.ref a) "dict":=by
 rcases g with⟨k_,k,e,_,_⟩|⟨k_,k,b,e,_,_,_⟩
 ·obtain⟨_,_,vs,_,dd⟩:=xy I.hok e;exact dd.typeIs
 ·obtain⟨_,_,xs,_,dd⟩:=Bj I.hok e;exact dd.typeIs
section
variable{tv:TE}
end
def K7(h:bM)(hb:sysModules<h.objs.size):iH P w H (h.push { cls:=.type "dict",data:=.dict #[] }) h.objs.size (.dK []):=
 ⟨bQ _,beq_eq_false_iff_ne.mpr (fJ (bc hb)),[],.nil,Heap.DictOf.new h⟩
def Q4:TE:=λ_ H Q=>∀p,H p=b_->Q (.ref p) (upd H p (.dK []))
section
def JE:PE X (.Dict [] [] pos) Q4:=λh_ s σ H Q I h=>
 wpAny_Dict_empty ⟨.ref s.heap.objs.size,_,I.laid (a:=s.heap.objs.size) (o:=.dK []) (t':=s.toks) (λ_ _ q=>hp9 _ q) (aI _) (K7 s.heap I.big),rfl,h _ (I.hok.fresh (aI _))⟩
end
structure M1(X:Cx)(o:aV)(m:a8)(apos:rE)(e:aV)(cpos:rE):Prop where
 base:attributeBase o m X.env (eval o X.env)=eval o X.env
 few:((backTo cpos (aG [e] X.env)).all (λx=>!x.1) && (backToKw cpos (keywordEach [] X.env)).all (λx=>x.1.isSome)
  && decide (([e]:List aV).length+([]:List vL).length+(if([]:List vL).isEmpty then 0 else 1)<30))=c_
 line:(apos.endLine == cpos.line)=c_
 trees:backTo cpos (aG [e] X.env)=[(d_,eval e X.env)]
structure M2(X:Cx)(o:aV)(m:a8)(apos:rE)(e f:aV)(cpos:rE):Prop where
 base:attributeBase o m X.env (eval o X.env)=eval o X.env
 few:((backTo cpos (aG [e,f] X.env)).all (λx=>!x.1) && (backToKw cpos (keywordEach [] X.env)).all (λx=>x.1.isSome)
  && decide (([e,f]:List aV).length+([]:List vL).length+(if([]:List vL).isEmpty then 0 else 1)<30))=c_
 line:(apos.endLine == cpos.line)=c_
 trees:backTo cpos (aG [e,f] X.env)=[(d_,eval e X.env),(d_,eval f X.env)]
section
end
section
end
section
end
section
end
def PL(a C:aE):bM->Prop:=λh=>∃t,h.get? a=a_ { cls:=.ref C,data:=.fields #[.ref t,.none,.none,.none,.bool d_,.none] }
def XR(a C dx:aE):bM->Prop:=λh=>∃t,h.get? a=a_ { cls:=.ref C,dict:=a_ dx,data:=.fields #[.ref t,.none,.none,.none,.bool d_,.none] }
structure U6(K:aA)(C:aE)(f:a8):Prop where
 over:HW K C=c_
 no:lq K (.ref C) f=a_ b_
 sa:lq K (.ref C) "__setattr__"=a_ (a_ (.builtin "object.__setattr__"))
section
def Ml(I:Inv X h_ σ H s)(e:H a=a_ (.ext (PL a C)))(c:U6 X.K C f)(ry:RelV y u)
  (h:∀dx s',H dx=b_->dx≠a->Inv X h_ σ (upd (upd H a (.ext (XR a C dx))) dx (.xd [(f,y)])) s'->Q () s'):ax (aB X.prog X.w) A (setAttr (.ref a) f u) Q E s:=by
 obtain⟨⟨t,ho⟩,_,_⟩:=I.hok a _ e;have IA:PySem.W.InstAt s.heap a { cls:=.ref C,data:=.fields #[.ref t,.none,.none,.none,.bool d_,.none] } C b_:=⟨ho,rfl,rfl,ie⟩
 refine PySem.W.set_plain I.tJ IA c.sa (NI (s:={ s with toks:=s.toks+1 }) rfl I.tJ IA c.over c.no λh' tk' h1 h2 h3 h4=>?_);have nd:s.heap.get? s.heap.objs.size=b_:=pg (aI _);have hd:H s.heap.objs.size=b_:=I.hok.fresh (aI _);have na:s.heap.objs.size≠a:=λz=>by rw[z]at nd;rw[ho]at nd;cases nd
 have hne:∀b,b≠a->b≠s.heap.objs.size->upd (upd H a (.ext (XR a C s.heap.objs.size))) s.heap.objs.size (.xd [(f,y)]) b=H b:=λb n1 n2=>by rw[bq n2,bq n1]
 have ea:upd (upd H a (.ext (XR a C s.heap.objs.size))) s.heap.objs.size (.xd [(f,y)]) a=a_ (.ext (XR a C s.heap.objs.size)):=by rw[bq na.symm,bh]
 have tr:∀b o,H b=a_ o->b≠s.heap.objs.size:=λb o z q=>by rw[q,hd]at z;cases z
 have nb:∀b o,s.heap.get? b=a_ o->b≠s.heap.objs.size:=λb o z q=>by rw[q,nd]at z;cases z
 have fr:∀b,H b=b_->b≠a:=λb z q=>by rw[q,e]at z;cases z
 have kp:∀b o,s.heap.get? b=a_ o->b≠a->h'.get? b=a_ o:=λb o z n=>h3 b o n z;refine h s.heap.objs.size _ hd na (I.un (t':=tk') (h':=h') ⟨λb o z n _ _=>kp b o z (fr b n),λb o z n _ _=>⟨o.slots,kp b o z (fr b n)⟩,λb o z n _=>?_,λb o z _=>?_,λb xs z=>?_,λb o u z=>?_,λb ps z=>?_⟩ λb o z=>?_)
 ·rw[hne b (fr b n) (nb b o z)];exact n
 ·by_cases q:b=a
  ·subst q;exact⟨_,h1⟩
  ·exact⟨o,kp b o z q⟩
 ·have n:b≠a:=λq=>by rw[q,e]at z;cases z
  rw[hne b n (tr b _ z)];exact z
 ·have n:b≠a:=λq=>by rw[q,e]at z;cases z
  rw[hne b n (tr b _ z)];exact z
 ·have n:b≠a:=λq=>by rw[q,e]at z;cases z
  exact⟨#[],by rw[hne b n (tr b _ z)];simpa using z⟩
 ·by_cases q:b=s.heap.objs.size
  ·subst q;rw[bh]at z;cases z;refine⟨_,h2,λg=>?_⟩;show vF (List.lookup g [(f,y)]) (if g=f then a_ u else b_);by_cases q:g=f
   ·subst q;rw[if_pos rfl,cy,beq_self_eq_true];exact ry
   ·rw[if_neg q,cy,beq_eq_false_iff_ne.mpr q];exact ie
  ·by_cases q2:b=a
   ·subst q2;rw[ea]at z;cases z;exact⟨⟨t,h1⟩,⟨_,h1⟩,λh1 h2 ⟨t,q⟩ k=>⟨t,k _ q⟩⟩
   ·rw[hne b q2 q]at z;refine(I.hok b o z).mr (λc w' hc qq=>kp c w' qq λy=>?_) (λc q=>?_) λc xs q=>?_
    ·rcases hc with rfl|hc
     ·exact q2 y
     ·rw[y,e]at hc;cases hc
    ·have n:c≠a:=λy=>by rw[y,e]at q;cases q
     rw[hne c n (tr c _ q)];exact q
    ·have n:c≠a:=λy=>by rw[y,e]at q;cases q
     rw[hne c n (tr c _ q)];exact q
end
end L2
namespace L2
open PySem PySem.Spec PyProof.Rows PySem.Calls
noncomputable abbrev bmV:List ak:=[.type "ValueError",.type "Exception",.type "BaseException",.type "object"]
def uC(K:aA)(C fI:aE):Bool:=match K.lookup C with
 | some ⟨.type "type",_,.cls cd,sl⟩=>(match cd.mro,sl.toList with
   |.ref C'::bm,[_,_,_,_,a_ (.builtin n),_]=>C' == C && n == "ValueError.__new__" && !cd.hasDel && PySem.W.tailIn K bmV bm && PySem.W.nsOkIn K cd.ns && eB K cd.ns "__init__" == a_ (a_ (.ref fI)) && ql K (.ref fI)
   |_,_=>d_)
 |_=>d_
set_option tactic.hygienic true
def N1{K:aA}(X:K.In h)(G:h.Ns N m)(e:eB K N n=a_ (a_ v)):m n=a_ v:=by
 obtain⟨o,es,ep,ho,hd,_,hf⟩:=G;unfold eB at e;split at e
 ·rename_i q;have z:=X _ _ q;rw[ho]at z;cases z;cases hd;split at e
  ·rename_i en he;cases e;rw[<-hf];unfold nsFind findBy;rw[<-Array.find?_toList,he];rfl
  ·split at e<;>cases e
 ·cases e
def JI{K:aA}{fI:aE}(X:K.In h)(q:uC K C fI=c_) :
  ∃bm N nm q bs hdct sn sub ab col dd k0 k1 k2 k3 k5 mN,h.get? C=a_ (excClassObj nm q C N bs bm hdct sn sub ab col dd k0 k1 k2 k3 k5 "ValueError.__new__")/\h.Ns N mN/\mN "__init__"=a_ (.ref fI)/\OwnTail h bmV bm/\ql K (.ref fI)=c_:=by
 unfold uC at q;split at q
 ·rename_i dd cd sl ho;split at q
  ·rename_i C' bm k0 k1 k2 k3 n k5 hm hs;simp only[af,beq_iff_eq,fj]at q;obtain⟨⟨⟨⟨⟨⟨rfl,rfl⟩,hdel⟩,ht⟩,hok⟩,hni⟩,hfn⟩:=q;obtain⟨nm,bs,mro,ns,qn,hd,sn,sub,ab,col,del⟩:=cd;dsimp only at hm hdel hok hni;subst hm hdel
   have hsl:sl=#[k0,k1,k2,k3,a_ (.builtin "ValueError.__new__"),k5]:=by
    obtain⟨l⟩:=sl;simp only at hs;rw[hs]
   subst hsl;have G:h.Ns ns (h.nsMap ns):=.of_isNs (PySem.W.isNs_of_in X hok);exact⟨bm,ns,nm,qn,bs,hd,sn,sub,ab,col,dd,k0,k1,k2,k3,k5,_,X _ _ ho,G,N1 X G hni,PySem.W.tail_of_in X ht,hfn⟩
  ·cases q
 ·cases q
set_option tactic.hygienic false
def uH(C:aE)(f:a8):Sp:=λvs H Q _=>∃a y,vs=[.ref a,y]/\H a=a_ (.ext (PL a C))/\∀dx,H dx=b_->dx≠a->Q .non (upd (upd H a (.ext (XR a C dx))) dx (.xd [(f,y)]))
section
variable{f:a8}{pos:rE}{ta tv:TE}
def sXf(K:aA)(ta tv:TE)(f:a8):TS:=λD σ H=>tv σ H λy H1=>ta σ H1 λx H2=>∃a C,x=.ref a/\H2 a=a_ (.ext (PL a C))/\U6 K C f/\∀dx,H2 dx=b_->dx≠a->D.nx σ (upd (upd H2 a (.ext (XR a C dx))) dx (.xd [(f,y)]))
def NA(ha:PE X o ta)(hv:PE X value tv)(hs:swapsWith value (a_ (.Attribute o f pos')) pos.line X.env=pure d_):PS X (.Assign [.Attribute o f pos'] value pos) (sXf X.K ta tv f):=by
 intro h_ s σ H D I h;refine plainObj_wpAny_Assign_Attribute (hZ (hv h_ s σ H _ I h) λu s1 ⟨y,H1,I1,ry,q⟩=>hZ (ha h_ s1 σ H1 _ I1 q) λov s2 ⟨x,H2,I2,rx,a,C,ex,ea,c,q2⟩=>?_) hs;subst ex;obtain rfl:ov=bI a:=rx;exact Ml I2 ea c ry λdx s3 n1 n2 I3=>⟨σ,_,I3,q2 dx n1 n2⟩
end
section
variable{K:aA}{base:bM}
def OP{st:i8}{fI:aE}(F:Z5 K x qual st fI fd)(S:o4 ["self",f] ["self",f] (cV st))(hb:jj st=[.Assign [.Attribute (.Name "self" p1) f p2] (.Name f p3) p4])(c:U6 K C f)
  (hv1:LA (cV st) "self")(hv2:LA (cV st) f)(hd:(f == ("__debug__":a8))=d_)(hcd:(f == ("__classdict__":a8))=d_)
  (hs:∀env:HI,env.scope=cV st->swapsWith (.Name f p3) (a_ (.Attribute (.Name "self" p1) f p2)) p4.line env=pure d_):jx P w K mg base Fy (k+1) fI fd ["self",f] (uH C f):=by
 obtain⟨oc,od,kV,doc,pm,an,cdv,ct,osl,rfl,lk,hcd2⟩:=F.ex;refine Qy lk hcd2 S (λvs H Q E ⟨a,y,e,_⟩=>by rw[e];rfl) λA outer s H vs Q E hr ⟨a,y,e,ha,q⟩=>?_;subst e;rw[hb];refine⟨_,Ek (NA (pO (i:=0) rfl hv1 bG bG) (pO (i:=1) rfl hv2 hd hcd) (hs _ rfl)),?_⟩;exact⟨y,rfl,.ref a,rfl,a,C,rfl,ha,c,λdx n1 n2=>q dx n1 n2⟩
end
def iH.here(x:iH P w H h a o):∃ob,h.get? a=a_ ob:=by
 cases o with
 |lst xs=>obtain⟨_,_,_,_,e⟩:=x;exact⟨_,e⟩
 |tup xs=>obtain⟨_,_,_,o,e,_⟩:=x;exact⟨_,e⟩
 |dK k_=>obtain⟨_,_,_,_,o,_,_,e,_⟩:=x;exact⟨_,e⟩
 |dT k_=>obtain⟨_,_,_,_,o,_,_,e,_⟩:=x;exact⟨_,e⟩
 |dN xs=>obtain⟨_,_,o,_,_,e,_⟩:=x;exact⟨_,e⟩
 |set S n=>obtain⟨o,_,_,_,e,_⟩:=x;exact⟨_,e⟩
 |ins C dx fs=>obtain⟨_,_,_,e,_⟩:=x;exact⟨_,e⟩
 |own y=>exact x
 |xd fs=>obtain⟨_,⟨_,_,_,e,_⟩,_⟩:=x;exact⟨_,e⟩
 |rng lo hi=>obtain⟨_,_,_,e⟩:=x;exact⟨_,e⟩
 |kL ob u=>obtain⟨e,_⟩:=x;exact⟨_,e⟩
 |tbl ps=>exact⟨_,x⟩
 |met f y=>exact⟨_,x⟩
 |ext φ=>exact x.2.1
theorem pe.none(x:pe P w H h)(e:h.get? a=b_):H a=b_:=by
 cases q:H a with
 |none=>rfl
 |some o=>
   obtain⟨ob,z⟩:=(x a o q).here;rw[e]at z;cases z
structure Flt(P:cY)(w:dH)(outer:List HI)(H H':Hp)(h:bM)(a C dx:aE)(B h':bM):Prop where
 fly:nQ B outer a (.ref C) dx .none h'
 kp:∀b o,h.get? b=a_ o->H b=b_->b∉nF outer->B.get? b=a_ o
 th:∀b o,h.get? b=a_ o->b∉nF outer->∃o',B.get? b=a_ o'
 hok:pe P w H' B
 un:Un (nF outer) [] H H' h h'
 fr:H' a=b_
def tz(P:cY)(w:dH):Vh:=λouter H s E e s'=>∃(a C dx:aE) (H':Hp) (B:bM),e=.ref a/\s'.os=s.os/\kE s'.gens/\Flt P w outer H H' s.heap a C dx B s'.heap/\E (.ref C) (a_ dx) H'
section
variable{K:aA}{base:bM}
def Mm(I0:Inv (mJ (tz P w) P w K mg base N qual scope f cd A outer s₀ H₀ E) h_ σ H s0)(hn:s0.heap.get? a=b_)
  (I:Inv (mJ (tz P w) P w K mg base N qual scope f cd A outer s₀ H₀ E) h_ σ (upd (upd H a (.ext (XR a C dx))) dx o) s)(hda:dx≠a)(q:E (.ref C) (a_ dx) (upd H dx o)) :
  (mJ (tz P w) P w K mg base N qual scope f cd A outer s₀ H₀ E).xe (.ref a) s:=by
 have ea:upd (upd H a (.ext (XR a C dx))) dx o a=a_ (.ext (XR a C dx)):=by rw[bq hda.symm,bh]
 have hb:∀b,b≠a->upd (upd H a (.ext (XR a C dx))) dx o b=upd H dx o b:=λb n=>by
  by_cases z:b=dx
  ·subst z;rw[bh,bh]
  ·rw[bq z,bq z,bq n]
 obtain⟨⟨t,ho⟩,_,_⟩:=I.hok a _ ea;have hst:nF (mJ (tz P w) P w K mg base N qual scope f cd A outer s₀ H₀ E).stack=s₀.heap.objs.size::nF outer:=rfl
 have na:∀b u,s₀.heap.get? b=a_ u->b≠a:=λb u z y=>by
  subst y;obtain⟨o',z'⟩:=I0.base.there b u z (by intro z;cases z);rw[hn]at z';cases z'
 have hne:∀b u,s₀.heap.get? b=a_ u->b∉nF outer->b∉a::nF (mJ (tz P w) P w K mg base N qual scope f cd A outer s₀ H₀ E).stack:=λb u e1 e2 z=>by
  rcases aq.mp z with z|z
  ·exact na b u e1 z
  ·rw[hst]at z
   rcases aq.mp z with z|z
   ·exact absurd (hl9 e1) (by rw[z];exact bp _)
   ·exact e2 z
 have hin:∀env∈(mJ (tz P w) P w K mg base N qual scope f cd A outer s₀ H₀ E).stack,∀b,env.frame=a_ b->b∈a::nF (mJ (tz P w) P w K mg base N qual scope f cd A outer s₀ H₀ E).stack:=λenv he b hb=>jd _ (rp.mpr ⟨env,he,hb⟩);refine C7 (base:=nu s.heap (a::nF (mJ (tz P w) P w K mg base N qual scope f cd A outer s₀ H₀ E).stack)) I.ok.frames (PySem.W.funFrames_hide I.stack hin) rfl ho (λb o q=>BP _ q) (zF _ iw) rfl rfl rfl λh'' x1 x4=>?_;have st:=x1.st
 have kp:∀b o,s₀.heap.get? b=a_ o->H₀ b=b_->b∉nF outer->(nu s.heap (a::nF (mJ (tz P w) P w K mg base N qual scope f cd A outer s₀ H₀ E).stack)).get? b=a_ o:=λb o e1 e2 e3=>
  kH _ (I.base.keep b o e1 e2 e3 (by intro z;cases z)) (hne b o e1 e3)
 have th:∀b o,s₀.heap.get? b=a_ o->b∉nF outer->∃o',(nu s.heap (a::nF (mJ (tz P w) P w K mg base N qual scope f cd A outer s₀ H₀ E).stack)).get? b=a_ o':=λb o e1 e3=>by
  obtain⟨o',z⟩:=I.base.there b o e1 (by intro z;cases z);exact⟨o',kH _ z (hne b o e1 e3)⟩
 have sl:∀b o,s₀.heap.get? b=a_ o->H₀ b=b_->b∈nF outer->∃sl,h''.get? b=a_ { o with slots:=sl }:=λb o e1 e2 e3=>by
  obtain⟨sl,z⟩:=I.base.slot b o e1 e2 e3 (by intro z;cases z);obtain⟨_,o2,e4,e5⟩:=I.ok.pS.mem e3;have e4:s₀.heap.get? b=a_ o2:=e4;rw[e1]at e4;cases e4;obtain⟨sl',z'⟩:=x4 b _ z e5;exact⟨sl',z'⟩
 have tr:∀b u,upd (upd H a (.ext (XR a C dx))) dx o b=a_ u->(∀φ,u≠.ext φ)->upd H dx o b=a_ u:=λb u z n=>by
  rw[<-hb b λy=>by subst y;rw[ea]at z;cases z;exact n _ rfl];exact z
 refine⟨a,C,dx,upd H dx o,_,rfl,I.os,I.bare,⟨x1,kp,th,λc u hc=>?_,⟨λb o e1 e2 e3 _=>st b o (kp b o e1 e2 e3),λb o e1 e2 e3 _=>sl b o e1 e2 e3,λb u e1 e2 _=>?_,λb o e1 _=>?_,λb xs z=>tr b _ (I.base.tups b xs z) (λ_ y=>by cases y),λb o u z=>tr b _ (I.base.frzs b o u z) (λ_ y=>by cases y),λb ps z=>?_⟩,?_⟩,q⟩
 ·have nca:c≠a:=λy=>by
   subst y;rw[bq hda.symm]at hc;rw[I0.hok.none hn]at hc;cases hc
  refine(I.hok c u (by rw[hb c nca];exact hc)).mr (λb v hb' hv=>?_) (λb z=>tr b _ z (λ_ y=>by cases y)) (λb xs z=>tr b _ z (λ_ y=>by cases y));refine kH _ hv λz=>?_
  rcases aq.mp z with z|z
  ·rcases hb' with y|hb'
   ·exact nca (y.symm.trans z)
   ·subst z;rw[ea]at hb';cases hb'
  ·have n:=I.yh b z
   rcases hb' with y|hb'
   ·subst y;rw[hb _ nca,hc]at n;cases n
   ·rw[hb']at n;cases n
 ·have z:=I.base.free b u e1 e2 (by intro z;cases z);rw[hb b (na b u e1)]at z;exact z
 ·by_cases hb:b∈nF outer
  ·have n:H₀ b=b_:=I.ok.frf b hb;obtain⟨sl,z⟩:=sl b o e1 n hb;exact⟨_,z⟩
  ·obtain⟨o',z⟩:=th b o e1 hb;exact⟨o',st b o' z⟩
 ·obtain⟨m,z⟩:=I.base.tbls b ps z;exact⟨m,tr b _ z (λ_ y=>by cases y)⟩
 ·rw[bq hda.symm];exact I0.hok.none hn
end
def Fv(X:Cx)(E:XK):Prop:=∀(h_:List (aE×kX))(σ:St)(H:Hp)(s0 s:aw)(a C dx:aE)(o:HO),Inv X h_ σ H s0->s0.heap.get? a=b_->Inv X h_ σ (upd (upd H a (.ext (XR a C dx))) dx o) s->dx≠a->E (.ref C) (a_ dx) (upd H dx o)->X.xe (.ref a) s
section
variable{K:aA}{base:bM}
def HX:Fv (mJ (tz P w) P w K mg base N qual scope f cd A outer s₀ H₀ E) E:=λh_ σ H s0 s a C dx o I0 hn I hda q=>Mm I0 hn I hda q
def Gs:oE (tz P w) (mJ (tz P w) P w K mg base N qual scope f cd A outer s₀ H₀ E) E:=λh_ σ H s e s' I hx=>by
 obtain⟨a,C,dx,H',B,rfl,ho,hg,F,q⟩:=hx;have hst:nF (mJ (tz P w) P w K mg base N qual scope f cd A outer s₀ H₀ E).stack=s₀.heap.objs.size::nF outer:=rfl
 have nf:∀b u,s₀.heap.get? b=a_ u->b∉nF outer->b∉nF (mJ (tz P w) P w K mg base N qual scope f cd A outer s₀ H₀ E).stack:=λb u e1 e2 z=>by
  rw[hst]at z
  rcases aq.mp z with z|z
  ·exact absurd (hl9 e1) (by rw[z];exact bp _)
  ·exact e2 z
 refine GI (base:=B) (L:=s₀.heap.objs.size) I.ok.frames rfl F.fly λh'' x1 x4=>?_;have kp:∀b o,s₀.heap.get? b=a_ o->H₀ b=b_->b∉nF outer->B.get? b=a_ o:=λb o e1 e2 e3=>F.kp b o (I.base.keep b o e1 e2 e3 (by intro z;cases z)) (I.base.free b o e1 e2 (by intro z;cases z)) (nf b o e1 e3)
 have th:∀b o,s₀.heap.get? b=a_ o->b∉nF outer->∃o',B.get? b=a_ o':=λb o e1 e3=>by
  obtain⟨o',z⟩:=I.base.there b o e1 (by intro z;cases z);exact F.th b o' z (nf b o e1 e3)
 have sl:∀b o,s₀.heap.get? b=a_ o->H₀ b=b_->b∈nF outer->∃sl,h''.get? b=a_ { o with slots:=sl }:=λb o e1 e2 e3=>by
  obtain⟨sl,z⟩:=I.base.slot b o e1 e2 e3 (by intro z;cases z);obtain⟨Qj,z2⟩:=F.un.slot b _ z (I.base.free b o e1 e2 (by intro z;cases z)) (by rw[hst];exact jd _ e3) (by intro z;cases z);obtain⟨_,o2,e4,e5⟩:=I.ok.pS.mem e3;have e4:s₀.heap.get? b=a_ o2:=e4;rw[e1]at e4;cases e4;obtain⟨sl',z'⟩:=x4 b _ z2 e5;exact⟨sl',z'⟩
 refine⟨a,C,dx,H',B,rfl,ho.trans I.os,hg,⟨x1,kp,th,F.hok,⟨λb o e1 e2 e3 _=>x1.st b o (kp b o e1 e2 e3),λb o e1 e2 e3 _=>sl b o e1 e2 e3,λb u e1 e2 _=>?_,λb o e1 _=>?_,λb xs z=>F.un.tups b xs (I.base.tups b xs z),λb o u z=>F.un.frzs b o u (I.base.frzs b o u z),λb ps z=>?_⟩,F.fr⟩,q⟩
 ·obtain⟨o',z⟩:=I.base.there b u e1 (by intro z;cases z);exact F.un.free b o' z (I.base.free b u e1 e2 (by intro z;cases z)) (by intro z;cases z)
 ·by_cases hb:b∈nF outer
  ·obtain⟨sl,z⟩:=sl b o e1 (I.ok.frf b hb) hb;exact⟨_,z⟩
  ·obtain⟨o',z⟩:=th b o e1 hb;exact⟨o',x1.st b o' z⟩
 ·obtain⟨m,z⟩:=I.base.tbls b ps z;obtain⟨m2,z2⟩:=F.un.tbls b _ z;exact⟨m++m2,by rw[<-FQ];exact z2⟩
end
def OF{K:aA}{fI:aE}(h:ql K (.ref fI)=c_):∃oI,K.lookup fI=a_ oI/\oI.cls=.type "function":=let ⟨o,h1,h2⟩:=er (beq_iff_eq.mp h);⟨o,h1,h2⟩
section
variable{fI:aE}
def Js(hw:Fv X E)(hcalm:X.calm=c_)(hg:Gl X x)(hm:X.mg x=a_ (.ref C))(q:uC X.K C fI=c_)(hd:(x == ("__debug__":a8))=d_)(F:jx X.prog X.w X.K X.mg X.base Fy k fI fd ["self",f] (uH C f))(hr:je (k+1) X.A)(hb:Binds X.K fd ["self",f] [])(ha:PA X.kZ [e₀] t)
  (he:aG [e₀] X.env=[(d_,eval e₀ X.env)]) :
  PS X (.Raise (a_ (.Call (.Name x np) [e₀] [] cpos)) b_ pos) (λ_ σ H=>t σ H λvs H1=>∃v,vs=[v]/\∀dx,H1 dx=b_->E (.ref C) (a_ dx) (upd H1 dx (.xd [(f,v)]))):=by
 intro h_ s σ H D I h;obtain⟨tl,N,nm,q',bs,hdct,sn,sub,ab,col,dd,k0,k1,k2,k3,k5,mN,hC,hN,hi,T,hfn⟩:=JI I.mod.kin q;refine CK (C:=C) (nm:=nm) (q:=q') (N:=N) (bs:=bs) (bm:=tl) (hdct:=hdct) (sn:=sn) (sub:=sub) (ab:=ab) (col:=col) (dd:=dd) (k0:=k0) (k1:=k1) (k2:=k2) (k3:=k3) (k5:=k5) ur (mN:=mN) (T.hasType ur.hasBase) (I.ok.hd hcalm) (by rw[he];rfl) hi (oU I hg hm ⟨rfl,?_⟩ hd);have h:=ha cpos h_ s σ H _ (I.n4 _) h;rw[he]at h ⊢;refine BV (bE h (λus s₂ ⟨vs,H1,I1,r,v,ev,q2⟩=>?_) λ_ _ y=>bB y);subst ev;have I1:=I1.iT;obtain⟨u,rfl,ru⟩:=r.one;obtain⟨oI,hI,hIc⟩:∃oI,X.K.lookup fI=a_ oI/\oI.cls=.type "function":=OF hfn
 have I2:Inv X h_ σ (upd H1 (s₂.heap.objs.size+1) (.ext (PL (s₂.heap.objs.size+1) C))) { s₂ with heap:=Gk s₂.heap C [u],toks:=s₂.toks }:=by
  have hX:(Gk s₂.heap C [u]).get? (s₂.heap.objs.size+1)=a_ { cls:=.ref C,data:=.fields #[.ref s₂.heap.objs.size,.none,.none,.none,.bool d_,.none] }:=by heap_get
  exact I1.laid (λb o z=>hp9 _ (hp9 _ z)) (kP _) ⟨⟨_,hX⟩,⟨_,hX⟩,λh1 h2 ⟨t,z⟩ k=>⟨t,k _ z⟩⟩
 have nn:H1 (s₂.heap.objs.size+1)=b_:=I1.hok.fresh (kP _);refine⟨rfl,by show 1<=aD;decide,I1.bk _ _ hC,hN.keeps I1.bk,T.keeps I1.bk,⟨oI,I1.tJ _ _ hI,hIc⟩,?_⟩;have hb':=hb { s₂ with heap:=Gk s₂.heap C [u] } [.ref (s₂.heap.objs.size+1),u] I2.tJ rfl
 refine uo (gQ (F.run _ X.stack _ _ ⟨[.ref (s₂.heap.objs.size+1),u],[]⟩ [.ref (s₂.heap.objs.size+1),u] [.ref (s₂.heap.objs.size+1),v] (λz H2=>z=.non/\∃dx,H1 dx=b_/\dx≠s₂.heap.objs.size+1/\H2=upd (upd H1 (s₂.heap.objs.size+1) (.ext (XR (s₂.heap.objs.size+1) C dx))) dx (.xd [(f,v)])) E0 (hr.make C [u] []) (I2.Uy.make C [u] []) hb' (.cons rfl (.cons ru .nil))
  ⟨_,v,rfl,bh,λdx n1 n2=>⟨rfl,dx,by rw[bq n2]at n1;exact n1,n2,by rw[Mt]⟩⟩) λr s₃ hq=>?_)
 cases r with
 |error e=>exact bB hq
 |ok fl=>
   cases fl with
   |ret z=>
     obtain⟨vz,H2,I3,rz,ez,dx,n1,n2,e2⟩:=I2.after hq;subst ez e2;have ex:upd (upd H1 (s₂.heap.objs.size+1) (.ext (XR (s₂.heap.objs.size+1) C dx))) dx (.xd [(f,v)]) (s₂.heap.objs.size+1)=a_ (.ext (XR (s₂.heap.objs.size+1) C dx)):=by rw[bq n2.symm,bh]
     obtain⟨⟨t,ht⟩,_,_⟩:=I3.hok _ _ ex;exact⟨rz,I3.bk _ _ hC,⟨t,dx,ht⟩,hw h_ σ H1 s₂ s₃ _ C dx _ I1 (pg (kP _)) I3 n2 (q2 dx n1)⟩
   |next=>exact bB hq
   |brk=>exact bB hq
   |cont=>exact bB hq
end
section
def Flt.SY(F:Flt P w outer H H' h a C dx B h'):a∉nF outer:=λz=>by
 obtain⟨_,o,e1,e2⟩:=F.fly.fr.mem z;obtain⟨oe,vs,T,oT,ts,he,_,_,hd,_⟩:=F.fly.tr;rw[e1]at he;cases he;exact e2 vs hd
def Flt.new(F:Flt P w outer H H' h a C dx B h'):h.get? a=b_:=by
 cases q:h.get? a with
 |none=>rfl
 |some o=>
   obtain⟨o',z⟩:=F.th a o q F.SY;rw[F.fly.en]at z;cases z
def Flt.there(F:Flt P w outer H H' h a C dx B h'):XO a C dx h':=let ⟨oe,vs,h1,h2,h3,h4⟩:=F.fly.there;⟨oe,h1,h2,h3,vs,h4⟩
def Flt.step(F:Flt P w outer H H' h a C dx B h')(f2:nQ B outer a (.ref C) dx .none h'')(u:h'.UpToSlots h''):Flt P w outer H H' h a C dx B h'':=by
 refine⟨f2,F.kp,F.th,F.hok,⟨λb o e1 e2 e3 _=>f2.st b o (F.kp b o e1 e2 e3),λb o e1 e2 e3 hx=>?_,F.un.free,λb o e1 hx=>?_,F.un.tups,F.un.frzs,F.un.tbls⟩,F.fr⟩
 ·obtain⟨sl,z⟩:=F.un.slot b o e1 e2 e3 hx;obtain⟨_,o2,e4,e5⟩:=F.fly.fr.mem e3;rw[z]at e4;cases e4;obtain⟨sl',z'⟩:=u b _ z e5;exact⟨sl',z'⟩
 ·by_cases hb:b∈nF outer
  ·obtain⟨_,o2,e4,e5⟩:=f2.fr.mem hb;exact⟨o2,e4⟩
  ·obtain⟨o',z⟩:=F.th b o e1 hb;exact⟨o',f2.st b o' z⟩
def Flt.Zf(F:Flt P w outer H H' h a C dx B h'):pe P w (upd H' a (.ext (XO a C dx))) h':=λb o e=>by
 by_cases hb:b=a
 ·subst hb;rw[bh]at e;cases e;obtain⟨oe,he,hc⟩:=F.there;exact⟨⟨oe,he,hc⟩,⟨oe,he⟩,λh1 h2 ⟨o1,q1,q2⟩ k=>⟨o1,k o1 q1,q2⟩⟩
 ·rw[bq hb]at e;refine((F.hok.kept λb u q=>F.fly.st b u q) b o e).mr (λ_ _ _ q=>q) (λc q=>?_) (λc xs q=>?_)
  ·rw[bq (cC q F.fr)];exact q
  ·rw[bq (cC q F.fr)];exact q
def Flt.un2(F:Flt P w outer H H' h a C dx B h'):Un (nF outer) [] H (upd H' a (.ext (XO a C dx))) h h' where
 keep:=F.un.keep
 slot:=F.un.slot
 free:=λb o e1 e2 e3=>by
  rw[bq (λz=>by subst z;rw[F.new]at e1;cases e1)];exact F.un.free b o e1 e2 e3
 there:=F.un.there
 tups:=λb xs q=>by have:=F.un.tups b xs q;rw[bq (cC this F.fr)];exact this
 frzs:=λb o xs q=>by have:=F.un.frzs b o xs q;rw[bq (cC this F.fr)];exact this
 tbls:=λb ps q=>by
  obtain⟨m,this⟩:=F.un.tbls b ps q;exact⟨m,by rw[bq (cC this F.fr)];exact this⟩
end
section
variable{X:Cx}{s':aw}
def Flt.inv(I:Inv X h_ σ H s)(F:Flt X.prog X.w X.stack H H' s.heap a C dx B s'.heap)(ho:s'.os=s.os)(hg:kE s'.gens):Inv X h_ σ (upd H' a (.ext (XO a C dx))) s':=
 I.QG ho F.un2 F.Zf hg λb z=>by cases z
noncomputable def Cx.Qv(X:Cx)(e:ak):Cx:={ X with A:=X.A.mark (a_ e),calm:=d_,xe:=λ_ _=>False }
def Inv.Qv(I:Inv X h_ σ H s)(e:ak):Inv (X.Qv e) h_ σ H s:=
 ⟨⟨I.ok.mod,I.ok.kind,I.ok.glob,I.ok.blt,I.ok.above,I.ok.inj,I.ok.has,I.ok.cab,(λz=>by cases z),I.ok.frames,I.ok.MC,I.ok.exf,I.ok.bs,I.ok.bsz,I.ok.noex,I.ok.exfs,I.ok.pS,I.ok.frf⟩,I.os,I.bare,I.base,I.loc,I.cell,I.free,I.freeC,I.pin,I.hok,I.len⟩
def Inv.YQ(ok:X.Ok)(I:Inv (X.Qv e) h_ σ H s):Inv X h_ σ H s:=
 ⟨ok,I.os,I.bare,I.base,I.loc,I.cell,I.free,I.freeC,I.pin,I.hok,I.len⟩
end
section
variable{A:cm}
def vY{K:aA}{rest:List FJ}
  (hx:gC K cls c=a_ c_)
  (h:ax (aB prog w) (A.mark (a_ (.ref e))) (eval t env) (λc' s₁=>c'=c/\K.In s₁.heap/\(∃oe,s₁.heap.get? e=a_ oe/\oe.cls=cls)/\
   ax (aB prog w) (A.mark (a_ (.ref e))) (setFlight (.ref e) b_) (λ_ s₂=>
       ax (aB prog w) (A.mark (a_ (.ref e))) (storeName env n (.ref e)) (λ_ s₃=>
        ax (aB prog w) (A.mark (a_ (.ref e))) (execs (b₀::suite) env)
         (λf s₄=>ax (aB prog w) A (do bindName env n .none;unbindBehindTheSuite env n pos) (λ_ s₅=>Q f s₅) E s₄)
         (AsSuiteRaised (aB prog w) (A.mark (a_ (.ref e))) env n pos (notedBy (aB prog w) (A.mark (a_ (.ref e))) env (cameBackBy (aB prog w) A env E))) s₃) (notedBy (aB prog w) (A.mark (a_ (.ref e))) env (cameBackBy (aB prog w) A env E)) s₂) (notedBy (aB prog w) (A.mark (a_ (.ref e))) env (cameBackBy (aB prog w) A env E)) s₁) (notedBy (aB prog w) (A.mark (a_ (.ref e))) env (cameBackBy (aB prog w) A env E)) s) :
  ax (aB prog w) A (handleBy (.ref e) env (.ExceptHandler (a_ t) (a_ n) (b₀::suite) pos::rest)) Q E s:=by
 refine wpAny_handleBy_cons (codeAny_handlers_test (bE h (λc s₁ h₁=>?_) λ_ _ y=>y)) (by intro q;cases q);obtain⟨rfl,KX,⟨oe,he,hcls⟩,hk⟩:=h₁;have LT:ig (aB prog w) s₁.heap (typeOf (.ref e)) cls:=by rw[<-hcls];exact(lr he).andThen .now
 exact PySem.W.exm_one KX LT hx _ _ _ s₁ (λ_ _ q=>q) (codeAny_handlers_suite_as hk)
end
section
set_option tactic.hygienic true in
def Inv.gone{h':bM}(I:Inv X h_ σ H s)(hN:X.N.Nodup)(hi:X.N[m]?=a_ n)(hk:X.env.scope.names.lookup n=a_ .local)(hn:s.heap.Ns X.env.locals mm)
  (h1:h'.Ns X.env.locals (λx=>if x=n then v else mm x))(hs:dP X.env.locals s.heap h'):Inv X h_ (σ.set m b_) H { s with heap:=h',toks:=t' }:=by
 obtain⟨m0,hn0,hl⟩:=id I.loc;obtain⟨oL,_,_,hoL,_⟩:=id hn
 have em:m0=mm:=by
  obtain⟨o1,es1,ep1,a1,a2,_,a4⟩:=id hn0;obtain⟨o2,es2,ep2,b1,b2,_,b4⟩:=id hn;rw[a1]at b1;cases b1;rw[a2]at b2;cases b2;funext x;rw[<-a4 x,<-b4 x]
 subst em;have neL:∀b o,X.s₀.heap.get? b=a_ o->b≠X.env.locals:=λb o e=>bc (aW (hl9 e) I.ok.above);have cellK:∀x c,X.env.cells.lookup x=a_ c->∀v,s.heap.IsCell c v->h'.IsCell c v:=λx c e v ⟨o,ho,hd⟩=>⟨o,(hs.2 c (I.QE x c e)).trans ho,hd⟩
 refine⟨I.ok,I.os,I.bare,⟨λb o e n hb hx=>?_,λb o e n hb hx=>?_,I.base.free,λb o e hx=>?_,I.base.tups,I.base.frzs,I.base.tbls⟩,⟨_,h1,λj y v' e1 e2 e3=>?_⟩,λy c e=>?_,I.free,I.freeC,λp hp=>?_,λb ob e=>?_,by simpa using I.len⟩
 ·exact(hs.2 b (neL b o e)).trans (I.base.keep b o e n hb hx)
 ·obtain⟨sl,e1⟩:=I.base.slot b o e n hb hx;exact⟨sl,(hs.2 b (neL b o e)).trans e1⟩
 ·obtain⟨o',e1⟩:=I.base.there b o e hx;exact⟨o',(hs.2 b (neL b o e)).trans e1⟩
 ·have hj:m≠j:=λz=>by
   subst z;rw[mi]at e2;split at e2
   ·split at e2<;>cases e2
   ·rename_i q;exact q rfl
  rw[cD hj]at e2
  have hyn:y≠n:=λz=>by
   subst z;exact hj ((List.getElem?_inj (bx.mp hi).1 hN).mp (hi.trans e1.symm))
  obtain⟨u,r,l⟩:=hl j y v' e1 e2 e3;refine⟨u,r,?_⟩
  rcases l with⟨l1,l2⟩|⟨k,c,e,z⟩
  ·exact .inl ⟨l1,by show(if y=n then v else m0 y)=a_ u;rw[if_neg hyn];exact l2⟩
  ·exact .inr ⟨k,c,e,cellK y c e _ z⟩
 ·obtain⟨v,z⟩:=I.cell y c e;exact⟨v,cellK y c e v z⟩
 ·obtain⟨e,n,ne,nf,d⟩:=I.pin p hp;exact⟨(hs.2 p.1 ne).trans e,n,ne,nf,d⟩
 ·refine(I.hok b ob e).mr (λc w' hc q=>(hs.2 c ?_).trans q) (λ_ q=>q) λ_ _ q=>q;rintro rfl
  rcases hc with rfl|hc
  ·rw[I.free]at e;cases e
  ·rw[I.free]at hc;cases hc
end
section
variable{X:Cx}{s':aw}{D:a8}{Dn:Ends}
def Lf(hN:X.N.Nodup)(hst:X.stack=X.env::X.outer)(hfm:X.env.frame=a_ X.env.locals)(hgD:Gl X D)(hmD:X.mg D=a_ (.ref CD))(hdD:(D == ("__debug__":a8))=d_)
  (hm:X.N[m]?=a_ n)(hlm:X.env.scope.names.lookup n=a_ .local)(hj:X.N[j]?=a_ y)(hlj:Loc X.env.scope y)(hfn:X.fn y=c_\/X.env.scope.names.lookup y=a_ .local)(hn1:(n == ("__debug__":a8))=d_)(hn2:(n == ("__classdict__":a8))=d_)
  (I:Inv X h_ σ H s)(F:Flt X.prog X.w X.stack H H' s.heap a C dx B s'.heap)(ho:s'.os=s.os)(hg:kE s'.gens)(hx:gC X.K (.ref C) (.ref CD)=a_ c_)
  (q:Dn.nx (((σ.set m (a_ (.ref a))).set j (a_ (.ref a))).set m b_) (upd H' a (.ext (XO a C dx)))) :
  ax (aB X.prog X.w) X.A (noteFrame (.ref a) X.env) (λ_ s₂=>ax (aB X.prog X.w) X.A (setFlight (.ref a) b_) (λ_ s₃=>ax (aB X.prog X.w) X.A (handleBy (.ref a) X.env [.ExceptHandler (a_ (.Name D dp)) (a_ n) [.Assign [.Name y py] (.Name n np) ypos] hpos])
   (SP X h_ Dn) X.xe s₃) X.xe s₂) X.xe s':=by
 rw[hst]at F;have hfr:X.A.frames=a_ (X.env::X.outer):=by rw[I.ok.frames,hst]
 refine Eu hfr hfm F.fly λh2 f2 u2=>?_;refine ua f2 λh3 f3 u3=>?_;have F3:=F.step f3 (u2.trans u3);have I3:Inv X h_ σ (upd H' a (.ext (XO a C dx))) { s' with heap:=h3 }:=Flt.inv I (by rw[hst];exact F3) ho hg;refine vY hx (oU (I3.Qv (.ref a)) hgD hmD ⟨rfl,I3.tJ,let ⟨oe,_,z1,z2,_⟩:=F3.fly.there;⟨oe,z1,z2⟩,?_⟩ hdD);refine ua F3.fly λh4 f4 u4=>?_;have F4:=F3.step f4 u4;have I4:Inv X h_ σ (upd H' a (.ext (XO a C dx))) { s' with heap:=h4 }:=Flt.inv I (by rw[hst];exact F4) ho hg;refine og I4 hN hm (.inl hlm) (v:=.ref a) rfl (λs5 I5=>?_) (.inr hlm)
 have hσ:(σ.set m (a_ (V.ref a)))[m]?=a_ (a_ (.ref a)):=by
  have:m<σ.length:=by rw[I.len];exact(bx.mp hm).1
  rw[jR this]
 have ps:DL (X.Qv (.ref a)) [.Assign [.Name y py] (.Name n np) ypos] (Cg (Iv m) (kh j)):=Ek (Jr (X:=X.Qv (.ref a)) hN hj hlj (pO (X:=X.Qv (.ref a)) hm (.inl hlm) hn1 hn2) rfl hfn);refine bE (ps h_ s5 _ _ { nx:=λσ1 H1=>σ1=(σ.set m (a_ (.ref a))).set j (a_ (.ref a))/\H1=upd H' a (.ext (XO a C dx)),rt:=λ_ _=>False } (I5.Qv _) ?_) (λfl s6 z=>?_) λ_ _ z=>bB z
 ·exact⟨_,hσ,rfl,rfl⟩
 ·cases fl with
  |next=>
    obtain⟨σ1,H1,I6,rfl,rfl⟩:=z;have I6:=I6.YQ I.ok;obtain⟨mm,hn,_⟩:=id I6.loc;refine wpAny_nameGoes_keeps hlm hn (by rw[I.ok.kind];rfl) λh7 v hn7 hs7=>?_;exact⟨_,_,I6.gone hN hm hlm hn hn7 hs7,q⟩
  |brk=>obtain⟨_,_,_,z⟩:=z;exact bB z
  |cont=>obtain⟨_,_,_,z⟩:=z;exact bB z
  |ret u=>obtain⟨_,_,_,_,_,z⟩:=z;exact bB z
end
section
variable{X:Cx}{i j m:Nat}{CD:aE}{sp:Sp}{D:a8}{t:TA}
def Mp(K:aA)(CD:aE)(Q:aE->Hp->Prop):XK:=λc d H=>∃C dx,c=.ref C/\d=a_ dx/\gC K (.ref C) (.ref CD)=a_ c_/\∀a,H a=b_->Q a (upd H a (.ext (XO a C dx)))
def VM(K:aA)(sp:Sp)(CD:aE)(i j m:Nat)(t:TA):TS:=λDn σ H=>t σ H λvs H1=>sp vs H1 (λv H2=>Dn.nx (σ.set i (a_ v)) H2)
 (Mp K CD λa H2=>Dn.nx (((σ.set m (a_ (.ref a))).set j (a_ (.ref a))).set m b_) H2)
def R8(hN:X.N.Nodup)(hst:X.stack=X.env::X.outer)(hfm:X.env.frame=a_ X.env.locals)(hgD:Gl X D)(hmD:X.mg D=a_ (.ref CD))(hdD:(D == ("__debug__":a8))=d_)
  (hi:X.N[i]?=a_ x)(hli:Loc X.env.scope x)(hfi:X.fn x=c_\/X.env.scope.names.lookup x=a_ .local)
  (hm:X.N[m]?=a_ n)(hlm:X.env.scope.names.lookup n=a_ .local)(hj:X.N[j]?=a_ y)(hlj:Loc X.env.scope y)(hfn:X.fn y=c_\/X.env.scope.names.lookup y=a_ .local)(hn1:(n == ("__debug__":a8))=d_)(hn2:(n == ("__classdict__":a8))=d_)
  (F:jx X.prog X.w X.K X.mg X.base (tz X.prog X.w) k f fd ps sp)(hr:je k X.A)(hg:Gl X fn)(hmf:X.mg fn=a_ (.ref f))(hk:de X.K (.ref f)=c_)(hb:Binds X.K fd ps [])(hdb:(fn == ("__debug__":a8))=d_)
  (ha:PA X.kZ (e::es) t)(he:aG (e::es) X.env=(d_,eval e X.env)::aG es X.env)(hpl:(backTo cpos (aG es X.env)).any (·.1)=d_) :
  PS X (.Try [.Assign [.Name x px] (.Call (.Name fn p) (e::es) [] cpos) apos] [.ExceptHandler (a_ (.Name D dp)) (a_ n) [.Assign [.Name y py] (.Name n np) ypos] hpos] [] [] pos) (VM X.K sp CD i j m t):=by
 intro h_ s σ H Dn I h;refine wpAny_Try_except (xP (wpAny_Assign_Name (fU (oU I hg hmf ?_ hdb)) rfl));refine BR (h₀:=X.base) I.ok.mod.kin hk (bE (ha cpos h_ s σ H _ (I.n4 _) h) (λus s1 ⟨vs,H1,I1,r,q⟩=>⟨I1.iT.tJ,?_⟩) λ_ _ z=>bB z) he hpl;have I1:=I1.iT;have hl:us.length=ps.length:=by rw[<-r.length];exact F.len _ _ _ _ q
 have hb':=hb s1 us I1.tJ (by rw[bJ];exact hl);rw[bJ]at hb';refine uo (gQ (F.run X.A X.stack s1 H1 ⟨us,[]⟩ us vs _ _ hr I1.Uy hb' r q) λr s' hq=>?_)
 cases r with
 |error e=>
   obtain⟨a,C,dx,H2,B,rfl,ho,hgn,FB,C',dx',e1,e2,hx,q2⟩:=hq;cases e1;cases e2;exact Lf hN hst hfm hgD hmD hdD hm hlm hj hlj hfn hn1 hn2 I1 FB ho hgn hx (q2 a FB.fr)
 |ok fl=>
   cases fl with
   |ret u=>
     obtain⟨v,H2,I2,r2,q2⟩:=I1.after hq;exact og I2 hN hi hli r2 (λs3 I3=>lT (lT ⟨_,_,I3,q2⟩)) hfi
   |next=>exact bB hq
   |brk=>exact bB hq
   |cont=>exact bB hq
end
end L2
namespace M
open PySem PySem.Spec PyProof.Rows L2
set_option genInjectivity true in
inductive Dat where
 |non|bl (b:Bool)|int (i:Int)|str (x:a8)|tup (xs:List Dat)|lst (xs:List Dat)|dct (ks:List Key) (vs:List Dat)|dcn (ks:List (List NK))|exc (c:Nat) (f:a8) (k:Key)
 deriving Inhabited
abbrev Fg:=aA
def Tq(K:Fg)(F:Hp)(a:aE)(vs:List V):Prop:=F a=a_ (.tup vs)\/∃(o:kX) (its:Array ak) (n:Nat),K.lookup a=a_ o/\o.cls=.type "tuple"/\o.data=.seq its n/\its.size<=aD/\bW vs its.toList
def Tq.sq{K:Fg}(h:Tq K F a vs):wa K F a vs:=by
 rcases h with h|h
 ·exact .inl (.inl h)
 ·exact .inr h
def Tq.mono{K:Fg}(s:bN F F')(h:Tq K F a vs):Tq K F' a vs:=by
 rcases h with h|h
 ·exact .inl (s _ _ h)
 ·exact .inr h
def L7(K:Fg)(F:Hp):List N2->List V->Prop
 |[],vs=>vs=[]
 |.inl k::ks,vs=>∃r,vs=kV k::r/\L7 K F ks r
 |.inr q::ks,vs=>∃b r,vs=.ref b::r/\Tq K F b (q.map kV)/\L7 K F ks r
def L6(K:Fg)(F:Hp):List NK->List V->Prop
 |[],vs=>vs=[]
 |.inl k::ks,vs=>∃r,vs=kV k::r/\L6 K F ks r
 |.inr q::ks,vs=>∃b r us,vs=.ref b::r/\Tq K F b us/\L7 K F q us/\L6 K F ks r
def Hz(K:Fg)(F:Hp)(k:List NK)(a:aE):Prop:=∃vs,Tq K F a vs/\L6 K F k vs
def DM(K:Fg)(F:Hp)(ks:List (List NK))(xs:List (List NK×aE)):Prop:=xs.map (·.1)=ks/\∀x∈xs,Hz K F x.1 x.2
theorem L7.imp{K:Fg}(f:∀b vs,Tq K F b vs->Tq K F' b vs):∀{ks:List N2}{vs:List V},L7 K F ks vs->L7 K F' ks vs
 |[],_,h=>h
 |.inl k::ks,_,h=>by obtain⟨r,e,h⟩:=h;exact⟨r,e,L7.imp f h⟩
 |.inr q::ks,_,h=>by obtain⟨b,r,e,t,h⟩:=h;exact⟨b,r,e,f _ _ t,L7.imp f h⟩
theorem L6.imp{K:Fg}(f:∀b vs,Tq K F b vs->Tq K F' b vs):∀{ks:List NK}{vs:List V},L6 K F ks vs->L6 K F' ks vs
 |[],_,h=>h
 |.inl k::ks,_,h=>by obtain⟨r,e,h⟩:=h;exact⟨r,e,L6.imp f h⟩
 |.inr q::ks,_,h=>by obtain⟨b,r,us,e,t,u,h⟩:=h;exact⟨b,r,us,e,f _ _ t,u.imp f,L6.imp f h⟩
def DM.imp{K:Fg}(f:∀b vs,Tq K F b vs->Tq K F' b vs)(h:DM K F ks xs):DM K F' ks xs:=
 ⟨h.1,λx hx=>let ⟨vs,t,r⟩:=h.2 x hx;⟨vs,f _ _ t,r.imp f⟩⟩
mutual
def Rep(K:Fg)(F:Hp):Dat->V->Prop
 |.non,v=>v=.non
 |.bl b,v=>v=.bl b
 |.int i,v=>v=.int i
 |.str x,v=>v=.str x
 |.tup ds,v=>∃a vs,v=.ref a/\Tq K F a vs/\cj K F ds vs
 |.lst ds,v=>∃a vs,v=.ref a/\pd K F a vs/\cj K F ds vs
 |.dct ks ds,v=>∃a k_,v=.ref a/\F a=a_ (.dK k_)/\k_.map (·.1)=ks/\cj K F ds (k_.map (·.2))
 |.dcn ks,v=>∃a xs,v=.ref a/\F a=a_ (.dN xs)/\DM K F ks xs
 |.exc c f k,v=>∃a dx,v=.ref a/\F a=a_ (.ext (XO a c dx))/\F dx=a_ (.xd [(f,kV k)])
def cj(K:Fg)(F:Hp):List Dat->List V->Prop
 |[],vs=>vs=[]
 |d::ds,vs=>∃v r,vs=v::r/\Rep K F d v/\cj K F ds r
end
mutual
theorem Rep.mono{K:Fg}(s:bN F F'):∀(d:Dat){v:V},Rep K F d v->Rep K F' d v
 |.non,_,h=>h
 |.bl _,_,h=>h
 |.int _,_,h=>h
 |.str _,_,h=>h
 |.tup ds,_,⟨a,vs,e,t,r⟩=>⟨a,vs,e,t.mono s,cj.mono s ds r⟩
 |.lst ds,_,⟨a,vs,e,t,r⟩=>⟨a,vs,e,s.seq t,cj.mono s ds r⟩
 |.dct _ ds,_,⟨a,k_,e,t,k,r⟩=>⟨a,k_,e,s _ _ t,k,cj.mono s ds r⟩
 |.dcn _,_,⟨a,xs,e,t,r⟩=>⟨a,xs,e,s _ _ t,r.imp λ_ _ q=>q.mono s⟩
 |.exc _ _ _,_,⟨a,dx,e,t,r⟩=>⟨a,dx,e,s _ _ t,s _ _ r⟩
theorem cj.mono{K:Fg}(s:bN F F'):∀(ds:List Dat){vs:List V},cj K F ds vs->cj K F' ds vs
 |[],_,h=>h
 |d::ds,_,⟨v,r,e,h1,h2⟩=>⟨v,r,e,Rep.mono s d h1,cj.mono s ds h2⟩
end
theorem cj.length{K:Fg}:∀{ds:List Dat}{vs:List V},cj K F ds vs->vs.length=ds.length
 |[],_,h=>by rw[show _=[]from h];rfl
 |d::ds,_,z2=>by obtain⟨v,r,e,_,h2⟩:=z2;rw[e,aS,aS,cj.length h2]
theorem cj.get{K:Fg}:∀{ds:List Dat}{vs:List V}{i:Nat}{d:Dat},cj K F ds vs->ds[i]?=a_ d->∃v,vs[i]?=a_ v/\Rep K F d v
 |[],_,_,_,_,e=>by simp at e
 |d::ds,_,0,_,z4,z=>by obtain⟨v,r,e,h1,_⟩:=z4;simp at z;subst z;subst e;exact⟨v,rfl,h1⟩
 |d::ds,_,i+1,_,z4,z=>by
   obtain⟨v,r,e,_,h2⟩:=z4;subst e;obtain⟨w,q1,q2⟩:=cj.get (i:=i) h2 (by simpa using z);exact⟨w,by simpa using q1,q2⟩
theorem cj.append{K:Fg}:∀{ds es:List Dat}{vs us:List V},cj K F ds vs->cj K F es us->cj K F (ds++es) (vs++us)
 |[],_,_,_,h,h'=>by rw[show _=[]from h];exact h'
 |d::ds,_,_,_,z4,h'=>by obtain⟨v,r,e,h1,h2⟩:=z4;subst e;exact⟨v,r++_,rfl,h1,cj.append h2 h'⟩
def cj.one{K:Fg}(h:Rep K F d v):cj K F [d] [v]:=⟨v,[],rfl,h,rfl⟩
theorem cj.take{K:Fg}:∀(n:Nat){ds:List Dat}{vs:List V},cj K F ds vs->cj K F (ds.take n) (vs.take n)
 |0,_,_,_=>by simp[cj]
 |n+1,[],_,h=>by rw[show _=[]from h];exact rfl
 |n+1,d::ds,_,z3=>by obtain⟨v,r,e,h1,h2⟩:=z3;subst e;exact⟨v,r.take n,rfl,h1,cj.take n h2⟩
theorem cj.drop{K:Fg}:∀(n:Nat){ds:List Dat}{vs:List V},cj K F ds vs->cj K F (ds.drop n) (vs.drop n)
 |0,_,_,h=>h
 |n+1,[],_,h=>by rw[show _=[]from h];exact rfl
 |n+1,d::ds,_,z3=>by obtain⟨v,r,e,h1,h2⟩:=z3;subst e;exact cj.drop n h2
mutual
noncomputable def im:Dat->Bool
 |.lst _=>d_
 |.dct _ _=>d_
 |.dcn _=>d_
 |.exc _ _ _=>d_
 |.tup ds=>jT ds
 |_=>c_
noncomputable def jT:List Dat->Bool
 |[]=>c_
 |d::ds=>im d && jT ds
end
structure Good(F H:Hp):Prop where
 sub:bN F H
 tup:∀a vs,H a=a_ (.tup vs)->F a=a_ (.tup vs)
structure Step(F H F' H':Hp):Prop where
 good:Good F' H'
 ff:bN F F'
 hh:bN H H'
 un:∀a o,H a=a_ o->F a=b_->F' a=b_
def Step.refl(g:Good F H):Step F H F H:=⟨g,bN.refl _,bN.refl _,λ_ _ _ n=>n⟩
def Step.trans(a:Step F H F1 H1)(b:Step F1 H1 F2 H2):Step F H F2 H2:=
 ⟨b.good,a.ff.trans b.ff,a.hh.trans b.hh,λx o h n=>b.un x o (a.hh x o h) (a.un x o h n)⟩
def bN.upd(hp:H p=b_):bN H (upd H p o):=λb u e=>by rw[bq (cC e hp)];exact e
def Step.alloc(g:Good F H)(hp:H p=b_):Step F H (upd F p o) (upd H p o):=by
 have hF:F p=b_:=by
  cases q:F p with
  |none=>rfl
  |some u=>rw[g.sub p u q]at hp;cases hp
 refine⟨⟨λb u e=>?_,λa vs e=>?_⟩,bN.upd hF,bN.upd hp,λa u h n=>?_⟩
 ·by_cases hb:b=p
  ·subst hb;rw[bh]at e ⊢;exact e
  ·rw[bq hb]at e ⊢;exact g.sub b u e
 ·by_cases hb:a=p
  ·subst hb;rw[bh]at e ⊢;exact e
  ·rw[bq hb]at e ⊢;exact g.tup a vs e
 ·rw[bq (cC h hp)];exact n
noncomputable def shr(F H F1:Hp):Hp:=λa=>match F a,H a with
 |none,a_ _=>b_
 |_,_=>F1 a
def Ru(h:shr F H F1 a=a_ o):F1 a=a_ o:=by
 unfold shr at h
 cases q:F a with
 |none=>
   cases q2:H a with
   |none=>rw[q,q2]at h;exact h
   |some u=>rw[q,q2]at h;cases h
 |some u=>rw[q]at h;exact h
def Cv(h:F a≠b_\/H a=b_):shr F H F1 a=F1 a:=by
 unfold shr
 cases q:F a with
 |none=>
   cases q2:H a with
   |none=>rfl
   | some u=>rcases h with h|h
             ·exact absurd q h
             ·rw[q2]at h;cases h
 |some u=>rfl
def Step.shrink(g:Good F H)(s:bN F Fp)(st:Step Fp H F1 H1):Step F H (shr F H F1) H1:=by
 refine⟨⟨λa o e=>st.good.sub a o (Ru e),λa vs e=>?_⟩,λa o e=>?_,st.hh,λa o h n=>?_⟩
 ·have e1:=st.good.tup a vs e;rw[Cv ?_]
  ·exact e1
  ·cases q:H a with
   |none=>exact .inr rfl
   |some u=>
     have:=st.hh a u q;rw[e]at this;cases this;exact .inl (by rw[g.tup a vs q];simp)
 ·rw[Cv (.inl (by rw[e];simp))];exact st.ff a o (s a o e)
 ·unfold shr;rw[n,h]
def Tq.shrink{K:Fg}(g:Good F H)(st:Step Fp H F1 H1)(h:Tq K F1 a vs):Tq K (shr F H F1) a vs:=by
 rcases h with h|h
 ·refine .inl ?_;rw[Cv ?_]
  ·exact h
  ·cases q:H a with
   |none=>exact .inr rfl
   |some u=>
     have:=st.hh a u q;rw[st.good.sub a _ h]at this;cases this;exact .inl (by rw[g.tup a vs q];simp)
 ·exact .inr h
mutual
theorem Rep.shrink{K:Fg}(g:Good F H)(st:Step Fp H F1 H1):∀(d:Dat){v:V},im d=c_->Rep K F1 d v->Rep K (shr F H F1) d v
 |.non,_,_,h=>h
 |.bl _,_,_,h=>h
 |.int _,_,_,h=>h
 |.str _,_,_,h=>h
 |.tup ds,_,m,⟨a,vs,e,t,r⟩=>⟨a,vs,e,t.shrink g st,cj.shrink g st ds m r⟩
 |.lst ds,_,m,_=>nomatch m
 |.dct _ _,_,m,_=>nomatch m
 |.dcn _,_,m,_=>nomatch m
 |.exc _ _ _,_,m,_=>nomatch m
theorem cj.shrink{K:Fg}(g:Good F H)(st:Step Fp H F1 H1):∀(ds:List Dat){vs:List V},jT ds=c_->cj K F1 ds vs->cj K (shr F H F1) ds vs
 |[],_,_,h=>h
 |d::ds,_,m,z3=>by
   obtain⟨v,r,e,h1,h2⟩:=z3;have m':im d=c_/\jT ds=c_:=by simpa [jT]using m
   exact⟨v,r,e,Rep.shrink g st d m'.1 h1,cj.shrink g st ds m'.2 h2⟩
end
mutual
def nP(K:Fg)(H:Hp):Dat->V->List aE->Prop
 |.non,v,S=>v=.non/\S=[]
 |.bl b,v,S=>v=.bl b/\S=[]
 |.int i,v,S=>v=.int i/\S=[]
 |.str x,v,S=>v=.str x/\S=[]
 |.tup ds,v,S=>∃a vs,v=.ref a/\Tq K H a vs/\dA K H ds vs S
 |.lst ds,v,S=>∃a vs S',v=.ref a/\H a=a_ (.lst vs)/\dA K H ds vs S'/\S=a::S'
 |.dct ks ds,v,S=>∃a k_ S',v=.ref a/\H a=a_ (.dK k_)/\k_.map (·.1)=ks/\dA K H ds (k_.map (·.2)) S'/\S=a::S'
 |.dcn ks,v,S=>∃a xs,v=.ref a/\H a=a_ (.dN xs)/\DM K H ks xs/\S=[a]
 |.exc c f k,v,S=>∃a dx,v=.ref a/\H a=a_ (.ext (XO a c dx))/\H dx=a_ (.xd [(f,kV k)])/\S=[a,dx]
def dA(K:Fg)(H:Hp):List Dat->List V->List aE->Prop
 |[],vs,S=>vs=[]/\S=[]
 |d::ds,vs,S=>∃v r S1 S2,vs=v::r/\nP K H d v S1/\dA K H ds r S2/\S=S1++S2
end
mutual
theorem nP.mono{K:Fg}(s:bN H H'):∀(d:Dat){v:V}{S:List aE},nP K H d v S->nP K H' d v S
 |.non,_,_,h=>h
 |.bl _,_,_,h=>h
 |.int _,_,_,h=>h
 |.str _,_,_,h=>h
 |.tup ds,_,_,⟨a,vs,e,t,r⟩=>⟨a,vs,e,t.mono s,dA.mono s ds r⟩
 |.lst ds,_,_,⟨a,vs,S',e,t,r,q⟩=>⟨a,vs,S',e,s _ _ t,dA.mono s ds r,q⟩
 |.dct _ ds,_,_,⟨a,k_,S',e,t,k,r,q⟩=>⟨a,k_,S',e,s _ _ t,k,dA.mono s ds r,q⟩
 |.dcn _,_,_,⟨a,xs,e,t,r,q⟩=>⟨a,xs,e,s _ _ t,r.imp λ_ _ z=>z.mono s,q⟩
 |.exc _ _ _,_,_,⟨a,dx,e,t,r,q⟩=>⟨a,dx,e,s _ _ t,s _ _ r,q⟩
theorem dA.mono{K:Fg}(s:bN H H'):∀(ds:List Dat){vs:List V}{S:List aE},dA K H ds vs S->dA K H' ds vs S
 |[],_,_,h=>h
 |d::ds,_,_,⟨v,r,S1,S2,e,h1,h2,q⟩=>⟨v,r,S1,S2,e,nP.mono s d h1,dA.mono s ds h2,q⟩
end
def PN:HO->Prop
 |.lst _=>True
 |.dK _=>True
 |.dN _=>True
 |.ext _=>True
 |.xd _=>True
 |_=>False
mutual
theorem nP.BN{K:Fg}:∀(d:Dat){v:V}{S:List aE},nP K H d v S->∀a∈S,∃o,H a=a_ o/\PN o
 |.non,_,_,h=>by rw[h.2];intro a m;cases m
 |.bl _,_,_,h=>by rw[h.2];intro a m;cases m
 |.int _,_,_,h=>by rw[h.2];intro a m;cases m
 |.str _,_,_,h=>by rw[h.2];intro a m;cases m
 |.tup ds,_,_,⟨a,vs,e,t,r⟩=>dA.BN ds r
 |.lst ds,_,_,z3=>by
   obtain⟨a,vs,S',e,t,r,q⟩:=z3;subst q;intro b m
   rcases aq.mp m with rfl|m
   ·exact⟨_,t,trivial⟩
   ·exact dA.BN ds r b m
 |.dct _ ds,_,_,z3=>by
   obtain⟨a,k_,S',e,t,k,r,q⟩:=z3;subst q;intro b m
   rcases aq.mp m with rfl|m
   ·exact⟨_,t,trivial⟩
   ·exact dA.BN ds r b m
 |.dcn _,_,_,z3=>by
   obtain⟨a,xs,e,t,r,q⟩:=z3;subst q;intro b m;rw[aQ.mp m];exact⟨_,t,trivial⟩
 |.exc _ _ _,_,_,z3=>by
   obtain⟨a,dx,e,t,r,q⟩:=z3;subst q;intro b m
   rcases aq.mp m with rfl|m
   ·exact⟨_,t,trivial⟩
   ·rw[aQ.mp m];exact⟨_,r,trivial⟩
theorem dA.BN{K:Fg}:∀(ds:List Dat){vs:List V}{S:List aE},dA K H ds vs S->∀a∈S,∃o,H a=a_ o/\PN o
 |[],_,_,h=>by rw[h.2];intro a m;cases m
 |d::ds,_,_,z3=>by
   obtain⟨v,r,S1,S2,e,h1,h2,q⟩:=z3;subst q;intro b m
   rcases aL.mp m with m|m
   ·exact nP.BN d h1 b m
   ·exact dA.BN ds h2 b m
end
noncomputable def fz(F H:Hp)(S:List aE):Hp:=λa=>if a∈S then H a else F a
def vn(h:a∈S):fz F H S a=H a:=if_pos h
def si(h:a∉S):fz F H S a=F a:=if_neg h
def Ue(g:bN F H):bN (fz F H S) H:=λa o e=>by
 by_cases m:a∈S
 ·rw[vn m]at e;exact e
 ·rw[si m]at e;exact g a o e
def sh(g:bN F H):bN F (fz F H S):=λa o e=>by
 by_cases m:a∈S
 ·rw[vn m];exact g a o e
 ·rw[si m];exact e
def yT(g:Good F H):Good (fz F H S) H:=⟨Ue g.sub,λa vs e=>sh g.sub a _ (g.tup a vs e)⟩
mutual
theorem nP.kL{K:Fg}(g:Good F H):∀(d:Dat){v:V}{S T:List aE},nP K H d v S->(∀a∈S,a∈T)->Rep K (fz F H T) d v
 |.non,_,_,_,h,_=>h.1
 |.bl _,_,_,_,h,_=>h.1
 |.int _,_,_,_,h,_=>h.1
 |.str _,_,_,_,h,_=>h.1
 |.tup ds,_,_,_,z4,m=>by
   obtain⟨a,vs,e,t,r⟩:=z4;refine⟨a,vs,e,?_,dA.kL g ds r m⟩
   rcases t with t|t
   ·exact .inl (sh g.sub _ _ (g.tup _ _ t))
   ·exact .inr t
 |.lst ds,_,_,_,z4,m=>by
   obtain⟨a,vs,S',e,t,r,q⟩:=z4;subst q;refine⟨a,vs,e,.inl (.inl ?_),dA.kL g ds r λb hb=>m b (jd _ hb)⟩;rw[vn (m a iw)];exact t
 |.dct _ ds,_,_,_,z4,m=>by
   obtain⟨a,k_,S',e,t,k,r,q⟩:=z4;subst q;refine⟨a,k_,e,?_,k,dA.kL g ds r λb hb=>m b (jd _ hb)⟩;rw[vn (m a iw)];exact t
 |.dcn _,_,_,_,z4,m=>by
   obtain⟨a,xs,e,t,r,q⟩:=z4;subst q;refine⟨a,xs,e,?_,r.imp λb vs z=>?_⟩
   ·rw[vn (m a iw)];exact t
   ·rcases z with z|z
    ·exact .inl (sh g.sub _ _ (g.tup _ _ z))
    ·exact .inr z
 |.exc _ _ _,_,_,_,z4,m=>by
   obtain⟨a,dx,e,t,r,q⟩:=z4;subst q;refine⟨a,dx,e,?_,?_⟩
   ·rw[vn (m a iw)];exact t
   ·rw[vn (m dx (jd _ iw))];exact r
theorem dA.kL{K:Fg}(g:Good F H):∀(ds:List Dat){vs:List V}{S T:List aE},dA K H ds vs S->(∀a∈S,a∈T)->cj K (fz F H T) ds vs
 |[],_,_,_,h,_=>h.1
 |d::ds,_,_,_,z4,m=>by
   obtain⟨v,r,S1,S2,e,h1,h2,q⟩:=z4;subst q;exact⟨v,r,e,nP.kL g d h1 λa ha=>m a (aZ _ ha),dA.kL g ds h2 λa ha=>m a (aF _ ha)⟩
end
mutual
theorem nP.jS{K:Fg}(g:bN F H):∀(d:Dat){v:V},im d=c_->Rep K F d v->nP K H d v []
 |.non,_,_,h=>⟨h,rfl⟩
 |.bl _,_,_,h=>⟨h,rfl⟩
 |.int _,_,_,h=>⟨h,rfl⟩
 |.str _,_,_,h=>⟨h,rfl⟩
 |.tup ds,_,m,⟨a,vs,e,t,r⟩=>⟨a,vs,e,t.mono g,dA.jS g ds m r⟩
 |.lst ds,_,m,_=>nomatch m
 |.dct _ _,_,m,_=>nomatch m
 |.dcn _,_,m,_=>nomatch m
 |.exc _ _ _,_,m,_=>nomatch m
theorem dA.jS{K:Fg}(g:bN F H):∀(ds:List Dat){vs:List V},jT ds=c_->cj K F ds vs->dA K H ds vs []
 |[],_,_,h=>⟨h,rfl⟩
 |d::ds,_,m,z3=>by
   obtain⟨v,r,e,h1,h2⟩:=z3;have m':im d=c_/\jT ds=c_:=by simpa [jT]using m
   exact⟨v,r,[],[],e,nP.jS g d m'.1 h1,dA.jS g ds m'.2 h2,rfl⟩
end
mutual
theorem nP.upd{K:Fg}(hp:∀vs,H p≠a_ (.tup vs)):∀(d:Dat){v:V}{S:List aE},nP K H d v S->p∉S->nP K (upd H p o) d v S
 |.non,_,_,h,_=>h
 |.bl _,_,_,h,_=>h
 |.int _,_,_,h,_=>h
 |.str _,_,_,h,_=>h
 |.tup ds,_,_,z3,n=>by
   obtain⟨a,vs,e,t,r⟩:=z3;refine⟨a,vs,e,?_,dA.upd hp ds r n⟩
   rcases t with t|t
   ·refine .inl ?_;rw[bq (λz=>hp vs (by rw[<-z];exact t))];exact t
   ·exact .inr t
 |.lst ds,_,_,z3,n=>by
   obtain⟨a,vs,S',e,t,r,q⟩:=z3;subst q;have hne:a≠p:=λz=>n (z▸iw);exact⟨a,vs,S',e,(bq hne).trans t,dA.upd hp ds r (λm=>n (jd _ m)),rfl⟩
 |.dct _ ds,_,_,z3,n=>by
   obtain⟨a,k_,S',e,t,k,r,q⟩:=z3;subst q;have hne:a≠p:=λz=>n (z▸iw);exact⟨a,k_,S',e,(bq hne).trans t,k,dA.upd hp ds r (λm=>n (jd _ m)),rfl⟩
 |.dcn _,_,_,z3,n=>by
   obtain⟨a,xs,e,t,r,q⟩:=z3;subst q;have hne:a≠p:=λz=>n (z▸iw);refine⟨a,xs,e,(bq hne).trans t,r.imp λb vs z=>?_,rfl⟩
   rcases z with z|z
   ·refine .inl ?_;rw[bq (λy=>hp vs (by rw[<-y];exact z))];exact z
   ·exact .inr z
 |.exc _ _ _,_,_,z3,n=>by
   obtain⟨a,dx,e,t,r,q⟩:=z3;subst q;have h1:a≠p:=λz=>n (by rw[<-z];exact iw);have h2:dx≠p:=λz=>n (by rw[<-z];exact jd _ iw);exact⟨a,dx,e,(bq h1).trans t,(bq h2).trans r,rfl⟩
theorem dA.upd{K:Fg}(hp:∀vs,H p≠a_ (.tup vs)):∀(ds:List Dat){vs:List V}{S:List aE},dA K H ds vs S->p∉S->dA K (upd H p o) ds vs S
 |[],_,_,h,_=>h
 |d::ds,_,_,z3,n=>by
   obtain⟨v,r,S1,S2,e,h1,h2,q⟩:=z3;subst q;exact⟨v,r,S1,S2,e,nP.upd hp d h1 (λm=>n (aZ _ m)),dA.upd hp ds h2 (λm=>n (aF _ m)),rfl⟩
end
theorem dA.length{K:Fg}:∀{ds:List Dat}{vs:List V}{S:List aE},dA K H ds vs S->vs.length=ds.length
 |[],_,_,h=>by rw[h.1];rfl
 |d::ds,_,_,z3=>by obtain⟨v,r,S1,S2,e,_,h2,_⟩:=z3;rw[e,aS,aS,dA.length h2]
theorem dA.append{K:Fg}:∀{ds es:List Dat}{vs us:List V}{S T:List aE},dA K H ds vs S->dA K H es us T->dA K H (ds++es) (vs++us) (S++T)
 |[],_,_,_,_,_,h,h'=>by rw[h.1,h.2];exact h'
 |d::ds,_,_,_,_,_,z6,h'=>by obtain⟨v,r,S1,S2,e,h1,h2,q⟩:=z6;subst e q;exact⟨v,r++_,S1,S2++_,rfl,h1,dA.append h2 h',by rw[mj]⟩
def dA.one{K:Fg}(h:nP K H d v S):dA K H [d] [v] S:=⟨v,[],S,[],rfl,h,⟨rfl,rfl⟩,by simp⟩
abbrev St:=L2.St
abbrev fP:=List (Option Dat)
def mQ(K:Fg)(F:Hp)(σ:St)(ρ:fP):Prop:=∀(i:Nat)d,ρ[i]?=a_ (a_ d)->∃v,σ[i]?=a_ (a_ v)/\Rep K F d v
def mQ.mono{K:Fg}(s:bN F F')(h:mQ K F σ ρ):mQ K F' σ ρ:=λi d e=>let ⟨v,q1,q2⟩:=h i d e;⟨v,q1,q2.mono s⟩
def gn(K:Fg)(H H':Hp)(d:Dat)(v:V):Prop:=∃S:List aE,S.Nodup/\(∀a∈S,H a=b_)/\nP K H' d v S
def fw(K:Fg)(H H':Hp)(ds:List Dat)(vs:List V):Prop:=∃S:List aE,S.Nodup/\(∀a∈S,H a=b_)/\dA K H' ds vs S
def gn.back{K:Fg}{F:Hp}(s:bN H0 H)(h:gn K H H' d v):gn K H0 H' d v:=by
 obtain⟨S,n,e,r⟩:=h;exact⟨S,n,λa m=>s.free (e a m),r⟩
def fw.back{K:Fg}{F:Hp}(s:bN H0 H)(h:fw K H H' ds vs):fw K H0 H' ds vs:=by
 obtain⟨S,n,e,r⟩:=h;exact⟨S,n,λa m=>s.free (e a m),r⟩
def gn.jS{K:Fg}(g:Good F H')(m:im d=c_)(r:Rep K F d v):gn K H H' d v:=⟨[],jQ,(λa z=>by cases z),nP.jS g.sub d m r⟩
def fw.jS{K:Fg}(g:Good F H')(m:jT ds=c_)(r:cj K F ds vs):fw K H H' ds vs:=⟨[],jQ,(λa z=>by cases z),dA.jS g.sub ds m r⟩
def fw.cons{K:Fg}{H H1 H2:Hp}{d:Dat}{ds:List Dat}{v:V}{vs:List V}(s:bN H H1)(s':bN H1 H2)(h:gn K H H1 d v)(hs:fw K H1 H2 ds vs):fw K H H2 (d::ds) (v::vs):=by
 obtain⟨S,n,e,r⟩:=h;obtain⟨T,n',e',r'⟩:=hs;refine⟨S++T,fh.mpr ⟨n,n',λa ha b hb z=>?_⟩,λa m=>?_,v,vs,S,T,rfl,r.mono s',r',rfl⟩
 ·subst z;obtain⟨o,ho,_⟩:=r.BN _ a ha;rw[e' a hb]at ho;cases ho
 ·rcases aL.mp m with m|m
  ·exact e a m
  ·exact s.free (e' a m)
def fw.snoc{K:Fg}(s:bN H H1)(s':bN H1 H2)(hs:fw K H H1 ds vs)(h:gn K H1 H2 d v):fw K H H2 (ds++[d]) (vs++[v]):=by
 obtain⟨S,n,e,r⟩:=hs;obtain⟨T,n',e',r'⟩:=h;refine⟨S++T,fh.mpr ⟨n,n',λa ha b hb z=>?_⟩,λa m=>?_,(r.mono s').append (.one r')⟩
 ·subst z;obtain⟨o,ho,_⟩:=r.BN _ a ha;rw[e' a hb]at ho;cases ho
 ·rcases aL.mp m with m|m
  ·exact e a m
  ·exact s.free (e' a m)
def fw.mono{K:Fg}(s:bN H1 H')(h:fw K H H1 ds vs):fw K H H' ds vs:=by
 obtain⟨S,n,e,r⟩:=h;exact⟨S,n,e,r.mono s⟩
def fw.nil{K:Fg}:fw K H H1 [] []:=⟨[],jQ,(λa z=>by cases z),rfl,rfl⟩
def gn.lst{K:Fg}(s:bN H H1)(hp:H1 p=b_)(h:fw K H H1 ds vs):gn K H (L2.upd H1 p (.lst vs)) (.lst ds) (.ref p):=by
 obtain⟨S,n,e,r⟩:=h;refine⟨p::S,cv.mpr ⟨λm=>?_,n⟩,λa m=>?_,p,vs,S,rfl,bh,r.mono (bN.upd hp),rfl⟩
 ·obtain⟨o,ho,_⟩:=r.BN _ p m;rw[hp]at ho;cases ho
 ·rcases aq.mp m with rfl|m
  ·exact s.free hp
  ·exact e a m
def gn.tup{K:Fg}(hp:H1 p=b_)(h:fw K H H1 ds vs):gn K H (L2.upd H1 p (.tup vs)) (.tup ds) (.ref p):=by
 obtain⟨S,n,e,r⟩:=h;exact⟨S,n,e,p,vs,rfl,.inl bh,r.mono (bN.upd hp)⟩
def tE(K:Fg)(ρ:fP)(d:Dat)(fr:Bool):TE:=λσ H Q=>∃F,Good F H/\mQ K F σ ρ/\∀v F' H',Step F H F' H'->Rep K F' d v->(fr=c_->gn K H H' d v)->Q v H'
def tEs(K:Fg)(ρ:fP)(ds:List Dat):TA:=λσ H Q=>∃F,Good F H/\mQ K F σ ρ/\∀vs F' H',Step F H F' H'->cj K F' ds vs->Q vs H'
def tT(K:Fg)(ρ:fP)(b:Bool):TT:=λσ H Q=>∃F,Good F H/\mQ K F σ ρ/\∀F' H',Step F H F' H'->Q b H'
def tFs(K:Fg)(ρ:fP)(ds:List Dat)(al:Bool):TA:=λσ H Q=>∃F,Good F H/\mQ K F σ ρ/\∀vs F' H',Step F H F' H'->cj K F' ds vs->(al=c_->fw K H H' ds vs)->Q vs H'
def rD(K:Fg)(da db:Dat)(d:Dat)(fr:Bool):R2:=λx y H Q=>∃F,Good F H/\Rep K F da x/\Rep K F db y/\∀v F' H',Step F H F' H'->Rep K F' d v->(fr=c_->gn K H H' d v)->Q v H'
def rDs(K:Fg)(ds:List Dat)(d:Dat)(fr:Bool):List V->Hp->VK->Prop:=λxs H Q=>∃F,Good F H/\cj K F ds xs/\∀v F' H',Step F H F' H'->Rep K F' d v->(fr=c_->gn K H H' d v)->Q v H'
section
def PE.imp(h:PE X e t)(f:∀σ H Q,t' σ H Q->t σ H Q):PE X e t':=λh_ s σ H Q I q=>h h_ s σ H Q I (f _ _ _ q)
def PT.imp(h:PT X e t)(f:∀σ H Q,t' σ H Q->t σ H Q):PT X e t':=λh_ s σ H Q I q=>h h_ s σ H Q I (f _ _ _ q)
def PA.imp(h:PA X e t)(f:∀σ H Q,t' σ H Q->t σ H Q):PA X e t':=λp h_ s σ H Q I q=>h p h_ s σ H Q I (f _ _ _ q)
def PS.imp(h:PS X e t)(f:∀D σ H,t' D σ H->t D σ H):PS X e t':=λh_ s σ H D I q=>h h_ s σ H D I (f _ _ _ q)
def DL.imp(h:DL X e t)(f:∀D σ H,t' D σ H->t D σ H):DL X e t':=λh_ s σ H D I q=>h h_ s σ H D I (f _ _ _ q)
def iO.imp(h:iO X f r)(g:∀x y H Q,r' x y H Q->r x y H Q):iO X f r':=λh_ s σ H x y v u Q I rx ry q=>h h_ s σ H x y v u Q I rx ry (g _ _ _ _ q)
end
end M
namespace L2
open PySem PySem.Spec PyProof.Rows
def Hy(xs:Array Nat):Prop:=xs.toList.Pairwise (·< ·)
def Hy.get(h:Hy xs)(hj:j<xs.size)(hij:i<j):xs[i]'(iu hij hj)<xs[j]:=by
 have:=(List.pairwise_iff_getElem.mp h) i j (by simpa using(by omega:i<xs.size)) (by simpa using hj) hij;simpa using this
theorem DG(hs:Hy xs):∀(fuel lo hi:Nat),lo<=hi->hi<=xs.size->hi - lo<=fuel->(∀i (h:i<xs.size),i<lo->xs[i]<j)->(∀i (h:i<xs.size),hi<=i->j<=xs[i])->
  kA xs j fuel lo hi<=xs.size/\(∀i(h:i<xs.size),i<kA xs j fuel lo hi->xs[i]<j)/\∀i(h:i<xs.size),kA xs j fuel lo hi<=i->j<=xs[i]
 |0,lo,hi,h1,h2,h3,h4,h5=>by
   have e:lo=hi:=by omega
   subst e;exact⟨h2,h4,h5⟩
 |fuel+1,lo,hi,h1,h2,h3,h4,h5=>by
   simp only[kA];by_cases hl:lo<hi
   ·rw[if_pos hl];have hm:(lo+hi) / 2<xs.size:=by omega
    have hg:xs.getD ((lo+hi) / 2) j=xs[(lo+hi) / 2]:=by rw[lu,a9 hm];rfl
    rw[hg];by_cases hx:xs[(lo+hi) / 2]<j
    ·rw[if_pos hx];refine DG hs fuel _ hi (by omega) h2 (by omega) (λi h q=>?_) h5;by_cases hi2:i=(lo+hi) / 2
     ·subst hi2;exact hx
     ·exact iu (hs.get hm (by omega)) hx
    ·rw[if_neg hx];refine DG hs fuel lo _ (by omega) (bo hm) (by omega) h4 (λi h q=>?_);by_cases hi2:(lo+hi) / 2=i
     ·subst hi2;exact eU hx
     ·have:=hs.get h (show(lo+hi) / 2<i from(lV q hi2));exact bo (ae (Nat.lt_of_not_le hx) this)
   ·rw[if_neg hl];have e:lo=hi:=fV h1 (eU hl);subst e;exact⟨h2,h4,h5⟩
def Zz(hs:Hy xs)(j:Nat):ba xs j<=xs.size/\(∀i(h:i<xs.size),i<ba xs j->xs[i]<j)/\∀i(h:i<xs.size),ba xs j<=i->j<=xs[i]:=
 DG hs xs.size 0 xs.size (bQ _) (aI _) (by simp) (λi _ q=>absurd q (P7 _)) (λi h q=>((eh h q)).elim)
def Lo(hs:Hy xs):ba xs 0=0:=by
 obtain⟨h1,h2,_⟩:=Zz hs 0
 cases q:ba xs 0 with
 |zero=>rfl
 |succ n=>exact absurd (h2 0 (ae (aN (bQ _) (aM q.symm)) h1) (aN (bQ _) (aM q.symm))) (P7 _)
def Lp(hs:Hy xs)(hi:i<xs.size):ba xs (xs[i]+1)=i+1:=by
 obtain⟨h1,h2,h3⟩:=Zz hs (xs[i]+1)
 rcases Nat.lt_trichotomy (ba xs (xs[i]+1)) (i+1)with h|h|h
 ·have:=h3 i hi (cK h);omega
 ·exact h
 ·have a:=h2 (i+1) (ae h h1) h;have b:=hs.get (i:=i) (j:=i+1) (by omega) (aI _);omega
def Np(hs:Hy xs)(hn:xs[ba xs j]?≠a_ j):Hy (SetTable.insertAt xs (ba xs j) j):=by
 obtain⟨h1,h2,h3⟩:=Zz hs j;unfold Hy;rw[SetTable.toList_insertAt];have hs':xs.toList.Pairwise (·< ·):=hs;refine List.pairwise_append.mpr ⟨hs'.sublist (HP _ _),ik.mpr ⟨λy hy=>?_,hs'.sublist (List.drop_sublist _ _)⟩,λx hx y hy=>?_⟩
 ·obtain⟨k,hk,rfl⟩:=fX.mp hy;rw[HQ];have hk':ba xs j+k<xs.size:=by simpa [tF]using(by simp at hk;omega:ba xs j+k<xs.size)
  have a:=h3 (ba xs j+k) hk' (bO _ _)
  have hne:xs[ba xs j+k]≠j:=by
   intro e
   cases k with
   |zero=>exact hn (by rw[a9 (by simpa using hk')];simpa using e)
   |succ k=>
     have b:=hs.get hk' (show ba xs j<ba xs j+(k+1)from(dF (bO _ _)));have c:=h3 (ba xs j) (aN (bO _ _) hk') (aI _);exact eh b (ae (aM e) c)
  have:j<xs[ba xs j+k]:=by omega
  simpa using this
 ·obtain⟨k,hk,rfl⟩:=fX.mp hx;rw[List.getElem_take];have hk2:k<ba xs j:=by simp at hk;exact ae hk (Nat.min_le_left _ _)
  have a:=h2 k (ae hk2 h1) hk2;have a':xs.toList[k]'(by simp;omega)<j:=by simpa using a
  rcases aq.mp hy with rfl|hy
  ·exact a'
  ·obtain⟨m,hm,rfl⟩:=fX.mp hy;rw[HQ];have hm':ba xs j+m<xs.size:=by simp at hm;omega
   have b:=h3 (ba xs j+m) hm' (bO _ _);have b':j<=xs.toList[ba xs j+m]'(by simp;omega):=by simpa using b
   exact ae a' b'
structure sI(led:Bool)(t:jk):Prop where
 d:t.dummies=#[]
 r:Hy t.place
 l:t.led=led
def Gh(n:Nat):Hy (Array.range n):=by
 unfold Hy;rw[Array.toList_range];exact BJ
def sI.fresh(led:Bool):sI led (.fresh 0 0 led):=⟨rfl,by show List.Pairwise _ _;exact wu,rfl⟩
def sI.DW(h:sI led t)(n:Nat):sI led (t.standIn n):=⟨rfl,Gh n,h.l⟩
def sI.off(h:sI led t):sI led { t with plain:=d_ }:=⟨h.d,h.r,h.l⟩
def ET(j:Nat):wg #[] j=d_:=by simp[wg]
def Cr{t:jk}(hd:t.dummies=#[])(h:t.slot j=.empty):t.place[ba t.place j]?≠a_ j:=by
 intro e;unfold HF at h;simp only[e,beq_self_eq_true,if_true]at h;cases h
def Ct{t:jk}(hd:t.dummies=#[])(h:t.slot j=.dummy):False:=by
 unfold HF at h;rw[hd,ET]at h;dsimp only at h;split at h
 ·cases h
 ·simp at h
def Hi{t:jk}{p:Hl}(h:p.dummy=b_):(t.advance p).dummy=b_:=by
 unfold SetTable.advance;split
 ·exact h
 ·exact h
theorem uT{t:jk}(hd:t.dummies=#[]):∀(fuel:Nat) (p:Hl) {j:Nat} {d:Option Nat},p.dummy=b_->nR t ha hh fuel p=a_ (.empty j d)->
  d=b_/\t.place[ba t.place j]?≠a_ j
 |0,_,_,_,_,h=>by simp only[nR]at h;cases h
 |fuel+1,p,j,d,hp,h=>by
   simp only[nR]at h
   cases q:t.slot p.j with
   |empty=>
     rw[q]at h
     injection h with h
     injection h with h1 h2
     subst h1;subst h2;exact⟨hp,Cr hd q⟩
   |dummy=>exact(Ct hd q).elim
   |live i=>
     rw[q]at h;dsimp only at h;split at h
     ·injection h with h;cases h
     ·exact uT hd fuel _ (Hi hp) h
set_option tactic.hygienic true
def OO{t:jk}(hd:t.dummies=#[])(h:t.freeSlot hh=a_ (j,b)):t.place[ba t.place j]?≠a_ j:=by
 unfold SetTable.freeSlot at h;split at h
 ·rename_i j' d hq;have:=uT hd _ _ (by rfl) hq;obtain⟨e1,e2⟩:=this;subst e1
  injection h with h
  injection h with h1 h2
  subst h1;exact e2
 ·cases h
def sI.put(h:sI led t)(hn:t.place[ba t.place j]?≠a_ j):sI led (t.put j).1:=by
 refine⟨?_,Np h.r hn,h.l⟩;show(if wg t.dummies j then _ else t.dummies)=_;rw[h.d,ET];rfl
def sI.or(h:sI led t)(n:Nat):sI led (t.orStandIn n):=by
 unfold SetTable.orStandIn;split
 ·exact h
 ·exact h.DW n
def sI.lay(h:sI led t)(es:Array (Int×ak))(hh:Int)(x:ak):sI led (layNew t es hh x).2.1:=by
 unfold layNew;split
 ·rename_i j b hq;exact(h.put (OO h.d hq)).or _
 ·exact h.DW _
def sI.laid(h:HG mask f m led pl hs=a_ (t,o)):sI led t:=by
 unfold HG at h;simp only[Option.bind_eq_bind,xX]at h;obtain⟨ow,h1,h⟩:=h
 injection h with h
 injection h with h2 h3
 subst h2;refine⟨rfl,?_,rfl⟩;show(P9 _ _).toArray.toList.Pairwise _;rw[FO,sN,List.pairwise_filterMap];refine List.Pairwise.imp ?_ BJ;intro a b hab x hx y hy;obtain⟨c,_,rfl⟩:=er hx;obtain⟨e,_,rfl⟩:=er hy;exact hab
def sI.Wf(h:sI led t)(es:Array (Int×ak))(n:Nat):sI led (relayAll t es n).2.1:=by
 unfold relayAll;split
 ·rename_i t' o hq;dsimp only;split
  ·unfold SetTable.relaid at hq;rw[h.l]at hq;exact sI.laid hq
  ·exact h.DW _
 ·exact h.DW _
set_option tactic.hygienic false
structure mP(led:Bool)(h:bM)(S:aE)(es:Array (Int×ak))(ep:Nat)(t:jk):Prop where
 obj:h.get? S=a_ { cls:=.type "set",dict:=b_,data:=.set es ep t }
 fits:t.fits es.size=c_
 ok:sI led t
def mP.keep{h':bM}(y:mP led h S es ep t)(k:∀o,h.get? S=a_ o->h'.get? S=a_ o):mP led h' S es ep t:=⟨k _ y.obj,y.fits,y.ok⟩
noncomputable abbrev oy(w:dH):Bool:=!w.params.followText "set-order"
def om{α β:Type}{R:α->β->Prop}{l l':List α}(p:l'.Perm l):∀{ks:List β},jC R l ks->∃ks',jC R l' ks'/\ks'.Perm ks:=by
 induction p with
 |nil=>intro ks h;cases h;exact⟨[],.nil,.nil⟩
 | cons x p ih=>intro ks h;cases h with
   |cons a b=>obtain⟨ks',c,d⟩:=ih b;exact⟨_::ks',.cons a c,d.cons _⟩
 | swap x y l=>intro ks h;cases h with
   | cons a b=>cases b with
     |cons c d=>exact⟨_,.cons c (.cons a d),.swap _ _ _⟩
 |trans p q ih1 ih2=>
   intro ks h;obtain⟨k1,a,b⟩:=ih2 h;obtain⟨k2,c,d⟩:=ih1 a;exact⟨k2,c,d.trans b⟩
theorem sR{α β:Type}{R:α->β->Prop}{x:α}{y:β}(h:R x y):∀{l:List α}{ks:List β},jC R l ks->jC R (l++[x]) (ks++[y])
 |_,_,.nil=>.cons h .nil
 |_,_,.cons a b=>.cons a (sR h b)
theorem m4{α β:Type}{R:α->β->Prop}:∀{l:List α}{ks:List β},jC R l ks->l.length=ks.length
 |_,_,.nil=>rfl
 |_,_,.cons a b=>by rw[aS,aS,m4 b]
theorem sS{α β:Type}{R:α->β->Prop}{x:α}:∀{l:List α}{ks:List β},jC R l ks->x∈l->∃y∈ks,R x y
 |_,_,.nil,h=>by cases h
 |_,_,.cons a b,h=>by
   rcases aq.mp h with rfl|h
   ·exact⟨_,.head _,a⟩
   ·obtain⟨y,c,d⟩:=sS b h;exact⟨y,.tail _ c,d⟩
theorem qI{α β:Type}{R:α->β->Prop}{y:β}:∀{l:List α}{ks:List β},jC R l ks->y∈ks->∃x∈l,R x y
 |_,_,.nil,h=>by cases h
 |_,_,.cons a b,h=>by
   rcases aq.mp h with rfl|h
   ·exact⟨_,.head _,a⟩
   ·obtain⟨x,c,d⟩:=qI b h;exact⟨x,.tail _ c,d⟩
section
variable{prog:cY}{w:dH}{K:Type}[DecidableEq K]{knd:me prog w K}{s:aw}
def zR{es':Array (Int×ak)}{t':jk}(y:mP led s.heap S es ep t)(f:t'.fits es'.size=c_)(o:sI led t')(hz:es'.size<=aD)
  (k:∀h',dP S s.heap h'->mP led h' S es' (ep+1) t'->Q () { s with heap:=h' }):ax (aB prog w) A (storeSet S es' t') Q E s:=by
 refine wpAny_storeSet_of y.obj rfl (k _ (nA ..) ⟨?_,f,o⟩) hz;have e:=dJ (Obj.putSet es' t') y.obj (by rw[putSet_of es' t' rfl];rfl);rw[putSet_of es' t' rfl]at e;exact e
def DX{g:Bool->Sem Unit}(hg:∀(c:Bool) (s1:aw) (R:Unit->aw->Prop),R () s1->ax (aB prog w) A (g c) R E s1){es1:Array (Int×ak)}{t1:jk}{d:Bool}{R:Option Bool->aw->Prop}
  (y:mP led s.heap S es ep t)(f:t1.fits es1.size=c_)(o:sI led t1)(hz:es1.size<o5)
  (k:∀h' es' ep' t',dP S s.heap h'->mP led h' S es' ep' t'->es'.toList.Perm es1.toList->R (a_ c_) { s with heap:=h' }) :
  ax (aB prog w) A (do
      storeSet S es1 t1
      if(!d && t1.tooFull)=c_ then do
         g (relayAll t1 es1 (kW es1.size)).2.2
         storeSet S (relayAll t1 es1 (kW es1.size)).1 (relayAll t1 es1 (kW es1.size)).2.1
         pure (a_ c_)
       else pure (a_ c_)) R E s:=by
 refine wb9 (zR y f o (fits_of_scanBound hz) λh1 sb y1=>?_);split
 ·have hp:=relayAll_perm t1 es1 (kW es1.size);have sz:(relayAll t1 es1 (kW es1.size)).1.size=es1.size:=by rw[<-cu,hp.length_eq,cu]
  refine wb9 (hg _ _ _ (wb9 (zR y1 (relayAll_fits ..) (o.Wf ..) (by rw[sz];exact fits_of_scanBound hz) λh2 sb2 y2=>?_)));exact wu9 (k h2 _ _ _ (sb.trans sb2) y2 hp)
 ·exact wu9 (k h1 _ _ _ sb y1 (.refl _))
def Ra(hk:knd.is k x=c_)(hx:x.scannable=c_)(y:mP led s.heap S es ep t)(el:P1 knd es.toList)(room:es.size+1<o5)
  (old:∀b,(∃e∈es.toList,knd.is k e.2=c_)->Q b s)
  (new:∀b h' es' ep' t',(¬ ∃e∈es.toList,knd.is k e.2=c_)->dP S s.heap h'->mP led h' S es' ep' t'->es'.toList.Perm (es.toList++[(knd.hash k,x)])->Q b { s with heap:=h' }) :
  ax (aB prog w) A (setAddHashed S x (knd.hash k)) Q E s:=by
 unfold setAddHashed setAddHashedIn;refine ck (wb9 (iY y.obj rfl y.fits ?_));dsimp only;rw[byScan_of hx (LN room) el,if_pos rfl];unfold setAddByScan;refine wb9 (wb9 (jU (wb9 (wpAny_setScan_of hk y.obj rfl y.fits el ?_))))
 cases q:List.findIdx? (λe=>knd.is k e.2) es.toList with
 |some j=>
   obtain⟨hj,hp,_⟩:=jM.mp q;exact wu9 (wu9 (old _ ⟨es.toList[j],bA hj,hp⟩))
 |none=>
   dsimp only
   have no:¬ ∃e∈es.toList,knd.is k e.2=c_:=by
    rintro⟨e,he,hp⟩;have:=fT.mp q e he;rw[hp]at this;cases this
   have gw:∀(c:Bool)(s1:aw)(R:Unit->aw->Prop),R () s1->ax (aB prog w) A (match c with|true=>rule "set.scan.the-table-gave-way"|false=>pure ()) R E s1:=by
    intro c s1 R h;cases c
    ·exact wu9 h
    ·exact jU h
   have p1:=layNew_perm t es (knd.hash k) x;have f1:=layNew_fits t es (knd.hash k) x;have o1:=y.ok.lay es (knd.hash k) x;generalize layNew t es (knd.hash k) x=L at p1 f1 o1 ⊢;obtain⟨es1,t1,d,gv⟩:=L;dsimp only at p1 f1 o1 ⊢;rw[Ht]at p1;have z1:es1.size=es.size+1:=by rw[<-cu,p1.length_eq,cg,cu];rfl
   refine wb9 (gw _ _ _ ?_);have fin:∀h' es' ep' t',dP S s.heap h'->mP led h' S es' ep' t'->es'.toList.Perm es1.toList->Q c_ { s with heap:=h' }:=λh' es' ep' t' a b c=>new _ h' es' ep' t' no a b (c.trans p1);split
   ·refine wb9 ?_;rw[hashByValue_scannable 8 hx];refine wu9 ?_;refine DX gw y ?_ ?_ (aN (aM z1) room) λh' es' ep' t' a b c=>wu9 (fin h' es' ep' t' a b c)
    ·split
     ·exact f1
     ·exact SetTable.fits_plain_off f1
    ·split
     ·exact o1
     ·exact o1.off
   ·refine wb9 (wu9 ?_);simp only[↓reduceIte];exact DX gw y f1 o1 (by omega) λh' es' ep' t' a b c=>wu9 (fin h' es' ep' t' a b c)
end
def lE{prog:cY}{w:dH}{K:Type}[DecidableEq K](knd:me prog w K)(led:Bool)(h:bM)(S:aE)(n:Nat)(M:K->Prop):Prop:=
 ∃es ep t ks,mP led h S es ep t/\P1 knd es.toList/\jC (λ(e:Int×ak)k=>knd.is k e.2=c_) es.toList ks/\ks.Nodup/\ks.length<=n/\∀q,q∈ks↔M q
section
variable{prog:cY}{w:dH}{K:Type}[DecidableEq K]{knd:me prog w K}{A:cm}{G:Array Mb->Array Mb->Prop}{St:Nat->aw->Prop}
def lE.keep{h':bM}(y:lE knd led h S n M)(k:∀o,h.get? S=a_ o->h'.get? S=a_ o):lE knd led h' S n M:=
 let ⟨es,ep,t,ks,a,r⟩:=y
 ⟨es,ep,t,ks,a.keep k,r⟩
def uZ{val:Nat->K}{i:Nat}{q:K}:(∃j,j<i+1/\val j=q)↔(∃j,j<i/\val j=q)\/val i=q:=by
 constructor
 ·rintro⟨j,h,e⟩;by_cases hj:j=i
  ·subst hj;exact .inr e
  ·exact .inl ⟨j,lV (cK h) hj,e⟩
 ·rintro(⟨j,h,e⟩|e)
  ·exact⟨j,bF h,e⟩
  ·exact⟨i,aI _,e⟩
def HZ(W:WalksS prog w A.in1 I fp wr G n P St)(S:aE)(hS:S∉fp)(val:Nat->K)(hv:∀i v,P i v->knd.is (val i) v=c_/\v.scannable=c_)(hb:n+1<o5) :
  ∀(k i:Nat)(s:aw),n - i=k->i<=n->St i s->lE knd led s.heap S i (λq=>∃j,j<i/\val j=q)->
   (∀s',Moved (S::wr) G s s'->lE knd led s'.heap S n (λq=>∃j,j<n/\val j=q)->R (.ok (.ret .none)) s')->
   codeAny (aB prog w) A (.builtin "set.update.loop" ⟨[.ref S,.ref I],[]⟩) R s:=by
 have hSw:S∉wr:=λh=>hS (W.sub _ h);have sub:∀b∈wr,b∈S::wr:=λb m=>jd _ m;intro k
 induction k with
 |zero=>
   intro i s hk hi hst y hR;obtain rfl:i=n:=by omega
   refine jO mR ?_;rw[kn iE];show ax _ A.in1 (pyNext (.ref I) >>= _) _ _ s;refine wb9 (W.done s _ _ hst λs' m=>?_);exact wu9 (hR s' (m.mono sub) (y.keep λo e=>m.heap S o hSw e))
 |succ k ih=>
   intro i s hk hi hst y hR;refine jO mR ?_;rw[kn iE];show ax _ A.in1 (pyNext (.ref I) >>= _) _ _ s;refine wb9 (W.item i s _ _ (by omega) hst λv s' hP hst' m=>?_);obtain⟨v1,v2⟩:=hv i v hP;obtain⟨es,ep,t,ks,ya,yb,yc,yd,ye,yf⟩:=y.keep λo e=>m.heap S o hSw e;show ax _ A.in1 (holding [v] (setAdd S v) >>= _) _ _ s';refine wb9 (ck ?_);unfold setAdd;refine ck (wb9 (knd.pyHash v1 ?_));have len:=m4 yc;rw[cu]at len
   have has:(∃e∈es.toList,knd.is (val i) e.2=c_)↔val i∈ks:=by
    constructor
    ·rintro⟨e,e1,e2⟩;obtain⟨q,q1,q2⟩:=sS yc e1;rw[knd.inj _ _ _ e2 q2];exact q1
    ·intro q;obtain⟨e,e1,e2⟩:=qI yc q;exact⟨e,e1,e2⟩
   have go:∀h',dP S s'.heap h'->lE knd led h' S (i+1) (λq=>∃j,j<i+1/\val j=q)->
     ax (aB prog w) A.in1 (again (.builtin "set.update.loop" ⟨[.ref S,.ref I],[]⟩)) (λfin s''=>match fin with | .done f=>R (.ok f) s'' | .again c'=>c'.quiet=c_/\codeAny (aB prog w) A c' R s'') (λe s''=>R (.error e) s'') { s' with heap:=h',toks:=s'.toks+1 }:=by
    intro h' sb y';refine wu9 ⟨FE iE _,ih (i+1) _ (by omega) (by omega) (W.frame _ s' _ _ hst' (kP _) λb hb o e=>?_) y' λs2 m2 y2=>?_⟩
    ·rw[sb.2 b λz=>hS (z▸hb)];exact e
    ·refine hR s2 (Moved.trans W.gtrans ((m.mono sub).then_heap (kP _) λb o hb e=>?_) m2) y2;rw[sb.2 b λz=>hb (z▸iw)];exact e
   refine Ra (led:=led) (s:={ s' with toks:=s'.toks+1 }) v1 v2 ya yb (by omega) (λb hq=>?_) (λb h' es' ep' t' hq sb y' p=>?_)
   ·refine go s'.heap (Heap.SameBut.refl ..) ⟨es,ep,t,ks,ya,yb,yc,yd,bF ye,λq=>?_⟩;show q∈ks↔∃j,j<i+1/\val j=q;rw[uZ,show(∃j,j<i/\val j=q)↔q∈ks from(yf q).symm];refine⟨.inl,λz=>z.elim id λe=>?_⟩;rw[<-e];exact has.mp hq
   ·obtain⟨ks',c1,c2⟩:=om p (sR (R:=λ(e:Int×ak)k=>knd.is k e.2=c_) (x:=(knd.hash (val i),v)) (y:=val i) v1 yc);have nk:val i∉ks:=λz=>hq (has.mpr z);refine go h' sb ⟨es',ep',t',ks',y',(yb.push v1 v2).perm p,c1,?_,?_,λq=>?_⟩
    ·refine c2.nodup_iff.mpr (fh.mpr ⟨yd,cv.mpr ⟨by simp,jQ⟩,λa ha b hb=>?_⟩);rw[aQ]at hb;subst hb;exact λz=>nk (z▸ha)
    ·rw[c2.length_eq,cg,BW];exact dF ye
    ·show q∈ks'↔∃j,j<i+1/\val j=q;rw[c2.mem_iff,aL,aQ,uZ,show(∃j,j<i/\val j=q)↔q∈ks from(yf q).symm];exact⟨λz=>z.imp id Eq.symm,λz=>z.imp id Eq.symm⟩
end
section
variable{prog:cY}{w:dH}{A:cm}{s:aw}
abbrev vU(w:dH):kX:={ cls:=.type "set",dict:=b_,data:=.set #[] 0 (.fresh 0 0 (oy w)) }
def MU(a:ak)(k:Q (.ref s.heap.objs.size) { s with heap:=s.heap.push (vU w) }):codeAny (aB prog w) A (.call (.builtin "set.__new__") ⟨[.type "set",a],[]⟩) (wants Q E) s:=by
 refine gR PySem.F.plain_set_new PySem.F.entry_set_new (zu (PySem.F.newCall_set_1 a) ?_);unfold gX.«set.__new__» Md;have ss:=sub_set_self;obtain⟨hp,g,d,tk,os⟩:=s;dsimp only
 wp_walk
 refine xQ ?_;refine wu9 ?_;dsimp only;simp only[newObj];exact wb9 (wpAny_alloc (wu9 (wu9 k)))
def zk{T:String}(ft:TypeCalled T nI iI)(ct:checkTypeCall T ⟨args,[]⟩=pure ())(eI:entryFor table iI=a_ B)
  (hn:codeAny (aB prog w) A.in1 (.call (.builtin nI) ⟨.type T::args,[]⟩) (wants Q1 E) s)
  (hx:∀ob s1,Q1 ob s1->s1.TypeIs ob T/\codeAny (aB prog w) A.in1 (.call (.builtin iI) ⟨ob::args,[]⟩) (wants (λr s2=>r=.none/\Q ob s2) E) s1) :
  ax (aB prog w) A (call (.type T) args) Q E s:=by
 obtain⟨c,tl,e1⟩:=ft.mro;have e2:=ft.made;have e3:=ft.sub;refine uo (codeAny_of_tree ?_);show ax _ _ (callAny (.type T) _) _ _ _;refine wu9 (Mh (lP _ (by decide +kernel)) (jO PySem.F.entry_type_call ?_));rw[Around.under_plain (weight_type_call_type T args []) rfl];have e4:=ft.notType;have e5:=ft.canCreate
 repeat any_goals first|assumption|wp_step
 refine gQ hn λr s1 hr=>?_
 cases r with
 |error e=>exact hr
 |ok fl=>
   cases fl with
   |ret ob=>
     obtain⟨hT,hI⟩:=hx _ _ hr;have e6:=ft.init.lookup;have e7:=ft.init.bind ob
     repeat any_goals first|assumption|wp_step
     refine gQ hI λr2 s2 hr2=>?_
     cases r2 with
     |error e=>exact hr2
     |ok fl2=>
       cases fl2 with
       |ret r=>
         obtain⟨rfl,hq⟩:=hr2
         repeat any_goals first|assumption|wp_step
       |_=>exact hr2.elim
   |_=>exact hr.elim
def Hh{T:String}(ty:s.TypeIs v T)(a:isSubtype (.type T) (.type "set")=pure d_)(b:isSubtype (.type T) (.type "frozenset")=pure d_)(k:Q d_ s):ax M A (o7 v) Q E s:=by
 unfold o7;show ax M A (isInstance v (.type "set") >>= _) Q E s;refine wb9 (iq ty a ?_);exact iq ty b k
variable{K:Type}[DecidableEq K]{knd:me prog w K}
def LF(prog:cY)(w:dH)(h:bM)(v:ak)(n:Nat)(P:Nat->ak->Prop):Prop:=
 ∀(A1:cm)(E1:ak->aw->Prop)(s1:aw)(Q1:ak->aw->Prop),h.objs.size<s1.heap.objs.size->(∀b o,h.get? b=a_ o->s1.heap.get? b=a_ o)->
  (∀(o:kX)(fp:List aE)(St:Nat->bM->Prop),(∀A',A'.handled=b_->Walks prog w A' s1.heap.objs.size fp [s1.heap.objs.size] n P St)->(∀b∈fp,b=s1.heap.objs.size\/b<h.objs.size)->St 0 (s1.heap.push o)->
   Q1 (.ref s1.heap.objs.size) { s1 with heap:=s1.heap.push o })->ax (aB prog w) A1 (HB v) Q1 E1 s1
def uL{T:String}(hh:A.handled=b_)(ty:∀s1:aw,(∀b o,s.heap.get? b=a_ o->s1.heap.get? b=a_ o)->s1.TypeIs v T)
  (a:isSubtype (.type T) (.type "set")=pure d_)(b:isSubtype (.type T) (.type "frozenset")=pure d_)(nd:(j7 T == j7 "dict")=d_)(itr:LF prog w s.heap v n P)
  (val:Nat->K)(hv:∀i v,P i v->knd.is (val i) v=c_/\v.scannable=c_)(hb:n+1<o5)
  (k:∀h' tk,lE knd (oy w) h' s.heap.objs.size n (λq=>∃j,j<n/\val j=q)->(∀b o,s.heap.get? b=a_ o->h'.get? b=a_ o)->Q (.ref s.heap.objs.size) { s with heap:=h',toks:=tk }) :
  ax (aB prog w) A (call (.type "set") [v]) Q E s:=by
 refine zk (Q1:=λob s1=>ob=.ref s.heap.objs.size/\s1={ s with heap:=s.heap.push (vU w) }) BU (PySem.F.typeCall_set_1 v) xV (MU v ⟨rfl,rfl⟩) ?_;rintro ob s1 ⟨rfl,rfl⟩;have gS:(s.heap.push (vU w)).get? s.heap.objs.size=a_ (vU w):=aK _ rfl;have hT:we { s with heap:=s.heap.push (vU w) } (.ref s.heap.objs.size) "set":=⟨_,gS,rfl⟩
 refine⟨hT,gR BU.init.plain xV (check_set_init_1 hT ?_)⟩;have e1:∀b o,s.heap.get? b=a_ o->(s.heap.push (vU w)).get? b=a_ o:=λb o e=>hp9 _ e;unfold gX.«set.__init__» noKeywords;generalize hU:nX=U
 wp_walk
 subst hU;unfold nX;refine wb9 (Hh (ty _ e1) a b ?_);simp only[bf,if_false];refine wb9 (ko (ty _ e1) ?_);rw[nd];simp only[bf,if_false];have sz:(s.heap.push (vU w)).objs.size=s.heap.objs.size+1:=dO ..;refine wb9 (itr _ _ _ _ (by show s.heap.objs.size<(s.heap.push (vU w)).objs.size;simp) e1 λo fp St W hfp st=>?_);have h3:A.in1.in1.in1.handled=b_:=by simp[hh]
 refine wb9 (wpAny_runValue ?_);refine HZ (knd:=knd) (led:=oy w) (W _ h3).toS s.heap.objs.size (λm=>?_) val hv hb n 0 _ rfl (bQ _) st ?_ ?_
 ·rcases hfp _ m with q|q
  ·have q':s.heap.objs.size=(s.heap.push (vU w)).objs.size:=q;rw[sz]at q';exact absurd q' (bc (nM _))
  ·exact absurd q (bp _)
 ·refine⟨#[],0,_,[],⟨hp9 _ gS,by rfl,sI.fresh _⟩,λe he=>by simp at he,.nil,jQ,aI _,λq=>?_⟩;simp
 ·intro s' m y;refine wu9 ?_;obtain⟨h',g',d',tk',os'⟩:=s';obtain rfl:g'=s.gens:=m.gens;obtain rfl:d'=s.drawn:=m.drawn;obtain rfl:os'=s.os:=m.os;refine wu9 ⟨rfl,k h' tk' y λb o e=>m.heap b o (λz=>?_) (hp9 _ (hp9 _ e))⟩;have lt:=hl9 e;simp only[aq,aX,or_false]at z
  rcases z with z|z
  ·rw[z]at lt;exact absurd lt (bp _)
  ·have z':b=(s.heap.push (vU w)).objs.size:=z;rw[z',sz]at lt;exact absurd (LN lt) (bp _)
end
def Bi:entryFor table "set.__iter__"=a_ gX.«frozenset.__iter__» :=entryFor_alias (id':="frozenset.__iter__") (by kernel_rfl) rfl (by decide +kernel) (by kernel_rfl)
def pA:entryFor table "set_iterator.__next__"=a_ gX.«set_iterator.__next__» :=entryFor_of_tree (by kernel_rfl)
def fA:Slot "set_iterator" "__next__" "set_iterator.__next__":=.of (owner:="set_iterator") (n:="__next__") (by rw[typeLookup_type,LK];kernel_rfl) (by decide +kernel) (by decide +kernel) (by decide +kernel) (.inl (by decide +kernel)) (by rw[rC];kernel_rfl)
def Am:Manifest.owners.lookup (String.ofList ['r','o','t','a','r','e','t','i','_','t','e','s'].reverse)=a_ Manifest.sig_set_iterator:=by kernel_rfl
def pC(a:ak):argsOk "set_iterator.__next__" ⟨[a],[]⟩:=by
 unfold argsOk;rw[signature?_of (id:="set_iterator.__next__") (n:=['_','_','t','x','e','n','_','_']) (o:=['r','o','t','a','r','e','t','i','_','t','e','s']) (by kernel_rfl) Am];kernel_rfl
theorem pZ{α:Type}:∀{xs:List α}{i:Nat}(h:i<xs.length),(xs[i]::xs.eraseIdx i).Perm xs
 |x::r,0,_=>by simp
 |x::r,i+1,h=>by
   have:=pZ (xs:=r) (i:=i) (by simpa using h);simp only[BK,List.eraseIdx_cons_succ];exact(List.Perm.swap _ _ _).trans (this.cons x)
theorem Em{α:Type}(nx:Nat->Nat):∀(fuel k:Nat)(left:List α)(out:Array α),left.length<=fuel->(vI nx fuel k left out).toList.Perm (out.toList++left)
 |0,k,left,out,h=>by
   obtain rfl:left=[]:=nC.mp (fV h (bQ _));simp only[vI,bJ];exact .refl _
 |fuel+1,k,left,out,h=>by
   simp only[vI]
   cases q:left[nx k % left.length]? with
   |none=>
     have:left=[]:=by
      cases left with
      |nil=>rfl
      |cons x r=>
        have hlt:nx k % (x::r).length<(x::r).length:=Nat.mod_lt _ (by simp);rw[ao hlt]at q;cases q
     subst this;simp
   |some x=>
     obtain⟨hlt,e⟩:=bx.mp q;have ih:=Em nx fuel (k+1) (left.eraseIdx (nx k % left.length)) (out.push x) (by rw[wt hlt];omega);refine ih.trans ?_;rw[Ht,mj];refine List.Perm.append_left _ ?_;rw[<-e];exact pZ hlt
def rT{α:Type}(nx:Nat->Nat)(xs:Array α):(pickOrder nx xs).toList.Perm xs.toList:=by
 have:=Em nx xs.size 0 xs.toList #[] (by simp);simpa [pickOrder]using this
section
def G4(hn:n≠0)(k:∀i d,i<n->Q i { s with drawn:=d }):ax (aB prog w) A (choose src n) Q E s:=λΓ p _=>by
 unfold choose;rw[Sem.wp_choose];exact⟨hn,k _ _ (Nat.mod_lt _ (HM hn))⟩
theorem E8{α:Type}:∀(n:Nat)(xs:List α)(s:aw){Q:List α->aw->Prop},xs.length<=n->(∀ys d,ys.Perm xs->Q ys { s with drawn:=d })->ax (aB prog w) A (drawOrder n xs) Q E s
 |0,xs,s,Q,h,k=>by
   obtain rfl:xs=[]:=nC.mp (fV h (bQ _));exact wu9 (k [] s.drawn (.refl _))
 |n+1,[],s,Q,h,k=>wu9 (k [] s.drawn (.refl _))
 |n+1,x::r,s,Q,h,k=>by
   simp only[drawOrder];refine wb9 (G4 (by simp) λi d hlt=>?_);rw[ao hlt];refine wb9 (E8 n ((x::r).eraseIdx i) _ (by rw[wt hlt];omega) λys d pm=>wu9 (k _ d ?_));exact(pm.cons _).trans (pZ hlt)
end
inductive Mode where
 |tx|dr (T:aE) (ps:List Nat)|pl
noncomputable def slotAt(t:jk):Nat->Nat
 |0=>0
 |i+1=>t.place.getD i 0+1
def Mode.first(t:jk)(i:Nat):Mode->ak
 |.tx=>rawInt 0
 |.dr T _=>.ref T
 |.pl=>rawInt (slotAt t i)
def Mode.Ok(w:dH)(es:Array (Int×ak))(t:jk)(h:bM)(I:aE):Mode->Prop
 |.tx=>w.params.followText "set-order"=c_
 |.dr T ps=>T≠I/\ps.Perm (aP es.size)/\h.get? T=a_ { cls:=.type "tuple",data:=.seq (ps.map λ(p:Nat)=>rawInt p).toArray }
 |.pl=>w.params.followText "set-order"=d_/\(!t.plain && decide (es.size > 1))=d_
noncomputable def Mode.ord(w:dH)(S:aE)(es:Array (Int×ak))(ep:Nat):Mode->List ak
 |.tx=>(pickOrder (w.params.setOrder S ep) es).toList.map (·.2)
 |.dr _ ps=>ps.map λp=>(es[p]?.map (·.2)).getD .none
 |.pl=>es.toList.map (·.2)
def Mode.JJ:∀{m:Mode},m.Ok w es t h I->(m.ord w S es ep).Perm (es.toList.map (·.2))
 |.tx,_=>(rT _ _).map _
 |.dr T ps,h=>by
   refine(h.2.1.map _).trans ?_;rw[show(aP es.size).map (λp=>(es[p]?.map (·.2)).getD di)=es.toList.map (·.2)from ?_];apply LQ (by simp);intro n h1 h2;simp at h1 h2;simp[h1]
 |.pl,_=>.refl _
structure BA(w:dH)(h:bM)(I S:aE)(es:Array (Int×ak))(ep:Nat)(t:jk)(m:Mode)(i:Nat):Prop where
 it:h.get? I=a_ { cls:=.type "set_iterator",data:=.fields #[m.first t i,rawInt i,.ref S,rawInt es.size,rawInt ep] }
 st:mP (oy w) h S es ep t
 md:m.Ok w es t h I
 ne:S≠I
section
variable{w:dH}{s:aw}{m:Mode}
def Mode.Ok.keep{h':bM}(y:m.Ok w es t h I)(k:∀b o,b≠I->h.get? b=a_ o->h'.get? b=a_ o):m.Ok w es t h' I:=by
 cases m with
 |dr T ps=>exact⟨y.1,y.2.1,k _ _ y.1 y.2.2⟩
 |_=>exact y
def oY(k:Q (w.params.followText "set-order") s):ax (aB prog w) A setsByText Q E s:=by
 unfold setsByText;exact wb9 (xQ (wu9 k))
def Mq(y:mP (oy w) s.heap S es ep t)(h:w.params.followText "set-order"=c_)(k:Q (pickOrder (w.params.setOrder S ep) es) s):ax (aB prog w) A (setWalk S) Q E s:=by
 unfold setWalk;refine wb9 (iY y.obj rfl y.fits ?_);dsimp only;refine wb9 (oY ?_);rw[h,if_pos rfl];exact wb9 (xQ (wu9 k))
def pN(y:mP (oy w) s.heap S es ep t):t.place.size=es.size:=by
 have:=y.fits;simp only[SetTable.fits,af,beq_iff_eq]at this;exact this.1
def EA(y:mP (oy w) s.heap S es ep t)(h:w.params.followText "set-order"=d_)(hd:(!t.plain && decide (es.size > 1))=d_)(hi:i<=es.size)
  (k:Q (match es[i]? with|some x=>a_ (x.2,slotAt t (i+1))|none=>b_) s):ax (aB prog w) A (setNext S (slotAt t i) g e) Q E s:=by
 unfold setNext;refine wb9 (iY y.obj rfl y.fits ?_);dsimp only;refine wb9 (oY ?_);rw[h,if_neg cJ];show ax (aB prog w) A (if(!t.plain && decide (es.size > 1))=c_ then _ else _) Q E s;rw[hd,if_neg cJ];show ax (aB prog w) A ((if(!t.led && !es.isEmpty)=c_ then _ else pure ()) >>= _) Q E s;rw[y.ok.l,oy,h];rw[if_neg (by simp)];refine wb9 (wu9 (wu9 ?_))
 have hb:ba t.place (slotAt t i)=i:=by
  cases i with
  |zero=>exact Lo y.ok.r
  |succ j=>
    have hj:j<t.place.size:=by rw[pN y];exact hi
    show ba t.place (t.place.getD j 0+1)=j+1;rw[show t.place.getD j 0=t.place[j] by rw[lu,a9 hj];rfl];exact Lp y.ok.r hj
 rw[hb]
 cases q:es[i]? with
 |none=>rw[q]at k;exact k
 |some x=>
   rw[q]at k
   have hlt:i<es.size:=by
    rcases dk.mp q with⟨a,_⟩;exact a
   have hp:t.place[i]?=a_ (t.place[i]'(by rw[pN y];exact hlt)):=a9 _;rw[hp];simp only[slotAt]at k;rw[show t.place.getD i 0=t.place[i]'(by rw[pN y];exact hlt) by rw[lu,hp];rfl]at k;exact k
def Ez{sl:Nat}(y:mP (oy w) s.heap S es ep t)(h:w.params.followText "set-order"=c_)(k:Q (((pickOrder (w.params.setOrder S ep) es)[i]?).map λe=>(e.2,sl)) s):ax (aB prog w) A (setNext S sl i ep) Q E s:=by
 unfold setNext;refine wb9 (iY y.obj rfl y.fits ?_);dsimp only;refine wb9 (oY ?_);rw[h,if_pos rfl];simp only[bne_self_eq_false,bf,if_false];exact wb9 (Mq y h (wu9 k))
def N4(y:mP (oy w) s.heap S es ep t)(hx:es[p]?=a_ x)(k:Q x.2 s):ax (aB prog w) A (setNextDrawn S p ep) Q E s:=by
 unfold setNextDrawn;refine wb9 (iY y.obj rfl y.fits ?_);dsimp only;simp only[bne_self_eq_false,bf,if_false];rw[hx];exact wu9 k
def Kh{c:ak}(y:BA w s.heap I S es ep t m i)(k:∀h',BA w h' I S es ep t m (i+1)->dP I s.heap h'->Q (.done (.ret r)) { s with heap:=h' })(hf:a=m.first t (i+1))(hb:b=rawInt ((i:Int)+1)) :
  ax (aB prog w) A (do setField (.ref I) 0 a;setField (.ref I) 1 b;ret r) Q E s:=by
 subst hf;subst hb;refine wb9 (bR y.it (by simp) λh1 g1 s1=>wb9 (bR g1 (by simp) λh2 g2 s2=>wu9 ?_));have kp:∀b o,b≠I->s.heap.get? b=a_ o->h2.get? b=a_ o:=λb o n e=>s2.extBut _ _ n (s1.extBut _ _ n e);refine k h2 ⟨?_,y.st.keep λo e=>kp _ _ y.ne e,y.md.keep kp,y.ne⟩ (s1.trans s2);rw[g2];simp
end
section
variable{A:cm}{s:aw}
def D2(y:BA w s.heap I S es ep t m i)
  (k:ax (aB prog w) A (if let .int slot _:=m.first t i then do
    match <-setNext S slot.toNat (i:Int).toNat (ep:Int).toNat with
    |some (x,next)=>do setField (.ref I) 0 (rawInt next);setField (.ref I) 1 (rawInt ((i:Int)+1));ret x
    |none=>do setField (.ref I) 2 .none;raiseNew (<-newExc (.type "StopIteration") [])
   else do
    let a_ places <-seqItems? (m.first t i)|unsupported "internal:set_iterator"
    match places[(i:Int).toNat]? with
    |some (.int place _)=>do let x <-setNextDrawn S place.toNat (ep:Int).toNat;setField (.ref I) 1 (rawInt ((i:Int)+1));ret x
    |some _=>unsupported "internal:set_iterator"
    |none=>do setField (.ref I) 0 (rawInt 0);setField (.ref I) 2 .none;raiseNew (<-newExc (.type "StopIteration") [])) Q E s) :
  ax (aB prog w) A (gX.«set_iterator.__next__» ⟨[.ref I],[]⟩) Q E s:=by
 show ax (aB prog w) A (fieldsOf (.ref I) >>= _) Q E s;refine wb9 (wpAny_fieldsOf y.it rfl ?_);dsimp only[rawInt];refine wb9 (PY y.st.obj rfl y.st.fits ?_);simp only[bne_self_eq_false,bf,if_false];exact k
def yg{α:Type}{Q:α->aw->Prop}(nh:A.handled=b_)(k:∀h' e,(∀b o,s.heap.get? b=a_ o->h'.get? b=a_ o)->(∃o,h'.get? e=a_ o/\o.cls=.type "StopIteration")->E (.ref e) { s with heap:=h' }) :
  ax (aB prog w) A (do raiseNew (<-newExc (.type "StopIteration") []):Sem α) Q E s:=by
 refine wb9 ?_;simp only[newExc,newTuple];refine wb9 (cH (wb9 (m:=firstArgMember _ _) (zu (a:=di) (by first|rfl|(simp only[firstArgMember];rfl)) (cH ?_ (by size_fits)))) (by size_fits));simp only[raiseNew];refine wb9 (wpAny_handled ?_);rw[nh];exact wb9 (wu9 (wpAny_throw (k _ _ (λb o e=>hp9 _ (hp9 _ e)) ⟨_,aK _ rfl,rfl⟩)))
def ML{Q:ak->aw->Prop}(y:BA w s.heap I S es ep t m i)(hi:i<es.size)(k:∀h' v,(m.ord w S es ep)[i]?=a_ v->BA w h' I S es ep t m (i+1)->dP I s.heap h'->Q v { s with heap:=h' }) :
  ax (aB prog w) A (gX.«set_iterator.__next__» ⟨[.ref I],[]⟩) (λf s'=>∃v,f=.done (.ret v)/\Q v s') E s:=by
 refine D2 y ?_
 cases m with
 |tx=>
   show ax (aB prog w) A (setNext S 0 i ep >>= _) _ E s;refine wb9 (Ez y.st y.md ?_)
   have hz:(pickOrder (w.params.setOrder S ep) es).size=es.size:=by
    have:=(rT (w.params.setOrder S ep) es).length_eq;simpa using this
   have hl:i<(pickOrder (w.params.setOrder S ep) es).size:=by rw[hz];exact hi
   rw[a9 hl];dsimp only[nB];refine Kh (c:=.none) y (λh' y' sb=>⟨_,rfl,k h' _ ?_ y' sb⟩) rfl rfl;simp only[Mode.ord,aY,n3];rw[a9 hl];rfl
 |dr T ps=>
   obtain⟨y1,y2,y3⟩:=id y.md;show ax (aB prog w) A (seqItems? (.ref T) >>= _) _ E s;refine wb9 (dE y3 rfl ?_);have hl:ps.length=es.size:=by rw[y2.length_eq,bX]
   have hps:i<ps.length:=ae hi (aM hl.symm);have hp:ps[i]<es.size:=aR.mp (y2.mem_iff.mp (bA hps));have hg:((ps.map λ(p:Nat)=>rawInt p).toArray)[(i:Int).toNat]?=a_ (rawInt (ps[i]:Nat)):=by simp[hps]
   dsimp only;rw[hg];dsimp only[rawInt];refine wb9 (N4 (p:=ps[i]) y.st (a9 hp) ?_);refine wb9 (bR y.it (by simp) λh1 g1 s1=>wu9 ⟨_,rfl,k h1 _ ?_ ⟨?_,y.st.keep λo e=>s1.extBut _ _ y.ne e,y.md.keep λb o n e=>s1.extBut _ _ n e,y.ne⟩ s1⟩)
   ·simp only[Mode.ord,aY];rw[ao hps];simp[a9 hp]
   ·rw[g1];simp[Mode.first,rawInt]
 |pl=>
   show ax (aB prog w) A (setNext S (slotAt t i) i ep >>= _) _ E s;refine wb9 (EA y.st y.md.1 y.md.2 (bo hi) ?_);rw[a9 hi];dsimp only;refine Kh (c:=.none) y (λh' y' sb=>⟨_,rfl,k h' _ ?_ y' sb⟩) rfl rfl;simp[Mode.ord,hi]
def Rn(nh:A.handled=b_)(y:BA w s.heap I S es ep t m es.size)(k:∀h' e,(∀b o,b≠I->s.heap.get? b=a_ o->h'.get? b=a_ o)->(∃o,h'.get? e=a_ o/\o.cls=.type "StopIteration")->E (.ref e) { s with heap:=h' }) :
  ax (aB prog w) A (gX.«set_iterator.__next__» ⟨[.ref I],[]⟩) Q E s:=by
 refine D2 y ?_
 cases m with
 |tx=>
   show ax (aB prog w) A (setNext S 0 es.size ep >>= _) _ E s;refine wb9 (Ez y.st y.md ?_)
   have hz:(pickOrder (w.params.setOrder S ep) es).size=es.size:=by
    have:=(rT (w.params.setOrder S ep) es).length_eq;simpa using this
   rw[ib (aM hz)];dsimp only[nB];refine wb9 (bR y.it (by simp) λh1 g1 s1=>?_);exact yg nh λh' e kp he=>k h' e (λb o n q=>kp _ _ (s1.extBut _ _ n q)) he
 |dr T ps=>
   obtain⟨y1,y2,y3⟩:=id y.md;show ax (aB prog w) A (seqItems? (.ref T) >>= _) _ E s;refine wb9 (dE y3 rfl ?_);have hl:ps.length=es.size:=by rw[y2.length_eq,bX]
   dsimp only;rw[ib (by simp[hl])];dsimp only;refine wb9 (bR y.it (by simp) λh1 g1 s1=>wb9 (bR g1 (by simp) λh2 g2 s2=>?_));exact yg nh λh' e kp he=>k h' e (λb o n q=>kp _ _ (s2.extBut _ _ n (s1.extBut _ _ n q))) he
 |pl=>
   show ax (aB prog w) A (setNext S (slotAt t es.size) es.size ep >>= _) _ E s;refine wb9 (EA y.st y.md.1 y.md.2 (aI _) ?_);rw[ib (aI _)];dsimp only;refine wb9 (bR y.it (by simp) λh1 g1 s1=>?_);exact yg nh λh' e kp he=>k h' e (λb o n q=>kp _ _ (s1.extBut _ _ n q)) he
def BA.ty(y:BA w s.heap I S es ep t m i):s.TypeIs (.ref I) "set_iterator":=⟨_,y.it,rfl⟩
def MI(y:BA w s.heap I S es ep t m i)(hi:i<es.size)(k:∀h' v,(m.ord w S es ep)[i]?=a_ v->BA w h' I S es ep t m (i+1)->dP I s.heap h'->Q (a_ v) { s with heap:=h' }) :
  ax (aB prog w) A (pyNext (.ref I)) Q E s:=by
 unfold pyNext;exact wb9 (nV (dB (name:=aa "__next__") y.ty fA (bP fA y.ty pA (ML y hi λh' v a b c=>wu9 (k h' v a b c)) (pC _))))
def Rk(nh:A.handled=b_)(y:BA w s.heap I S es ep t m es.size)(k:∀h',(∀b o,b≠I->s.heap.get? b=a_ o->h'.get? b=a_ o)->Q b_ { s with heap:=h' }) :
  ax (aB prog w) A (pyNext (.ref I)) Q E s:=by
 unfold pyNext;refine wb9 (nV (dB (name:=aa "__next__") y.ty fA (bP fA y.ty pA (Rn nh y λh' e kp he=>?_) (pC _))));obtain⟨o,ho,hc⟩:=he;exact wb9 (iq (T:="StopIteration") (b:=c_) ⟨o,ho,hc⟩ isSubtype_stop (wu9 (k _ kp)))
end
def v3:entryFor table "set_iterator.__iter__"=a_ gX.«dict_keyiterator.__iter__» :=entryFor_alias (id':="dict_keyiterator.__iter__") (by kernel_rfl) rfl (by decide +kernel) (by kernel_rfl)
def pv:Slot "set_iterator" "__iter__" "set_iterator.__iter__":=.of (owner:="set_iterator") (n:="__iter__") (by rw[typeLookup_type,LK];kernel_rfl) (by decide +kernel) (by decide +kernel) (by decide +kernel) (.inl (by decide +kernel)) (by rw[rC];kernel_rfl)
def v9(a:ak):argsOk "set_iterator.__iter__" ⟨[a],[]⟩:=by
 unfold argsOk;rw[signature?_of (id:="set_iterator.__iter__") (n:=['_','_','r','e','t','i','_','_']) (o:=['r','o','t','a','r','e','t','i','_','t','e','s']) (by kernel_rfl) Am];kernel_rfl
def Mode.fp:Mode->List aE
 |.dr T _=>[T]
 |_=>[]
section
variable{A:cm}{s:aw}{es:Array (Int×ak)}{m:Mode}
def BA.frame{h':bM}(y:BA w h I S es ep t m i)(k:∀b∈I::S::m.fp,∀o,h.get? b=a_ o->h'.get? b=a_ o):BA w h' I S es ep t m i:=by
 refine⟨k I (.head _) _ y.it,y.st.keep λo e=>k S (.tail _ (.head _)) o e,?_,y.ne⟩
 cases m with
 |dr T ps=>exact⟨y.md.1,y.md.2.1,k T (.tail _ (.tail _ (.head _))) _ y.md.2.2⟩
 |tx=>exact y.md
 |pl=>exact y.md
def zU(hh:A.handled=b_):Walks prog w A I (I::S::m.fp) [I] es.size (λi v=>(m.ord w S es ep)[i]?=a_ v) (λi h=>BA w h I S es ep t m i) where
 sub:=λb hb=>by rw[aQ.mp hb];exact .head _
 frame:=λi h h' st k=>st.frame k
 item:=λi s Q E hi st k=>MI st hi λh' v a b c=>k v h' s.toks a b λb o hb e=>c.extBut _ _ (λz=>hb (z▸aQ.mpr rfl)) e
 done:=λs Q E st k=>Rk hh st λh' kp=>k h' s.toks λb o hb e=>kp b o (λz=>hb (z▸aQ.mpr rfl)) e
 self:=λi s Q E st k=>by
  refine wpAny_pyIter_slot st.ty pv (bP pv st.ty v3 ?_ (v9 _));show ax _ _ (ret (.ref I)) _ _ s;exact wu9 ⟨_,rfl,"set_iterator",_,st.ty,fA.lookup,k⟩
def CL(y:mP (oy w) s.heap S es ep t)(hz:es.size<=aD)
  (k:∀(h1:bM)d I m,s.heap.objs.size<=I->(∀b∈m.fp,s.heap.objs.size<=b)->(∀b o,s.heap.get? b=a_ o->h1.get? b=a_ o)->BA w h1 I S es ep t m 0->Q (.ref I) { s with heap:=h1,drawn:=d }) :
  ax (aB prog w) A (HB (.ref S)) Q E s:=by
 have ty:s.TypeIs (.ref S) "set":=⟨_,y.obj,rfl⟩
 have lt:=hl9 y.obj;refine wpAny_pyIter_slot ty zw (bP zw ty Bi ?_ (PySem.F.args_set_iter_1 _));show ax (aB prog w) _ (pI S >>= _) _ _ s;unfold pI;refine wb9 (wb9 (PY y.obj rfl y.fits (wu9 ?_)))
 have dr:∀{A1:cm}{E1:ak->aw->Prop}{Q1:Bool->aw->Prop},Q1 (!w.params.followText "set-order" && (!t.plain && decide (es.size > 1))) s->ax (aB prog w) A1 (setDrawn S) Q1 E1 s:=by
  intro A1 E1 Q1 h;unfold setDrawn;refine wb9 (iY y.obj rfl y.fits ?_);dsimp only;exact wb9 (oY (wu9 h))
 have one:∀{A1:cm} {E1:ak->aw->Prop} {Q1:Fin->aw->Prop} {m:Mode} (s1:aw) (f:ak),f=m.first t 0->m.Ok w es t s1.heap s1.heap.objs.size->s.heap.objs.size<=s1.heap.objs.size->(∀b o,s.heap.get? b=a_ o->s1.heap.get? b=a_ o)->
   (∀h1,h1=s1.heap.push { cls:=.type "set_iterator",data:=.fields #[m.first t 0,rawInt (0:Nat),.ref S,rawInt es.size,rawInt ep] }->BA w h1 s1.heap.objs.size S es ep t m 0->Q1 (.done (.ret (.ref s1.heap.objs.size))) { s1 with heap:=h1 })->
   ax (aB prog w) A1 (do ret (<-newFields "set_iterator" [f,rawInt 0,.ref S,rawInt es.size,rawInt (<-setEpoch S)])) Q1 E1 s1:=by
  intro A1 E1 Q1 m s1 f hf ok le ex h;have y1:=y.keep (h':=s1.heap) λo e=>ex _ _ e;refine wb9 (wpAny_setEpoch_of y1.obj rfl y1.fits ?_);refine wb9 ?_;unfold newFields;refine cH ?_ (by size_fits);subst hf;exact wu9 (h _ rfl ⟨aK _ rfl,y1.keep λo e=>hp9 _ e,ok.keep λb o n e=>hp9 _ e,by have:=aW lt le;exact bc this⟩)
 refine wb9 (dr ?_)
 cases hb:w.params.followText "set-order" with
 |true=>
   simp only[gp,pk,bf,if_false];refine wb9 (wu9 ?_);refine one (m:=.tx) s _ rfl hb (aI _) (λb o e=>e) λh1 e1 y1=>⟨_,rfl,"set_iterator",_,y1.ty (s:={ s with heap:=h1 }),fA.lookup,?_⟩
   subst e1;exact k _ s.drawn _ .tx (aI _) (λb h=>by cases h) (λb o e=>hp9 _ e) y1
 |false=>
   cases hd:(!t.plain && decide (es.size > 1))with
   |false=>
     simp only[wy,fN,bf,if_false];refine wb9 (wu9 ?_);refine one (m:=.pl) s _ rfl ⟨hb,hd⟩ (aI _) (λb o e=>e) λh1 e1 y1=>⟨_,rfl,"set_iterator",_,y1.ty (s:={ s with heap:=h1 }),fA.lookup,?_⟩
     subst e1;exact k _ s.drawn _ .pl (aI _) (λb h=>by cases h) (λb o e=>hp9 _ e) y1
   |true=>
     simp only[wy,eY,if_true];refine wb9 (E8 es.size (aP es.size) s (by simp) λps d pm=>?_);have hl:ps.length=es.size:=by rw[pm.length_eq,bX]
     refine wb9 (wpAny_newTuple ?_ (by rw[ag,hl];exact hz));refine one (m:=.dr s.heap.objs.size ps) _ _ rfl ⟨?_,pm,?_⟩ ?_ ?_ ?_
     ·show s.heap.objs.size≠(s.heap.push _).objs.size;rw[dO];exact bc (nM _)
     ·exact aK _ rfl
     ·show s.heap.objs.size<=(s.heap.push _).objs.size;rw[dO];exact kP _
     ·exact λb o e=>hp9 _ e
     ·intro h1 e1 y1;refine⟨_,rfl,"set_iterator",_,y1.ty (s:={ s with heap:=h1,drawn:=d }),fA.lookup,?_⟩;subst e1;refine k _ d _ _ ?_ ?_ ?_ y1
      ·show s.heap.objs.size<=(s.heap.push _).objs.size;rw[dO];exact kP _
      ·intro b hb;rw[aQ.mp hb];exact aI _
      ·exact λb o e=>hp9 _ (hp9 _ e)
end
section
variable{A:cm}{s:aw}
def Cq:splitId "set.__len__"=a_ ("set","__len__"):=by decide +kernel
def Kq(ty:s.TypeIs v "set")(k:Q d_ s):ax M A (qr v) Q E s:=by
 unfold qr;refine wb9 (lR ty PySem.F.slot_set_len.lookup ?_);dsimp only;rw[Cq];dsimp only;refine wb9 (iq ty sub_set_self ?_);simp only[gp,bf,if_false];rw[if_pos (by decide +kernel)];refine wb9 (ko ty ?_);exact wu9 k
def C8{ord:List ak}(h:ItemsOf (λi v=>ord[i]?=a_ v) acc ord.length):acc.toList=ord:=by
 obtain⟨h1,h2⟩:=h;apply HS;intro i;by_cases hi:i<acc.size
 ·have:=h2 i acc[i] (a9 hi);rw[this,n3,a9 hi]
 ·rw[kc (by simpa using hi),kc (ae (aM h1.symm) (eU hi))]
def sZ(hh:A.handled=b_)(y:mP (oy w) s.heap S es ep t)(hz:es.size<=aD)
  (k:∀h1 d tk vs,(∀b o,s.heap.get? b=a_ o->h1.get? b=a_ o)->s.heap.objs.size<=h1.objs.size->vs.Perm (es.toList.map (·.2))->Q vs { s with heap:=h1,drawn:=d,toks:=tk }):ax (aB prog w) A (collect (.ref S)) Q E s:=by
 unfold collect;refine wb9 (wpAny_runValue (jO PySem.F.entry_proto_collect ?_));rw[kn PySem.F.plain_proto_collect];show ax _ A.in1 (newList [] >>= λl=>again (.builtin "list.__iadd__" ⟨[l,.ref S],[]⟩)) _ _ s;refine wb9 (cH ?_);refine wu9 (Mh (FE wm _) (jO PySem.F.entry_list_iadd ?_));rw[kn wm];have lt:=hl9 y.obj;generalize hL:s.heap.objs.size=L;generalize hlo:({ cls:=.type "list",data:=.seq ([]:List ak).toArray }:kX)=lo;have y1:mP (oy w) (s.heap.push lo) S es ep t:=y.keep λo e=>hp9 _ e;have gL:(s.heap.push lo).get? L=a_ { cls:=.type "list",data:=.seq (#[]:Array ak) }:=by rw[<-hL];exact(aK _ (by rw[<-hlo];rfl)).trans (by rw[<-hlo])
 have szL:(s.heap.push lo).objs.size=L+1:=by rw[dO,hL]
 have ne:L≠S:=by rw[<-hL];exact jW lt
 have ty:we { s with heap:=s.heap.push lo } (.ref S) "set":=⟨_,y1.obj,rfl⟩
 show ax _ A.in1 (qt (.ref L) (.ref S) (.ref L)) _ _ { s with heap:=s.heap.push lo };unfold qt;refine wb9 (ko ty ?_);have b1:sM (.ref L) (.ref S)=d_:=by simp[sM,ne]
 have b2:(j7 "set" == j7 "list")=d_:=bG;have b3:(j7 "set" == j7 "tuple")=d_:=bG;simp only[b1,b2,b3,zC,bf,if_false];refine wb9 (CL y1 hz λh1 d I m hI hm ex it=>?_);have ty2:we { s with heap:=h1,drawn:=d } (.ref S) "set":=⟨_,it.st.obj,rfl⟩
 refine wb9 (ck (Kq ty2 ?_));rw[if_pos (by decide +kernel)];refine wb9 (jU ?_);have g1:=ex _ _ gL;refine wb9 ?_;show ax _ A.in1 (updateSeq L (·.push .none) >>= λ_=>updateSeq L (·.pop)) _ _ _;refine wb9 (wpAny_updateSeq g1 rfl ?_);have g2:=dJ (jD (·.push di)) g1 rfl;refine wpAny_updateSeq g2 rfl ?_;have g3:=dJ (jD (·.pop)) g2 rfl
 have oth:∀b o,b≠L->h1.get? b=a_ o->((h1.update L (jD (·.push di))).update L (jD (·.pop))).get? b=a_ o:=
  λb o n e=>(dD _ _ (fJ n)).trans ((dD _ _ (fJ n)).trans e)
 have hI':L<I:=by have:(s.heap.push lo).objs.size<=I:=hI;rw[szL]at this;exact this
 have nf:L∉I::S::m.fp:=by
  intro z
  rcases aq.mp z with z|z
  ·rw[z]at hI';exact absurd hI' (bp _)
  ·rcases aq.mp z with z|z
   ·exact ne z
   ·have:=hm _ z;have this':(s.heap.push lo).objs.size<=L:=this;rw[szL]at this';exact absurd this' (Nat.not_succ_le_self _)
 have W:=(zU (prog:=prog) (w:=w) (A:=A.in1) (I:=I) (S:=S) (es:=es) (ep:=ep) (t:=t) (m:=m) (by simp[hh])).toS;refine wu9 (Mh (FE PySem.F.plain_extend_loop _) (codeAny_extend_loopS W hz _ nf _ es.size 0 _ _ _ rfl (bQ _) (it.frame λb hb o e=>oth b o (λz=>nf (z▸hb)) e) g3 (ItemsOf.nil _) λs' acc c mv gS hacc=>?_));show ax _ A (load L >>= _) _ _ s';refine wb9 (wpAny_load gS ?_);have hp:=Mode.JJ (S:=S) (ep:=ep) it.md;have hl:(m.ord w S es ep).length=es.size:=by rw[hp.length_eq,ag,cu]
 rw[<-hl]at hacc;have e:=C8 hacc;show ax _ A (pure acc.toList) _ _ s';rw[e];obtain⟨h',g',d',tk',os'⟩:=s';obtain rfl:g'=s.gens:=mv.gens;obtain rfl:d'=d:=mv.drawn;obtain rfl:os'=s.os:=mv.os;refine wu9 (k h' _ tk' _ (λb o q=>mv.heap b o (λz=>?_) (oth b o (λz=>?_) (ex _ _ (hp9 _ q)))) (by rw[hL];exact bo (hl9 gS)) hp)
 ·have lb:=hl9 q
  rcases aq.mp z with z|z
  ·rw[z,<-hL]at lb;exact absurd lb (bp _)
  ·rw[aQ.mp z,hL]at lb;exact absurd (iu lb hI') (bp _)
 ·have lb:=hl9 q;rw[z,<-hL]at lb;exact absurd lb (bp _)
end
section
variable{prog:cY}{w:dH}{A:cm}{s:aw}
def Hj(prog:cY)(w:dH)(A:cm)(s:aw)(v:ak)(Gd:List ak->Prop):Prop:=
 ∀(A':cm)(E':ak->aw->Prop)(Q':List ak->aw->Prop),A'.handled=A.handled->(∀vs h1 d tk,(∀b o,s.heap.get? b=a_ o->h1.get? b=a_ o)->s.heap.objs.size<=h1.objs.size->Gd vs->Q' vs { s with heap:=h1,drawn:=d,toks:=tk })->
  ax (aB prog w) A' (collect v) Q' E' s
def IL{is:List Int}(h64:is.length<64)(hc:Hj prog w A s v (λvs=>∃is',lJ vs is'/\is'.Perm is))
  (k:∀h' d tk l(out:List ak)is' e,(∀b o,s.heap.get? b=a_ o->h'.get? b=a_ o)->s.heap.objs.size<=l->h'.get? l=a_ (seqObj "list" out.toArray e)->lJ out is'->is'.Perm is->is'.Pairwise (·<=·)->Q (.ref l) { s with heap:=h',drawn:=d,toks:=tk }) :
  ax (aB prog w) A (call (.builtin "sorted") [v]) Q E s:=by
 refine wq kind_sorted plain_sorted entry_sorted (args_sorted1 _) ?_;unfold gX.«sorted»;refine wb9 (m:=checkCount "sorted" 1 1 _) (wu9 ?_);refine wb9 (hc _ _ _ (by rfl) λvs h1 d tk ex sz ⟨is1,i1,i2⟩=>?_);have hl:vs.length<64:=by rw[HL i1,i2.length_eq];exact h64
 refine wb9 (wpAny_newList ?_ (by rw[bu];exact bo (ae hl bG)));have g1:(h1.push (seqObj "list" vs.toArray 0)).get? h1.objs.size=a_ (seqObj "list" vs.toArray 0):=aK _ rfl;refine wb9 (ck (bP slot_list_sort ⟨_,g1,rfl⟩ entry_list_sort (list_sort_tree (s:={ s with heap:=h1.push (seqObj "list" vs.toArray 0),drawn:=d,toks:=tk }) g1 i1 hl λout is' a1 a2 a3=>⟨_,rfl,?_⟩) (args_list_sort _)));obtain⟨e,he⟩:=sortedHeap_at (out:=out) g1;refine wu9 ⟨_,rfl,k _ d tk _ out.toList is' e (λb o q=>?_) ?_ (by simpa using he) a1 (a2.trans i2) a3⟩
 ·have lb:=hl9 (ex b o q);exact(sortedHeap_old (bc lb) (by rw[size_push'];exact tD lb)).trans (hp9 _ (ex b o q))
 ·exact sz
def IK{ss:List a8}(h64:ss.length<64)(hc:Hj prog w A s v (λvs=>∃ss',pJ vs ss'/\ss'.Perm ss))
  (k:∀h' d tk l(out:List ak)ss' e,(∀b o,s.heap.get? b=a_ o->h'.get? b=a_ o)->s.heap.objs.size<=l->h'.get? l=a_ (seqObj "list" out.toArray e)->pJ out ss'->ss'.Perm ss->sortedS ss'=c_->Q (.ref l) { s with heap:=h',drawn:=d,toks:=tk }) :
  ax (aB prog w) A (call (.builtin "sorted") [v]) Q E s:=by
 refine wq kind_sorted plain_sorted entry_sorted (args_sorted1 _) ?_;unfold gX.«sorted»;refine wb9 (m:=checkCount "sorted" 1 1 _) (wu9 ?_);refine wb9 (hc _ _ _ (by rfl) λvs h1 d tk ex sz ⟨ss1,i1,i2⟩=>?_);have hl:vs.length<64:=by rw[show vs.length=ss1.length by rw[<-i1.strs,ag],i2.length_eq];exact h64
 refine wb9 (wpAny_newList ?_ (by rw[bu];exact bo (ae hl bG)));have g1:(h1.push (seqObj "list" vs.toArray 0)).get? h1.objs.size=a_ (seqObj "list" vs.toArray 0):=aK _ rfl;refine wb9 (ck (bP slot_list_sort ⟨_,g1,rfl⟩ entry_list_sort (list_sort_treeK (s:={ s with heap:=h1.push (seqObj "list" vs.toArray 0),drawn:=d,toks:=tk }) strKind_oneLt g1 i1.keysOf (λv₁ v₂ r e=>keyKind_strs (by rw[<-e];exact i1)) hl λst' hp hs=>⟨_,rfl,?_⟩) (args_list_sort _)));obtain⟨ss',a1,a2,a3⟩:=sorted_out_str i1 hp hs;obtain⟨e,he⟩:=sortedHeap_at (out:=(arrOf st').map (·.2)) g1;refine wu9 ⟨_,rfl,k _ d tk _ ((arrOf st').map (·.2)).toList ss' e (λb o q=>?_) ?_ (by rw[Array.toArray_toList];exact he) a1 (a2.trans i2) a3⟩
 ·have lb:=hl9 (ex b o q);exact(sortedHeap_old (bc lb) (by rw[size_push'];exact tD lb)).trans (hp9 _ (ex b o q))
 ·exact sz
end
end L2
namespace M
open PySem PySem.Spec PyProof.Rows L2
inductive XQ|add|sub|mul|fdiv|mod|shr|shl|band|bor|pow|mn|mx
inductive VD|eq|ne|lt|le|gt|ge|isin|nin|isn|nisn
inductive Ty|int|bool|str|tuple|list
inductive XS|len|list|tuple|all|any|isi (t:Ty)|listrev|int|str|min|max|sorted|sset|abs|sum
inductive Ye|join|split|upper|lower|find|index|count|get|startswith|isalpha|tindex
inductive QW|app|ext|ins|clr|seti|dput
mutual
noncomputable def kM:Dat->Dat->Bool
 | .non,y9=>match y9 with
   |.non=>c_
   |_=>d_
 | .bl a,y9=>match y9 with
   |.bl b=>a == b
   |.int j=>(if a then 1 else 0) == j
   |_=>d_
 | .int i,y9=>match y9 with
   |.bl b=>i == (if b then 1 else 0)
   |.int j=>i == j
   |_=>d_
 | .str x,y9=>match y9 with
   |.str y=>x == y
   |_=>d_
 | .tup xs,y9=>match y9 with
   |.tup ys=>l5 xs ys
   |_=>d_
 | .lst xs,y9=>match y9 with
   |.lst ys=>l5 xs ys
   |_=>d_
 |_,_=>d_
noncomputable def l5:List Dat->List Dat->Bool
 |[],[]=>c_
 |x::xs,y::ys=>kM x y && l5 xs ys
 |_,_=>d_
end
mutual
noncomputable def eO:Nat->Dat->Bool
 |_,.dct _ _=>d_
 |_,.dcn _=>d_
 |_,.exc _ _ _=>d_
 |0,.tup _=>d_
 |0,.lst _=>d_
 |n+1,.tup xs=>dI n xs
 |n+1,.lst xs=>dI n xs
 |_,_=>c_
noncomputable def dI:Nat->List Dat->Bool
 |_,[]=>c_
 |n,x::xs=>eO n x && dI n xs
end
noncomputable def iU:Dat->Option Bool
 |.non=>a_ d_
 |.bl b=>a_ b
 |.int i=>a_ (i != 0)
 |.str x=>if x.length<=aD then a_ ((x.length:Int) != 0)else b_
 |.tup xs=>a_ (!xs.isEmpty)
 |.lst xs=>a_ (!xs.isEmpty)
 |.dct ks _=>a_ (!ks.isEmpty)
 |.dcn _=>b_
 |.exc _ _ _=>b_
noncomputable instance (i j:Int):Decidable (Hk i j):=by unfold Hk;infer_instance
noncomputable instance (i j:Int):Decidable (PU i j):=by unfold PU;infer_instance
noncomputable instance (i j:Int):Decidable (LH i j):=by unfold LH;infer_instance
instance (x:a8) (j:Int):Decidable (BS x j):=by unfold BS;infer_instance
abbrev g_:=Option (Dat×Bool)
noncomputable def zl(f:Int->Int->g_):Dat->Dat->g_
 |.int i,.int j=>f i j
 |_,_=>b_
def v8:Dat->Dat->g_
 |.int i,.int j=>a_ (.int (i+j),d_)
 |.str x,.str y=>if x.length+y.length<=aD then a_ (.str (x++y),d_)else b_
 |.lst xs,.lst ys=>if xs.length+ys.length<=aD then a_ (.lst (xs++ys),jT (xs++ys))else b_
 |.tup xs,.tup ys=>if xs.length+ys.length<=aD then a_ (.tup (xs++ys),d_)else b_
 |_,_=>b_
noncomputable def v7:Dat->Dat->g_
 |.int i,.int j=>if Hk i j then a_ (.int (i * j),d_)else b_
 |.str x,.int j=>if BS x j then a_ (.str (PySem.Txt.mul x j),d_)else b_
 |_,_=>b_
def g9:XQ->Dat->Dat->g_
 |.add,a,b=>v8 a b
 |.sub,a,b=>zl (λi j=>a_ (.int (i - j),d_)) a b
 |.mul,a,b=>v7 a b
 |.mn,a,b=>zl (λi j=>a_ (.int (if j<i then j else i),d_)) a b
 |.mx,a,b=>zl (λi j=>a_ (.int (if i<j then j else i),d_)) a b
 |.fdiv,a,b=>zl (λi j=>if PU i j then a_ (.int (i / j),d_)else b_) a b
 |.mod,a,b=>zl (λi j=>if 0<j then a_ (.int (i % j),d_)else b_) a b
 |.shr,a,b=>zl (λi j=>if 0<=j then a_ (.int (i / 2 ^ j.toNat),d_)else b_) a b
 |.shl,a,b=>zl (λi j=>if LH i j then a_ (.int (i * 2 ^ j.toNat),d_)else b_) a b
 |.band,a,b=>zl (λi j=>a_ (.int (uv i j),d_)) a b
 |.bor,a,b=>zl (λi j=>a_ (.int (j6 i j),d_)) a b
 |.pow,a,b=>zl (λi j=>if LH i j then a_ (.int (i ^ j.toNat),d_)else b_) a b
noncomputable def oz:Dat->Option Key
 |.int i=>a_ (.inl i)
 |.str x=>a_ (.inr x)
 |_=>b_
instance aae (k:List NK) (ks:List (List NK)):Decidable (k∈ks):=@List.instDecidableMemOfLawfulBEq _ instBEqOfDecidableEq inferInstance k ks
def EL:List Dat->Option (List Key)
 |[]=>a_ []
 |d::ds=>(oz d).bind λk=>(EL ds).map λr=>k::r
def YW:Dat->Option N2
 |.int i=>a_ (.inl (.inl i))
 |.str x=>a_ (.inl (.inr x))
 |.tup ds=>(EL ds).map .inr
 |_=>b_
def Vn:List Dat->Option (List N2)
 |[]=>a_ []
 |d::ds=>(YW d).bind λk=>(Vn ds).map λr=>k::r
def YU:Dat->Option NK
 |.int i=>a_ (.inl (.inl i))
 |.str x=>a_ (.inl (.inr x))
 |.tup ds=>(Vn ds).map .inr
 |_=>b_
def WE:List Dat->Option (List NK)
 |[]=>a_ []
 |d::ds=>(YU d).bind λk=>(WE ds).map λr=>k::r
def Au:Dat->Option (List NK)
 |.tup ds=>WE ds
 |_=>b_
noncomputable def WA:List Key->Bool
 |[]=>c_
 |k::ks=>!(ks.any λj=>decide (j=k)) && WA ks
noncomputable def iR(k:Key):List Key->List Dat->Option Dat
 |j::ks,v::vs=>if j=k then a_ v else iR k ks vs
 |_,_=>b_
noncomputable def Ap(k:Key):List Key->Bool
 |[]=>c_
 |j::ks=>if j=k then !(ks.any λi=>decide (i=k))else Ap k ks
noncomputable def putD(k:Key)(d:Dat):List Key->List Dat->List Key×List Dat
 |j::ks,v::vs=>if j=k then(j::ks,d::vs)else((j::(putD k d ks vs).1),(v::(putD k d ks vs).2))
 |_,_=>([k],[d])
noncomputable def BO(f:Int->Int->Bool):Dat->Dat->Option Bool
 |.int i,.int j=>a_ (f i j)
 |_,_=>b_
def Hd(a:Dat):Dat->Option Bool
 | .str y=>match a with
   |.str x=>a_ (!(cQ y x 0 y.length 1).isEmpty)
   |_=>b_
 |.lst ys=>if eO 20 a && dI 20 ys then a_ (ys.any λy=>kM y a)else b_
 |.tup ys=>if eO 20 a && dI 20 ys then a_ (ys.any λy=>kM y a)else b_
 | .dct ks vs=>match oz a with
   |some k=>a_ (iR k ks vs).isSome
   |none=>if ks.isEmpty=c_ then(Au a).map λ_=>d_ else b_
 |.dcn ks=>(Au a).map λk=>decide (k∈ks)
 |_=>b_
def sA(a:Dat):Dat->Option Bool
 | .str y=>match a with
   |.str x=>a_ (!(!(cQ y x 0 y.length 1).isEmpty))
   |_=>b_
 |.lst ys=>if eO 20 a && dI 20 ys then a_ (!(ys.any λy=>kM y a))else b_
 |.tup ys=>if eO 20 a && dI 20 ys then a_ (!(ys.any λy=>kM y a))else b_
 |.dct ks vs=>(oz a).map λk=>!(iR k ks vs).isSome
 |_=>b_
noncomputable def Fl(b:Bool)(a:Dat):Dat->Option Bool
 |.non=>a_ (match a with | .non=>b|_=>!b)
 |_=>b_
def cx:VD->Dat->Dat->Option Bool
 |.eq,a,b=>if eO 20 a && eO 20 b then a_ (kM a b)else b_
 |.ne,a,b=>if eO 20 a && eO 20 b then a_ (!kM a b)else b_
 |.lt,a,b=>BO (λi j=>decide (i<j)) a b
 |.le,a,b=>BO (λi j=>decide (i<=j)) a b
 |.gt,a,b=>BO (λi j=>decide (j<i)) a b
 |.ge,a,b=>BO (λi j=>decide (j<=i)) a b
 |.isin,a,b=>Hd a b
 |.nin,a,b=>sA a b
 |.isn,a,b=>Fl c_ a b
 |.nisn,a,b=>Fl d_ a b
def mG:Dat->Dat->Option Dat
 |.lst xs,.int i=>nJ xs i
 |.tup xs,.int i=>nJ xs i
 |.str z,.int i=>if z.length<=aD then(nJ z.cps.toList i).map λc=>.str ⟨#[c]⟩else b_
 |.dct ks vs,k=>(oz k).bind λk=>iR k ks vs
 |_,_=>b_
noncomputable def Al(r:g_):Option (Option Int):=r.bind λx=>match x.1 with
 |.int i=>a_ (a_ i)
 |_=>b_
def cutD{α:Type}(xs:List α)(lo hi:Option Int):List α:=(xs.drop (HT.ic xs.length 0 lo)).take (HT.ic xs.length xs.length hi - HT.ic xs.length 0 lo)
def zD:Dat->Option Int->Option Int->g_
 |.str x,lo,hi=>if x.length<=aD then a_ (.str (DR x lo hi),d_)else b_
 |.lst xs,lo,hi=>a_ (.lst (cutD xs lo hi),jT (cutD xs lo hi))
 |.tup xs,lo,hi=>a_ (.tup (cutD xs lo hi),d_)
 |_,_,_=>b_
def XZ:Dat->Bool
 |.exc _ _ _=>c_
 |_=>d_
noncomputable def kU:Ty->Dat->Bool
 |.int,.int _=>c_
 |.int,.bl _=>c_
 |.bool,.bl _=>c_
 |.str,.str _=>c_
 |.tuple,.tup _=>c_
 |.list,.lst _=>c_
 |_,_=>d_
noncomputable def jZ:List Dat->Option (List Bool)
 |[]=>a_ []
 |.bl b::ds=>(jZ ds).map λr=>b::r
 |_::_=>b_
noncomputable def pq:List Dat->Option (List a8)
 |[]=>a_ []
 |.str x::ds=>(pq ds).map λr=>x::r
 |_::_=>b_
noncomputable def qQ:List Dat->Option (List Int)
 |[]=>a_ []
 |.int x::ds=>(qQ ds).map λr=>x::r
 |_::_=>b_
noncomputable def qR{α:Type}(lt:α->α->Bool)(x:α):List α->List α
 |[]=>[x]
 |y::ys=>if lt x y=c_ then x::y::ys else if lt y x=c_ then y::qR lt x ys else y::ys
def eN{α:Type}(lt:α->α->Bool):List α->List α
 |[]=>[]
 |x::xs=>qR lt x (eN lt xs)
def ltI(i j:Int):Bool:=decide (i<j)
noncomputable def t7(x y:a8):Bool:=decide (x.cps.toList<y.cps.toList)
def lY(x:a8):List a8:=x.cps.toList.map λc=>⟨#[c]⟩
def wK(ss:List a8):g_:=if ss.length<4000/\(eN t7 ss).length<64 then a_ (.lst ((eN t7 ss).map .str),c_)else b_
def IH(is:List Int):g_:=if is.length<4000/\(eN ltI is).length<64 then a_ (.lst ((eN ltI is).map .int),c_)else b_
noncomputable def mxI:Int->List Int->Int
 |i,[]=>i
 |i,j::r=>mxI (if i<j then j else i) r
noncomputable def b1(f:Dat->g_):List Dat->g_
 |[d]=>f d
 |_=>b_
noncomputable def sG:Dat->g_
 |.lst xs=>a_ (.int xs.length,d_)
 |.tup xs=>a_ (.int xs.length,d_)
 |.str x=>if x.length<=aD then a_ (.int x.length,d_)else b_
 |.dct ks _=>a_ (.int ks.length,d_)
 |_=>b_
def mO:Dat->g_
 |.lst xs=>a_ (.lst xs,jT xs)
 |.tup xs=>a_ (.lst xs,jT xs)
 |_=>b_
def sE:Dat->g_
 |.lst xs=>a_ (.lst xs.reverse,jT xs.reverse)
 |.tup xs=>if xs.length<=1000000 then a_ (.lst xs.reverse,jT xs.reverse)else b_
 |.str x=>if x.length<=1000000 then a_ (.lst ((lY x).reverse.map .str),c_)else b_
 |_=>b_
noncomputable def sC:Dat->g_
 |.lst xs=>a_ (.tup xs,d_)
 |.tup xs=>a_ (.tup xs,d_)
 |_=>b_
noncomputable def bL(f:List Dat->g_):Dat->g_
 |.lst xs=>f xs
 |_=>b_
noncomputable def Hf(f:List Dat->g_)(g:a8->g_):Dat->g_
 |.lst xs=>f xs
 |.str x=>g x
 |_=>b_
noncomputable def sH:Dat->g_
 |.int i=>a_ (.int i,d_)
 |.bl b=>a_ (.int (if b then 1 else 0),d_)
 |.str x=>if x.length<=640 then(PySem.intText? x).map λi=>(.int i,d_)else b_
 |_=>b_
noncomputable def sD:Dat->g_
 |.int i=>if i.natAbs.log2<1920 then a_ (.str (toString i),d_)else b_
 |_=>b_
def dG:XS->List Dat->g_
 |.len,l=>b1 sG l
 |.list,l=>b1 mO l
 |.listrev,l=>b1 sE l
 |.tuple,l=>b1 sC l
 |.all,l=>b1 (bL λxs=>(jZ xs).map λbs=>(.bl (bs.all id),d_)) l
 |.any,l=>b1 (bL λxs=>(jZ xs).map λbs=>(.bl (bs.any id),d_)) l
 |.isi t,l=>b1 (λd=>if XZ d=c_ then b_ else a_ (.bl (kU t d),d_)) l
 | .sset,l=>b1 (Hf (λds=>match qQ ds,pq ds with
   |some is,_=>IH is
   |none,a_ ss=>wK ss
   |none,b_=>b_) λx=>wK (lY x)) l
 |.sorted,_=>b_
 |.int,l=>b1 sH l
 |.sum,l=>b1 (bL λds=>(qQ ds).map λis=>(.int is.sum,d_)) l
 | .max,l=>b1 (bL λds=>(qQ ds).bind λis=>match is with
   |[]=>b_
   |i::r=>a_ (.int (mxI i r),d_)) l
 |.str,l=>b1 sD l
 |.min,_=>b_
 |.abs,_=>b_
noncomputable def iV:Dat->Option (List Dat)
 |.lst xs=>a_ xs
 |.tup xs=>a_ xs
 |.str x=>a_ (x.cps.toList.map λc=>Dat.str ⟨#[c]⟩)
 |_=>b_
noncomputable def V1:Dat->Option (List Dat)
 |.lst xs=>a_ xs
 |.tup xs=>a_ xs
 |_=>b_
noncomputable def yr:List Dat->Option (List Dat)
 |[.int j]=>if j<=1000000/\-1000000<=j then a_ ((aP j.toNat).map λk:Nat=>Dat.int k)else b_
 |[.int i,.int j]=>if -1000000<=i/\i<=1000000/\-1000000<=j/\j<=1000000 then a_ ((aP (j - i).toNat).map λk:Nat=>Dat.int (i+k))else b_
 |_=>b_
noncomputable def kR:List Dat->List Dat->List Dat
 |x::xs,y::ys=>.tup [x,y]::kR xs ys
 |_,_=>[]
noncomputable def l6:Nat->List Dat->List Dat
 |_,[]=>[]
 |k,x::xs=>.tup [.int k,x]::l6 (k+1) xs
def mF(f:Dat->Option g_):List Dat->Option (List Dat×Bool)
 |[]=>a_ ([],c_)
 | d::ds=>(f d).bind λo=>(mF f ds).map λr=>match o with
   |some y=>(y.1::r.1,(y.2 || im y.1) && r.2)
   |none=>r
noncomputable def yj:Nat->List Dat->fP->fP
 |_,[],ρ=>ρ
 |k,d::ds,ρ=>yj (k+1) ds (ρ.set k (a_ d))
def Fo(nt:Nat)(one:Bool)(d:Dat)(ρ:fP):Option fP:=match one with
 |true=>a_ (ρ.set 0 (a_ d))
 | false=>match d with
   |.tup ds=>if ds.length=nt then a_ (yj 0 ds ρ)else b_
   |_=>b_
noncomputable def fS(nt:Nat)(caps:List Nat)(ρ:fP):fP:=be nt b_++caps.map λj=>(ρ[j]?).join
def findD(d:Dat):List Dat->Nat->Option Nat
 |[],_=>b_
 |x::xs,k=>if kM x d=c_ then a_ k else findD d xs (k+1)
noncomputable def Tf(f:a8->g_):Dat->List Dat->g_
 |.str x,[]=>f x
 |_,_=>b_
noncomputable def Of(f:a8->a8->g_):Dat->List Dat->g_
 |.str x,[.str y]=>f x y
 |_,_=>b_
noncomputable def WJ(f:a8->List Dat->g_):Dat->List Dat->g_
 |.str x,[.lst ds]=>f x ds
 |_,_=>b_
def GH:Dat->List Dat->g_
 |.tup ds,[d]=>if eO 20 d && dI 20 ds then(findD d ds 0).map λk=>(.int k,d_)else b_
 |_,_=>b_
def J1:Dat->List Dat->g_
 | .dct ks vs,[k]=>(oz k).bind λk=>match iR k ks vs with
   |some d=>a_ (d,d_)
   |none=>a_ (.non,d_)
 |_,_=>b_
def gZ:Ye->Dat->List Dat->g_
 |.join,a,l=>WJ (λx ds=>(pq ds).bind λys=>if(ys.map (·.length)).sum+ys.length * x.length<=1000000 then a_ (.str (eT x ys),d_)else b_) a l
 |.split,a,l=>Of (λx y=>if 0<y.length/\x.length<=1000000 then a_ (.lst ((eZ x y).map Dat.str),c_)else b_) a l
 |.upper,a,l=>Tf (λx=>if x.length<=1000000 then a_ (.str (PySem.Txt.upper x),d_)else b_) a l
 |.lower,a,l=>Tf (λx=>if x.length<=1000000 then a_ (.str (PySem.Txt.lower x),d_)else b_) a l
 |.find,a,l=>Of (λx y=>a_ (.int (fB x y),d_)) a l
 | .index,a,l=>Of (λx y=>match cQ x y 0 x.length 1 with
   |i::_=>a_ (.int i,d_)
   |[]=>b_) a l
 |.count,a,l=>Of (λx y=>a_ (.int (PySem.Txt.count x y),d_)) a l
 |.startswith,a,l=>Of (λx y=>a_ (.bl (PySem.Txt.startswith x y),d_)) a l
 |.tindex,a,l=>GH a l
 |.isalpha,a,l=>Tf (λx=>a_ (.bl (PySem.Txt.isalpha x),d_)) a l
 |.get,a,l=>J1 a l
def insI{α:Type}(x:α)(i:Int)(xs:List α):List α:=xs.take (HT.ic xs.length 0 (a_ i))++x::xs.drop (HT.ic xs.length 0 (a_ i))
def uM{α:Type}(x:α)(i:Int)(xs:List α):Option (List α):=(EM xs.length i).map λk=>xs.set k x
noncomputable def B7:Dat->List Dat->Option Dat
 |.lst ds,[d]=>if ds.length<aD then a_ (.lst (ds++[d]))else b_
 |_,_=>b_
noncomputable def B5:Dat->List Dat->Option Dat
 | .lst ds,l=>match l with
   |[.lst es]=>if ds.length+es.length<=aD then a_ (.lst (ds++es))else b_
   |[.tup es]=>if ds.length+es.length<=aD then a_ (.lst (ds++es))else b_
   |_=>b_
 |_,_=>b_
def B4:Dat->List Dat->Option Dat
 | .lst ds,l=>match l with
   |[.int i,d]=>if ds.length<aD/\-1000000<=i/\i<=1000000 then a_ (.lst (insI d i ds))else b_
   |_=>b_
 |_,_=>b_
noncomputable def B6:Dat->List Dat->Option Dat
 |.lst _,[]=>a_ (.lst [])
 |_,_=>b_
def B2:Dat->List Dat->Option Dat
 | .lst ds,l=>match l with
   |[d,.int i]=>if -1000000<=i/\i<=1000000 then(uM d i ds).map .lst else b_
   |_=>b_
 | .dct ks vs,l=>match l with
   |[d,k]=>(oz k).bind λk=>if ks.length<aD/\Ap k ks=c_ then a_ (.dct (putD k d ks vs).1 (putD k d ks vs).2)else b_
   |_=>b_
 |_,_=>b_
def B3:Dat->List Dat->Option Dat
 | .dct ks _,l=>match l with
   |[.bl c_,k]=>if ks.isEmpty=c_ then(Au k).map λk=>.dcn [k]else b_
   |_=>b_
 | .dcn ks,l=>match l with
   |[.bl c_,k]=>(Au k).bind λk=>if ks.length<aD/\k∉ks then a_ (.dcn (ks++[k]))else b_
   |_=>b_
 |_,_=>b_
def lz:QW->Dat->List Dat->Option Dat
 |.app,a,l=>B7 a l
 |.ext,a,l=>B5 a l
 |.ins,a,l=>B4 a l
 |.clr,a,l=>B6 a l
 |.seti,a,l=>B2 a l
 |.dput,a,l=>B3 a l
abbrev Fs:=Nat->List Dat->g_
structure Ex where
 fv:List Nat
 ev:Fs->fP->g_
noncomputable def bg(C:Fs)(e:Ex)(ρ:fP):g_:=e.ev C ρ
def iB(C:Fs):List Ex->fP->Option (List Dat)
 |[],_=>a_ []
 |e::es,ρ=>(bg C e ρ).bind λx=>(iB C es ρ).map λr=>x.1::r
def ni(C:Fs):List Ex->fP->Option (List Dat×Bool)
 |[],_=>a_ ([],c_)
 |e::es,ρ=>(bg C e ρ).bind λx=>(ni C es ρ).map λr=>(x.1::r.1,(x.2 || im x.1) && r.2)
def xw(C:Fs):List Ex->fP->Option Bool
 |[],_=>a_ c_
 |e::es,ρ=>(bg C e ρ).bind λx=>(iU x.1).bind λz=>if z=c_ then xw C es ρ else a_ d_
noncomputable def OM(es:List Ex):List Nat:=es.flatMap (·.fv)
inductive Iw where
 |itv (a:Ex)|rng (es:List Ex)|zip (es:List Ex)|enu (a:Ex)
def fvI:Iw->List Nat
 |.itv a=>a.fv
 |.rng _=>[]
 |.zip es=>OM es
 |.enu a=>a.fv
def HU(ds:List Dat):Option (List Dat):=match ds with
 |[.lst xs,.lst ys]=>a_ (kR xs ys)
 |[.tup xs,.tup ys]=>a_ (kR xs ys)
 |[.lst xs,.tup ys]=>a_ (kR xs ys)
 |[.tup xs,.lst ys]=>a_ (kR xs ys)
 |_=>b_
def sv(C:Fs)(it:Iw)(ρ:fP):Option (List Dat):=match it with
 |.itv a=>(bg C a ρ).bind λx=>iV x.1
 |.rng es=>(iB C es ρ).bind yr
 |.zip es=>(iB C es ρ).bind HU
 |.enu a=>(bg C a ρ).bind λx=>(V1 x.1).map λxs=>l6 0 xs
def U0(C:Fs)(ρ:fP):Option Ex->Option (Option Int)
 |none=>a_ b_
 |some e=>Al (bg C e ρ)
noncomputable def Ta:Dat->g_
 |.int i=>a_ (.int (-i),d_)
 |_=>b_
noncomputable def U5(k:g_):Dat->g_
 |.bl b=>if b=c_ then k else a_ (.bl d_,d_)
 |_=>b_
noncomputable def YR(k:g_):Dat->g_
 |.bl b=>if b=c_ then a_ (.bl c_,d_)else k
 |_=>b_
def kN(C:Fs)(nt:Nat)(one:Bool)(ρ0:fP)(ifs:List Ex)(elt:Ex)(d:Dat):Option g_:=
 (Fo nt one d ρ0).bind λρ1=>(xw C ifs ρ1).bind λb=>if b=c_ then(bg C elt ρ1).map a_ else a_ b_
namespace Ex
noncomputable def con(d:Dat):Ex:=⟨[],λ_ _=>a_ (d,d_)⟩
abbrev e_(i:Int):Ex:=con (.int i)
abbrev f_(x:a8):Ex:=con (.str x)
noncomputable def v(i:Nat):Ex:=⟨[i],λ_ ρ=>((ρ[i]?).join).map λd=>(d,d_)⟩
def bin(o:XQ)(a b:Ex):Ex:=⟨a.fv++b.fv,λC ρ=>(bg C a ρ).bind λx=>(bg C b ρ).bind λy=>g9 o x.1 y.1⟩
def neg(a:Ex):Ex:=⟨[],λC ρ=>(bg C a ρ).bind λx=>Ta x.1⟩
def cmp(o:VD)(a b:Ex):Ex:=⟨[],λC ρ=>(bg C a ρ).bind λx=>(bg C b ρ).bind λy=>(cx o x.1 y.1).map λr=>(.bl r,d_)⟩
def Pd(o o':VD)(a b c:Ex):Ex:=⟨[],λC ρ=>(bg C a ρ).bind λx=>(bg C b ρ).bind λy=>(cx o x.1 y.1).bind λr=>
 if r=c_ then(bg C c ρ).bind λz=>(cx o' y.1 z.1).map λr=>(.bl r,d_)else a_ (.bl d_,d_)⟩
def and(a b:Ex):Ex:=⟨a.fv++b.fv,λC ρ=>(bg C a ρ).bind λx=>U5 (bg C b ρ) x.1⟩
def or(a b:Ex):Ex:=⟨a.fv++b.fv,λC ρ=>(bg C a ρ).bind λx=>YR (bg C b ρ) x.1⟩
def not(a:Ex):Ex:=⟨[],λC ρ=>(bg C a ρ).bind λx=>(iU x.1).map λb=>(.bl (!b),d_)⟩
def ite(c a b:Ex):Ex:=⟨c.fv++a.fv++b.fv,λC ρ=>(bg C c ρ).bind λx=>(iU x.1).bind λz=>if z=c_ then bg C a ρ else bg C b ρ⟩
def tup(es:List Ex):Ex:=⟨OM es,λC ρ=>(ni C es ρ).bind λx=>if x.1.length<=1000000 then a_ (.tup x.1,x.2)else b_⟩
def lst(es:List Ex):Ex:=⟨OM es,λC ρ=>(ni C es ρ).bind λx=>if x.1.length<=1000000 then a_ (.lst x.1,x.2)else b_⟩
def ix(a b:Ex):Ex:=⟨a.fv++b.fv,λC ρ=>(bg C a ρ).bind λx=>(bg C b ρ).bind λy=>(mG x.1 y.1).map λd=>(d,d_)⟩
noncomputable def ofv(o:Option Ex):List Nat:=match o with
 |none=>[]
 |some e=>e.fv
def sl(a:Ex)(lo hi:Option Ex):Ex:=⟨a.fv++ofv lo++ofv hi,λC ρ=>(bg C a ρ).bind λx=>(U0 C ρ lo).bind λl=>(U0 C ρ hi).bind λh=>zD x.1 l h⟩
def call(f:Nat)(es:List Ex):Ex:=⟨OM es,λC ρ=>(iB C es ρ).bind λds=>C f ds⟩
def blt(b:XS)(es:List Ex):Ex:=⟨OM es,λC ρ=>(iB C es ρ).bind λds=>dG b ds⟩
def eD(m:Ye)(o:Ex)(es:List Ex):Ex:=⟨o.fv++OM es,λC ρ=>(bg C o ρ).bind λx=>(iB C es ρ).bind λds=>gZ m x.1 ds⟩
noncomputable def zb:Ex:=⟨[],λ_ _=>a_ (.dct [] [],c_)⟩
def comp(nt:Nat)(one:Bool)(caps:List Nat)(it:Iw)(ifs:List Ex)(elt:Ex):Ex:=⟨caps++fvI it,λC ρ=>(sv C it ρ).bind λitems=>if items.length<=1000000 then
 (mF (kN C nt one (fS nt caps ρ) ifs elt) items).map λys=>(.lst ys.1,ys.2)else b_⟩
end Ex
abbrev cX:=List g_
set_option genInjectivity true in
inductive Out where
 |nx (ρ:cX)|rt (d:Dat) (fr:Bool)|bk (ρ:cX)|ct (ρ:cX)
 |xc (c:Nat) (f:a8) (d:Dat)
noncomputable def sQ(ρ:cX):fP:=ρ.map λo=>match o with
 |some (d,d_)=>a_ d
 |_=>b_
def full(ρ:cX):fP:=ρ.map λo=>o.map (·.1)
def pT(ρ:cX):cX:=ρ.map λo=>o.map λs=>(s.1,d_)
def BZ(ρ:cX):sQ (pT ρ)=full ρ:=by
 unfold sQ pT full;rw[br];exact jg λo _=>by cases o<;>rfl
def kL(is:List Nat)(ρ:cX):cX:=is.foldl (λρ i=>ρ.modify i λo=>o.map λs=>(s.1,d_)) ρ
def pY(C:Fs)(e:Ex)(ρ:cX):Option (Dat×Bool×cX):=(bg C e (full ρ)).bind λx=>if(im x.1 || x.2)=c_ then a_ (x.1,x.2,ρ)
 else(bg C e (sQ (kL e.fv ρ))).map λy=>(y.1,y.2,kL e.fv ρ)
def Ux(C:Fs)(it:Iw)(ρ:cX):Option (List Dat×cX):=match it with
 |.itv a=>(pY C a ρ).bind λx=>(iV x.1).map λds=>(ds,x.2.2)
 |.rng es=>(sv C (.rng es) (full ρ)).map λds=>(ds,ρ)
 |.zip es=>(sv C (.zip es) (sQ (kL (OM es) ρ))).map λds=>(ds,kL (OM es) ρ)
 |.enu a=>(sv C (.enu a) (sQ (kL a.fv ρ))).map λds=>(ds,kL a.fv ρ)
noncomputable def oQ:List Nat->List Dat->cX->cX
 |i::is,d::ds,ρ=>oQ is ds (ρ.set i (a_ (d,d_)))
 |_,_,ρ=>ρ
def dW(one:Bool)(ts:List Nat)(d:Dat)(ρ:cX):Option cX:=match one with
 | true=>match ts with
   |[i]=>a_ (ρ.set i (a_ (d,d_)))
   |_=>b_
 | false=>match d with
   |.tup ds=>if ds.length=ts.length then a_ (oQ ts ds ρ)else b_
   |_=>b_
noncomputable def wH(k:cX->Option Out):Out->Option Out
 |.nx ρ=>k ρ
 |.ct ρ=>k ρ
 |.bk ρ=>a_ (.nx ρ)
 |.rt d fr=>a_ (.rt d fr)
 |.xc c f d=>a_ (.xc c f d)
def eE(bnd:Dat->cX->Option cX)(body:cX->Option Out):List Dat->cX->Option Out
 |[],ρ=>a_ (.nx ρ)
 |d::ds,ρ=>(bnd d ρ).bind λρ1=>(body ρ1).bind (wH (eE bnd body ds))
structure Sx where
 ex:Fs->cX->Option Out
def gJ(C:Fs)(s:Sx)(ρ:cX):Option Out:=s.ex C ρ
noncomputable def IP(k:cX->Option Out):Out->Option Out
 |.nx ρ=>k ρ
 |o=>a_ o
def bH(C:Fs):List Sx->cX->Option Out
 |[],ρ=>a_ (.nx ρ)
 |s::ss,ρ=>(gJ C s ρ).bind (IP (bH C ss))
def Yi(ts:List Nat)(ρ:cX):Dat->Option Out
 |.tup ds=>if ds.length=ts.length then a_ (.nx (oQ ts ds ρ))else b_
 |_=>b_
def JX(op:QW)(i:Nat)(ρ:cX)(ds:List Dat):g_->Option Out
 |some (d,c_)=>(lz op d ds).map λd'=>.nx (ρ.set i (a_ (d',c_)))
 |_=>b_
namespace Sx
def set(i:Nat)(e:Ex):Sx:={ ex:=λC ρ=>(pY C e ρ).map λx=>.nx (x.2.2.set i (a_ (x.1,x.2.1 && !im x.1))) }
def Qe(ts:List Nat)(e:Ex):Sx:={ ex:=λC ρ=>(pY C e ρ).bind λx=>Yi ts x.2.2 x.1 }
def ret(e:Ex):Sx:={ ex:=λC ρ=>(bg C e (full ρ)).map λx=>.rt x.1 x.2 }
noncomputable def rO(i:Nat):Sx:={ ex:=λ_ ρ=>((ρ[i]?).join).map λx=>.rt x.1 x.2 }
noncomputable def MC:Sx:={ ex:=λ_ _=>b_ }
def brk:Sx:={ ex:=λ_ ρ=>a_ (.bk ρ) }
def ifs(c:Ex)(a b:List Sx):Sx:={ ex:=λC ρ=>(bg C c (full ρ)).bind λx=>(iU x.1).bind λz=>if z=c_ then bH C a ρ else bH C b ρ }
def loop(one:Bool)(ts:List Nat)(it:Iw)(body:List Sx):Sx:={ ex:=λC ρ=>(Ux C it ρ).bind λx=>eE (dW one ts) (bH C body) x.1 x.2 }
def «mut» (op:QW)(i:Nat)(es:List Ex):Sx:={ ex:=λC ρ=>(ni C es (full ρ)).bind λx=>if x.2=c_ then JX op i ρ x.1 (ρ[i]?).join else b_ }
end Sx
noncomputable def xv:Dat->Option V
 |.int i=>a_ (.int i)
 |.str x=>a_ (.str x)
 |_=>b_
noncomputable def qX:Dat->Option Out
 | .tup l=>match l with
   |[.int c,.str f,d]=>a_ (.xc c.toNat f d)
   |_=>b_
 |_=>b_
def YC(c:Nat)(f:a8)(d:Dat):Option Out:=(xv d).map λ_=>.xc c f d
def o8:Nat:=1000
def Sx.wL(c:Nat)(f:a8)(e:Ex):Sx:={ ex:=λC ρ=>(bg C e (full ρ)).bind λx=>YC c f x.1 }
def Sx.OR(j:Nat)(es:List Ex):Sx:={ ex:=λC ρ=>match bg C (.call j es) (full ρ)with
 |some _=>a_ (.nx ρ)
 |none=>(bg C (.call (j+o8) es) (full ρ)).bind λx=>qX x.1 }
def Sx.Hu(j:Nat)(es:List Ex):Sx:={ ex:=λC ρ=>match bg C (.call j es) (full ρ)with
 |some x=>a_ (.rt x.1 x.2)
 |none=>(bg C (.call (j+o8) es) (full ρ)).bind λx=>qX x.1 }
noncomputable def Zm:Out->g_
 |.xc c f d=>a_ (.tup [.int c,.str f,d],d_)
 |_=>b_
noncomputable def Zn:Out->g_
 |.nx _=>a_ (.non,d_)
 |.rt d fr=>a_ (d,fr)
 |_=>b_
def GU(C:Fs)(np nl:Nat)(body:List Sx)(ds:List Dat):g_:=
 if ds.length=np then(bH C body (ds.map (λd=>a_ (d,d_))++be (nl - np) b_)).bind Zn else b_
def KY(C:Fs)(np nl:Nat)(body:List Sx)(ds:List Dat):g_:=
 if ds.length=np then(bH C body (ds.map (λd=>a_ (d,d_))++be (nl - np) b_)).bind Zm else b_
def gE(K:Fg)(C:Fs)(x:Ex):TE:=λσ H Q=>∃ρ d fr,bg C x ρ=a_ (d,fr)/\tE K ρ d fr σ H Q
def gA(K:Fg)(C:Fs)(xs:List Ex):TA:=λσ H Q=>∃ρ ds,iB C xs ρ=a_ ds/\tEs K ρ ds σ H Q
def gF(K:Fg)(C:Fs)(xs:List Ex):TA:=λσ H Q=>∃ρ ds al,ni C xs ρ=a_ (ds,al)/\tFs K ρ ds al σ H Q
def gT(K:Fg)(C:Fs)(x:Ex):TT:=λσ H Q=>∃ρ d fr b,bg C x ρ=a_ (d,fr)/\iU d=a_ b/\tT K ρ b σ H Q
abbrev SE(X:Cx)(C:Fs)(e:aV)(x:Ex):Prop:=PE X e (gE X.K C x)
abbrev SA(X:Cx)(C:Fs)(es:List aV)(xs:List Ex):Prop:=PA X es (gA X.K C xs)
abbrev SF(X:Cx)(C:Fs)(es:List aV)(xs:List Ex):Prop:=PA X es (gF X.K C xs)
abbrev ST(X:Cx)(C:Fs)(e:aV)(x:Ex):Prop:=PT X e (gT X.K C x)
def gB(K:Fg)(f:Dat->Dat->g_):R2:=λx y H Q=>∃da db d fr,f da db=a_ (d,fr)/\rD K da db d fr x y H Q
def gL(K:Fg)(f:List Dat->g_):List V->Hp->VK->Prop:=λxs H Q=>∃ds d fr,f ds=a_ (d,fr)/\rDs K ds d fr xs H Q
section
variable{X:Cx}{C:Fs}{e:aV}{xa:Ex}
def aT{K:Fg}:(d_=c_->gn K H H' d v):=λh=>nomatch h
def Ry(i:Nat)(hN:X.N[i]?=a_ x)(hv:LA X.env.scope x)(hd:(x == ("__debug__":a8))=d_)
  (hcd:(x == ("__classdict__":a8))=d_):SE X C (.Name x pos) (.v i):=
 PE.imp (pO hN hv hd hcd) λσ H Q z3=>by
  obtain⟨ρ,d,fr,h,F,g,R,k⟩:=z3;obtain⟨d',h1,h2⟩:=er h;cases h2
  have h1':ρ[i]?=a_ (a_ d):=by
   cases q:ρ[i]? with
   |none=>rw[q]at h1;cases h1
   |some z=>rw[q]at h1;exact congrArg a_ h1
  obtain⟨v,e1,r⟩:=R i d h1';exact⟨v,e1,k v F H (Step.refl g) r aT⟩
def uN(h:PE X e (tC v))(hd:∀F,Rep X.K F d v):SE X C e (.con d):=
 PE.imp h λσ H Q z3=>by
  obtain⟨ρ,d',fr,h,F,g,R,k⟩:=z3;cases h;exact k v F H (Step.refl g) (hd _) aT
def RH{j}:SE X C (.Constant (.int i) j pos) (.con (.int i)):=uN Sj λ_=>rfl
def V5{b:Bool}{j}:SE X C (.Constant (.bool b) j pos) (.con (.bl b)):=uN Ws λ_=>rfl
def RB{j}:SE X C (.Constant .none j pos) (.con .non):=uN Sh λ_=>rfl
def RA{j}:SE X C (.Constant (.str x) j pos) (.con (.str x)):=uN Se λ_=>rfl
def M7(hg:Gl X x)(hm:X.mg x=a_ u)(r:RelV v u)(hd':∀F,Rep X.K F d v)(hd:(x == ("__debug__":a8))=d_):SE X C (.Name x pos) (.con d):=uN (tW hg hm r hd) hd'
def Bu{α β γ:Type}{o:Option α}{o':Option β}{f:α->β->Option γ}{z:γ}(h:(o.bind λx=>o'.bind λy=>f x y)=a_ z):∃x y,o=a_ x/\o'=a_ y/\f x y=a_ z:=by
 obtain⟨x,h1,h⟩:=bS h;obtain⟨y,h2,h⟩:=bS h;exact⟨x,y,h1,h2,h⟩
def x8(hev:∀ρ d fr,bg C x ρ=a_ (d,fr)->∃p q,bg C xa ρ=a_ p/\bg C xb ρ=a_ q/\f p.1 q.1=a_ (d,fr)) :
  ∀σ H Q,gE X.K C x σ H Q->VO (gB X.K f) (gE X.K C xa) (gE X.K C xb) σ H Q:=λσ H Q z3=>by
 obtain⟨ρ,d,fr,h,F,g,R,k⟩:=z3;obtain⟨⟨da,fa⟩,⟨db,fb⟩,h1,h2,h3⟩:=hev ρ d fr h;refine⟨ρ,da,fa,h1,F,g,R,λv F1 H1 st1 r1 _=>⟨ρ,db,fb,h2,F1,st1.good,R.mono st1.ff,λw F2 H2 st2 r2 _=>?_⟩⟩;exact⟨da,db,d,fr,h3,F2,st2.good,r1.mono st2.ff,r2,λu F3 H3 st3 r3 f3=>k u F3 H3 ((st1.trans st2).trans st3) r3 λz=>(f3 z).back (F:=F) (st1.hh.trans st2.hh)⟩
def RJ(ho:iO X (binaryOp op) (gB X.K (g9 o)))(ha:SE X C a xa)(hb:SE X C b xb):SE X C (.BinOp a op b pos) (.bin o xa xb):=
 PE.imp (Wq ho ha hb) (x8 λρ d fr h=>by
  exact Bu h)
def mL(o:VD)(x y:Dat):g_:=(cx o x y).map λr=>(.bl r,d_)
def RI(ho:iO X (compareOp op) (gB X.K (mL o)))(ha:SE X C a xa)(hb:SE X C b xb)(hm:behindInMarks op b=d_):SE X C (.Compare a [op] [b] pos) (.cmp o xa xb):=
 PE.imp (NF ho ha hb hm) (x8 λρ d fr h=>by
  exact Bu h)
def Q8(ho:iO X (compareOp op) (gB X.K (mL o)))(ha:SE X C a xa)(hb:SE X C b xb)(hm:behindInMarks op b=d_):ST X C (.Compare a [op] [b] pos) (.cmp o xa xb):=
 PT.imp (Ny ho ha hb hm) λσ H Q z3=>by
  obtain⟨ρ,d,fr,b,h,hb,F,g,R,k⟩:=z3
  refine x8 (X:=X) (x:=.cmp o xa xb) (f:=mL o) (λρ d fr h=>by
   exact Bu h) σ H _ ⟨ρ,d,fr,h,F,g,R,λv F1 H1 st r _=>?_⟩
  obtain⟨p,q,_,_,h3⟩:=Bu h;obtain⟨z,_,h4⟩:=er h3;cases h4;cases hb;exact⟨_,r,k F1 H1 st⟩
def V4(hr:VC X (gB X.K λx y=>(mG x y).map λd=>(d,d_)))(ha:SE X C a xa)(hb:SE X C b xb)(hs:zq b):SE X C (.Subscript a b pos) (.ix xa xb):=
 PE.imp (Wr hr ha hb hs) (x8 λρ d fr h=>by
  exact Bu h)
def RC(ha:SE X C a xa):SE X C (.UnaryOp .USub a pos) (.neg xa):=
 PE.imp (Wo Q0 ha) λσ H Q z3=>by
  obtain⟨ρ,d,fr,h,F,g,R,k⟩:=z3;obtain⟨⟨da,fa⟩,h1,h⟩:=bS h;refine⟨ρ,da,fa,h1,F,g,R,λv F1 H1 st1 r1 _=>?_⟩
  cases da with
  |int i=>cases h;exact⟨i,r1,k _ F1 H1 st1 rfl aT⟩
  |_=>cases h
set_option tactic.hygienic true in
def DS{K:Fg}{F H:Hp}{d:Dat}{v:V}{b:Bool}(g:Good F H)(r:Rep K F d v)(h:iU d=a_ b):U8 K v H b:=by
 cases d with
 |non=>rw[show v=.non from r];cases h;exact rfl
 |bl c=>rw[show v=.bl c from r];cases h;exact rfl
 |int i=>rw[show v=.int i from r];cases h;exact rfl
 |str x=>
   rw[show v=.str x from r];simp only[iU]at h;split at h
   ·rename_i hz;cases h;exact⟨hz,rfl⟩
   ·cases h
 |tup ds=>
   obtain⟨p,vs,rfl,t,r⟩:=r;cases h
   have e:(!ds.isEmpty)=!vs.isEmpty:=by
    have:=r.length
    cases ds<;>cases vs<;>first|rfl|cases this
   rw[e];exact .inr (.inl ⟨vs,(t.mono g.sub).sq,rfl⟩)
 |lst ds=>
   obtain⟨p,vs,rfl,t,r⟩:=r;cases h
   have e:(!ds.isEmpty)=!vs.isEmpty:=by
    have:=r.length
    cases ds<;>cases vs<;>first|rfl|cases this
   rw[e];exact .inl ⟨vs,g.sub.seq t,rfl⟩
 |dcn _=>cases h
 |exc _ _ _=>cases h
 |dct ks ds=>
   obtain⟨p,k_,rfl,t,kk,r⟩:=r;cases h
   have e:(!ks.isEmpty)=!k_.isEmpty:=by
    rw[<-kk];cases k_<;>rfl
   rw[e];exact .inr (.inr ⟨k_,g.sub _ _ t,rfl⟩)
def lx(h:SE X C e xa)(he:∀whole,isTrue e X.env whole=(do let v <-whole;standAt e.pos;holding [v] (truthy v)):=by intro _;rfl):ST X C e xa:=
 PT.imp (Jo h he) λσ H Q ⟨ρ,d,fr,b,h,hb,F,g,R,k⟩=>⟨ρ,d,fr,h,F,g,R,λv F1 H1 st1 r1 _=>⟨b,DS st1.good r1 hb,k F1 H1 st1⟩⟩
abbrev SW(X:Cx)(C:Fs)(e:aV)(x:Ex):Prop:=PW X e (gT X.K C x)
def Mz(ha:ST X C a xa):SW X C (.BoolOp .And [a] pos) xa:=Nv ha
def Q5(ha:ST X C a xa):SW X C (.BoolOp .Or [a] pos) xa:=R0 ha
def PW.imp(h:PW X e t)(f:∀σ H Q,t' σ H Q->t σ H Q):PW X e t':=λwh h_ s σ H Q I q=>h wh h_ s σ H Q I (f _ _ _ q)
def Q6{rest:List aV}(ha:ST X C a xa)(hb:SW X C (.BoolOp .And (b::rest) pos) xb):SW X C (.BoolOp .And (a::b::rest) pos) (.and xa xb):=
 PW.imp (R3 ha hb) λσ H Q z3=>by
  obtain⟨ρ,d,fr,z,h,hz,F,g,R,k⟩:=z3;obtain⟨⟨da,fa⟩,h1,h⟩:=bS h
  cases da with
  |bl c=>
    cases c with
    |true=>exact⟨ρ,_,fa,c_,h1,rfl,F,g,R,λF1 H1 st1=>by
      refine C9 ?_
      exact⟨ρ,d,fr,z,h,hz,F1,st1.good,R.mono st1.ff,λF2 H2 st2=>k F2 H2 (st1.trans st2)⟩⟩
    |false=>
      cases h;cases hz
      exact⟨ρ,_,fa,d_,h1,rfl,F,g,R,λF1 H1 st1=>by
       refine Dc ?_
       exact k F1 H1 st1⟩
  |_=>cases h
def VU{rest:List aV}(ha:ST X C a xa)(hb:SW X C (.BoolOp .Or (b::rest) pos) xb):SW X C (.BoolOp .Or (a::b::rest) pos) (.or xa xb):=
 PW.imp (Wi ha hb) λσ H Q z3=>by
  obtain⟨ρ,d,fr,z,h,hz,F,g,R,k⟩:=z3;obtain⟨⟨da,fa⟩,h1,h⟩:=bS h
  cases da with
  |bl c=>
    cases c with
    |false=>exact⟨ρ,_,fa,d_,h1,rfl,F,g,R,λF1 H1 st1=>by
      refine Dc ?_
      exact⟨ρ,d,fr,z,h,hz,F1,st1.good,R.mono st1.ff,λF2 H2 st2=>k F2 H2 (st1.trans st2)⟩⟩
    |true=>
      cases h;cases hz
      exact⟨ρ,_,fa,c_,h1,rfl,F,g,R,λF1 H1 st1=>by
       refine C9 ?_
       exact k F1 H1 st1⟩
  |_=>cases h
def Q7(ha:ST X C a xa):ST X C (.UnaryOp .Not a pos) (.not xa):=
 PT.imp (R7 ha) λσ H Q z3=>by
  obtain⟨ρ,d,fr,z,h,hz,F,g,R,k⟩:=z3;obtain⟨⟨da,fa⟩,h1,h⟩:=bS h;obtain⟨b',hb,h⟩:=er h;cases h;cases hz;exact⟨ρ,da,fa,b',h1,hb,F,g,R,k⟩
def D5{op}(ha:SE X C a xa):SE X C (.BoolOp op [a] pos) xa:=Sf ha
def RL{rest:List aV}(ha:SE X C a xa)(hb:SE X C (.BoolOp .And (b::rest) pos) xb):SE X C (.BoolOp .And (a::b::rest) pos) (.and xa xb):=
 PE.imp (Sl ha hb) λσ H Q z3=>by
  obtain⟨ρ,d,fr,h,F,g,R,k⟩:=z3;obtain⟨⟨da,fa⟩,h1,h⟩:=bS h
  cases da with
  |bl c=>
    refine⟨ρ,_,fa,h1,F,g,R,λv F1 H1 st1 r1 _=>⟨c,r1,?_⟩⟩
    cases c with
    |true=>
      refine C9 ?_;exact⟨ρ,d,fr,h,F1,st1.good,R.mono st1.ff,λv F2 H2 st2 r2 f2=>k v F2 H2 (st1.trans st2) r2 λz=>(f2 z).back (F:=F) st1.hh⟩
    |false=>
      cases h;exact Dc (k _ F1 H1 st1 rfl aT)
  |_=>cases h
def V3{rest:List aV}(ha:SE X C a xa)(hb:SE X C (.BoolOp .Or (b::rest) pos) xb):SE X C (.BoolOp .Or (a::b::rest) pos) (.or xa xb):=
 PE.imp (Wp ha hb) λσ H Q z3=>by
  obtain⟨ρ,d,fr,h,F,g,R,k⟩:=z3;obtain⟨⟨da,fa⟩,h1,h⟩:=bS h
  cases da with
  |bl c=>
    refine⟨ρ,_,fa,h1,F,g,R,λv F1 H1 st1 r1 _=>⟨c,r1,?_⟩⟩
    cases c with
    |false=>
      refine Dc ?_;exact⟨ρ,d,fr,h,F1,st1.good,R.mono st1.ff,λv F2 H2 st2 r2 f2=>k v F2 H2 (st1.trans st2) r2 λz=>(f2 z).back (F:=F) st1.hh⟩
    |true=>
      cases h;exact C9 (k _ F1 H1 st1 rfl aT)
  |_=>cases h
def RE(hc:ST X C cnd xc)(ha:SE X C a xa)(hb:SE X C b xb):SE X C (.IfExp cnd a b pos) (.ite xc xa xb):=
 PE.imp (JD hc ha hb) λσ H Q z3=>by
  obtain⟨ρ,d,fr,h,F,g,R,k⟩:=z3;obtain⟨⟨da,fa⟩,h1,h⟩:=bS h;obtain⟨z,hz,h⟩:=bS h;refine⟨ρ,da,fa,z,h1,hz,F,g,R,λF1 H1 st1=>?_⟩
  cases z with
  |true=>
    refine C9 ?_;exact⟨ρ,d,fr,h,F1,st1.good,R.mono st1.ff,λv F2 H2 st2 r2 f2=>k v F2 H2 (st1.trans st2) r2 λz=>(f2 z).back (F:=F) st1.hh⟩
  |false=>
    refine Dc ?_;exact⟨ρ,d,fr,h,F1,st1.good,R.mono st1.ff,λv F2 H2 st2 r2 f2=>k v F2 H2 (st1.trans st2) r2 λz=>(f2 z).back (F:=F) st1.hh⟩
def mY:SA X C [] []:=PA.imp rV λσ H Q z3=>by
 obtain⟨ρ,ds,h,F,g,R,k⟩:=z3;simp only[iB]at h;cases h;exact k [] F H (Step.refl g) rfl
def iG(ha:SE X C e xa)(hr:SA X C es xs)(hs:aG (e::es) X.env=(d_,eval e X.env)::aG es X.env):SA X C (e::es) (xa::xs):=
 PA.imp (kT ha hr hs) λσ H Q z3=>by
  obtain⟨ρ,ds,h,F,g,R,k⟩:=z3;simp only[iB]at h;obtain⟨⟨d,fr⟩,h1,h⟩:=bS h;obtain⟨r,h2,h⟩:=er h;cases h;exact⟨ρ,d,fr,h1,F,g,R,λv F1 H1 st1 r1 _=>⟨ρ,r,h2,F1,st1.good,R.mono st1.ff,λvs F2 H2 st2 r2=>k _ F2 H2 (st1.trans st2) ⟨v,vs,rfl,r1.mono st2.ff,r2⟩⟩⟩
def yK(h:n<=1000000):n<=aD:=by rw[bu];exact ae h bG
def Rw:SF X C [] []:=PA.imp rV λσ H Q z3=>by
 obtain⟨ρ,ds,al,h,F,g,R,k⟩:=z3;simp only[ni]at h;cases h;exact k [] F H (Step.refl g) rfl λ_=>⟨[],jQ,(λa z=>by cases z),rfl,rfl⟩
def MR(ha:SE X C e xa)(hr:SF X C es xs)(hs:aG (e::es) X.env=(d_,eval e X.env)::aG es X.env):SF X C (e::es) (xa::xs):=
 PA.imp (kT ha hr hs) λσ H Q z3=>by
  obtain⟨ρ,ds,al,h,F,g,R,k⟩:=z3;simp only[ni]at h;obtain⟨⟨d,fr⟩,h1,h⟩:=bS h;obtain⟨⟨r,ar⟩,h2,h⟩:=er h;cases h;refine⟨ρ,d,fr,h1,F,g,R,λv F1 H1 st1 r1 f1=>⟨ρ,r,ar,h2,F1,st1.good,R.mono st1.ff,λvs F2 H2 st2 r2 f2=>k _ F2 H2 (st1.trans st2) ⟨v,vs,rfl,r1.mono st2.ff,r2⟩ λz=>?_⟩⟩;simp only[af,n0]at z;refine fw.cons st1.hh st2.hh ?_ (f2 z.2)
  rcases z.1 with z1|z1
  ·exact f1 z1
  ·exact .jS st1.good z1 r1
set_option tactic.hygienic true
def Rz{x1}(h:SF X C es xs):SE X C (.Tuple es x1 pos) (.tup xs):=
 PE.imp (JB h) λσ H Q z3=>by
  obtain⟨ρ,d,fr,h,F,g,R,k⟩:=z3;obtain⟨⟨ds,al⟩,h1,h⟩:=bS h;dsimp only at h;split at h
  ·rename_i hz;cases h;refine⟨ρ,ds,_,h1,F,g,R,λvs F1 H1 st1 r1 f1=>⟨by rw[r1.length];exact yK hz,λp hp=>?_⟩⟩;exact k _ _ _ (st1.trans (Step.alloc st1.good hp)) ⟨p,vs,rfl,.inl bh,r1.mono (bN.upd (st1.good.sub.free hp))⟩ λz=>.tup hp (f1 z)
  ·cases h
def RD(h:SF X C es xs):SE X C (.List es pos) (.lst xs):=
 PE.imp (Si h) λσ H Q z3=>by
  obtain⟨ρ,d,fr,h,F,g,R,k⟩:=z3;obtain⟨⟨ds,al⟩,h1,h⟩:=bS h;dsimp only at h;split at h
  ·rename_i hz;cases h;refine⟨ρ,ds,_,h1,F,g,R,λvs F1 H1 st1 r1 f1=>⟨by rw[r1.length];exact yK hz,λp hp=>?_⟩⟩;have r2:=r1.mono (bN.upd (o:=.lst vs) (st1.good.sub.free hp));exact k _ _ _ (st1.trans (Step.alloc st1.good hp)) ⟨p,vs,rfl,.inl (.inl bh),r2⟩ λz=>.lst st1.hh hp (f1 z)
  ·cases h
set_option tactic.hygienic false
def Vk(K:Fg)(n:Nat)(f:List Dat->g_):Sp:=λvs H Q _=>vs.length=n/\gL K f vs H Q
def uh(hev:∀ρ d fr,bg C x ρ=a_ (d,fr)->∃ds,iB C xs ρ=a_ ds/\f ds=a_ (d,fr)) :
  ∀σ H Q,gE X.K C x σ H Q->Yu (gL X.K f) (gA X.K C xs) σ H Q:=λσ H Q z3=>by
 obtain⟨ρ,d,fr,h,F,g,R,k⟩:=z3;obtain⟨ds,h1,h2⟩:=hev ρ d fr h;refine⟨ρ,ds,h1,F,g,R,λvs F1 H1 st1 r1=>⟨ds,d,fr,h2,F1,st1.good,r1,λv F2 H2 st2 r2 f2=>k v F2 H2 (st1.trans st2) r2 λz=>(f2 z).back (F:=F) st1.hh⟩⟩
theorem kj:∀{xs:List Ex}{ρ:fP}{ds:List Dat},iB C xs ρ=a_ ds->ds.length=xs.length
 |[],ρ,ds,h=>by simp only[iB]at h;cases h;rfl
 |x::xs,ρ,ds,h=>by
   simp only[iB]at h;obtain⟨d,_,h⟩:=bS h;obtain⟨r,h2,h⟩:=er h;cases h;rw[aS,aS,kj h2]
def Na(j n:Nat)(G:jx X.prog X.w X.K X.mg X.base Fy k f fd ps (Vk X.K n (C j)))(hr:je k X.A)(hg:Gl X x)(hm:X.mg x=a_ (.ref f))(hk:de X.K (.ref f)=c_)(hb:Binds X.K fd ps [])
  (ha:SA X C (e::es) (xa::xs))(hn:(xa::xs).length=n)(hdb:(x == ("__debug__":a8))=d_)(he:aG (e::es) X.env=(d_,eval e X.env)::aG es X.env)(hpl:(backTo pos (aG es X.env)).any (·.1)=d_) :
  SE X C (.Call (.Name x p) (e::es) [] pos) (.call j (xa::xs)):=
 PE.imp (yw G hr hg hm hk hb .nil Qo ha hdb he hpl) λσ H Q h=>by
  have h':=uh (X:=X) (xs:=xa::xs) (f:=C j) (x:=.call j (xa::xs)) (λρ d fr h=>by
   exact bS h) σ H Q h
  obtain⟨ρ,ds,h1,F,g,R,k⟩:=h';refine⟨ρ,ds,h1,F,g,R,λvs F1 H1 st1 r1=>?_⟩;show Vk X.K n (C j) (vs++[]) H1 Q E0;rw[bJ];exact⟨by rw[r1.length,kj h1,hn],k vs F1 H1 st1 r1⟩
def yq{id:String}(hc:ju X (.builtin id) (gL X.K (dG bt)))(hg:Gl X x)(hm:X.mg x=b_)(hv:bootBuiltins x=a_ (.builtin id))(ha:SA X C (e::es) xs)(hn:x≠"__name__")(hdb:(x == ("__debug__":a8))=d_)
  (he:aG (e::es) X.env=(d_,eval e X.env)::aG es X.env)(hpl:(backTo pos (aG es X.env)).any (·.1)=d_):SE X C (.Call (.Name x p) (e::es) [] pos) (.blt bt xs):=
 PE.imp (qH hc hg hm hv ha hn hdb he hpl) (uh λρ d fr h=>by
  exact bS h)
def tU{T:String}(hc:ju X (.type T) (gL X.K (dG bt)))(hg:Gl X x)(hm:X.mg x=b_)(hv:bootBuiltins x=a_ (.type T))(ha:SA X C (e::es) xs)(hn:x≠"__name__")(hdb:(x == ("__debug__":a8))=d_)
  (he:aG (e::es) X.env=(d_,eval e X.env)::aG es X.env)(hpl:(backTo pos (aG es X.env)).any (·.1)=d_):SE X C (.Call (.Name x p) (e::es) [] pos) (.blt bt xs):=
 PE.imp (Gr hc hg hm hv ha hn hdb he hpl) (uh λρ d fr h=>by
  exact bS h)
end
section
variable{a b:aV}{xa:Ex}{xs:List Ex}{s:aw}
theorem my:∀{n:Nat}{ds:List Dat}{j:Nat}{d:Dat},dI n ds=c_->ds[j]?=a_ d->eO n d=c_
 |_,[],_,_,_,e=>by simp at e
 |n,x::xs,0,d,h,e=>by
   simp only[dI,af]at h;simp at e;subst e;exact h.1
 |n,x::xs,j+1,d,h,e=>by
   simp only[dI,af]at h;exact my h.2 (by simpa using e)
theorem p5:∀xs ys:List Dat,l5 xs ys=((aP (min xs.length ys.length)).all (λj=>kM (xs.getD j .non) (ys.getD j .non)) && xs.length == ys.length)
 |[],[]=>by simp[l5]
 |[],y::ys=>by simp[l5]
 |x::xs,[]=>by simp[l5]
 |x::xs,y::ys=>by
   have h:=p5 xs ys;simp only[l5,aS,Nat.succ_min_succ,Nat.succ_eq_add_one];rw[h,BI,dv,List.all_map];simp[Function.comp_def,Qc]
def _root_.L2.Inv.lstR{a:aE}{vs:List V}(I:Inv X h_ σ H s)(g:Good F H)(h:pd X.K F a vs):∃its:List ak,bW vs its/\PlainL s.heap a its.toArray/\vs.length<=aD:=I.list (g.sub.seq h)
def _root_.L2.Inv.tupR{a:aE}{vs:List V}(I:Inv X h_ σ H s)(g:Good F H)(h:Tq X.K F a vs):∃its:List ak,bW vs its/\Hn s.heap a its.toArray/\vs.length<=aD:=I.tuple (h.mono g.sub).sq
def _root_.L2.Inv.noLT{a:aE}{vs ws:List V}(I:Inv X h_ σ H s)(g:Good F H)(h:pd X.K F a vs)(h':Tq X.K F a ws):False:=by
 obtain⟨its,_,⟨o,n,e,c,_⟩,_⟩:=I.lstR g h;obtain⟨its',_,⟨o',e',c',_⟩,_⟩:=I.tupR g h';rw[e]at e';cases e';rw[c]at c'
 injection c' with z
 exact absurd z bG
mutual
noncomputable def wU:Dat->Bool
 |.dct _ _=>d_
 |.dcn _=>d_
 |.exc _ _ _=>d_
 |.tup xs=>ly xs
 |.lst xs=>ly xs
 |_=>c_
noncomputable def ly:List Dat->Bool
 |[]=>c_
 |x::xs=>wU x && ly xs
end
mutual
theorem uV:∀(n:Nat)(d:Dat),eO n d=c_->wU d=c_
 |n,.non,_=>rfl
 |n,.bl _,_=>rfl
 |n,.int _,_=>rfl
 |n,.str _,_=>rfl
 |0,.tup _,h=>by simp[eO]at h
 |0,.lst _,h=>by simp[eO]at h
 |n+1,.tup xs,h=>rZ n xs (by simpa [eO]using h)
 |n+1,.lst xs,h=>rZ n xs (by simpa [eO]using h)
 |n,.dct _ _,h=>by cases n<;>simp[eO]at h
 |n,.dcn _,h=>by cases n<;>simp[eO]at h
 |n,.exc _ _ _,h=>by cases n<;>simp[eO]at h
theorem rZ:∀(n:Nat)(ds:List Dat),dI n ds=c_->ly ds=c_
 |n,[],_=>rfl
 |n,d::ds,h=>by
   have h':eO n d=c_/\dI n ds=c_:=by cases n<;>simpa [dI]using h
   simp only[ly,uV n d h'.1,rZ n ds h'.2,qw]
end
mutual
theorem Ad(I:Inv X h_ σ H s)(g:Good F H):∀(da db:Dat){x:V},wU da=c_->wU db=c_->Rep X.K F da x->Rep X.K F db x->kM da db=c_
 |.non,db,x,na,nb,ra,rb=>by
   rw[show x=.non from ra]at rb
   cases db with
   |non=>rfl
   |tup _=>obtain⟨_,_,z,_⟩:=rb;cases z
   |lst _=>obtain⟨_,_,z,_⟩:=rb;cases z
   |dct _ _=>exact nomatch nb
   |dcn _=>exact nomatch nb
   |exc _ _ _=>exact nomatch nb
   |_=>cases rb
 |.bl b,db,x,na,nb,ra,rb=>by
   rw[show x=.bl b from ra]at rb
   cases db with
   |bl c=>cases rb;simp[kM]
   |tup _=>obtain⟨_,_,z,_⟩:=rb;cases z
   |lst _=>obtain⟨_,_,z,_⟩:=rb;cases z
   |dct _ _=>exact nomatch nb
   |dcn _=>exact nomatch nb
   |exc _ _ _=>exact nomatch nb
   |_=>cases rb
 |.int i,db,x,na,nb,ra,rb=>by
   rw[show x=.int i from ra]at rb
   cases db with
   |int c=>cases rb;simp[kM]
   |tup _=>obtain⟨_,_,z,_⟩:=rb;cases z
   |lst _=>obtain⟨_,_,z,_⟩:=rb;cases z
   |dct _ _=>exact nomatch nb
   |dcn _=>exact nomatch nb
   |exc _ _ _=>exact nomatch nb
   |_=>cases rb
 |.str i,db,x,na,nb,ra,rb=>by
   rw[show x=.str i from ra]at rb
   cases db with
   |str c=>cases rb;simp[kM]
   |tup _=>obtain⟨_,_,z,_⟩:=rb;cases z
   |lst _=>obtain⟨_,_,z,_⟩:=rb;cases z
   |dct _ _=>exact nomatch nb
   |dcn _=>exact nomatch nb
   |exc _ _ _=>exact nomatch nb
   |_=>cases rb
 |.dct _ _,_,_,na,_,_,_=>nomatch na
 |.dcn _,_,_,na,_,_,_=>nomatch na
 |.exc _ _ _,_,_,na,_,_,_=>nomatch na
 |.tup ds,db,x,na,nb,z5,rb=>by
   obtain⟨p,vs,e,t,r⟩:=z5;subst e
   cases db with
   |tup es=>
     obtain⟨q,us,e',t',r'⟩:=rb;cases e';have ev:vs=us:=I.oK (t.mono g.sub).sq (t'.mono g.sub).sq;subst ev;simp only[kM];exact rP I g ds es na nb r r'
   |lst es=>
     obtain⟨q,us,e',t',r'⟩:=rb;cases e';exact(I.noLT g t' t).elim
   |dct _ _=>exact nomatch nb
   |dcn _=>exact nomatch nb
   |exc _ _ _=>exact nomatch nb
   |_=>cases rb
 |.lst ds,db,x,na,nb,z5,rb=>by
   obtain⟨p,vs,e,t,r⟩:=z5;subst e
   cases db with
   |lst es=>
     obtain⟨q,us,e',t',r'⟩:=rb;cases e';have ev:vs=us:=I.qO (g.sub.seq t) (g.sub.seq t');subst ev;simp only[kM];exact rP I g ds es na nb r r'
   |tup es=>
     obtain⟨q,us,e',t',r'⟩:=rb;cases e';exact(I.noLT g t t').elim
   |dct _ _=>exact nomatch nb
   |dcn _=>exact nomatch nb
   |exc _ _ _=>exact nomatch nb
   |_=>cases rb
theorem rP(I:Inv X h_ σ H s)(g:Good F H):∀(ds es:List Dat){vs:List V},ly ds=c_->ly es=c_->cj X.K F ds vs->cj X.K F es vs->l5 ds es=c_
 |[],es,vs,na,nb,h,h'=>by
   rw[show vs=[]from h]at h'
   cases es with
   |nil=>rfl
   |cons _ _=>obtain⟨_,_,z,_⟩:=h';cases z
 |d::ds,es,vs,na,nb,z5,h'=>by
   obtain⟨v,r,e,h1,h2⟩:=z5;subst e
   cases es with
   |nil=>exact nomatch (show v::r=[]from h')
   |cons f fs=>
     obtain⟨v',r',e',h1',h2'⟩:=h';cases e';simp only[l5,af];have na':wU d=c_/\ly ds=c_:=by simpa [ly]using na
     have nb':wU f=c_/\ly fs=c_:=by simpa [ly]using nb
     exact⟨Ad I g d f na'.1 nb'.1 h1 h1',rP I g ds fs na'.2 nb'.2 h2 h2'⟩
end
def tQ(r:bW vs its)(h:j<its.toArray.size):∃v,vs[j]?=a_ v/\RelV v its.toArray[j]:=by
 have hl:=r.length;have hj:j<vs.length:=by simp at h;exact ae h (aM hl.symm)
 obtain⟨u,q1,q2⟩:=r.get (ao hj);refine⟨_,ao hj,?_⟩
 have:its.toArray[j]=u:=by
  have h':j<its.length:=by simpa using h
  rw[List.getElem_toArray];rw[ao h']at q1;exact aO q1
 rw[this];exact q2
def S0{n c:Nat}{f:a8}{k:Key}(h:eO n (.exc c f k)=c_):False:=by
 cases n<;>simp[eO]at h
def S5(h:eO n (.dcn ks)=c_):False:=by
 cases n<;>simp[eO]at h
def S4(h:eO n (.dct ks vs)=c_):False:=by
 cases n<;>simp[eO]at h
inductive Vw (s:aw):Dat->ak->Prop
 |non:Vw s .non .none
 |bl (b:Bool):Vw s (.bl b) (.bool b)
 |int (i:Int) (t:Tok):Vw s (.int i) (.int i t)
 |str (x:a8) (t:Tok):Vw s (.str x) (.str x t)
 |tup {ds:List Dat} {p:aE} {its:Array ak}:s.heap.IsTuple p its->Vw s (.tup ds) (.ref p)
 |lst {ds:List Dat} {p:aE} {its:Array ak}:s.heap.IsList p its->Vw s (.lst ds) (.ref p)
def vw(I:Inv X h_ σ H s)(g:Good F H)(sa:eO n da=c_)(ra:Rep X.K F da x)(rx:RelV x u):Vw s da u:=by
 cases da with
 |non=>cases ra;rw[show u=.none from rx];exact .non
 |bl b=>cases ra;rw[show u=.bool b from rx];exact .bl b
 |int i=>cases ra;obtain⟨t,rfl⟩:=rx;exact .int i t
 |str z=>cases ra;obtain⟨t,rfl⟩:=rx;exact .str z t
 |tup ds=>
   obtain⟨p,vs,rfl,t,r⟩:=ra;obtain⟨its,w1,pl,_⟩:=I.tupR g t;rw[show u=.ref p from rx];exact .tup pl
 |lst ds=>
   obtain⟨p,vs,rfl,t,r⟩:=ra;obtain⟨its,w1,pl,_⟩:=I.lstR g t;rw[show u=.ref p from rx];exact .lst pl.isList
 |dct _ _=>exact(S4 sa).elim
 |dcn _=>exact(S5 sa).elim
 |exc _ _ _=>exact(S0 sa).elim
noncomputable def isT:Dat->Bool
 |.tup _=>c_
 |_=>d_
def isL:Dat->Bool
 |.lst _=>c_
 |_=>d_
def Ly(a b:Dat):Bool:=match a with
 |.tup _=>isT b
 |.lst _=>isL b
 |_=>d_
def Z6(A:cm)(s:aw)(u w:ak)(b:Bool):Prop:=lK A s u w b/\FH A s u w b/\zG A s u w (!b)
def K2{A:cm}(hu:A.units<cP)(a:Vw s da u)(b:Vw s db w)(h:Ly da db=d_):Z6 A s u w (kM da db):=by
 cases a with
 |non=>
   cases b with
   |non=>exact⟨.same _,.none_none,.none_none⟩
   |bl _=>exact⟨.none_bool _,.none_bool _,.none_bool _⟩
   |int _ _=>exact⟨.none_int _ _,.none_int _ _,.none_int _ _⟩
   |str _ _=>exact⟨.none_str _ _,.none_str _ _,.none_str _ _⟩
   |tup q=>exact⟨.none_tuple q hu,.none_tuple q hu,.none_tuple q hu⟩
   |lst q=>exact⟨.none_list q hu,.none_list q hu,.none_list q hu⟩
 |bl _=>
   cases b with
   |non=>exact⟨.bool_none _,.bool_none _,.bool_none _⟩
   |bl _=>exact⟨.bool_bool _ _,.bool_bool _ _,.bool_bool _ _⟩
   |int _ _=>exact⟨.bool_int _ _ _,.bool_int _ _ _,.bool_int _ _ _⟩
   |str _ _=>exact⟨.bool_str _ _ _,.bool_str _ _ _,.bool_str _ _ _⟩
   |tup q=>exact⟨.bool_tuple _ q hu,.bool_tuple _ q hu,.bool_tuple _ q hu⟩
   |lst q=>exact⟨.bool_list _ q hu,.bool_list _ q hu,.bool_list _ q hu⟩
 |int _ _=>
   cases b with
   |non=>exact⟨.int_none _ _,.int_none _ _,.int_none _ _⟩
   |bl _=>exact⟨.int_bool _ _ _,.int_bool _ _ _,.int_bool _ _ _⟩
   |int _ _=>exact⟨.int_int _ _ _ _,.int_int _ _ _ _,.int_int _ _ _ _⟩
   |str _ _=>exact⟨.int_str _ _ _ _,.int_str _ _ _ _,.int_str _ _ _ _⟩
   |tup q=>exact⟨.int_tuple _ _ q hu,.int_tuple _ _ q hu,.int_tuple _ _ q hu⟩
   |lst q=>exact⟨.int_list _ _ q hu,.int_list _ _ q hu,.int_list _ _ q hu⟩
 |str _ _=>
   cases b with
   |non=>exact⟨.str_none _ _,.str_none _ _,.str_none _ _⟩
   |bl _=>exact⟨.str_bool _ _ _,.str_bool _ _ _,.str_bool _ _ _⟩
   |int _ _=>exact⟨.str_int _ _ _ _,.str_int _ _ _ _,.str_int _ _ _ _⟩
   |str _ _=>exact⟨.str_str _ _ _ _,.str_str _ _ _ _,.str_str _ _ _ _⟩
   |tup q=>exact⟨.str_tuple _ _ q hu,.str_tuple _ _ q hu,.str_tuple _ _ q hu⟩
   |lst q=>exact⟨.str_list _ _ q hu,.str_list _ _ q hu,.str_list _ _ q hu⟩
 |tup p=>
   cases b with
   |non=>exact⟨.tuple_none p hu,.tuple_none p hu,.tuple_none p hu⟩
   |bl _=>exact⟨.tuple_bool _ p hu,.tuple_bool _ p hu,.tuple_bool _ p hu⟩
   |int _ _=>exact⟨.tuple_int _ _ p hu,.tuple_int _ _ p hu,.tuple_int _ _ p hu⟩
   |str _ _=>exact⟨.tuple_str _ _ p hu,.tuple_str _ _ p hu,.tuple_str _ _ p hu⟩
   |tup q=>cases h
   |lst q=>exact⟨.tuple_list p q hu,.tuple_list p q hu,.tuple_list p q hu⟩
 |lst p=>
   cases b with
   |non=>exact⟨.list_none p hu,.list_none p hu,.list_none p hu⟩
   |bl _=>exact⟨.list_bool _ p hu,.list_bool _ p hu,.list_bool _ p hu⟩
   |int _ _=>exact⟨.list_int _ _ p hu,.list_int _ _ p hu,.list_int _ _ p hu⟩
   |str _ _=>exact⟨.list_str _ _ p hu,.list_str _ _ p hu,.list_str _ _ p hu⟩
   |tup q=>exact⟨.list_tuple p q hu,.list_tuple p q hu,.list_tuple p q hu⟩
   |lst q=>cases h
def mI(I:Inv X h_ σ H s)(g:Good F H):∀(n:Nat) (A:cm) (da db:Dat) {x y:V} {u w:ak},A.units+n<cP->eO n da=c_->eO n db=c_->Rep X.K F da x->Rep X.K F db y->RelV x u->RelV y w->
  Z6 A s u w (kM da db):=by
 intro n
 induction n with
 |zero=>
   intro A da db x y u w hu sa sb ra rb rx ry;exact K2 hu (vw I g sa ra rx) (vw I g sb rb ry) (by cases da<;>first|rfl|(cases sa;done))
 |succ n ih=>
   intro A da db x y u w hu sa sb ra rb rx ry;have hu0:A.units<cP:=aN (bO _ _) hu;by_cases hk:Ly da db=d_
   ·exact K2 hu0 (vw I g sa ra rx) (vw I g sb rb ry) hk
   have hu1:A.in1.units+n<cP:=by show A.units+1+n<cP;omega
   have items:∀{ds es:List Dat} {vs us:List V} {its j_:List ak},dI n ds=c_->dI n es=c_->cj X.K F ds vs->cj X.K F es us->bW vs its->bW us j_->
     (∀j(h1:j<its.toArray.size)(h2:j<j_.toArray.size),lK A.in1 s its.toArray[j] j_.toArray[j] (kM (ds.getD j .non) (es.getD j .non)))/\its.toArray.size=ds.length/\j_.toArray.size=es.length:=by
    intro ds es vs us its j_ s1 s2 r1 r2 w1 w2;refine⟨λj h1 h2=>?_,by rw[aJ,<-w1.length,r1.length],by rw[aJ,<-w2.length,r2.length]⟩;obtain⟨v,e1,q1⟩:=tQ w1 h1;obtain⟨v',e2,q2⟩:=tQ w2 h2;have l1:j<ds.length:=by have:=r1.length;have:=(bx.mp e1).1;omega
    have l2:j<es.length:=by have:=r2.length;have:=(bx.mp e2).1;omega
    obtain⟨z1,f1,p1⟩:=r1.get (ao l1);obtain⟨z2,f2,p2⟩:=r2.get (ao l2);rw[e1]at f1;cases f1;rw[e2]at f2;cases f2;have g1:ds.getD j .non=ds[j]:=by simp[lM,l1]
    have g2:es.getD j .non=es[j]:=by simp[lM,l2]
    rw[g1,g2];exact(ih A.in1 _ _ hu1 (my s1 (ao l1)) (my s2 (ao l2)) p1 p2 q1 q2).1
   have both:∀{p q:aE},x=.ref p->y=.ref q->FH A s (.ref p) (.ref q) (kM da db)->zG A s (.ref p) (.ref q) (!kM da db)->Z6 A s u w (kM da db):=by
    intro p q e1 e2 h h';subst e1 e2;obtain rfl:u=.ref p:=rx;obtain rfl:w=.ref q:=ry;refine⟨?_,h,h'⟩;by_cases hpq:p=q
    ·subst hpq;rw[Ad I g da db (uV _ _ sa) (uV _ _ sb) ra rb];exact .same _
    ·exact .of_refs hpq h
   cases da with
   |tup ds=>
     cases db with
     |tup es=>
       obtain⟨p,vs,rfl,t,r⟩:=id ra;obtain⟨its,w1,pl,_⟩:=I.tupR g t;obtain⟨q,us,rfl,t',r'⟩:=id rb;obtain⟨j_,w2,pl2,_⟩:=I.tupR g t';obtain⟨hi,e1,e2⟩:=items sa sb r r' w1 w2;have h1:=SeqAt.RcAt.tuples pl pl2 hu0 hi;have h2:=SeqAt.RcNeAt.tuples pl pl2 hu0 hi;rw[e1,e2,<-p5]at h1 h2;exact both rfl rfl h1 h2
     |_=>exact absurd rfl hk
   |lst ds=>
     cases db with
     |lst es=>
       obtain⟨p,vs,rfl,t,r⟩:=id ra;obtain⟨its,w1,pl,_⟩:=I.lstR g t;obtain⟨q,us,rfl,t',r'⟩:=id rb;obtain⟨j_,w2,pl2,_⟩:=I.lstR g t';obtain⟨hi,e1,e2⟩:=items sa sb r r' w1 w2;have e:=p5 ds es;by_cases hsz:its.toArray.size=j_.toArray.size
       ·have h1:=SeqAt.RcAt.lists pl.isList pl2.isList hsz hu0 hi;have h2:=SeqAt.RcNeAt.lists pl.isList pl2.isList hsz hu0 hi;have e3:(ds.length == es.length)=c_:=by rw[<-e1,<-e2,hsz];exact beq_self_eq_true _
        rw[e3,eY,<-e1,<-e2,<-hsz,Nat.min_self]at e;rw[<-e]at h1 h2;exact both rfl rfl h1 h2
       ·have hz:(its.toArray.size != j_.toArray.size)=c_:=by simpa using hsz
        have h1:=SeqAt.RcAt.lists_lengths pl.isList pl2.isList hz hu0;have h2:=SeqAt.RcNeAt.lists_lengths pl.isList pl2.isList hz hu0;have e3:(ds.length == es.length)=d_:=by rw[<-e1,<-e2];simpa using hsz
        rw[e3,fN]at e;refine both rfl rfl ?_ ?_
        ·show FH _ _ _ _ (l5 ds es);rw[e];exact h1
        ·show zG _ _ _ _ (!l5 ds es);rw[e];exact h2
     |_=>exact absurd rfl hk
   |_=>exact absurd rfl hk
end
section
variable{X:Cx}{xa:Ex}
def D1 (h:a_ (a,b)=a_ (a',b')):a=a'/\b=b':=by cases h;exact⟨rfl,rfl⟩
def JM:iO X (binaryOp .Add) (λx y H Q=>∃a b ys,x=.ref a/\y=.ref b/\wa X.K H a []/\wa X.K H b ys/\Q (.ref b) H):=by
 intro h_ s σ H x y v u Q I rx ry h;obtain⟨a,b,ys,rfl,rfl,ha,hb,q⟩:=h;cases rx;cases ry;obtain⟨its,r1,p1,_⟩:=I.tuple ha;obtain⟨j_,r2,p2,_⟩:=I.tuple hb;cases r1;obtain⟨⟨cls,dd,data,sl⟩,ho,hc,n,hd⟩:=id p1;obtain⟨⟨cls2,dd2,data2,Qj⟩,ho2,hc2,n2,hd2⟩:=id p2;simp only at hc hd hc2 hd2;subst hc hd hc2 hd2;exact vJ ⟨_,ho,rfl⟩ ⟨_,ho2,rfl⟩ xR FD mW mf (lU _ _) (tuple_addW0 a b _ j_.toArray n n2 dd dd2 sl Qj rfl) ⟨ho,ho2,.ref b,H,I,rfl,q⟩
set_option tactic.hygienic true
def NW:iO X (binaryOp .Add) (gB X.K (g9 .add)):=by
 intro h_ s σ H x y v u Q I rx ry h;obtain⟨da,db,d,fr,h,F,g,ra,rb,k⟩:=h;cases da<;>cases db<;>simp only[g9,zl,v8,v7,reduceCtorEq]at h
 ·obtain⟨rfl,rfl⟩:=D1 h;exact SM h_ s σ H _ _ v u Q I rx ry ⟨_,_,ra,rb,k _ F H (Step.refl g) rfl aT⟩
 ·split at h
  ·rename_i hz;obtain⟨rfl,rfl⟩:=D1 h;exact CT h_ s σ H _ _ v u Q I rx ry ⟨_,_,ra,rb,hz,k _ F H (Step.refl g) rfl aT⟩
  ·cases h
 ·split at h
  ·rename_i xs ys hz;obtain⟨rfl,rfl⟩:=D1 h;obtain⟨p,vs,rfl,t,r⟩:=ra;obtain⟨q,us,rfl,t',r'⟩:=rb;by_cases hv:vs=[]
   ·subst hv;have e:xs=[]:=uy r.length.symm;subst e;exact JM h_ s σ H _ _ v u Q I rx ry ⟨p,q,us,rfl,rfl,(t.mono g.sub).sq,(t'.mono g.sub).sq,k _ F H (Step.refl g) ⟨q,us,rfl,t',r'⟩ aT⟩
   refine NU h_ s σ H _ _ v u Q I rx ry ⟨p,q,vs,us,rfl,rfl,(t.mono g.sub).sq,(t'.mono g.sub).sq,hv,?_,?_,?_⟩
   ·rw[r.length,r'.length];exact hz
   ·intro z;subst z;have:=r'.length;have e:ys=[]:=uy this.symm;subst e;refine k _ F H (Step.refl g) ⟨p,vs,rfl,t,?_⟩ aT;rw[bJ];exact r
   ·intro _ l hl;exact k _ _ _ (Step.alloc g hl) ⟨l,vs++us,rfl,.inl bh,(r.append r').mono (bN.upd (g.sub.free hl))⟩ aT
  ·cases h
 ·split at h
  ·rename_i xs ys hz;obtain⟨rfl,rfl⟩:=D1 h;obtain⟨p,vs,rfl,t,r⟩:=ra;obtain⟨q,us,rfl,t',r'⟩:=rb;obtain⟨its,w1,pl,_⟩:=I.lstR g t;obtain⟨j_,w2,pl2,_⟩:=I.lstR g t';obtain rfl:v=.ref p:=rx;obtain rfl:u=.ref q:=ry;obtain⟨⟨cls,dd,data,sl⟩,ho,hc,n,hd⟩:=pl.isList;obtain⟨⟨cls2,dd2,data2,Qj⟩,ho2,hc2,n2,hd2⟩:=pl2.isList;simp only at hc hd hc2 hd2;subst hc hd hc2 hd2;refine vJ ⟨_,ho,rfl⟩ ⟨_,ho2,rfl⟩ noFill_list_add seq_list_add PySem.F.slot_list_add PySem.F.entry_list_add (PySem.F.args_list_add_2 _ _) (list_addW p q its.toArray j_.toArray n n2 dd dd2 sl Qj (by rw[aJ,aJ,<-w1.length,<-w2.length,r.length,r'.length];exact hz)) ⟨ho,ho2,?_⟩;have ea:its.toArray++j_.toArray=(its++j_).toArray:=by simp
   rw[ea];have hz':(vs++us).length<=aD:=by rw[cg,r.length,r'.length];exact hz
   have r2:=(r.append r').mono (bN.upd (o:=.lst (vs++us)) (g.sub.free I.fresh));exact⟨.ref _,_,I.WO (t':=s.toks) (w1.append w2) hz',rfl,k _ _ _ (Step.alloc g I.fresh) ⟨_,vs++us,rfl,.inl (.inl bh),r2⟩ λz=>.lst (bN.refl _) I.fresh (.jS g z (r.append r'))⟩
  ·cases h
def Et{op:Operator}{o:XQ}{Cd:Int->Int->Prop}{f:Int->Int->Int}(h:iO X (binaryOp op) (rI Cd λi j=>.int (f i j)))
  (hb:∀da db d fr,g9 o da db=a_ (d,fr)->∃i j,da=.int i/\db=.int j/\Cd i j/\d=.int (f i j)/\fr=d_):iO X (binaryOp op) (gB X.K (g9 o)):=
 iO.imp h λx y H Q z4=>by
  obtain⟨da,db,d,fr,h,F,g,ra,rb,k⟩:=z4;obtain⟨i,j,rfl,rfl,hc,rfl,rfl⟩:=hb da db d fr h;exact⟨i,j,ra,rb,hc,k _ F H (Step.refl g) rfl aT⟩
def CU{op:Operator}{o:XQ}{f:Int->Int->Int}(h:iO X (binaryOp op) (Hv λi j=>.int (f i j)))
  (hb:∀da db d fr,g9 o da db=a_ (d,fr)->∃i j,da=.int i/\db=.int j/\d=.int (f i j)/\fr=d_):iO X (binaryOp op) (gB X.K (g9 o)):=
 iO.imp h λx y H Q z4=>by
  obtain⟨da,db,d,fr,h,F,g,ra,rb,k⟩:=z4;obtain⟨i,j,rfl,rfl,rfl,rfl⟩:=hb da db d fr h;exact⟨i,j,ra,rb,k _ F H (Step.refl g) rfl aT⟩
def NJ:iO X (binaryOp .Sub) (gB X.K (g9 .sub)):=CU Sm λda db d fr h=>by
 cases da<;>cases db<;>simp only[g9,zl,v8,v7,reduceCtorEq]at h
 cases h;exact⟨_,_,rfl,rfl,rfl,rfl⟩
def NV:iO X (binaryOp .BitAnd) (gB X.K (g9 .band)):=CU SK λda db d fr h=>by
 cases da<;>cases db<;>simp only[g9,zl,v8,v7,reduceCtorEq]at h
 cases h;exact⟨_,_,rfl,rfl,rfl,rfl⟩
def Sq:iO X (binaryOp .BitOr) (gB X.K (g9 .bor)):=CU Wu λda db d fr h=>by
 cases da<;>cases db<;>simp only[g9,zl,v8,v7,reduceCtorEq]at h
 cases h;exact⟨_,_,rfl,rfl,rfl,rfl⟩
def NQ:iO X (binaryOp .Mult) (gB X.K (g9 .mul)):=by
 intro h_ s σ H x y v u Q I rx ry h;obtain⟨da,db,d,fr,h,F,g,ra,rb,k⟩:=h;cases da<;>cases db<;>simp only[g9,zl,v8,v7,reduceCtorEq]at h
 ·split at h
  ·rename_i hz;cases h;exact Su h_ s σ H _ _ v u Q I rx ry ⟨_,_,ra,rb,hz,k _ F H (Step.refl g) rfl aT⟩
  ·cases h
 ·split at h
  ·rename_i z j hz;cases h;rw[show x=.str z from ra]at rx;rw[show y=.int j from rb]at ry;obtain⟨t,rfl⟩:=rx;obtain⟨t',rfl⟩:=ry;exact PySem.SB.mul hz λt2 k2=>⟨.str _,H,I.tok k2,⟨t2,rfl⟩,k _ F H (Step.refl g) rfl aT⟩
  ·cases h
def JL:iO X (binaryOp .FloorDiv) (gB X.K (g9 .fdiv)):=Et NT λda db d fr h=>by
 cases da<;>cases db<;>simp only[g9,zl,v8,v7,reduceCtorEq]at h
 split at h
 ·rename_i hz;cases h;exact⟨_,_,rfl,rfl,hz,rfl,rfl⟩
 ·cases h
def NR:iO X (binaryOp .Mod) (gB X.K (g9 .mod)):=Et Sv λda db d fr h=>by
 cases da<;>cases db<;>simp only[g9,zl,v8,v7,reduceCtorEq]at h
 split at h
 ·rename_i hz;cases h;exact⟨_,_,rfl,rfl,hz,rfl,rfl⟩
 ·cases h
def NM:iO X (binaryOp .RShift) (gB X.K (g9 .shr)):=Et Sn λda db d fr h=>by
 cases da<;>cases db<;>simp only[g9,zl,v8,v7,reduceCtorEq]at h
 split at h
 ·rename_i hz;cases h;exact⟨_,_,rfl,rfl,hz,rfl,rfl⟩
 ·cases h
def NN:iO X (binaryOp .LShift) (gB X.K (g9 .shl)):=Et So λda db d fr h=>by
 cases da<;>cases db<;>simp only[g9,zl,v8,v7,reduceCtorEq]at h
 split at h
 ·rename_i hz;cases h;exact⟨_,_,rfl,rfl,hz,rfl,rfl⟩
 ·cases h
def jY(h:mL o da db=a_ (d,fr)):∃b,cx o da db=a_ b/\d=.bl b/\fr=d_:=by
 obtain⟨b,h1,h2⟩:=er h;cases h2;exact⟨b,h1,rfl,rfl⟩
def zh{op:CmpOp}{o:VD}{f:Int->Int->Bool}(h:iO X (compareOp op) (Hv λi j=>.bl (f i j)))(hb:∀da db b,cx o da db=a_ b->∃i j,da=.int i/\db=.int j/\b=f i j):iO X (compareOp op) (gB X.K (mL o)):=
 iO.imp h λx y H Q z4=>by
  obtain⟨da,db,d,fr,h,F,g,ra,rb,k⟩:=z4;obtain⟨b,hd,rfl,rfl⟩:=jY h;obtain⟨i,j,rfl,rfl,rfl⟩:=hb da db b hd;exact⟨i,j,ra,rb,k _ F H (Step.refl g) rfl aT⟩
def Sw:iO X (compareOp .Lt) (gB X.K (mL .lt)):=zh Wv λda db b h=>by
 cases da<;>cases db<;>simp only[cx,BO,Hd,sA,Fl,reduceCtorEq]at h
 cases h;exact⟨_,_,rfl,rfl,rfl⟩
def Sy:iO X (compareOp .LtE) (gB X.K (mL .le)):=zh Ww λda db b h=>by
 cases da<;>cases db<;>simp only[cx,BO,Hd,sA,Fl,reduceCtorEq]at h
 cases h;exact⟨_,_,rfl,rfl,rfl⟩
def SG:iO X (compareOp .Gt) (gB X.K (mL .gt)):=zh Wx λda db b h=>by
 cases da<;>cases db<;>simp only[cx,BO,Hd,sA,Fl,reduceCtorEq]at h
 cases h;exact⟨_,_,rfl,rfl,rfl⟩
def SH:iO X (compareOp .GtE) (gB X.K (mL .ge)):=zh Wy λda db b h=>by
 cases da<;>cases db<;>simp only[cx,BO,Hd,sA,Fl,reduceCtorEq]at h
 cases h;exact⟨_,_,rfl,rfl,rfl⟩
def SJ(hu:X.A.units+20<cP):iO X (compareOp .Eq) (gB X.K (mL .eq)):=λh_ s σ H x y v u Q I rx ry z12=>by
 obtain⟨da,db,d,fr,h,F,g,ra,rb,k⟩:=z12;obtain⟨b,hd,rfl,rfl⟩:=jY h;simp only[cx,BO,Hd,sA,Fl]at hd;split at hd
 ·rename_i hs;cases hd;simp only[af]at hs;exact(mI I g 20 X.A da db hu hs.1 hs.2 ra rb rx ry).2.1 X.prog X.w _ _ ⟨.bl _,H,I,rfl,k _ F H (Step.refl g) rfl aT⟩
 ·cases hd
set_option tactic.hygienic false
end
structure Ow(K:Fg)(H₀ F H:Hp)(σ:St)(ρ:cX)(Ss:Nat->List aE):Prop where
 own:∀(i:Nat)d,ρ[i]?=a_ (a_ (d,c_))->∃v,σ[i]?=a_ (a_ v)/\nP K H d v (Ss i)/\(Ss i).Nodup/\∀a∈Ss i,F a=b_/\H₀ a=b_
 sep:∀(i j:Nat)d d',i≠j->ρ[i]?=a_ (a_ (d,c_))->ρ[j]?=a_ (a_ (d',c_))->∀a∈Ss i,a∉Ss j
structure Rl(K:Fg)(Fz H₀ F H:Hp)(σ:St)(ρ:cX):Prop where
 step:Step Fz H₀ F H
 len:σ.length=ρ.length
 val:∀(i:Nat)d,ρ[i]?=a_ (a_ (d,d_))->∃v,σ[i]?=a_ (a_ v)/\Rep K F d v
 ow:∃Ss,Ow K H₀ F H σ ρ Ss
section
variable{K:Fg}{F:Hp}{σ:St}{ρ:cX}
def Ms{i:Nat}{d:Dat}(h:(sQ ρ)[i]?=a_ (a_ d)):ρ[i]?=a_ (a_ (d,d_)):=by
 unfold sQ at h;rw[aY]at h
 cases q:ρ[i]? with
 |none=>rw[q]at h;cases h
 |some o=>
   rw[q]at h;have h':=aO h
   cases o with
   |none=>cases h'
   |some z=>
     obtain⟨d',b⟩:=z
     cases b with
     |true=>cases h'
     |false=>cases h';rfl
def Rl.sQ(R:Rl K Fz H₀ F H σ ρ):mQ K F σ (sQ ρ):=λi d e=>R.val i d (Ms e)
def Ow.moved(O:Ow K H₀ F H σ ρ Ss)(st:Step F H F' H'):Ow K H₀ F' H' σ ρ Ss where
 own:=λi d e=>by
  obtain⟨v,q1,q2,q3,q4⟩:=O.own i d e;refine⟨v,q1,q2.mono st.hh,q3,λa m=>⟨?_,(q4 a m).2⟩⟩;obtain⟨o,ho,_⟩:=q2.BN _ a m;exact st.un a o ho (q4 a m).1
 sep:=O.sep
def Rl.moved(R:Rl K Fz H₀ F H σ ρ)(st:Step F H F' H'):Rl K Fz H₀ F' H' σ ρ where
 step:=R.step.trans st
 len:=R.len
 val:=λi d e=>let ⟨v,q1,q2⟩:=R.val i d e;⟨v,q1,q2.mono st.ff⟩
 ow:=let ⟨Ss,O⟩:=R.ow;⟨Ss,O.moved st⟩
def EC(i j:Nat)(f:g_->g_):(ρ.modify i f)[j]?=if i=j then(ρ[j]?).map f else ρ[j]? :=by
 rw[List.getElem?_modify];by_cases h:i=j
 ·simp only[h,if_true];rfl
 ·simp only[h,if_false];cases ρ[j]?<;>rfl
def jr(q:(ρ.modify i λo=>o.map λs=>(s.1,d_))[j]?=a_ (a_ (d,b))):(i=j/\b=d_/\∃b',ρ[j]?=a_ (a_ (d,b')))\/(i≠j/\ρ[j]?=a_ (a_ (d,b))):=by
 rw[EC]at q;by_cases h:i=j
 ·rw[if_pos h]at q;refine .inl ⟨h,?_⟩
  cases z:ρ[j]? with
  |none=>rw[z]at q;cases q
  |some o=>
    rw[z]at q
    cases o with
    |none=>cases q
    |some s=>cases q;exact⟨rfl,s.2,rfl⟩
 ·rw[if_neg h]at q;exact .inr ⟨h,q⟩
def Rl.ON(R:Rl K Fz H₀ F H σ ρ)(i:Nat):∃F',bN F F'/\Rl K Fz H₀ F' H σ (ρ.modify i λo=>o.map λs=>(s.1,d_)):=by
 obtain⟨Ss,O⟩:=R.ow;by_cases ho:∃d,ρ[i]?=a_ (a_ (d,c_))
 ·obtain⟨d,ho⟩:=ho;obtain⟨v,e1,e2,e3,e4⟩:=O.own i d ho;have sF:bN F (fz F H (Ss i)):=sh R.step.good.sub;refine⟨fz F H (Ss i),sF,⟨⟨yT R.step.good,R.step.ff.trans sF,R.step.hh,λa o q n=>?_⟩,?_,λj d' q=>?_,Ss,λj d' q=>?_,λj k d1 d2 hjk q1 q2=>?_⟩⟩
  ·rw[si λm=>?_]
   ·exact R.step.un a o q n
   ·rw[(e4 a m).2]at q;cases q
  ·rw[Hr];exact R.len
  ·rcases jr q with⟨rfl,_,b',q'⟩|⟨_,q'⟩
   ·rw[ho]at q';cases q';exact⟨v,e1,e2.kL R.step.good d λa m=>m⟩
   ·obtain⟨w,g1,g2⟩:=R.val j d' q';exact⟨w,g1,g2.mono sF⟩
  ·rcases jr q with⟨_,z,_⟩|⟨hne,q'⟩
   ·cases z
   ·obtain⟨w,g1,g2,g3,g4⟩:=O.own j d' q';refine⟨w,g1,g2,g3,λa m=>⟨?_,(g4 a m).2⟩⟩;rw[si (O.sep j i d' d (fJ hne) q' ho a m)];exact(g4 a m).1
  ·rcases jr q1 with⟨_,z,_⟩|⟨_,q1'⟩
   ·cases z
   ·rcases jr q2 with⟨_,z,_⟩|⟨_,q2'⟩
    ·cases z
    ·exact O.sep j k d1 d2 hjk q1' q2'
 ·refine⟨F,bN.refl _,⟨R.step,by rw[Hr];exact R.len,λj d' q=>?_,Ss,λj d' q=>?_,λj k d1 d2 hjk q1 q2=>?_⟩⟩
  ·rcases jr q with⟨rfl,_,b',q'⟩|⟨_,q'⟩
   ·cases b' with
    |true=>exact absurd ⟨_,q'⟩ ho
    |false=>exact R.val _ d' q'
   ·exact R.val j d' q'
  ·rcases jr q with⟨_,z,_⟩|⟨_,q'⟩
   ·cases z
   ·exact O.own j d' q'
  ·rcases jr q1 with⟨_,z,_⟩|⟨_,q1'⟩
   ·cases z
   ·rcases jr q2 with⟨_,z,_⟩|⟨_,q2'⟩
    ·cases z
    ·exact O.sep j k d1 d2 hjk q1' q2'
def Rl.freeze(R:Rl K Fz H₀ F H σ ρ):∀is:List Nat,∃F',bN F F'/\Rl K Fz H₀ F' H σ (kL is ρ):=by
 intro is
 induction is generalizing F ρ with
 |nil=>exact⟨F,bN.refl _,R⟩
 |cons i is ih=>
   obtain⟨F1,s1,R1⟩:=R.ON i;obtain⟨F2,s2,R2⟩:=ih R1;exact⟨F2,s1.trans s2,R2⟩
theorem EW:∀(is:List Nat)(ρ:cX)(j:Nat),(kL is ρ)[j]?=if j∈is then(ρ[j]?).map (λo=>o.map λs=>(s.1,d_))else ρ[j]?
 |[],ρ,j=>by simp[kL]
 |i::is,ρ,j=>by
   have e:kL (i::is) ρ=kL is (ρ.modify i λo=>o.map λs=>(s.1,d_)):=rfl;rw[e,EW is,EC];by_cases h:i=j
   ·subst h;rw[if_pos rfl,if_pos (iw)];by_cases m:i∈is
    ·rw[if_pos m]
     cases ρ[i]? with
     |none=>rfl
     |some o=>cases o<;>rfl
    ·rw[if_neg m]
   ·rw[if_neg h];by_cases m:j∈is
    ·rw[if_pos m,if_pos (jd _ m)]
    ·rw[if_neg m,if_neg λz=>(aq.mp z).elim (λz=>h z.symm) m]
def GS:kL (aP ρ.length) ρ=pT ρ:=by
 apply HS;intro j;rw[EW];unfold pT;rw[aY];by_cases h:j∈aP ρ.length
 ·rw[if_pos h]
 ·rw[if_neg h];have:ρ[j]?=b_:=kc (by simpa using h);rw[this];rfl
def Rl.jX(R:Rl K Fz H₀ F H σ ρ):∃F',bN F F'/\Rl K Fz H₀ F' H σ (pT ρ):=by
 obtain⟨F',s,R'⟩:=R.freeze (aP ρ.length);rw[GS]at R';exact⟨F',s,R'⟩
def fK(q:(ρ.set i x)[j]?=a_ (a_ (d,b))):(i=j/\x=a_ (d,b))\/(i≠j/\ρ[j]?=a_ (a_ (d,b))):=by
 rw[mi]at q;by_cases h:i=j
 ·rw[if_pos h]at q;split at q
  ·exact .inl ⟨h,aO q⟩
  ·cases q
 ·rw[if_neg h]at q;exact .inr ⟨h,q⟩
def Qd(hl:i<σ.length):(σ.set i (a_ v))[i]?=a_ (a_ v):=jR hl
def wV(q:(ρ.set i x)[i]?=a_ y):i<ρ.length:=by
 rw[mi,if_pos rfl]at q;split at q
 ·assumption
 ·cases q
def Rl.CA(R:Rl K Fz H₀ F H σ ρ)(r:Rep K F d v):Rl K Fz H₀ F H (σ.set i (a_ v)) (ρ.set i (a_ (d,d_))):=by
 obtain⟨Ss,O⟩:=R.ow;refine⟨R.step,by simpa using R.len,λj d' q=>?_,Ss,λj d' q=>?_,λj k d1 d2 hjk q1 q2=>?_⟩
 ·rcases fK q with⟨rfl,e⟩|⟨hne,q'⟩
  ·cases e;exact⟨v,Qd (by rw[R.len];exact wV q),r⟩
  ·obtain⟨w,g1,g2⟩:=R.val j d' q';exact⟨w,by rw[cD hne];exact g1,g2⟩
 ·rcases fK q with⟨rfl,e⟩|⟨hne,q'⟩
  ·cases e
  ·obtain⟨w,g1,g2⟩:=O.own j d' q';exact⟨w,by rw[cD hne];exact g1,g2⟩
 ·rcases fK q1 with⟨_,e⟩|⟨_,q1'⟩
  ·cases e
  ·rcases fK q2 with⟨_,e⟩|⟨_,q2'⟩
   ·cases e
   ·exact O.sep j k d1 d2 hjk q1' q2'
def Rl.Rx(R:Rl K Fz H₀ F H σ ρ)(O:Ow K H₀ F H σ ρ Ss)(o:nP K H d v S)(nd:S.Nodup)(hS:∀a∈S,F a=b_/\H₀ a=b_)
  (hsep:∀(j:Nat)d',i≠j->ρ[j]?=a_ (a_ (d',c_))->∀a∈Ss j,a∉S):Rl K Fz H₀ F H (σ.set i (a_ v)) (ρ.set i (a_ (d,c_))):=by
 refine⟨R.step,by simpa using R.len,λj d' q=>?_,λj=>if j=i then S else Ss j,λj d' q=>?_,λj k d1 d2 hjk q1 q2=>?_⟩
 ·rcases fK q with⟨rfl,e⟩|⟨hne,q'⟩
  ·cases e
  ·obtain⟨w,g1,g2⟩:=R.val j d' q';exact⟨w,by rw[cD hne];exact g1,g2⟩
 ·rcases fK q with⟨rfl,e⟩|⟨hne,q'⟩
  ·cases e;rw[if_pos rfl];exact⟨v,Qd (by rw[R.len];exact wV q),o,nd,hS⟩
  ·obtain⟨w,g1,g2⟩:=O.own j d' q';rw[if_neg (fJ hne)];exact⟨w,by rw[cD hne];exact g1,g2⟩
 ·intro a m
  rcases fK q1 with⟨rfl,e⟩|⟨h1,q1'⟩
  ·rw[if_pos rfl]at m
   rcases fK q2 with⟨e2,_⟩|⟨h2,q2'⟩
   ·exact absurd e2 hjk
   ·rw[if_neg (fJ h2)];exact λm'=>hsep k d2 h2 q2' a m' m
  ·rw[if_neg (fJ h1)]at m
   rcases fK q2 with⟨rfl,e⟩|⟨h2,q2'⟩
   ·rw[if_pos rfl];exact hsep j d1 h1 q1' a m
   ·rw[if_neg (fJ h2)];exact O.sep j k d1 d2 hjk q1' q2' a m
def Rl.full{K:Fg}(R:Rl K Fz H₀ F H σ (pT ρ)):mQ K F σ (M.full ρ):=by rw[<-BZ];exact R.sQ
noncomputable def uz(F:Hp)(S:List aE):Hp:=λa=>if a∈S then b_ else F a
def wC(h:a∈S):uz F S a=b_:=if_pos h
def n8(h:a∉S):uz F S a=F a:=if_neg h
def Step.Yj(st:Step F H F' H')(g:Good F H)(hS:∀a∈S,H a=b_)(o:nP K H' d v S):Step F H (uz F' S) H':=by
 refine⟨⟨λa o' q=>?_,λa vs q=>?_⟩,λa o' q=>?_,st.hh,λa o' q n=>?_⟩
 ·by_cases m:a∈S
  ·rw[wC m]at q;cases q
  ·rw[n8 m]at q;exact st.good.sub a o' q
 ·rw[n8 λm=>?_]
  ·exact st.good.tup a vs q
  ·obtain⟨u,hu,mu⟩:=o.BN _ a m;rw[q]at hu;cases hu;exact mu
 ·rw[n8 λm=>?_]
  ·exact st.ff a o' q
  ·rw[g.sub.free (hS a m)]at q;cases q
 ·by_cases m:a∈S
  ·exact wC m
  ·rw[n8 m];exact st.un a o' q n
def E4(R:Rl K Fz H₀ F H σ ρ)(h:pY C e ρ=a_ (d,fr,ρ'))
  (k:∀v Fm F' H',bN F Fm->Rl K Fz H₀ Fm H σ ρ'->Step Fm H F' H'->Rep K F' d v->(fr=c_->gn K H H' d v)->Q v H'):∃ρe,bg C e ρe=a_ (d,fr)/\tE K ρe d fr σ H Q:=by
 unfold pY at h;obtain⟨⟨d1,f1⟩,h2,h⟩:=bS h;dsimp only at h;by_cases hm:(im d1 || f1)=c_
 ·rw[if_pos hm]at h;have hh:d=d1/\fr=f1/\ρ'=ρ:=by cases h;exact⟨rfl,rfl,rfl⟩
  obtain⟨hh1,hh2,hh3⟩:=hh;subst hh1 hh2 hh3;obtain⟨Fp,sp,Rp⟩:=R.jX;refine⟨_,h2,Fp,Rp.step.good,Rp.full,λv F1 H1 st r f=>?_⟩;have oO:=Step.shrink R.step.good sp st
  cases hi:im d with
  |true=>exact k v F (shr F H F1) H1 (bN.refl _) R oO (r.shrink R.step.good st d hi) f
  |false=>
    rw[hi,qv]at hm;obtain⟨S,n,e1,o⟩:=f hm;have g2:=yT (S:=S) oO.good
    have st2:Step F H (fz (shr F H F1) H1 S) H1:=by
     refine⟨g2,oO.ff.trans (sh oO.good.sub),oO.hh,λa u q nn=>?_⟩;rw[si λm=>?_]
     ·exact oO.un a u q nn
     ·rw[e1 a m]at q;cases q
    exact k v F _ H1 (bN.refl _) R st2 (o.kL oO.good d λa m=>m) f
 ·rw[if_neg hm]at h;obtain⟨⟨d2,f2⟩,h3,h⟩:=er h;cases h;obtain⟨F2,s2,R2⟩:=R.freeze e.fv;exact⟨_,h3,F2,R2.step.good,R2.sQ,λv F' H' st r f=>k v F2 F' H' s2 R2 st r f⟩
def yZ(R:Rl K Fz H₀ F H σ ρ)(h:pY C e ρ=a_ (d,fr,ρ'))
  (k:∀v Fm F' H',bN F Fm->Rl K Fz H₀ Fm H σ ρ'->Step Fm H F' H'->Rep K F' d v->(fr=c_->gn K H H' d v)->Q v H'):gE K C e σ H Q:=
 let ⟨ρe,h1,h2⟩:=E4 R h k;⟨ρe,d,fr,h1,h2⟩
end
def qV(K:Fg)(Fz H₀ F:Hp)(D:Ends)(EE:XK):Out->Prop
 |.xc c f d=>∀v F' H' dx,xv d=a_ v->Step Fz H₀ F' H'->H' dx=b_->EE (.ref c) (a_ dx) (upd H' dx (.xd [(f,v)]))
 |.nx ρ'=>∀F' H' σ',bN F F'->Rl K Fz H₀ F' H' σ' ρ'->D.nx σ' H'
 |.bk ρ'=>∀F' H' σ',bN F F'->Rl K Fz H₀ F' H' σ' ρ'->D.bk σ' H'
 |.ct ρ'=>∀F' H' σ',bN F F'->Rl K Fz H₀ F' H' σ' ρ'->D.ct σ' H'
 |.rt d fr=>∀v F' H',Step Fz H₀ F' H'->Rep K F' d v->(fr=c_->gn K H₀ H' d v)->D.rt v H'
def qV.mono{K:Fg}{D:Ends}(s:bN F F1)(h:qV K Fz H₀ F D EE o):qV K Fz H₀ F1 D EE o:=by
 cases o with
 |nx ρ'=>exact λF' H' σ' s' R=>h F' H' σ' (s.trans s') R
 |bk ρ'=>exact λF' H' σ' s' R=>h F' H' σ' (s.trans s') R
 |ct ρ'=>exact λF' H' σ' s' R=>h F' H' σ' (s.trans s') R
 |rt d fr=>exact h
 |xc c f d=>exact h
def gS(K:Fg)(C:Fs)(EE:XK)(x:Sx):TS:=λD σ H=>∃Fz H₀ F ρ out,gJ C x ρ=a_ out/\Rl K Fz H₀ F H σ ρ/\qV K Fz H₀ F D EE out
def gSs(K:Fg)(C:Fs)(EE:XK)(xs:List Sx):TS:=λD σ H=>∃Fz H₀ F ρ out,bH C xs ρ=a_ out/\Rl K Fz H₀ F H σ ρ/\qV K Fz H₀ F D EE out
abbrev SS(X:Cx)(C:Fs)(EE:XK)(st:i8)(x:Sx):Prop:=PS X st (gS X.K C EE x)
abbrev Hx(X:Cx)(C:Fs)(EE:XK)(st:List i8)(xs:List Sx):Prop:=DL X st (gSs X.K C EE xs)
section
variable{X:Cx}{st:i8}{pos:rE}
def MD:Hx X C EE [] []:=DL.imp Nz λD σ H z3=>by
 obtain⟨Fz,H₀,F,ρ,out,h,R,k⟩:=z3;simp only[bH]at h;cases h;exact k F H σ (bN.refl _) R
def IF(h1:SS X C EE st x)(h2:Hx X C EE sts xs):Hx X C EE (st::sts) (x::xs):=DL.imp (Jq h1 h2) λD σ H z3=>by
 obtain⟨Fz,H₀,F,ρ,out,h,R,k⟩:=z3;simp only[bH]at h;obtain⟨o,ho,h⟩:=bS h;refine⟨Fz,H₀,F,ρ,o,ho,R,?_⟩
 cases o with
 |nx ρ1=>exact λF1 H1 σ1 s1 R1=>⟨Fz,H₀,F1,ρ1,out,h,R1,k.mono s1⟩
 |bk ρ1=>cases h;exact k
 |ct ρ1=>cases h;exact k
 |rt d fr=>cases h;exact k
 |xc c f d=>cases h;exact k
def Rc{st:i8}:SS X C EE st .MC:=λh_ s σ H D I z6=>by
 obtain⟨Fz,H₀,F,ρ,out,h,R,k⟩:=z6;cases h
def Rh(he:SE X C e xe):SS X C EE (.Return (a_ e) pos) (.ret xe):=PS.imp (CN he) λD σ H z3=>by
 obtain⟨Fz,H₀,F,ρ,out,h,R,k⟩:=z3;obtain⟨⟨d,fr⟩,h1,h⟩:=er h;cases h;obtain⟨Fp,sp,Rp⟩:=R.jX;exact⟨_,d,fr,h1,Fp,Rp.step.good,Rp.full,λv F' H' st r f=>k v F' H' (Rp.step.trans st) r λz=>(f z).back (F:=F) R.step.hh⟩
def MF{i:Nat}{x:a8}{p:rE}(hN:X.N[i]?=a_ x)(hv:LA X.env.scope x)(hd:(x == ("__debug__":a8))=d_)(hcd:(x == ("__classdict__":a8))=d_):SS X C EE (.Return (a_ (.Name x p)) pos) (.rO i):=
 PS.imp (CN (pO hN hv hd hcd)) λD σ H z3=>by
  obtain⟨Fz,H₀,F,ρ,out,h,R,k⟩:=z3;obtain⟨⟨d,b⟩,h1,h⟩:=er h;cases h
  have h1':ρ[i]?=a_ (a_ (d,b)):=by
   cases q:ρ[i]? with
   |none=>rw[q]at h1;cases h1
   |some z=>rw[q]at h1;exact congrArg a_ h1
  cases b with
  |false=>
    obtain⟨v,e1,r⟩:=R.val i d h1';exact⟨v,e1,k v F H R.step r aT⟩
  |true=>
    obtain⟨Ss,O⟩:=R.ow;obtain⟨v,e1,e2,e3,e4⟩:=O.own i d h1';have sF:bN F (fz F H (Ss i)):=sh R.step.good.sub
    have st:Step Fz H₀ (fz F H (Ss i)) H:=by
     refine⟨yT R.step.good,R.step.ff.trans sF,R.step.hh,λa o q n=>?_⟩;rw[si λm=>?_]
     ·exact R.step.un a o q n
     ·rw[(e4 a m).2]at q;cases q
    exact⟨v,e1,k v _ H st (e2.kL R.step.good d λa m=>m) λ_=>⟨Ss i,e3,λa m=>(e4 a m).2,e2⟩⟩
def VZ(hc:ST X C cnd xc)(ha:Hx X C EE sa ya)(hb:Hx X C EE sb yb):SS X C EE (.If cnd sa sb pos) (.ifs xc ya yb):=PS.imp (Wj hc ha hb) λD σ H z3=>by
 obtain⟨Fz,H₀,F,ρ,out,h,R,k⟩:=z3;obtain⟨⟨d,fr⟩,h1,h⟩:=bS h;obtain⟨z,hz,h⟩:=bS h;obtain⟨Fp,sp,Rp⟩:=R.jX;refine⟨_,d,fr,z,h1,hz,Fp,Rp.step.good,Rp.full,λF1 H1 st=>?_⟩;have oO:=Step.shrink R.step.good sp st
 cases z with
 |true=>
   exact C9 ⟨Fz,H₀,_,ρ,out,h,R.moved oO,k.mono oO.ff⟩
 |false=>
   exact Dc ⟨Fz,H₀,_,ρ,out,h,R.moved oO,k.mono oO.ff⟩
def rK{D:Ends}(R:Rl X.K Fz H₀ F H σ ρ)(h1:pY C xe ρ=a_ (d,fr,ρ'))(k:qV X.K Fz H₀ F D EE (.nx (ρ'.set i (a_ (d,fr && !im d))))) :
  ∃ρe,bg C xe ρe=a_ (d,fr)/\tE X.K ρe d fr σ H (λv H'=>D.nx (σ.set i (a_ v)) H'):=by
 refine E4 R h1 λv Fm F' H' sm Rm st r f=>?_;show D.nx (σ.set i (a_ v)) H';have k':∀F' H' σ',bN F F'->Rl X.K Fz H₀ F' H' σ' (ρ'.set i (a_ (d,fr && !im d)))->D.nx σ' H':=k
 cases hm:fr && !im d with
 |false=>
   rw[hm]at k';exact k' F' H' _ (sm.trans st.ff) ((Rm.moved st).CA r)
 |true=>
   rw[hm]at k';simp only[af]at hm;obtain⟨S,nd,e1,o⟩:=f hm.1;have st2:=Step.Yj st Rm.step.good e1 o;obtain⟨Ss0,O0⟩:=Rm.ow;refine k' (uz F' S) H' _ (sm.trans st2.ff) ((Rm.moved st2).Rx (O0.moved st2) o nd (λa m=>⟨wC m,R.step.hh.free (e1 a m)⟩) λj d2 _ q a m1 m2=>?_);obtain⟨w',g1',g2',_,_⟩:=O0.own j d2 q;obtain⟨u,hu,_⟩:=g2'.BN _ a m1;rw[e1 a m2]at hu;cases hu
def zV(hte:∀σ H Q,gE X.K C xe σ H Q->te σ H Q):∀D σ H,gS X.K C EE (.set i xe) D σ H->Cg te (kh i) D σ H:=λD σ H z3=>by
 obtain⟨Fz,H₀,F,ρ,out,h,R,k⟩:=z3;obtain⟨⟨d,fr,ρ'⟩,h1,h⟩:=er h;cases h;obtain⟨ρe,e1,e2⟩:=rK R h1 k;exact hte _ _ _ ⟨ρe,d,fr,e1,e2⟩
def II{i:Nat}{x:a8}(hN:X.N.Nodup)(hi:X.N[i]?=a_ x)(hx:Loc X.env.scope x)(he:SE X C e xe)(hs:swapsWith e (a_ (.Name x pos')) pos.line X.env=pure d_)
  (hf:X.fn x=c_\/X.env.scope.names.lookup x=a_ .local):SS X C EE (.Assign [.Name x pos'] e pos) (.set i xe):=
 PS.imp (Jr hN hi hx he hs hf) (zV λ_ _ _ h=>h)
end
end M
namespace L2
open PySem PySem.Spec PyProof.Rows
noncomputable def eX(X:Cx)(scope:l8)(cl:List (a8×aE))(N:List a8)(s₂:aw)(H₂:Hp)(C:aE)(ex:List aE):Cx:=
 { X with N:=N,s₀:=s₂,H₀:=H₂,env:=compEnvC scope cl C X.env,outer:=X.stack,stack:=X.stack,ex:=ex,fn:=λ_=>d_,pn:=[],xe:=λ_ _=>False }
def LZ(X:Cx)(ifs:List aV)(t:TT):Prop:=
 ∀(h_:List (aE×kX))(s:aw)(σ:St)(H:Hp)(Q:Bool->Hp->Prop),Inv X h_ σ H s->t σ H Q->
  ax (aB X.prog X.w) X.A (forIn ifs c_ λc r=>if r=c_ then do let ok <-isTrue c X.env (eval c X.env);pure (i7 ok)else pure (i7 r)) (TP X h_ σ Q) X.xe s
def Nx:LZ X [] (λ_ H Q=>Q c_ H):=λ_ _ _ H _ I h=>wpAny_tests_nil ⟨H,I,h⟩
def Nw(h:PT X c t):LZ X [c] t:=λh_ s σ H Q I hq=>wpAny_tests_one (h h_ s σ H Q I hq)
noncomputable def iC(nt:Nat)(caps:List Nat)(σ:St):St:=be nt b_++caps.map λj=>(σ[j]?).join
def Iy(wi:TI)(nt:Nat)(caps:List Nat)(g:TG)(tt:TT)(te:TE):TE:=λσ H Q=>wi σ H λJ H1=>∃W:Nat->Nat->List V->Hp->Prop,(∃m,W 0 m [] H1)/\∀i m ys H,W i m ys H->
 (J.stop i H/\ys.length<=aD/\∀p,H p=b_->Q (.ref p) (upd H p (.lst ys)))\/
 (J.go i H/\ys.length<aD/\∀x H',J.yld i H x H'->g x (iC nt caps σ) H' λσ2 H2=>tt σ2 H2 λb H3=>
  if b=c_ then te σ2 H3 λy H4=>∃m',m'<m/\W (i+1) m' (ys++[y]) H4 else ∃m',m'<m/\W (i+1) m' ys H3)
structure jt(X:Cx)(scope:l8)(tn cn:List a8)(caps:List Nat):Prop where
 kind:scope.kind=.function
 nocell:∀y∈scope.names,y.2≠.cell
 locs:∀y∈scope.names,y.2=.local->scope.names.lookup y.1=a_ .local
 frees:∀y∈scope.names,y.2=.free->X.env.kindOf y.1=a_ .cell\/X.env.kindOf y.1=a_ .free
 nofree:∀x,scope.names.lookup x=a_ .free->(x,ee)∈scope.names
 caps:caps.map (λj=>X.N[j]?)=cn.map a_
 capk:∀x∈cn,X.env.kindOf x=a_ .cell\/X.env.kindOf x=a_ .free
 capn:∀x∈cn,scope.names.lookup x=a_ .free
theorem uR{env:HI}(x:a8):∀names:List (a8×kB),(names.map λ(n,k)=>if(k == ee && env.scope.kind == .function && env.kindOf n == a_ .cell)then(n,lO)else(n,k)).lookup x =
  (names.lookup x).map λk=>if(k == ee && env.scope.kind == .function && env.kindOf x == a_ .cell)then lO else k
 |[]=>rfl
 |(n,k)::r=>by
   by_cases hx:x=n
   ·subst hx;simp only[ah,List.lookup_cons_self,aH];split<;>simp
   ·have hb:(x == n)=d_:=by simpa using hx
    rw[cy,hb,<-uR x r,ah];dsimp only;split<;>rw[cy,hb]
def oh(x:a8):(relabel scope env).names.lookup x=(scope.names.lookup x).map λk=>if(k == ee && env.scope.kind == .function && env.kindOf x == a_ .cell)then lO else k:=uR x scope.names
def yt{scope:l8}(hc:∀y∈scope.names,y.2≠lO)(h:(relabel scope env).names.lookup x=a_ .cell\/(relabel scope env).names.lookup x=a_ .free):scope.names.lookup x=a_ .free:=by
 rw[oh]at h
 cases q:scope.names.lookup x with
 |none=>rw[q]at h;simp at h
 |some k=>
   rw[q]at h;simp only[aH,jl]at h;by_cases hk:k=.free
   ·rw[hk]
   ·have hb:(k == ee)=d_:=by simpa using hk
    rw[hb]at h;simp only[pk,bf,if_false]at h
    rcases h with h|h
    ·subst h;exact absurd rfl (hc (x,.cell) (gP q))
    ·exact absurd h hk
def qF{scope:l8}(h:scope.names.lookup x=a_ .free):(relabel scope env).names.lookup x≠a_ .local:=by
 rw[oh,h];simp only[aH,ne_eq,jl];split<;>(intro z;cases z)
section
variable{X:Cx}{h_:List (aE×kX)}{σ:St}{H:Hp}
theorem p7{env:HI}:∀(names:List (a8×kB)) (cs:List (a8×aE)),(∀y∈names,y.2=.free->∃c,env.cells.lookup y.1=a_ c)->(∀n c,cs.lookup n=a_ c->env.cells.lookup n=a_ c)->
  ∃cl:List (a8×aE),(forIn (m:=Sem) names cs λx r=>if(x.2 == ee)=c_ then do let a <-cellOf env x.1;pure (i7 ((x.1,a)::r))else pure (i7 r))=pure cl/\(∀n c,cl.lookup n=a_ c->env.cells.lookup n=a_ c)/\
   (∀n c,cs.lookup n=a_ c->∃c',cl.lookup n=a_ c')/\∀n,(n,ee)∈names->∃c,cl.lookup n=a_ c
 |[],cs,_,h2=>⟨cs,rfl,h2,λn c e=>⟨c,e⟩,λn z=>nomatch z⟩
 |(n,k)::r,cs,h1,h2=>by
   by_cases hk:k=.free
   ·subst hk;obtain⟨c,hc⟩:=h1 (n,.free) iw rfl
    have hcell:cellOf env n=pure c:=by
     unfold cellOf;rw[hc]
    obtain⟨cl,e,q1,q2,q3⟩:=p7 r ((n,c)::cs) (λy hy=>h1 y (jd _ hy)) (λm d e=>by
     rw[cy]at e;by_cases hm:m=n
     ·subst hm;simp at e;rw[<-e];exact hc
     ·have:(m == n)=d_:=by simpa using hm
      rw[this]at e
      exact h2 m d e)
    refine⟨cl,?_,q1,λm d hd=>?_,λm hm=>?_⟩
    ·rw[nY];simp only[beq_self_eq_true,if_true,hcell,pure_bind];exact e
    ·by_cases hmn:m=n
     ·subst hmn;exact q2 m c (by simp)
     ·have:(m == n)=d_:=by simpa using hmn
      exact q2 m d (by rw[cy,this];exact hd)
    ·rcases aq.mp hm with z|z
     ·cases z;exact q2 n c (by simp)
     ·exact q3 m z
   ·have hb:(k == ee)=d_:=by simpa using hk
    obtain⟨cl,e,q1,q2,q3⟩:=p7 r cs (λy hy=>h1 y (jd _ hy)) h2;refine⟨cl,?_,q1,q2,λm hm=>?_⟩
    ·rw[nY];simp only[hb,bf,if_false,pure_bind];exact e
    ·rcases aq.mp hm with z|z
     ·cases z;exact absurd rfl hk
     ·exact q3 m z
def vA{cn:List a8}(ok:X.Ok)(S:jt X scope tn cn caps):∃cl:List (a8×aE),closureFor scope X.env=pure cl/\(∀n c,cl.lookup n=a_ c->X.env.cells.lookup n=a_ c)/\∀n,(n,ee)∈scope.names->∃c,cl.lookup n=a_ c:=by
 obtain⟨cl,e,q1,_,q3⟩:=p7 (env:=X.env) scope.names [] (λy hy hk=>ok.has y.1 (S.frees y hy hk)) (λn c e=>by simp at e);refine⟨cl,?_,q1,q3⟩;unfold closureFor;rw[bind_pure];exact e
def Inv.Im{D:aE}(I:Inv X h_ σ H s)(hD:qc X h_ H D)(hs:X.s₀.heap.objs.size<=D)(new:iH X.prog X.w (upd H D o) s.heap D o):Inv X h_ σ (upd H D o) s:=by
 obtain⟨hn,hL,hf,_,hc,hp⟩:=hD
 have old:∀b ob,X.s₀.heap.get? b=a_ ob->b≠D:=λb ob e z=>by
  subst z;exact absurd (aW (hl9 e) hs) (bp _)
 refine⟨I.ok,I.os,I.bare,⟨I.base.keep,I.base.slot,λb ob e n hx=>?_,I.base.there,λb xs e=>?_,λb ob u e=>?_,λb ps e=>?_⟩,I.loc,I.cell,?_,λx c e=>?_,λp hpp=>?_,λb u e=>?_,I.len⟩
 ·rw[bq (old b ob e)];exact I.base.free b ob e n hx
 ·rw[bq (cC (I.base.tups b xs e) hn)];exact I.base.tups b xs e
 ·rw[bq (cC (I.base.frzs b ob u e) hn)];exact I.base.frzs b ob u e
 ·obtain⟨m,q⟩:=I.base.tbls b ps e;exact⟨m,by rw[bq (cC q hn)];exact q⟩
 ·rw[bq (fJ hL)];exact I.free
 ·rw[bq (hc x c e)];exact I.freeC x c e
 ·obtain⟨q1,q2,q3,q4,q5⟩:=I.pin p hpp;exact⟨q1,by rw[bq (hp p hpp)];exact q2,q3,q4,q5⟩
 ·by_cases hb:b=D
  ·subst hb;rw[bh]at e;cases e;exact new
  ·rw[bq hb]at e;exact(I.hok b u e).mr (λ_ _ _ q=>q) (λc q=>by rw[bq (cC q hn)];exact q) λc xs q=>by rw[bq (cC q hn)];exact q
def oA{iter:aV}{ifs:List aV}(J:Nat->aw->Prop)
  (turn:∀n s,J n s->ax (aB prog w) A (pyNext it) (λr s₁=>match r with
   |none=>R (.ok .next) s₁
   |some v=>ax (aB prog w) A (letOwnedTupleGo target it v) (λ_ s₁'=>ax (aB prog w) A (assign target env v) (λ_ s₂=>
     ax (aB prog w) A (forIn ifs c_ λc r=>if r=c_ then do let ok <-isTrue c env (eval c env);pure (i7 ok)else pure (i7 r)) (λok s₃=>
      if ok=c_ then ax (aB prog w) A (eval elt env) (λx s₄=>
       ax (aB prog w) A (call (.builtin "list.append") [acc,x]) (λ_ s₅=>∃m,m<n/\J m s₅) (λ_ _=>False) s₄) (λ_ _=>False) s₃
      else ∃m,m<n/\J m s₃) (λ_ _=>False) s₂) (λ_ _=>False) s₁') (λ_ _=>False) s₁) (λ_ _=>False) s)
  (n:Nat)(h:J n s) :
  codeAny (aB prog w) A (.compLoop (.ListComp elt [⟨target,iter,ifs,0⟩] scope pos) 0 it acc env) R s:=by
 refine codeAny_loop rfl J (λn s hI=>?_) n h;show ax _ A ((compTurn (.ListComp elt [⟨target,iter,ifs,0⟩] scope pos) 0 it acc env).onRaise (λx=>do noteFrame x env;theTreesLotGoes x)) _ _ s;refine wpAny_noted ?_;rw[compTurn_list];refine wb9 (lG (wb9 (bE (turn n s hI) (λr s₁ h₁=>?_) λ_ _ h'=>h'.elim)))
 cases r with
 |none=>exact wu9 h₁
 |some v=>
   refine wb9 (bE h₁ (λ_ s₁' h₁'=>?_) λ_ _ h'=>h'.elim);refine wb9 (bE h₁' (λ_ s₂ h₂=>wb9 (bE h₂ (λok s₃ h₃=>?_) λ_ _ h'=>h'.elim)) λ_ _ h'=>h'.elim)
   cases ok with
   |false=>exact wu9 ⟨rfl,h₃⟩
   |true=>
     exact wb9 (wb9 (bE h₃ (λx s₄ h₄=>wb9 (bE h₄ (λ_ s₅ h₅=>wu9 (wu9 ⟨rfl,h₅⟩)) λ_ _ h'=>h'.elim)) λ_ _ h'=>h'.elim))
def pD(nt:Nat)(g:TG):Prop:=∀x σ H Q,g x σ H Q->g x σ H λσ2 H2=>Q σ2 H2/\σ2.length=σ.length/\∀i,nt<=i->σ2[i]?=σ[i]?
def uE(h:i<nt):pD nt (kh i):=λx σ H Q q=>by
 refine⟨q,by simp,λj hj=>?_⟩;rw[cD (λz=>(eh h (ae hj (aM z.symm))))]
def vE(nt:Nat)(g:QU):Prop:=∀xs σ H Q,g xs σ H Q->g xs σ H λσ2 H2=>Q σ2 H2/\σ2.length=σ.length/\∀i,nt<=i->σ2[i]?=σ[i]?
def FY:vE nt GR:=λxs σ H Q ⟨e,q⟩=>⟨e,q,rfl,λ_ _=>rfl⟩
def Cc(mono:∀x σ H Q Q',(∀σ2 H2,Q σ2 H2->Q' σ2 H2)->t x σ H Q->t x σ H Q')(monou:∀x σ H Q Q',(∀σ2 H2,Q σ2 H2->Q' σ2 H2)->u x σ H Q->u x σ H Q')(ht:pD nt t)(hu:vE nt u):vE nt (xt t u):=λxs σ H Q z4=>by
 obtain⟨v,r,e,q⟩:=z4;refine⟨v,r,e,?_⟩;refine mono _ _ _ _ _ (λσ2 H2 ⟨q2,l2,s2⟩=>?_) (ht _ _ _ _ q);exact monou _ _ _ _ _ (λσ3 H3 ⟨q3,l3,s3⟩=>⟨q3,l3.trans l2,λi hi=>(s3 i hi).trans (s2 i hi)⟩) (hu _ _ _ _ q2)
def FX{K:aA}(hu:vE nt u):pD nt (Kz K n u):=λx σ H Q ⟨a,xs,e,h1,h2,q⟩=>⟨a,xs,e,h1,h2,hu _ _ _ _ q⟩
def vm:∀x σ H Q Q',(∀σ2 H2,Q σ2 H2->Q' σ2 H2)->kh i x σ H Q->kh i x σ H Q':=λ_ _ _ _ _ h q=>h _ _ q
def GQ:∀x σ H Q Q',(∀σ2 H2,Q σ2 H2->Q' σ2 H2)->GR x σ H Q->GR x σ H Q':=λ_ _ _ _ _ h q=>⟨q.1,h _ _ q.2⟩
def Dj(mt:∀x σ H Q Q',(∀σ2 H2,Q σ2 H2->Q' σ2 H2)->t x σ H Q->t x σ H Q')(mu:∀x σ H Q Q',(∀σ2 H2,Q σ2 H2->Q' σ2 H2)->u x σ H Q->u x σ H Q') :
  ∀x σ H Q Q',(∀σ2 H2,Q σ2 H2->Q' σ2 H2)->xt t u x σ H Q->xt t u x σ H Q':=λ_ _ _ _ _ h ⟨v,r,e,q⟩=>⟨v,r,e,mt _ _ _ _ _ (λ_ _ q2=>mu _ _ _ _ _ h q2) q⟩
def BE(X:Cx)(h_:List (aE×kX))(σ:St)(Q:VK)(acc:ak)(C:aE)(r:Result)(s':aw):Prop:=
 r=.ok .next/\∃D H',acc=.ref D/\(∃m,s'.heap.Ns C m)/\Inv X h_ σ H' s'/\qc X h_ H' C/\Q (.ref D) H'
def vy{iter:aV}{ifs:List aV}{cn:List a8}{cl:List (a8×aE)}
  (hcalm:X.calm=c_)(S:jt X scope tn cn caps)(hclos:∀n c,cl.lookup n=a_ c->X.env.cells.lookup n=a_ c)(hhas:∀n,(n,ee)∈scope.names->∃c,cl.lookup n=a_ c)
  (hg:∀(cl:List (a8×aE))(s₂:aw)(H₂:Hp)(C:aE)(ex:List aE),PG (eX X scope cl (tn++cn) s₂ H₂ C ex) tg g)(touch:pD tn.length g)
  (ht:∀(cl:List (a8×aE))(s₂:aw)(H₂:Hp)(C:aE)(ex:List aE),LZ (eX X scope cl (tn++cn) s₂ H₂ C ex) ifs tt)
  (he:∀(cl:List (a8×aE))(s₂:aw)(H₂:Hp)(C:aE)(ex:List aE),PE (eX X scope cl (tn++cn) s₂ H₂ C ex) elt te)
  (hi:ZY X h_ σ tg (λJ H1=>∃W:Nat->Nat->List V->Hp->Prop,(∃m,W 0 m [] H1)/\∀i m ys H,W i m ys H->
   (J.stop i H/\ys.length<=aD/\∀p,H p=b_->Q (.ref p) (upd H p (.lst ys)))\/
   (J.go i H/\ys.length<aD/\∀x H',J.yld i H x H'->g x (iC tn.length caps σ) H' λσ2 H2=>tt σ2 H2 λb H3=>
    if b=c_ then te σ2 H3 λy H4=>∃m',m'<m/\W (i+1) m' (ys++[y]) H4 else ∃m',m'<m/\W (i+1) m' ys H3)) itv s₂) :
  ax (aB X.prog X.w) X.A (newList []) (λacc s₃=>ax (aB X.prog X.w) X.A (newFunctionEnv scope X.env.globals cl [] X.env.qual b_ .none (a_ X.env)) (λcenv s₄=>
   codeAny (aB X.prog X.w) X.A (.compStart (.ListComp elt [⟨tg,iter,ifs,0⟩] scope pos) 0 itv acc { cenv with scope:=relabel scope X.env }) (BE X h_ σ Q acc cenv.locals) s₄) E s₃) E s₂:=by
 obtain⟨it,fp,tnn,J,H2,e,I2,T,st2,f2,W,⟨m0,w0⟩,turn⟩:=hi;subst e;refine cH (wpAny_newFunctionEnv S.nocell (by intro y hy;simp at hy) (λh₁ hns₁ hsb₁=>?_) S.kind);dsimp only at hns₁ hsb₁ ⊢;generalize hH2:s₂.heap.push { cls:=.type "list",dict:=b_,data:=.seq ([]:List ak).toArray }=G2 at hns₁ hsb₁ ⊢;have hC:G2.objs.size=s₂.heap.objs.size+1:=by rw[<-hH2,dO]
 have hDC:s₂.heap.objs.size≠G2.objs.size:=by rw[hC];exact bc (nM _)
 have old:∀b o,s₂.heap.get? b=a_ o->h₁.get? b=a_ o:=λb o e=>hsb₁.extBut b o (by rw[hC];exact bc (tD (hl9 e))) (hp9 _ (hH2▸hp9 _ e));have hacc:h₁.get? s₂.heap.objs.size=a_ { cls:=.type "list",data:=.seq ([]:List ak).toArray }:=hsb₁.extBut _ _ hDC (hp9 _ (hH2▸aK _ rfl));generalize hDd:s₂.heap.objs.size=D at *;generalize hCd:G2.objs.size=C at *;have hCD:@Eq Nat C (D+1):=hC;have hlt:D<C:=by rw[hC];exact nM _
 have hDD:@Eq Nat s₂.heap.objs.size D:=hDd;have t7:∀b o,s₂.heap.get? b=a_ o->b<D:=λb o e=>hDd▸hl9 e;have fresh:∀a,D<=a->H2 a=b_:=λa h=>I2.hok.fresh (hDd▸h);have hfpS:∀b∈fp,b<D:=λb hb=>by obtain⟨o,e,_⟩:=T.obj 0 _ st2 b hb;exact t7 b o e
 have frL:∀b∈nF X.stack,b<D:=λb hb=>by
  obtain⟨_,o,ho,_⟩:=I2.stack.mem hb;exact t7 b o ho
 have clL:∀x c,cl.lookup x=a_ c->c<D:=λx c e=>by
  obtain⟨v,q⟩:=I2.cell x c (hclos x c e);exact hDd▸q.lt
 let Y:Cx:=eX X scope cl (tn++cn) s₂ H2 C fp
 have okY:Y.Ok:=by
  refine⟨I2.ok.mod,S.kind,I2.ok.glob,I2.ok.blt,?_,λx y c h1 h2=>I2.ok.inj x y c (hclos x c h1) (hclos y c h2),λx hx=>?_,(λx c h=>nomatch h),I2.ok.hd,I2.ok.frames,.inl rfl,λb hb=>⟨?_,λx c e=>?_⟩,λb o e=>I2.bs b o e,?_,λb o e hb=>?_,λb hb z=>?_,I2.stack,I2.yh⟩
  ·show s₂.heap.objs.size<=C;exact bo (aN (aM hDD) hlt)
  ·have hx':(relabel scope X.env).names.lookup x=a_ .cell\/(relabel scope X.env).names.lookup x=a_ .free:=hx;have hfree:scope.names.lookup x=a_ .free:=yt S.nocell hx';exact hhas x (S.nofree x hfree)
  ·show b≠C;exact bc (iu (hfpS b hb) hlt)
  ·have e':cl.lookup x=a_ c:=e;exact(f2 b hb).2.2.2.2.1 x c (hclos x c e')
  ·show X.base.objs.size<=s₂.heap.objs.size;exact ae I2.ok.bsz I2.sz
  ·rcases(f2 b hb).2.2.2.1 with z|z
   ·exact I2.ok.noex b o e z
   ·exact absurd (aW (aW (hl9 e) I2.ok.bsz) z) (bp _)
  ·have hb':=f2 b hb
   rcases aq.mp (I2.uG b z)with q|q
   ·exact hb'.2.1 q
   ·exact hb'.2.2.1 q
 have invY:∀(s':aw) (m:a8->Option ak),s'.os=s₂.os->kE s'.gens->(∀b o,s₂.heap.get? b=a_ o->s'.heap.get? b=a_ o)->s'.heap.Ns C m->(∀(i:Nat) (x:a8) (v:V),(tn++cn)[i]?=a_ x->(iC tn.length caps σ)[i]?=a_ (a_ v)->LA Y.env.scope x->∃u,RelV v u/\Look Y.env s'.heap m x u)->
   Inv Y (X.pn++h_) (iC tn.length caps σ) H2 s':=λs' m ho hb hk hn hl=>by
  refine⟨okY,ho,hb,Un.kept hk,⟨m,hn,hl⟩,λx c e=>?_,fresh C (bo hlt),λx c e=>I2.freeC x c (hclos x c e),λp hp=>?_,I2.hok.kept hk,?_⟩
  ·obtain⟨v,q⟩:=I2.cell x c (hclos x c e);exact⟨v,q.keeps hk⟩
  ·have hp':p∈X.pn++h_:=by simpa [Y,eX]using hp
   obtain⟨q1,q2,q3,q4,q5⟩:=I2.pin p hp';refine⟨hk _ _ q1,q2,?_,λz=>?_,q5⟩
   ·show p.1≠C;exact bc (iu (t7 _ _ q1) hlt)
   ·rcases aq.mp (I2.uG p.1 z)with w|w
    ·exact q3 w
    ·exact q4 w
  ·show(iC tn.length caps σ).length=(tn++cn).length;have e:=congrArg ux S.caps;simp only[ag]at e;simp[iC,e]
 have loop:∀s₃:aw,s₃={ s₂ with heap:=h₁,toks:=s₂.toks+([]:List (a8×ak)).length }->
   codeAny (aB X.prog X.w) X.A (.compLoop (.ListComp elt [⟨tg,iter,ifs,0⟩] scope pos) 0 (.ref it) (.ref D) (compEnvC scope cl C X.env)) (BE X h_ σ Q (.ref D) C) s₃:=by
  rintro s₃ rfl
  have I3:Inv Y (X.pn++h_) (iC tn.length caps σ) H2 { s₂ with heap:=h₁,toks:=s₂.toks+([]:List (a8×ak)).length }:=by
   refine invY _ _ rfl I2.bare old hns₁ λi x v e1 e2 e3=>?_
   have hi:tn.length<=i:=by
    by_cases hi:tn.length<=i
    ·exact hi
    ·unfold iC at e2;rw[cG (by simpa using hi),fi]at e2;split at e2<;>cases e2
   unfold iC at e2;rw[dn (by simpa using hi),kb]at e2;rw[dn hi]at e1;rw[aY]at e2
   cases hj:caps[i - tn.length]? with
   |none=>rw[hj]at e2;cases e2
   |some j=>
     rw[hj]at e2;have e2':(σ[j]?).join=a_ v:=aO e2
     have hσ:σ[j]?=a_ (a_ v):=by
      cases q:σ[j]? with
      |none=>rw[q]at e2';cases e2'
      | some z=>rw[q]at e2';cases z with
        |none=>cases e2'
        |some z=>exact congrArg a_ e2'
     have hN:X.N[j]?=a_ x:=by
      have e:=congrArg (λl=>l[i - tn.length]?) S.caps;simp only[aY,hj,e1,aH]at e;exact aO e
     have hk:=S.capk x (e8 e1);obtain⟨m,hn,hl⟩:=I2.loc;have hv:LA X.env.scope x:=hk.elim (λz=>.inr (.inl z)) λz=>.inr (.inr z);obtain⟨u,ru,l⟩:=hl j x v hN hσ hv;refine⟨u,ru,.inr ?_⟩
     rcases l with⟨k,_⟩|⟨k,c,ec,hcell⟩
     ·rw[k]at hk;rcases hk with z|z<;>cases z
     ·
      rcases e3 with z|z|z
      ·
       exact absurd z (qF (S.capn x (e8 e1)))
      ·obtain⟨c',ec'⟩:=okY.has x (.inl z);have ecc:c'=c:=aO ((hclos x c' ec').symm.trans ec);rw[ecc]at ec';exact⟨.inl z,c,ec',hcell.keeps old⟩
      ·obtain⟨c',ec'⟩:=okY.has x (.inr z);have ecc:c'=c:=aO ((hclos x c' ec').symm.trans ec);rw[ecc]at ec';exact⟨.inr z,c,ec',hcell.keeps old⟩
  have pinD:∀{σ':St} {H':Hp} {s':aw} {its:List ak} {n:Nat},Inv Y (X.pn++h_) σ' H' s'->H' D=b_->s'.heap.get? D=a_ { cls:=.type "list",data:=.seq its.toArray n }->
    Inv Y ((X.pn++h_)++[(D,{ cls:=.type "list",data:=.seq its.toArray n })]) σ' H' s':=λ{σ' H' s' its n}I' hn hd=>by
   refine I'.qG λp hp=>?_
   rcases aL.mp hp with z|z
   ·exact I'.pin p (aF _ z)
   ·have e:=aQ.mp z;subst e;refine⟨hd,hn,hDC,λz=>?_,(λv z=>nomatch z)⟩;exact absurd (frL D z) (bp _)
  have fpD:∀{H':Hp},H' D=b_->∀b,b=D->qc Y (X.pn++h_) H' b:=λ{H'}hn b hb=>by
   subst hb;refine⟨hn,hDC,λz=>absurd (frL b z) (bp _),.inr (aM hDd),λx c e z=>?_,λp hp z=>?_⟩
   ·have:=clL x c e;rw[z]at this;exact absurd this (bp _)
   ·have hp':p∈X.pn++h_:=by simpa [Y,eX]using hp
    have:=t7 _ _ (I2.pin p hp').1;rw[z]at this;exact absurd this (bp _)
  have stat:∀{H':Hp}{pl:List (aE×kX)},(∀b∈fp,H' b=b_)->(∀p∈pl,p.1=D)->∀b∈fp,qc Y ((X.pn++h_)++pl) H' b:=λ{H' pl}hn hpl b hb=>by
   obtain⟨g0,g1,g2,g3,g4,g5⟩:=f2 b hb;refine⟨hn b hb,?_,λz=>?_,.inl hb,λx c e=>g4 x c (hclos x c e),λp hp z=>?_⟩
   ·show b≠C;exact bc (iu (hfpS b hb) hlt)
   ·rcases aq.mp (I2.uG b z)with w|w
    ·exact g1 w
    ·exact g2 w
   ·have hp':p∈(X.pn++h_)++pl:=by simpa [Y,eX]using hp
    rcases aL.mp hp' with w|w
    ·exact g5 p w z
    ·have h1:=hpl p w;have h2:=hfpS b hb;rw[<-z,h1]at h2;exact absurd h2 (bp _)
  refine oA (λn s'=>∃(i:Nat) (ys:List V) (its:List ak) (k:Nat) (H':Hp),Inv Y (X.pn++h_) (iC tn.length caps σ) H' s'/\H' D=b_/\s'.heap.get? D=a_ { cls:=.type "list",data:=.seq its.toArray k }/\bW ys its/\
   tnn i s'.heap/\(∀b∈fp,H' b=b_)/\W i n ys H') ?_ m0 ⟨0,[],[],0,H2,I3,fresh D (aI _),hacc,.nil,T.keep _ _ _ st2 λb hb o e=>old b o e,λb hb=>(f2 b hb).1,w0⟩
  rintro n s4 ⟨i,ys,its,k,H4,I4,hD4,ho4,rv4,st4,fr4,w4⟩;have I4':=pinD I4 hD4 ho4
  have pl1:∀p∈[((D,{ cls:=.type "list",data:=.seq its.toArray k }):aE×kX)],p.1=D:=λp hp=>by
   rw[aQ.mp hp]
  rcases turn i n ys H4 w4 with⟨stop,hz,qn⟩|⟨go,hz,step⟩
  ·
   refine hZ (T.done Y rfl rfl rfl hcalm i _ s4 _ H4 _ I4' (stat fr4 pl1) st4 stop) λr s5 ⟨hr,I5⟩=>?_;subst hr;have hd5:=(I5.pin (D,{ cls:=.type "list",data:=.seq its.toArray k }) (aF _ (aF _ (aQ.mpr rfl)))).1;have I5':Inv Y (X.pn++h_) (iC tn.length caps σ) H4 s5:=I5.mq;have J5:Inv X h_ σ H4 s5:=I2.QG (ch:=fp) I5'.os I5'.base I5'.hok I5'.bare λb hb=>⟨(f2 b hb).2.2.2.1,(f2 b hb).2.1,(f2 b hb).2.2.2.2.1,(f2 b hb).2.2.2.2.2⟩
   have up:∀a,D<=a->H4 a=b_->qc X h_ H4 a:=λa ha hn=>by
    refine⟨hn,?_,λz=>?_,.inr ?_,λx c e z=>?_,λp hp z=>?_⟩
    ·have h1:=I2.lt;intro z;rw[<-z,hDd]at h1;exact absurd (aW h1 ha) (bp _)
    ·exact I2.WD (a:=a) (by rw[hDd];exact ha) z
    ·exact ae I2.sz (by rw[hDd];exact ha)
    ·obtain⟨v,q⟩:=I2.cell x c e;have h1:=q.lt;rw[z,hDd]at h1;exact absurd (aW h1 ha) (bp _)
    ·have h1:=t7 _ _ (I2.pin p hp).1;rw[z]at h1;exact absurd (aW h1 ha) (bp _)
   have J6:Inv X h_ σ (upd H4 D (.lst ys)) s5:=J5.Im (up D (aI _) hD4) (by have h1:=I2.sz;rw[hDd]at h1;exact h1) ⟨hz,its,k,rv4,hd5⟩;obtain⟨m5,hn5,_⟩:=I5'.loc;refine⟨rfl,D,upd H4 D (.lst ys),rfl,⟨m5,hn5⟩,J6,?_,qn D hD4⟩;have hC4:H4 C=b_:=I5'.free;obtain⟨u0,u1,u2,u3,u4,u5⟩:=up C (bo hlt) hC4;exact⟨by rw[bq (fJ hDC)];exact u0,u1,u2,u3,u4,u5⟩
  ·refine hZ (T.item Y rfl rfl rfl hcalm i _ s4 _ H4 _ I4' (stat fr4 pl1) st4 go) λr s5 ⟨u,hr,h5⟩=>?_;subst hr;refine hZ h5 λ_ s6 ⟨x,H6,I6,r6,y6,st6,fr6⟩=>?_;have I6':=I6.pinned (stat fr6 pl1) (T.obj _ _ st6);refine hZ (hg cl s₂ H2 C fp _ s6 _ H6 x u _ I6' r6 (touch _ _ _ _ (step x H6 y6))) λ_ s7 ⟨σ7,H7,I7,q7,l7,e7⟩=>?_
   have back:∀{H':Hp} {s':aw} {ys':List V} {its':List ak} {k':Nat} {n':Nat},Inv Y (X.pn++h_++lZ fp s6.heap) σ7 H' s'->H' D=b_->s'.heap.get? D=a_ { cls:=.type "list",data:=.seq its'.toArray k' }->bW ys' its'->W (i+1) n' ys' H'->
     ∃(i:Nat) (ys:List V) (its:List ak) (k:Nat) (H':Hp),Inv Y (X.pn++h_) (iC tn.length caps σ) H' s'/\H' D=b_/\s'.heap.get? D=a_ { cls:=.type "list",data:=.seq its.toArray k }/\bW ys its/\tnn i s'.heap/\(∀b∈fp,H' b=b_)/\W i n' ys H':=
    λ{H' s' ys' its' k' n'}I' hd ho rv w=>by
     refine⟨i+1,ys',its',k',H',(I'.mq).weak (by rw[l7]) (λj v hj=>?_),hd,ho,rv,T.keep _ _ _ st6 λb hb o e=>(I'.pin (b,o) (aF _ (aF _ (m7 hb e)))).1,λb hb=>?_,w⟩
     ·have hj':tn.length<=j:=by
       by_cases hj':tn.length<=j
       ·exact hj'
       ·unfold iC at hj;rw[cG (by simpa using hj'),fi]at hj;split at hj<;>cases hj
      rw[e7 j hj'];exact hj
     ·obtain⟨o,e,d⟩:=T.obj _ _ st6 b hb;exact(I'.pin (b,o) (aF _ (aF _ (m7 hb e)))).2.1
   have pinOf:∀{σ':St}{H':Hp}{s':aw},Inv Y (((X.pn++h_)++[(D,{ cls:=.type "list",data:=.seq its.toArray k })])++lZ fp s6.heap) σ' H' s'->s'.heap.get? D=a_ { cls:=.type "list",data:=.seq its.toArray k }/\H' D=b_:=λI'=>by
    obtain⟨q1,q2,_⟩:=I'.pin (D,{ cls:=.type "list",data:=.seq its.toArray k }) (aF _ (aZ _ (aF _ (aQ.mpr rfl))));exact⟨q1,q2⟩
   have dropD:∀{σ':St}{H':Hp}{s':aw},Inv Y (((X.pn++h_)++[(D,{ cls:=.type "list",data:=.seq its.toArray k })])++lZ fp s6.heap) σ' H' s'->Inv Y (X.pn++h_++lZ fp s6.heap) σ' H' s':=λI'=>
    I'.qG λp hp=>I'.pin p (aF _ (by
     rcases aL.mp hp with z|z
     ·exact aZ _ (aZ _ z)
     ·exact aF _ z))
   refine hZ (ht cl s₂ H2 C fp _ s7 σ7 H7 _ I7 q7) λb s8 ⟨H8,I8,q8⟩=>?_
   cases b with
   |false=>
     rw[if_neg cJ];rw[if_neg cJ]at q8;obtain⟨m',hm,w8⟩:=q8;exact⟨m',hm,back (dropD I8) (pinOf I8).2 (pinOf I8).1 rv4 w8⟩
   |true=>
     rw[if_pos rfl];rw[if_pos rfl]at q8;refine hZ (he cl s₂ H2 C fp _ s8 σ7 H8 _ I8 q8) λv s9 ⟨y,H9,I9,r9,m',hm,w9⟩=>?_;obtain⟨ho9,hD9⟩:=pinOf I9;refine wpAny_list_append_plain (hsz:=by have:=rv4.length;simp;exact bo (aN (aM this.symm) hz)) (items:=its.toArray) ⟨k,ho9⟩ λh' hl' hs'=>?_;obtain⟨k',hk'⟩:=hl';have I9':=dropD I9;have f9:=fpD hD9 D rfl
     have I10:Inv Y (X.pn++h_++lZ fp s6.heap) σ7 H9 { s9 with heap:=h' }:=by
      refine I9'.turned (t':=s9.toks) (it:=D) (λb o hb e=>hs'.extBut b o hb e) hD9 hDC (.inr (aM hDd)) f9.2.2.2.2.1 λp hp=>?_;have hp':p∈X.pn++h_++lZ fp s6.heap:=by simpa [Y,eX]using hp
      rcases aL.mp hp' with z|z
      ·exact bc (t7 _ _ (I2.pin p z).1)
      ·obtain⟨hb,_⟩:=wR z;exact bc (hfpS _ hb)
     refine⟨m',hm,back (ys':=ys++[y]) (its':=its++[v]) (k':=k') I10 hD9 ?_ (rv4.append (.cons r9 .nil)) w9⟩;simpa using hk'
 exact codeAny_compStart_list (loop _ rfl) (T.self X.A 0 _ _ _ (T.keep _ _ _ st2 λb hb o e=>old b o e) (loop _ rfl))
def ND{iter:aV}{ifs:List aV}{cn:List a8}
  (hcalm:X.calm=c_)(S:jt X scope tn cn caps)(hi:PI X tg iter wi)
  (hg:∀(cl:List (a8×aE))(s₂:aw)(H₂:Hp)(C:aE)(ex:List aE),PG (eX X scope cl (tn++cn) s₂ H₂ C ex) tg g)(touch:pD tn.length g)
  (ht:∀(cl:List (a8×aE))(s₂:aw)(H₂:Hp)(C:aE)(ex:List aE),LZ (eX X scope cl (tn++cn) s₂ H₂ C ex) ifs tt)
  (he:∀(cl:List (a8×aE))(s₂:aw)(H₂:Hp)(C:aE)(ex:List aE),PE (eX X scope cl (tn++cn) s₂ H₂ C ex) elt te)
  (hs:∀x,foldedSetIterable iter X.env x=pure x):PE X (.ListComp elt [⟨tg,iter,ifs,0⟩] scope pos) (Iy wi tn.length caps g tt te):=by
 intro h_ s σ H Q I h;obtain⟨cl,hcl,h1,h2⟩:=vA I.ok S;rw[eval_ListComp];refine FC (use:=b_) rfl hs hcl S.kind S.locs (hZ (hi h_ s σ H _ I h) λv s1 hv=>hZ hv λitv s2 h2'=>?_);refine bE (vy (Q:=Q) (E:=X.xe) hcalm S h1 h2 hg touch ht he h2') (λacc s3 q3=>bE q3 (λcenv s4 q4=>gQ q4 λr s5 q5=>?_) λ_ _ z=>z) λ_ _ z=>z;obtain⟨rfl,D,H',rfl,⟨m,hn⟩,J,fC,q⟩:=q5;refine⟨m,hn,λh' hs'=>⟨.ref D,H',?_,rfl,q⟩⟩;exact J.turned (t':=s5.toks) (it:=cenv.locals) (λb o hb e=>hs'.extBut b o hb e) fC.1 fC.2.1 fC.2.2.2.1 fC.2.2.2.2.1 fC.2.2.2.2.2
def CM{iter:aV}{ifs:List aV}{spos:rE}{cn:List a8}(hN:X.N.Nodup)(hi':X.N[i]?=a_ x)(hx:Loc X.env.scope x)
  (hcalm:X.calm=c_)(S:jt X scope tn cn caps)(hi:PI X tg iter wi)
  (hg:∀(cl:List (a8×aE))(s₂:aw)(H₂:Hp)(C:aE)(ex:List aE),PG (eX X scope cl (tn++cn) s₂ H₂ C ex) tg g)(touch:pD tn.length g)
  (ht:∀(cl:List (a8×aE))(s₂:aw)(H₂:Hp)(C:aE)(ex:List aE),LZ (eX X scope cl (tn++cn) s₂ H₂ C ex) ifs tt)
  (he:∀(cl:List (a8×aE))(s₂:aw)(H₂:Hp)(C:aE)(ex:List aE),PE (eX X scope cl (tn++cn) s₂ H₂ C ex) elt te)
  (hsw:swapsWith (.ListComp elt [⟨tg,iter,ifs,0⟩] scope pos) (a_ (.Name x pos')) spos.line X.env=pure c_)
  (hs:∀x,foldedSetIterable iter X.env x=pure x)(hf:X.fn x=c_\/X.env.scope.names.lookup x=a_ .local) :
  PS X (.Assign [.Name x pos'] (.ListComp elt [⟨tg,iter,ifs,0⟩] scope pos) spos) (Cg (Iy wi tn.length caps g tt te) (kh i)):=by
 intro h_ s σ H D I h;obtain⟨cl,hcl,h1,h2⟩:=vA I.ok S;rw[exec_Assign_Name_used _ _ _ _ hsw];refine wb9 (lG (wb9 ?_));show ax _ X.A (do let _ <-comprehension (.ListComp elt [⟨tg,iter,ifs,0⟩] scope pos) scope X.env _ (newList []) d_ (eval iter X.env) (a_ (assign (.Name x pos') X.env))) _ _ s;refine wb9 (bE (FC (use:=a_ (assign (.Name x pos') X.env)) (Q:=λ_ s'=>SP X h_ D .next s') rfl hs hcl S.kind S.locs (hZ (hi h_ s σ H _ I h) λv s1 hv=>hZ hv λitv s2 h2'=>?_)) (λ_ s' hq=>wu9 (wu9 hq)) λ_ _ e=>e);refine bE (vy (Q:=λx H1=>kh i x σ H1 D.nx) (E:=X.xe) hcalm S h1 h2 hg touch ht he h2') (λacc s3 q3=>bE q3 (λcenv s4 q4=>gQ q4 λr s5 q5=>?_) λ_ _ z=>z) λ_ _ z=>z;obtain⟨rfl,D',H',rfl,⟨m,hn⟩,J,fC,q⟩:=q5;show ax _ X.A (assign (.Name x pos') X.env (.ref D')) _ _ _;refine wpAny_assign_Name ?_;obtain⟨oC,es,ep,hoC,hdC,hkC⟩:=id hn
 have J':Inv X (h_++[(cenv.locals,oC)]) σ H' s5:=J.qG λp hp=>by
  rcases aL.mp hp with z|z
  ·exact J.pin p (aF _ z)
  ·have e:p=(cenv.locals,oC):=by simpa using z
   subst e;exact⟨hoC,fC.1,fC.2.1,fC.2.2.1,λv z=>by rw[hdC]at z;cases z⟩
 refine og J' hN hi' hx (v:=.ref D') (u:=.ref D') rfl (λs6 I6=>?_) hf;have e6:=(I6.pin (cenv.locals,oC) (by simp)).1;refine⟨m,⟨oC,es,ep,e6,hdC,hkC⟩,λh' hs'=>⟨_,H',?_,q⟩⟩;exact(I6.mq).turned (t':=s6.toks) (it:=cenv.locals) (λb o hb e=>hs'.extBut b o hb e) fC.1 fC.2.1 fC.2.2.2.1 fC.2.2.2.2.1 fC.2.2.2.2.2
end
end L2
namespace M
open PySem PySem.Spec PyProof.Rows L2
def lF(K:Fg)(F1:Hp)(J:It)(items:List Dat):Prop:=∀F H,Good F H->bN F1 F->
 (∀(i:Nat)d,items[i]?=a_ d->J.go i H/\∀x H',J.yld i H x H'->∃F',Step F H F' H'/\Rep K F' d x)/\∀i,items.length<=i->J.stop i H
noncomputable def vq(x:Iw)(F:Hp):Hp:=match x with
 |.rng _=>λ_=>b_
 |_=>F
def Ba(h:bN F F'):bN (vq x F) F':=by
 unfold vq;split
 ·intro a o e;cases e
 ·exact h
def gI(K:Fg)(C:Fs)(x:Iw):TI:=λσ H R=>∃ρ items F,sv C x ρ=a_ items/\Good F H/\mQ K F σ ρ/\∀J F1 H1,Step F H F1 H1->lF K (vq x F1) J items->R J H1
abbrev SI(X:Cx)(C:Fs)(tg iter:aV)(x:Iw):Prop:=PI X tg iter (gI X.K C x)
def Yf(x:a8):It:=⟨λi _=>i<x.cps.size,λi H v H'=>H'=H/\∃c,x.cps[i]?=a_ c/\v=V.str ⟨#[c]⟩,λi _=>x.cps.size<=i⟩
def Ie{K:aA}(x:a8)(t:Tok)(it:aE):Turn P w K tg (Yf x) [it] it (λi h=>h.IsStrIter it "str_ascii_iterator" x t i) where
 mem:=by simp
 obj:=λi h st b hb=>by
  have e:b=it:=by simpa using hb
  subst e;obtain⟨o,e,c,d⟩:=st;exact⟨o,e,λv z=>by rw[d]at z;cases z⟩
 keep:=λi h h' st k=>by
  obtain⟨o,e,c,d⟩:=st;exact⟨o,k it (by simp) o e,c,d⟩
 item:=by
  intro X hP hw hK hc i h_ s σ H E I hf st hg;subst hP hw hK;obtain⟨f0,f1,f2,f3,f4,f5⟩:=hf it (by simp);have hx:x.cps[i]?=a_ (x.cps[i]'hg):=a9 hg;refine wpAny_pyNext_ascii_item st hx λh' st' sb=>?_;have I1:Inv X h_ σ H { s with heap:=h',toks:=s.toks+1 }:=I.turned (λb o hb e=>(sb.2 b hb).trans e) f0 f1 f3 f4 f5;obtain⟨o,e,c,d⟩:=id st';exact⟨_,rfl,A7 (s:={ s with heap:=h',toks:=s.toks+1 }) e c d bG ⟨.str ⟨#[x.cps[i]'hg]⟩,H,I1,⟨_,rfl⟩,⟨rfl,_,hx,rfl⟩,st',λb hb=>(hf b hb).1⟩⟩
 done:=by
  intro X hP hw hK hc i h_ s σ H E I hf st hg;subst hP hw hK;obtain⟨f0,f1,f2,f3,f4,f5⟩:=hf it (by simp);have hg':x.cps.size<=i:=hg;exact wpAny_pyNext_ascii_end (I.ok.hd hc) st (ib hg') λh' eb=>⟨rfl,I.turned (t':=s.toks) (λb o hb e=>eb b o hb e) f0 f1 f3 f4 f5⟩
 self:=λ_ _ _ _ _ st h=>wpAny_pyIter_striter_ascii st h
def Ib{K:aA}(x:a8)(t:Tok)(it:aE):Turn P w K tg (Yf x) [it] it (λi h=>h.IsStrIter it "str_iterator" x t i) where
 mem:=by simp
 obj:=λi h st b hb=>by
  have e:b=it:=by simpa using hb
  subst e;obtain⟨o,e,c,d⟩:=st;exact⟨o,e,λv z=>by rw[d]at z;cases z⟩
 keep:=λi h h' st k=>by
  obtain⟨o,e,c,d⟩:=st;exact⟨o,k it (by simp) o e,c,d⟩
 item:=by
  intro X hP hw hK hc i h_ s σ H E I hf st hg;subst hP hw hK;obtain⟨f0,f1,f2,f3,f4,f5⟩:=hf it (by simp);have hx:x.cps[i]?=a_ (x.cps[i]'hg):=a9 hg;refine wpAny_pyNext_wide_item st hx λh' st' sb=>?_;have I1:Inv X h_ σ H { s with heap:=h',toks:=s.toks+1 }:=I.turned (λb o hb e=>(sb.2 b hb).trans e) f0 f1 f3 f4 f5;obtain⟨o,e,c,d⟩:=id st';exact⟨_,rfl,A7 (s:={ s with heap:=h',toks:=s.toks+1 }) e c d bG ⟨.str ⟨#[x.cps[i]'hg]⟩,H,I1,⟨_,rfl⟩,⟨rfl,_,hx,rfl⟩,st',λb hb=>(hf b hb).1⟩⟩
 done:=by
  intro X hP hw hK hc i h_ s σ H E I hf st hg;subst hP hw hK;obtain⟨f0,f1,f2,f3,f4,f5⟩:=hf it (by simp);have hg':x.cps.size<=i:=hg;exact wpAny_pyNext_wide_end (I.ok.hd hc) st (ib hg') λh' eb=>⟨rfl,I.turned (t':=s.toks) (λb o hb e=>eb b o hb e) f0 f1 f3 f4 f5⟩
 self:=λ_ _ _ _ _ st h=>wpAny_pyIter_striter_wide st h
def Zc(tl:TE):TI:=λσ H R=>tl σ H λv H1=>∃x,v=.str x/\R (Yf x) H1
def Jw(hl:PE X l tl):PI X tg l (Zc tl):=by
 intro h_ s σ H R I h;refine hZ (hl h_ s σ H _ I h) λv s1 ⟨y,H1,I1,r1,q1⟩=>?_;obtain⟨x,e,q⟩:=q1;subst e;obtain⟨t,rfl⟩:=r1
 have fin:∀b∈[s1.heap.objs.size],qc X h_ H1 b:=λb hb=>by
  have e:b=s1.heap.objs.size:=by simpa using hb
  subst e;exact I1.Bb (aI _) (I1.hok.fresh (aI _))
 cases ha:x.cps.all (·< 128)with
 |true=>exact wpAny_pyIter_ascii ha ⟨s1.heap.objs.size,[s1.heap.objs.size],_,_,H1,rfl,I1.kept (t':=s1.toks) λb o e=>hp9 _ e,Ie x t _,⟨_,aK _ rfl,rfl,rfl⟩,fin,q⟩
 |false=>exact wpAny_pyIter_wide ha ⟨s1.heap.objs.size,[s1.heap.objs.size],_,_,H1,rfl,I1.kept (t':=s1.toks) λb o e=>hp9 _ e,Ib x t _,⟨_,aK _ rfl,rfl,rfl⟩,fin,q⟩
def AR{K:Fg}:lF K F1 (Yf x) (x.cps.toList.map λc=>Dat.str ⟨#[c]⟩):=λF H g s=>by
 refine⟨λi d hd=>?_,λi hi=>(by simpa using hi:x.cps.size<=i)⟩;rw[aY]at hd;obtain⟨c,hc,rfl⟩:=er hd;have hc':x.cps[i]?=a_ c:=by rw[<-n3];exact hc
 refine⟨(dk.mp hc').1,λv H' y=>?_⟩;obtain⟨rfl,c',e1,rfl⟩:=y;rw[hc']at e1;cases e1;exact⟨F,Step.refl g,rfl⟩
section
variable{iter:aV}
def PI.imp(h:PI X tg iter w)(f:∀σ H R,w' σ H R->w σ H R):PI X tg iter w':=λh_ s σ H R I q=>h h_ s σ H R I (f _ _ _ q)
def PI.or(h:PI X tg iter w)(h':PI X tg iter w'):PI X tg iter (λσ H R=>w σ H R\/w' σ H R):=λh_ s σ H R I q=>by
 rcases q with q|q
 ·exact h h_ s σ H R I q
 ·exact h' h_ s σ H R I q
def xf{K:Fg}(h:pd K F1 a vs)(r:cj K F1 ds vs):lF K F1 (Z1 K a) ds:=λF H g s=>by
 have hq:=g.sub.seq (s.seq h);refine⟨λi d hd=>?_,λi hi=>⟨vs,hq,by rw[r.length];exact hi⟩⟩;obtain⟨v,e1,e2⟩:=r.get hd;refine⟨⟨vs,v,hq,e1⟩,λx H' y=>?_⟩;obtain⟨rfl,y⟩:=y;have:=y vs hq;rw[e1]at this;cases this;exact⟨F,Step.refl g,e2.mono s⟩
def AQ{K:Fg}(h:Tq K F1 a vs)(r:cj K F1 ds vs):lF K F1 (Z0 K a) ds:=λF H g s=>by
 have hq:=((h.mono s).mono g.sub).sq;refine⟨λi d hd=>?_,λi hi=>⟨vs,hq,by rw[r.length];exact hi⟩⟩;obtain⟨v,e1,e2⟩:=r.get hd;refine⟨⟨vs,v,hq,e1⟩,λx H' y=>?_⟩;obtain⟨rfl,y⟩:=y;have:=y vs hq;rw[e1]at this;cases this;exact⟨F,Step.refl g,e2.mono s⟩
def Rr(h:SE X C e xe):SI X C tg e (.itv xe):=PI.imp (PI.or (PI.or (En h) (Jv h)) (Jw h)) λσ H R z3=>by
 obtain⟨ρ,items,F,hi,g,RS,k⟩:=z3;obtain⟨⟨d,fr⟩,h1,h2⟩:=bS hi
 cases d with
 |lst ds=>
   cases h2;refine .inl (.inl ⟨ρ,_,fr,h1,F,g,RS,λv F1 H1 st r _=>?_⟩);obtain⟨a,vs,rfl,hq,r⟩:=r;exact⟨a,rfl,⟨vs,st.good.sub.seq hq⟩,k _ F1 H1 st (xf hq r)⟩
 |tup ds=>
   cases h2;refine .inl (.inr ⟨ρ,_,fr,h1,F,g,RS,λv F1 H1 st r _=>?_⟩);obtain⟨a,vs,rfl,hq,r⟩:=r;exact⟨a,rfl,⟨vs,(hq.mono st.good.sub).sq⟩,k _ F1 H1 st (AQ hq r)⟩
 |str x=>
   cases h2;refine .inr ⟨ρ,_,fr,h1,F,g,RS,λv F1 H1 st r _=>?_⟩;cases r;exact⟨x,rfl,k _ F1 H1 st AR⟩
 |_=>cases h2
def AS{K:Fg}{lo:Int}:lF K F1 (XJ lo n) ((aP n).map λk:Nat=>Dat.int (lo+k)):=λF H g s=>by
 refine⟨λi d hd=>?_,λi hi=>(by simpa using hi:n<=i)⟩;rw[aY]at hd
 have hi:i<n:=by
  by_cases hi:i<n
  ·exact hi
  ·rw[kc (by simpa using hi)]at hd;cases hd
 rw[ao (by simpa using hi)]at hd;simp only[Hs,aH,jl]at hd;subst hd;refine⟨hi,λx H' y=>?_⟩;obtain⟨rfl,rfl⟩:=y;exact⟨F,Step.refl g,rfl⟩
set_option tactic.hygienic true
def MP{xa:Ex}(hg:Gl X "range")(hm:X.mg "range"=b_)(ha:SA X C [a] [xa])(hs:aG [a] X.env=[(d_,eval a X.env)]):SI X C tg (.Call (.Name "range" p) [a] [] pos) (.rng [xa]):=
 PI.imp (Gq hg hm ha hs) λσ H R z3=>by
  obtain⟨ρ,items,F,hi,g,RS,k⟩:=z3;obtain⟨ds,h1,h2⟩:=bS hi;refine⟨ρ,ds,h1,F,g,RS,λvs F1 H1 st r=>?_⟩;unfold yr at h2;split at h2
  ·rename_i j;split at h2
   ·rename_i hz;cases h2;obtain⟨v,w,rfl,rv,rw'⟩:=r;cases rv;cases rw';refine⟨j,rfl,by omega,dX hz.1 bG,k _ F1 H1 st ?_⟩;have:=AS (K:=X.K) (F1:=vq (.rng [xa]) F1) (lo:=0) (n:=j.toNat);simpa using this
   ·cases h2
  ·have:=kj h1;cases this
  ·cases h2
def MO{xa:Ex}(hg:Gl X "range")(hm:X.mg "range"=b_)(ha:SA X C [a,b] [xa,xb])(hs:aG [a,b] X.env=[(d_,eval a X.env),(d_,eval b X.env)])(hs2:aG [b] X.env=[(d_,eval b X.env)]) :
  SI X C tg (.Call (.Name "range" p) [a,b] [] pos) (.rng [xa,xb]):=
 PI.imp (Gp hg hm ha hs hs2) λσ H R z3=>by
  obtain⟨ρ,items,F,hi,g,RS,k⟩:=z3;obtain⟨ds,h1,h2⟩:=bS hi;refine⟨ρ,ds,h1,F,g,RS,λvs F1 H1 st r=>?_⟩;unfold yr at h2;split at h2
  ·have:=kj h1;cases this
  ·rename_i i j;split at h2
   ·rename_i hz;cases h2;obtain⟨v,w,rfl,rv,v',w',rfl,rv',rw'⟩:=r;cases rv;cases rv';cases rw';exact⟨i,j,rfl,by omega,k _ F1 H1 st AS⟩
   ·cases h2
  ·cases h2
set_option tactic.hygienic false
end
def GF(h:mF f (d::ds)=a_ ys):∃o r,f d=a_ o/\mF f ds=a_ r/\ys=(match o with|some y=>(y.1::r.1,(y.2 || im y.1) && r.2)|none=>r):=by
 simp only[mF]at h;obtain⟨o,h1,h⟩:=bS h;obtain⟨r,h2,h⟩:=er h;exact⟨o,r,h1,h2,by cases o<;>exact h.symm⟩
def Vb(K:Fg)(nt:Nat)(one:Bool)(g:TG):Prop:=∀F H σ ρ d x ρ1 Q,Good F H->mQ K F σ ρ->nt<=σ.length->σ.length=ρ.length->Rep K F d x->Fo nt one d ρ=a_ ρ1->(∀σ1,mQ K F σ1 ρ1->Q σ1 H)->g x σ H Q
def Ag{K:Fg}{σ:St}{ρ:fP}(hl:σ.length=ρ.length)(R:mQ K F σ ρ)(r:Rep K F d v):mQ K F (σ.set i (a_ v)) (ρ.set i (a_ d)):=λj d' q=>by
 rw[mi]at q ⊢;by_cases hj:i=j
 ·rw[if_pos hj]at q ⊢;split at q
  ·cases q;rw[if_pos (by omega)];exact⟨v,rfl,r⟩
  ·cases q
 ·rw[if_neg hj]at q ⊢;exact R j d' q
def Mw{K:Fg}:Vb K nt c_ (kh 0):=λF H σ ρ d x ρ1 Q g R hn hl r hb k=>by
 simp only[Fo,jl]at hb;subst hb;exact k _ (Ag hl R r)
def G5{K:Fg}(R:mQ K F σ ρ):mQ K F (iC nt caps σ) (fS nt caps ρ):=λi d q=>by
 unfold fS at q;unfold iC;by_cases hi:i<nt
 ·rw[cG (by simpa using hi),fi,if_pos hi]at q;cases q
 ·rw[dn (by simpa using hi),kb,aY]at q;rw[dn (by simpa using hi),kb,aY]
  cases hj:caps[i - nt]? with
  |none=>rw[hj]at q;cases q
  |some j=>
    rw[hj]at q;have q':(ρ[j]?).join=a_ d:=aO q
    have q2:ρ[j]?=a_ (a_ d):=by
     cases z:ρ[j]? with
     |none=>rw[z]at q';cases q'
     |some o=>rw[z]at q';exact congrArg a_ q'
    obtain⟨v,e1,e2⟩:=R j d q2;refine⟨v,?_,e2⟩;rw[aH,e1];rfl
def Vp(K:Fg)(C:Fs)(xs:List Ex):TT:=λσ H Q=>∃ρ b,xw C xs ρ=a_ b/\tT K ρ b σ H Q
section
variable{iter:aV}
def MB:LZ Y [] (Vp Y.K C []):=λh_ s σ H Q I z6=>by
 obtain⟨ρ,b,h,F,g,R,k⟩:=z6;simp only[xw]at h;cases h;exact Nx h_ s σ H Q I (k F H (Step.refl g))
def MA(h:ST Y C c xe):LZ Y [c] (Vp Y.K C [xe]):=λh_ s σ H Q I z6=>by
 obtain⟨ρ,b,hb,F,g,R,k⟩:=z6;refine Nw h h_ s σ H Q I ?_;simp only[xw]at hb;obtain⟨⟨d,fr⟩,h1,hb⟩:=bS hb;obtain⟨z,hz,hb⟩:=bS hb;refine⟨ρ,d,fr,z,h1,hz,F,g,R,λF1 H1 st=>?_⟩
 cases z with
 |true=>rw[if_pos rfl]at hb;cases hb;exact k F1 H1 st
 |false=>rw[if_neg cJ]at hb;cases hb;exact k F1 H1 st
set_option tactic.hygienic true in
def xB{K:Fg}(tgc:Vb K nt one g)(hcl:∀ρ items,sv C it ρ=a_ items->True) :
  ∀σ H Q,gE K C (.comp nt one caps it xs xe) σ H Q->Iy (gI K C it) nt caps g (Vp K C xs) (gE K C xe) σ H Q:=λσ H Q z3=>by
 obtain⟨ρ,d,fr,h,F,g0,R,k⟩:=z3;obtain⟨items,h1,h⟩:=bS h;split at h
 ·rename_i hz;obtain⟨⟨all,av⟩,h2,h⟩:=er h;cases h;refine⟨ρ,items,F,h1,g0,R,λJ F1 H1 st1 ok=>?_⟩;refine⟨λi m ys H'=>∃F' dy ay dr ar,Step F1 H1 F' H'/\mF (kN C nt one (fS nt caps ρ) xs xe) (items.drop i)=a_ (dr,ar)/\all=dy++dr/\av=(ay && ar)/\cj K F' dy ys/\(ay=c_->fw K H1 H' dy ys)/\m=items.length - i/\i<=items.length/\dy.length<=i,⟨items.length,F1,[],c_,all,av,Step.refl st1.good,h2,rfl,rfl,rfl,λ_=>.nil,rfl,bQ _,aI _⟩,?_⟩;rintro i m ys H' ⟨F',dy,ay,dr,ar,st,hm,ha,hav,ry,fy,rfl,hi,hdy⟩;have hy:ys.length<=1000000:=by rw[ry.length];exact ae hdy (ae hi hz)
  obtain⟨okg,WB⟩:=ok F' H' st.good (Ba st.ff);by_cases hlt:i<items.length
  ·obtain⟨go,yl⟩:=okg i items[i] (ao hlt);refine .inr ⟨go,by rw[bu];exact aN hy bG,λx H2 y2=>?_⟩;obtain⟨F2,st2,r2⟩:=yl x H2 y2;rw[xY hlt]at hm;obtain⟨o,⟨rr,rv⟩,h3,h4,h5⟩:=GF hm;obtain⟨ρ1,h6,h3⟩:=bS h3;obtain⟨b,h7,h3⟩:=bS h3;have RS:mQ K F2 (iC nt caps σ) (fS nt caps ρ):=(G5 R).mono ((st1.ff.trans st.ff).trans st2.ff);refine tgc F2 H2 _ _ _ x ρ1 _ st2.good RS (by simp[iC]) (by simp[iC,fS]) r2 h6 λσ1 RS1=>?_;refine⟨ρ1,b,h7,F2,st2.good,RS1,λF3 H3 st3=>?_⟩
   cases b with
   |true=>
     rw[if_pos rfl]at h3 ⊢;obtain⟨⟨dy1,fr1⟩,h8,h3⟩:=er h3;cases h3;refine⟨ρ1,dy1,fr1,h8,F3,st3.good,RS1.mono st3.ff,λv F4 H4 st4 r4 f4=>?_⟩;have stA:=((st.trans st2).trans st3).trans st4;have e5:dr=dy1::rr/\ar=((fr1 || im dy1) && rv):=by cases h5;exact⟨rfl,rfl⟩
     refine⟨items.length - (i+1),by omega,F4,dy++[dy1],ay && (fr1 || im dy1),rr,rv,stA,h4,by rw[ha,e5.1];simp,by rw[hav,e5.2,Qc],(ry.mono ((st2.ff.trans st3.ff).trans st4.ff)).append (.one r4),λz=>?_,rfl,hlt,by simp;omega⟩;simp only[af,n0]at z;have s23:=st2.hh.trans st3.hh;refine fw.snoc (st.hh.trans s23) st4.hh ((fy z.1).mono s23) ?_
     rcases z.2 with z2|z2
     ·exact f4 z2
     ·exact .jS st4.good z2 r4
   |false=>
     rw[if_neg cJ]at h3 ⊢;cases h3;have e5:dr=rr/\ar=rv:=by cases h5;exact⟨rfl,rfl⟩
     exact⟨items.length - (i+1),by omega,F3,dy,ay,rr,rv,(st.trans st2).trans st3,h4,by rw[ha,e5.1],by rw[hav,e5.2],ry.mono (st2.ff.trans st3.ff),λz=>(fy z).mono (st2.hh.trans st3.hh),rfl,hlt,bF hdy⟩
  ·have e:i=items.length:=fV hi (eU hlt);subst e;refine .inl ⟨WB _ (aI _),yK hy,λp hp=>?_⟩;rw[LR]at hm;simp only[mF]at hm;cases hm;rw[bJ]at ha;rw[eY]at hav;subst ha hav;have ry':=ry.mono (bN.upd (o:=.lst ys) (st.good.sub.free hp));exact k _ _ _ ((st1.trans st).trans (Step.alloc st.good hp)) ⟨p,ys,rfl,.inl (.inl bh),ry'⟩ λz=>.lst (st1.hh.trans st.hh) hp ((fy z).back (F:=F) st1.hh)
 ·cases h
end
def vg{K:Fg}(h:oz d=a_ k)(r:Rep K F d v):v=kV k:=by
 cases d with
 |int i=>cases h;exact r
 |str x=>cases h;exact r
 |_=>cases h
set_option tactic.hygienic true
theorem oR{K:Fg}:∀{ds:List Dat}{k_:List (Key×V)},iR k (k_.map (·.1)) ds=a_ d->cj K F ds (k_.map (·.2))->∃v,n6 k_ k=a_ v/\Rep K F d v
 |[],[],h,_=>by cases h
 |[],_::_,h,_=>by cases h
 |_::_,[],h,_=>by cases h
 |e::ds,p::k_,h,r=>by
   obtain⟨v,w,q,r1,r2⟩:=r;cases q;simp only[ah,iR]at h;split at h
   ·rename_i z;cases h;exact⟨p.2,qx z,r1⟩
   ·rename_i z;obtain⟨v,g1,g2⟩:=oR h r2;exact⟨v,(n5 z).trans g1,g2⟩
theorem r8{K:Fg}:∀{ds:List Dat}{k_:List (Key×V)},iR k (k_.map (·.1)) ds=b_->cj K F ds (k_.map (·.2))->n6 k_ k=b_
 |_,[],_,_=>rfl
 |[],p::k_,_,r=>by cases r
 |e::ds,p::k_,h,r=>by
   obtain⟨v,w,q,r1,r2⟩:=r;cases q;simp only[ah,iR]at h;split at h
   ·cases h
   ·rename_i z;exact(n5 z).trans (r8 h r2)
set_option tactic.hygienic false
section
variable{X:Cx}{C:Fs}{e:aV}{xa:Ex}{σ:St}{F H:Hp}
def Fq{K:Fg}(r:cj K F ds vs)(h:nJ ds i=a_ d):∃v,nJ vs i=a_ v/\Rep K F d v:=by
 unfold nJ at h ⊢;rw[r.length];obtain⟨j,h1,h2⟩:=bS h;obtain⟨v,e1,e2⟩:=r.get h2;exact⟨v,by rw[h1];exact e1,e2⟩
set_option tactic.hygienic true in
def Y4(hu:X.A.units+1<cP):VC X (gB X.K λx y=>(mG x y).map λd=>(d,d_)):=by
 intro value slice h_ s σ H x y v u Q I rx ry h hs;obtain⟨da,db,d,fr,h,F,g,ra,rb,k⟩:=h;obtain⟨d',h1,h2⟩:=er h;obtain⟨rfl,rfl⟩:d'=d/\d_=fr:=by cases h2;exact⟨rfl,rfl⟩
 by_cases hdc:∃ks ds,da=.dct ks ds
 ·obtain⟨ks,ds,rfl⟩:=hdc;have h1':(oz db).bind (λk=>iR k ks ds)=a_ d':=by cases db<;>exact h1
  obtain⟨kk,hk,hl⟩:=bS h1';obtain⟨a,k_,rfl,hF,rfl,rr⟩:=ra;obtain⟨w,e1,e2⟩:=oR hl rr;obtain rfl:=vg hk rb;cases rx;have dg:wc H a (kV kk) (a_ w):=by rw[<-e1];exact wc.k (g.sub _ _ hF)
  exact tail_any (Bk I dg) PySem.F.slot_dict_getitem.lookup (GX hu I dg ry λu' s' I' r'=>⟨w,H,I',r',k _ F H (Step.refl g) e2 aT⟩) hs
 cases da<;>first|exact absurd ⟨_,_,rfl⟩ hdc|skip
 all_goals cases db<;>simp only[mG,reduceCtorEq]at h1
 ·
  split at h1
  ·rename_i z i hz;obtain⟨c,h3,h4⟩:=er h1;subst h4;exact TN value slice h_ s σ H x y v u Q I rx ry ⟨z,i,c,ra,rb,hz,h3,k _ F H (Step.refl g) rfl aT⟩ hs
  ·cases h1
 ·rename_i ds i;obtain⟨p,vs,rfl,t,r⟩:=ra;obtain⟨w,e1,e2⟩:=Fq r h1;exact TM value slice h_ s σ H _ y v u Q I rx ry ⟨p,vs,i,w,rfl,rb,(t.mono g.sub).sq,e1,k _ F H (Step.refl g) e2 aT⟩ hs
 ·rename_i ds i;obtain⟨p,vs,rfl,t,r⟩:=ra;obtain⟨w,e1,e2⟩:=Fq r h1;exact Ol value slice h_ s σ H _ y v u Q I rx ry ⟨p,vs,i,w,rfl,rb,g.sub.seq t,e1,k _ F H (Step.refl g) e2 aT⟩ hs
def gO(K:Fg)(C:Fs)(x:Option Ex):TO:=λσ H Q=>∃ρ o F,U0 C ρ x=a_ o/\Good F H/\mQ K F σ ρ/\∀F' H',Step F H F' H'->Q o H'
abbrev SO(X:Cx)(C:Fs)(e:Option aV)(x:Option Ex):Prop:=PO X e (gO X.K C x)
def PO.imp{e:Option aV}{t t':TO}(h:PO X e t)(f:∀σ H Q,t' σ H Q->t σ H Q):PO X e t':=λh_ s σ H Q I q=>h h_ s σ H Q I (f _ _ _ q)
def MK:SO X C b_ b_:=PO.imp NC λσ H Q z3=>by
 obtain⟨ρ,o,F,ho,g,R,k⟩:=z3;cases ho;exact k F H (Step.refl g)
def MJ(h:SE X C e xa):SO X C (a_ e) (a_ xa):=PO.imp (NB h) λσ H Q z3=>by
 obtain⟨ρ,o,F,ho,g,R,k⟩:=z3;obtain⟨⟨d,fr⟩,h1,h2⟩:=bS ho
 cases d with
 |int i=>
   cases h2;exact⟨ρ,_,fr,h1,F,g,R,λv F1 H1 st r _=>⟨i,r,k F1 H1 st⟩⟩
 |_=>cases h2
def gSl(K:Fg):V->Option Int->Option Int->Hp->VK->Prop:=λx lo hi H Q=>∃da d fr F,zD da lo hi=a_ (d,fr)/\Good F H/\Rep K F da x/\∀v F' H',Step F H F' H'->Rep K F' d v->(fr=c_->gn K H H' d v)->Q v H'
def ze{K:Fg}(lo hi:Option Int)(r:cj K F ds vs):cj K F (cutD ds lo hi) (zf vs lo hi):=by
 unfold cutD zf;rw[<-r.length];exact(r.drop _).take _
def qU{s:aw}{sl:aE}{lo:Option Int}(ht:Hn s.heap t items)(hs:s.heap.IsSliceOf sl vl vu .none)(pl:rF vl lo)(pu:rF vu hi)
  (hw:HT.ic items.size 0 lo=0/\HT.ic items.size items.size hi=items.size)
  (h:Q (.ref t) s):ax (aB prog w) A (getItem (.ref t) (.ref sl)) Q E s:=by
 obtain⟨os,hos,hcs,hds⟩:=id hs;have hTs:s.TypeIs (.ref sl) "slice":=⟨os,hos,hcs⟩
 unfold getItem
 try with_reducible refine ck ?_
 first|refine wb9 (wu9 ?_)|skip
 refine wb9 (wpAny_sequenceKey ht.typeIs bG ?_)
 refine wb9 (dB (name:=aa "__getitem__") ht.typeIs cR
  (bP cR ht.typeIs entry_tuple_getitem ?_ (args_tuple_getitem _ _)))
 show ax _ _ (j9 (.ref t) >>= _) _ _ s;refine wb9 (FL ht ?_);refine wb9 (ko hTs ?_);rw[if_pos bG];refine wb9 (HT.mw hs pl pu ?_)
 have hyes:((((HT.ic items.size 0 lo:Nat):Int) == 0 && (1:Int) == 1 && (HT.ic items.size items.size hi - HT.ic items.size 0 lo) == items.size)=c_):=by
  rw[hw.1,hw.2];simp
 show ax _ _ (if(((HT.ic items.size 0 lo:Nat):Int) == 0 && (1:Int) == 1 && (HT.ic items.size items.size hi - HT.ic items.size 0 lo) == items.size)=c_ then _ else _) _ _ s;rw[if_pos hyes];refine wb9 (m:=qo (.ref t)) ?_;unfold qo;refine wb9 (ko ht.typeIs (wu9 ?_));rw[if_pos bG];exact wb9 (jU (wu9 ⟨_,rfl,wu9 h⟩))
set_option tactic.hygienic true
def YA:Yd X (gSl X.K):=by
 intro h_ s σ H x v vl vu lo hi sl Q I rx hs pl pu h;obtain⟨da,d,fr,F,h,g,ra,k⟩:=h
 cases da with
 |lst ds=>
   cases h;obtain⟨p,vs,rfl,t,r⟩:=ra;refine MM h_ s σ H _ v vl vu lo hi sl Q I rx hs pl pu ⟨p,vs,rfl,g.sub.seq t,λq hq=>?_⟩;have r2:=(ze lo hi r).mono (bN.upd (o:=.lst (zf vs lo hi)) (g.sub.free hq));exact k _ _ _ (Step.alloc g hq) ⟨q,_,rfl,.inl (.inl bh),r2⟩ λz=>.lst (bN.refl _) hq (.jS g z (ze lo hi r))
 |str z=>
   simp only[zD]at h;split at h
   ·rename_i hz;cases h;rw[show x=.str z from ra]at rx;obtain⟨t,rfl⟩:=rx;obtain⟨o,ho,hc,hd⟩:=hs;refine⟨"str",_,PySem.F.slot_str_getitem.lookup,pF _ _ _,?_⟩;have fin:∀t' k',EP X h_ σ Q (.str (DR z lo hi) t') { s with toks:=k' }:=λt' k'=>⟨.str _,H,I.tok k',⟨t',rfl⟩,k _ F H (Step.refl g) rfl aT⟩
    have hle:=ae (PySem.Txt.slice_le z lo hi) hz
    cases pl with
    |none=>
      cases pu with
      |none=>exact j4 (l:=b_) (u:=b_) (st:=b_) ⟨o,ho,hc,hd⟩ rfl (qd ⟨hle,fin⟩)
      |int j uj=>exact j4 (l:=b_) (u:=a_ (j,uj)) (st:=b_) ⟨o,ho,hc,hd⟩ rfl (qd ⟨hle,fin⟩)
    |int i ui=>
      cases pu with
      |none=>exact j4 (l:=a_ (i,ui)) (u:=b_) (st:=b_) ⟨o,ho,hc,hd⟩ rfl (qd ⟨hle,fin⟩)
      |int j uj=>exact j4 (l:=a_ (i,ui)) (u:=a_ (j,uj)) (st:=b_) ⟨o,ho,hc,hd⟩ rfl (qd ⟨hle,fin⟩)
   ·cases h
 |tup ds=>
   simp only[zD]at h;cases h;obtain⟨p,vs,rfl,t,r⟩:=ra;by_cases hw:HT.ic ds.length 0 lo=0/\HT.ic ds.length ds.length hi=ds.length
   ·have e:cutD ds lo hi=ds:=by
     unfold cutD;rw[hw.1,hw.2,Qb,Nat.sub_zero,List.take_length]
    rw[e]at k;cases rx;obtain⟨its,w1,ht,hz⟩:=I.tuple (t.mono g.sub).sq;have hlen:its.toArray.size=ds.length:=by rw[aJ,<-w1.length,r.length]
    exact⟨"tuple",_,cR.lookup,ht.typeIs,qU ht hs pl pu (by rw[hlen];exact hw) ⟨.ref p,H,I,rfl,k _ F H (Step.refl g) ⟨p,vs,rfl,t,r⟩ aT⟩⟩
   ·refine Ro h_ s σ H _ v vl vu lo hi sl Q I rx hs pl pu ⟨p,vs,rfl,(t.mono g.sub).sq,by rw[r.length];exact hw,λq hq=>?_⟩;exact k _ _ _ (Step.alloc g hq) ⟨q,_,rfl,.inl bh,(ze lo hi r).mono (bN.upd (g.sub.free hq))⟩ aT
 |_=>cases h
def V2{lo:Option aV}(ha:SE X C a xa)(hl:SO X C lo xb)(hh:SO X C hi xc):SE X C (.Subscript a (.Slice lo hi b_ p2) pos) (.sl xa xb xc):=
 PE.imp (JC YA ha hl hh) λσ H Q z3=>by
  obtain⟨ρ,d,fr,h,F,g,R,k⟩:=z3;obtain⟨⟨da,fa⟩,h1,h⟩:=bS h;obtain⟨l,h2,h⟩:=bS h;obtain⟨u,h3,h⟩:=bS h;refine⟨ρ,da,fa,h1,F,g,R,λv F1 H1 st1 r1 _=>⟨ρ,l,F1,h2,st1.good,R.mono st1.ff,λF2 H2 st2=>⟨ρ,u,F2,h3,st2.good,R.mono (st1.ff.trans st2.ff),λF3 H3 st3=>?_⟩⟩⟩;exact⟨da,d,fr,F3,h,st3.good,r1.mono (st2.ff.trans st3.ff),λw F4 H4 st4 r4 f4=>k w F4 H4 (((st1.trans st2).trans st3).trans st4) r4 λz=>(f4 z).back (F:=F) ((st1.hh.trans st2.hh).trans st3.hh)⟩
def Sr(hu:X.A.units+20<cP):iO X (compareOp .NotEq) (gB X.K (mL .ne)):=λh_ s σ H x y v u Q I rx ry z12=>by
 obtain⟨da,db,d,fr,h,F,g,ra,rb,k⟩:=z12;obtain⟨b,hd,rfl,rfl⟩:=jY h;simp only[cx,BO,Hd,sA,Fl]at hd;split at hd
 ·rename_i hs;cases hd;simp only[af]at hs;exact(mI I g 20 X.A da db hu hs.1 hs.2 ra rb rx ry).2.2 X.prog X.w _ _ ⟨.bl _,H,I,rfl,k _ F H (Step.refl g) rfl aT⟩
 ·cases hd
set_option tactic.hygienic false
def NS:iO X (compareOp .Is) (gB X.K (mL .isn)):=iO.imp Sz λx y H Q z4=>by
 obtain⟨da,db,d,fr,h,F,g,ra,rb,k⟩:=z4;obtain⟨b,hd,rfl,rfl⟩:=jY h
 cases db with
 |non=>
   simp only[cx,BO,Hd,sA,Fl]at hd;cases hd;refine⟨rb,?_⟩
   cases da with
   |non=>cases ra;exact k _ F H (Step.refl g) rfl aT
   |tup ds=>obtain⟨p,vs,rfl,_⟩:=ra;exact k _ F H (Step.refl g) rfl aT
   |lst ds=>obtain⟨p,vs,rfl,_⟩:=ra;exact k _ F H (Step.refl g) rfl aT
   |dct _ ds=>obtain⟨p,vs,rfl,_⟩:=ra;exact k _ F H (Step.refl g) rfl aT
   |dcn _=>obtain⟨p,vs,rfl,_⟩:=ra;exact k _ F H (Step.refl g) rfl aT
   |exc _ _ _=>obtain⟨p,vs,rfl,_⟩:=ra;exact k _ F H (Step.refl g) rfl aT
   |_=>cases ra;exact k _ F H (Step.refl g) rfl aT
 |_=>cases da<;>cases hd
def JK:iO X (compareOp .IsNot) (gB X.K (mL .nisn)):=iO.imp NO λx y H Q z4=>by
 obtain⟨da,db,d,fr,h,F,g,ra,rb,k⟩:=z4;obtain⟨b,hd,rfl,rfl⟩:=jY h
 cases db with
 |non=>
   simp only[cx,BO,Hd,sA,Fl]at hd;cases hd;refine⟨rb,?_⟩
   cases da with
   |non=>cases ra;exact k _ F H (Step.refl g) rfl aT
   |tup ds=>obtain⟨p,vs,rfl,_⟩:=ra;exact k _ F H (Step.refl g) rfl aT
   |lst ds=>obtain⟨p,vs,rfl,_⟩:=ra;exact k _ F H (Step.refl g) rfl aT
   |dct _ ds=>obtain⟨p,vs,rfl,_⟩:=ra;exact k _ F H (Step.refl g) rfl aT
   |dcn _=>obtain⟨p,vs,rfl,_⟩:=ra;exact k _ F H (Step.refl g) rfl aT
   |exc _ _ _=>obtain⟨p,vs,rfl,_⟩:=ra;exact k _ F H (Step.refl g) rfl aT
   |_=>cases ra;exact k _ F H (Step.refl g) rfl aT
 |_=>cases da<;>cases hd
end
end M
namespace L2
open PySem PySem.Spec PyProof.Rows
def jo(tp:Bool)(h:bM)(it l:aE)(i:Nat):Prop:=match tp with
 |true=>h.IsTupleIter it l i
 |false=>h.IsListIter it l i
def jL(tp:Bool)(h:bM)(l:aE)(xs:Array ak):Prop:=match tp with
 |true=>h.IsTuple l xs
 |false=>h.IsList l xs
def jo.keep{h':bM}(y:jo tp h it l i)(k:∀o,h.get? it=a_ o->h'.get? it=a_ o):jo tp h' it l i:=by
 cases tp<;>exact(let ⟨o,e,r⟩:=y;⟨o,k o e,r⟩)
def jL.keep{h':bM}(y:jL tp h l xs)(k:∀o,h.get? l=a_ o->h'.get? l=a_ o):jL tp h' l xs:=by
 cases tp<;>exact(let ⟨o,e,r⟩:=y;⟨o,k o e,r⟩)
def jo.obj(y:jo tp h it l i):∃o,h.get? it=a_ o/\o.cls=.type (if tp then "tuple_iterator" else "list_iterator")/\o.data=.fields #[.ref l,.int i 0]:=by
 cases tp<;>exact y
def jL.obj(y:jL tp h l xs):∃o,h.get? l=a_ o/\o.cls=.type (if tp then "tuple" else "list")/\∃n,o.data=.seq xs n:=by
 cases tp<;>exact y
section
open Builtin
variable{A:cm}{s:aw}
def JN(gi:s.heap.IsTupleIter it q i)(gq:s.heap.IsTuple q xs)(gx:xs[i]?=a_ v)
  (k:∀h',h'.IsTupleIter it q (i+1)->dP it s.heap h'->Q v { s with heap:=h' }):ax (aB prog w) A (dC (.ref it)) Q E s:=by
 obtain⟨ob,gb,gc,gd⟩:=id gi;obtain⟨oq,gq1,_,nq,gq2⟩:=gq;unfold dC;refine wb9 (dB (name:=aa "__next__") gi.typeIs fQ (bP fQ gi.typeIs qe ?_ (pH _)));show ax (aB prog w) _ (field (.ref it) 0 >>= _) _ _ s;refine wb9 (cO gb gd (x:=.ref q) rfl ?_);show ax (aB prog w) _ (if(bI q == di)=c_ then _ else _) _ _ s;rw[if_neg (show¬((bI q == di)=c_)from cJ)];show ax (aB prog w) _ (field (.ref it) 1 >>= _) _ _ s;refine wb9 (cO gb gd (x:=.int i 0) rfl ?_);show ax (aB prog w) _ (seqItems? (.ref q) >>= _) _ _ s;refine wb9 (dE gq1 gq2 ?_);simp only[cZ,gx];refine wb9 (mS gb gd (by simp) (wu9 ⟨v,rfl,wu9 (k _ ⟨_,dJ _ gb (o6 (jE gd _)),(LM ..).trans gc,?_⟩ (nA ..))⟩));rw[jE gd];simp[rawInt]
def N0(nh:A.handled=b_)(gi:s.heap.IsTupleIter it q i)(gq:s.heap.IsTuple q xs)(gx:xs[i]?=b_)
  (k:∀h' e,Heap.ExtBut it s.heap h'->(∃o,h'.get? e=a_ o/\o.cls=.type "StopIteration")->E (.ref e) { s with heap:=h' }):ax (aB prog w) A (dC (.ref it)) Q E s:=by
 obtain⟨ob,gb,gc,gd⟩:=id gi;obtain⟨oq,gq1,_,nq,gq2⟩:=gq;unfold dC;refine wb9 (dB (name:=aa "__next__") gi.typeIs fQ (bP fQ gi.typeIs qe ?_ (pH _)));show ax (aB prog w) _ (field (.ref it) 0 >>= _) _ _ s;refine wb9 (cO gb gd (x:=.ref q) rfl ?_);show ax (aB prog w) _ (if(bI q == di)=c_ then _ else _) _ _ s;rw[if_neg (show¬((bI q == di)=c_)from cJ)];show ax (aB prog w) _ (field (.ref it) 1 >>= _) _ _ s;refine wb9 (cO gb gd (x:=.int i 0) rfl ?_);show ax (aB prog w) _ (seqItems? (.ref q) >>= _) _ _ s;refine wb9 (dE gq1 gq2 ?_);simp only[cZ,gx];refine wb9 (jU (wb9 (mS gb gd (by simp) ?_)));show ax (aB prog w) _ (newExc (.type "StopIteration") [] >>= _) _ _ _;refine wb9 ?_;simp only[newExc,newTuple];refine wb9 (cH (wb9 (m:=firstArgMember _ _) (zu (a:=di) (by first|rfl|(simp only[firstArgMember];rfl)) (cH ?_ (by size_fits)))) (by size_fits));simp only[raiseNew];refine wb9 (wpAny_handled ?_)
 first|rw[show A.in1.handled=b_ from nh]|rw[nh]
 exact wb9 (wu9 (wpAny_throw (k _ _ (((nA ..).extBut.push _).push _) ⟨_,aK _ rfl,rfl⟩)))
def tX(gi:jo tp s.heap it q i)(gq:jL tp s.heap q xs)(gx:xs[i]?=a_ v)
  (k:∀h',jo tp h' it q (i+1)->dP it s.heap h'->Q v { s with heap:=h' }):ax (aB prog w) A (dC (.ref it)) Q E s:=by
 cases tp
 ·exact wpAny_nextOf_list_item gi gq gx k
 ·exact JN gi gq gx k
def yF(nh:A.handled=b_)(gi:jo tp s.heap it q i)(gq:jL tp s.heap q xs)(gx:xs[i]?=b_)
  (k:∀h' e,Heap.ExtBut it s.heap h'->(∃o,h'.get? e=a_ o/\o.cls=.type "StopIteration")->E (.ref e) { s with heap:=h' }):ax (aB prog w) A (dC (.ref it)) Q E s:=by
 cases tp
 ·exact wpAny_nextOf_list_end nh gi gq gx k
 ·exact N0 nh gi gq gx k
structure XD(z T U i j a b:aE):Prop where
 Tz:T≠z
 Uz:U≠z
 iz:i≠z
 jz:j≠z
 TU:T≠U
 Ti:T≠i
 Tj:T≠j
 Ui:U≠i
 Uj:U≠j
 ij:i≠j
 az:a≠z
 aU:a≠U
 ai:a≠i
 aj:a≠j
 bz:b≠z
 bU:b≠U
 bi:b≠i
 bj:b≠j
def Mi{tp tq:Bool}{z T U i j a b:aE}{m n:Nat}{xs ys:Array ak}{x y c d:ak}{Q:ak->aw->Prop}(P:XD z T U i j a b)(gz:nU s.heap z T U .none)(gT:ir s.heap T (.ref i) (.ref j))(gU:ir s.heap U c d)
  (gi:jo tp s.heap i a m)(gj:jo tq s.heap j b n)(ga:jL tp s.heap a xs)(gb:jL tq s.heap b ys)(gx:xs[m]?=a_ x)(gy:ys[n]?=a_ y)
  (k:∀h',nU h' z T U (rawInt s.heap.objs.size)->ir h' U x y->jo tp h' i a (m+1)->jo tq h' j b (n+1)->ir h' s.heap.objs.size x y->h'.objs.size=s.heap.objs.size+1->
   (∀e o,e≠z->e≠U->e≠i->e≠j->s.heap.get? e=a_ o->h'.get? e=a_ o)->Q (.ref s.heap.objs.size) { s with heap:=h' }) :
  ax (aB prog w) A (gX.«zip.__next__» ⟨[.ref z],[]⟩) (λf s'=>∃v,f=.done (.ret v)/\Q v s') E s:=by
 show ax (aB prog w) _ (field (.ref z) 2 >>= _) _ _ _;refine wb9 (cO gz rfl (x:=.bool d_) rfl ?_);show ax (aB prog w) _ (field (.ref z) 3 >>= _) _ _ _;refine wb9 (cO gz rfl (x:=.ref T) rfl (wb9 (dE gT rfl ?_)));show ax (aB prog w) _ (h9 (.ref z) >>= _) _ _ _;refine wb9 ?_;unfold h9;refine wb9 (cO gz rfl (x:=.none) rfl (wu9 ?_));simp only[if_true];refine wb9 (jU (wb9 (cO gz rfl (x:=.ref U) rfl (wb9 (bR gz (by simp) λh1 gz1 s1=>?_)))));replace gz1:nU h1 z T U .ellipsis:=gz1;refine wb9 ?_;simp only[LP,Me,nY,Qa];refine wb9 (wb9 (tM ?_));show ax (aB prog w) _ (dC (.ref i) >>= _) _ _ _;refine wb9 (tX (gi.keep λo e=>s1.extBut _ o P.iz e) (ga.keep λo e=>s1.extBut _ o P.az e) gx λh2 gi2 s2=>wu9 ?_);have gU2:ir h2 U c d:=s2.extBut _ _ P.Ui (s1.extBut _ _ P.Uz gU);refine wb9 (dE gU2 rfl (wb9 (rA gU2 λh3 gU3 s3=>wb9 (L8 (wu9 ?_)))));replace gU3:ir h3 U x d:=gU3;refine wb9 (wb9 (tM ?_));show ax (aB prog w) _ (dC (.ref j) >>= _) _ _ _;refine wb9 (tX (gj.keep λo e=>s3.extBut _ o P.Uj.symm (s2.extBut _ o P.ij.symm (s1.extBut _ o P.jz e))) (gb.keep λo e=>s3.extBut _ o P.bU (s2.extBut _ o P.bi (s1.extBut _ o P.bz e))) gy λh4 gj4 s4=>wu9 ?_);have gU4:ir h4 U x d:=s4.extBut _ _ P.Uj gU3;refine wb9 (dE gU4 rfl (wb9 (rA gU4 λh5 gU5 s5=>wb9 (L8 (wu9 (wu9 ?_))))));replace gU5:ir h5 U x y:=gU5;refine wb9 (dE gU5 rfl (wb9 (wpAny_newTuple ?_)));have sz:h5.objs.size=s.heap.objs.size:=by rw[s5.1,s4.1,s3.1,s2.1,s1.1]
 have gz5:nU h5 z T U .ellipsis:=s5.extBut _ _ P.Uz.symm (s4.extBut _ _ P.jz.symm (s3.extBut _ _ P.Uz.symm (s2.extBut _ _ P.iz.symm gz1)));have k5:∀e o,e≠z->e≠U->e≠i->e≠j->s.heap.get? e=a_ o->h5.get? e=a_ o:=λe o e1 e2 e3 e4 q=>s5.extBut _ _ e2 (s4.extBut _ _ e4 (s3.extBut _ _ e2 (s2.extBut _ _ e3 (s1.extBut _ _ e1 q))));have gi5:jo tp h5 i a (m+1):=gi2.keep λo e=>s5.extBut _ o P.Ui.symm (s4.extBut _ o P.ij (s3.extBut _ o P.Ui.symm e));have gj5:jo tq h5 j b (n+1):=gj4.keep λo e=>s5.extBut _ o P.Uj.symm e;have zlt:z<h5.objs.size:=hl9 gz5;show ax (aB prog w) _ (rm (.ref z) (.ref h5.objs.size) >>= _) _ _ _;refine wb9 ?_;unfold rm;have gz6:nU (h5.push { cls:=.type "tuple",data:=.seq #[x,y] }) z T U .ellipsis:=hp9 _ gz5;refine wb9 (bR gz6 (by simp) λh7 gz7 s7=>?_);replace gz7:nU h7 z T U (rawInt h5.objs.size):=gz7;refine bR gz7 (by simp) λh8 gz8 s8=>wu9 ⟨_,rfl,?_⟩;replace gz8:nU h8 z T U (rawInt h5.objs.size):=gz8;have up:∀e o,e≠z->h5.get? e=a_ o->h8.get? e=a_ o:=λe o e1 q=>s8.extBut _ _ e1 (s7.extBut _ _ e1 (hp9 _ q));have gN:ir h8 h5.objs.size x y:=s8.extBut _ _ (jW zlt) (s7.extBut _ _ (jW zlt) (aK _ rfl));have sz8:h8.objs.size=h5.objs.size+1:=by rw[s8.1,s7.1,dO]
 rw[sz]at gz8 gN sz8;show Q (.ref h5.objs.size) _;rw[sz];exact k h8 gz8 (up _ _ P.Uz gU5) (gi5.keep λo e=>up _ o P.iz e) (gj5.keep λo e=>up _ o P.jz e) gN sz8 λe o e1 e2 e3 e4 q=>up e o e1 (k5 e o e1 e2 e3 e4 q)
def QZ{T U:aE}(nh:A.handled=b_)(P:XD z T U i j a b)(gz:nU s.heap z T U .none)(gT:ir s.heap T (.ref i) (.ref j))(gU:ir s.heap U c d)
  (gi:jo tp s.heap i a m)(gj:jo tq s.heap j b n)(ga:jL tp s.heap a xs)(gb:jL tq s.heap b ys)(ge:xs[m]?=b_\/ys[n]?=b_)
  (k:∀h' e,(∀e o,e≠z->e≠U->e≠i->e≠j->s.heap.get? e=a_ o->h'.get? e=a_ o)->(∃o,h'.get? e=a_ o/\o.cls=.type "StopIteration")->E (.ref e) { s with heap:=h' }) :
  ax (aB prog w) A (gX.«zip.__next__» ⟨[.ref z],[]⟩) Q E s:=by
 show ax (aB prog w) _ (field (.ref z) 2 >>= _) _ _ _;refine wb9 (cO gz rfl (x:=.bool d_) rfl ?_);show ax (aB prog w) _ (field (.ref z) 3 >>= _) _ _ _;refine wb9 (cO gz rfl (x:=.ref T) rfl (wb9 (dE gT rfl ?_)));show ax (aB prog w) _ (h9 (.ref z) >>= _) _ _ _;refine wb9 ?_;unfold h9;refine wb9 (cO gz rfl (x:=.none) rfl (wu9 ?_));simp only[if_true];refine wb9 (jU (wb9 (cO gz rfl (x:=.ref U) rfl (wb9 (bR gz (by simp) λh1 gz1 s1=>?_)))));replace gz1:nU h1 z T U .ellipsis:=gz1;refine wb9 ?_;simp only[LP,Me,nY,Qa];refine wb9 (wb9 (tM ?_));show ax (aB prog w) _ (dC (.ref i) >>= _) _ _ _
 cases gx:xs[m]? with
 |none=>
   refine wb9 (yF nh (gi.keep λo e=>s1.extBut _ o P.iz e) (ga.keep λo e=>s1.extBut _ o P.az e) gx λh2 e s2 he=>?_);obtain⟨oe,he1,he2⟩:=he;have gz2:nU h2 z T U .ellipsis:=s2 _ _ P.iz.symm gz1;have ez:e≠z:=λq=>by subst q;rw[gz2]at he1;cases he1;simp at he2
   exact bR gz2 (by simp) λh3 _ s3=>k h3 e (λc o c1 _ c3 _ q=>s3.extBut _ _ c1 (s2 _ _ c3 (s1.extBut _ _ c1 q))) ⟨oe,s3.extBut _ _ ez he1,he2⟩
 |some x=>
   have gy:ys[n]?=b_:=by
    rcases ge with q|q
    ·rw[gx]at q;cases q
    ·exact q
   refine wb9 (tX (gi.keep λo e=>s1.extBut _ o P.iz e) (ga.keep λo e=>s1.extBut _ o P.az e) gx λh2 gi2 s2=>wu9 ?_);have gU2:ir h2 U c d:=s2.extBut _ _ P.Ui (s1.extBut _ _ P.Uz gU);refine wb9 (dE gU2 rfl (wb9 (rA gU2 λh3 gU3 s3=>wb9 (L8 (wu9 ?_)))));refine wb9 (wb9 (tM ?_));show ax (aB prog w) _ (dC (.ref j) >>= _) _ _ _;refine wb9 (yF nh (gj.keep λo e=>s3.extBut _ o P.Uj.symm (s2.extBut _ o P.ij.symm (s1.extBut _ o P.jz e))) (gb.keep λo e=>s3.extBut _ o P.bU (s2.extBut _ o P.bi (s1.extBut _ o P.bz e))) gy λh4 e s4 he=>?_);obtain⟨oe,he1,he2⟩:=he;have gz4:nU h4 z T U .ellipsis:=s4 _ _ P.jz.symm (s3.extBut _ _ P.Uz.symm (s2.extBut _ _ P.iz.symm gz1));have ez:e≠z:=λq=>by subst q;rw[gz4]at he1;cases he1;simp at he2
   exact bR gz4 (by simp) λh5 _ s5=>k h5 e (λc o c1 c2 c3 c4 q=>s5.extBut _ _ c1 (s4 _ _ c4 (s3.extBut _ _ c2 (s2.extBut _ _ c3 (s1.extBut _ _ c1 q))))) ⟨oe,s5.extBut _ _ ez he1,he2⟩
def Jn{T U:aE}(P:XD z T U i j a b)(gz:nU s.heap z T U .none)(gT:ir s.heap T (.ref i) (.ref j))(gU:ir s.heap U c d)
  (gi:jo tp s.heap i a m)(gj:jo tq s.heap j b n)(ga:jL tp s.heap a xs)(gb:jL tq s.heap b ys)(gx:xs[m]?=a_ x)(gy:ys[n]?=a_ y)
  (k:∀h',nU h' z T U (rawInt s.heap.objs.size)->ir h' U x y->jo tp h' i a (m+1)->jo tq h' j b (n+1)->ir h' s.heap.objs.size x y->h'.objs.size=s.heap.objs.size+1->
   (∀e o,e≠z->e≠U->e≠i->e≠j->s.heap.get? e=a_ o->h'.get? e=a_ o)->Q (a_ (.ref s.heap.objs.size)) { s with heap:=h' }):ax (aB prog w) A (pyNext (.ref z)) Q E s:=by
 have ty:s.TypeIs (.ref z) "zip":=⟨_,gz,rfl⟩
 unfold pyNext;exact wb9 (nV (dB (name:=aa "__next__") ty jP (bP jP ty xU (Mi P gz gT gU gi gj ga gb gx gy λh' a1 a2 a3 a4 a5 a6 a7=>wu9 (k h' a1 a2 a3 a4 a5 a6 a7)) (wo _))))
def Nu{T U:aE}(nh:A.handled=b_)(P:XD z T U i j a b)(gz:nU s.heap z T U .none)(gT:ir s.heap T (.ref i) (.ref j))(gU:ir s.heap U c d)
  (gi:jo tp s.heap i a m)(gj:jo tq s.heap j b n)(ga:jL tp s.heap a xs)(gb:jL tq s.heap b ys)(ge:xs[m]?=b_\/ys[n]?=b_)
  (k:∀h',(∀e o,e≠z->e≠U->e≠i->e≠j->s.heap.get? e=a_ o->h'.get? e=a_ o)->Q b_ { s with heap:=h' }):ax (aB prog w) A (pyNext (.ref z)) Q E s:=by
 have ty:s.TypeIs (.ref z) "zip":=⟨_,gz,rfl⟩
 unfold pyNext;refine wb9 (nV (dB (name:=aa "__next__") ty jP (bP jP ty xU (QZ nh P gz gT gU gi gj ga gb ge λh' e hk he=>?_) (wo _))));obtain⟨o,ho,hc⟩:=he;exact wb9 (iq (T:="StopIteration") (b:=c_) ⟨o,ho,hc⟩ isSubtype_stop (wu9 (k _ hk)))
end
noncomputable def Y6(tp:Bool):String:=if tp then "tuple_iterator" else "list_iterator"
def lA(tp:Bool)(l:aE):kX:={ cls:=.type (Y6 tp),data:=.fields #[.ref l,.int 0 0] }
def yN{h:bM}(e:h.get? it=a_ (lA tp l)):jo tp h it l 0:=by
 cases tp<;>exact⟨_,e,rfl,rfl⟩
section
variable{s:aw}
def mC(gl:jL tp s.heap l xs)(k:Q (.ref s.heap.objs.size) { s with heap:=s.heap.push (lA tp l) }):ax (aB prog w) A (HB (.ref l)) Q E s:=by
 cases tp
 ·exact kr gl k
 ·exact wpAny_pyIter_tuple gl k
end
abbrev XU(tp tq:Bool)(h:bM)(a b:aE):bM:=((h.push (lA tp a)).push (lA tq b)).push { cls:=.type "tuple",data:=.seq #[.ref h.objs.size,.ref (h.push (lA tp a)).objs.size] }
abbrev XT(tp tq:Bool)(h:bM)(a b:aE):bM:=(XU tp tq h a b).push { cls:=.type "tuple",data:=.seq #[.none,.none] }
abbrev Vj(tp tq:Bool)(h:bM)(a b:aE):bM:=(XT tp tq h a b).push { cls:=.type "zip",data:=.fields #[.none,.bool d_,.bool d_,.ref ((h.push (lA tp a)).push (lA tq b)).objs.size,.ref (XU tp tq h a b).objs.size] }
def QY(a b:aE)(xs ys:Array ak):Meets (gX.«zip.__new__» ⟨[.type "zip",.ref a,.ref b],[]⟩) (λ_ R s=>jL tp s.heap a xs/\jL tq s.heap b ys/\R (.ok (.ret (.ref (XT tp tq s.heap a b).objs.size))) { s with heap:=Vj tp tq s.heap a b }):=
 .of_wp λprog w A R s q=>by
  obtain⟨hp,g,d,tk,os⟩:=s;obtain⟨q1,q2,q⟩:=q;have sz:=PySem.sub_zip;have e1:jL tp (BD ⟨hp,g,d,tk,os⟩) a xs:=q1;have e2:jL tq (BD ⟨hp.push (lA tp a),g,d,tk,os⟩) b ys:=jL.keep q2 λo e=>hp9 _ e
  wp_walk using mC e1,mC e2
  exact⟨_,rfl,q⟩
section
variable{s:aw}
def Mj(ga:jL tp s.heap a xs)(gb:jL tq s.heap b ys)
  (k:∀h',nU h' (s.heap.objs.size+4) (s.heap.objs.size+2) (s.heap.objs.size+3) .none->ir h' (s.heap.objs.size+2) (.ref s.heap.objs.size) (.ref (s.heap.objs.size+1))->ir h' (s.heap.objs.size+3) .none .none->
   jo tp h' s.heap.objs.size a 0->jo tq h' (s.heap.objs.size+1) b 0->(∀c o,s.heap.get? c=a_ o->h'.get? c=a_ o)->Q (.ref (s.heap.objs.size+4)) { s with heap:=h' }):ax (aB prog w) A (call (.type "zip") [.ref a,.ref b]) Q E s:=by
 refine callType_new PySem.F.called_zip bG (PySem.F.typeCall_zip_2 _ _) (PySem.F.newCall_zip_2 _ _) (λob=>PySem.F.args_object_init_3 ob _ _) PySem.F.entry_zip_new (QY (tp:=tp) (tq:=tq) a b xs ys) ⟨ga,gb,?_⟩;have z1:(s.heap.push (lA tp a)).objs.size=s.heap.objs.size+1:=dO ..;have z2:((s.heap.push (lA tp a)).push (lA tq b)).objs.size=s.heap.objs.size+2:=by rw[dO,z1]
 have z3:(XU tp tq s.heap a b).objs.size=s.heap.objs.size+3:=by rw[dO,z2]
 have z4:(XT tp tq s.heap a b).objs.size=s.heap.objs.size+4:=by rw[dO,z3]
 have g5:(Vj tp tq s.heap a b).get? (XT tp tq s.heap a b).objs.size=a_ _:=aK _ rfl;have g4:(Vj tp tq s.heap a b).get? (XU tp tq s.heap a b).objs.size=a_ _:=hp9 _ (aK _ rfl);have g3:(Vj tp tq s.heap a b).get? ((s.heap.push (lA tp a)).push (lA tq b)).objs.size=a_ _:=hp9 _ (hp9 _ (aK _ rfl));have g2:(Vj tp tq s.heap a b).get? (s.heap.push (lA tp a)).objs.size=a_ (lA tq b):=hp9 _ (hp9 _ (hp9 _ (aK _ rfl)));have g1:(Vj tp tq s.heap a b).get? s.heap.objs.size=a_ (lA tp a):=hp9 _ (hp9 _ (hp9 _ (hp9 _ (aK _ rfl))));show _/\_;rw[z2,z3,z4]at g5;rw[z1,z2]at g3;rw[z3]at g4;rw[z1]at g2;rw[z4];exact⟨⟨_,g5,rfl⟩,k _ g5 g3 g4 (yN g1) (yN g2) λc o q=>hp9 _ (hp9 _ (hp9 _ (hp9 _ (hp9 _ q))))⟩
end
section
variable{h':bM}
def Inv.tS{t':Nat}{ch:List aE}(I:Inv X h_ σ H s)(k:∀b o,b∉ch->s.heap.get? b=a_ o->h'.get? b=a_ o)(hf:∀b∈ch,qc X h_ H b):Inv X h_ σ H { s with heap:=h',toks:=t' }:=by
 have nit:∀b u,H b=a_ u->b∉ch:=λb u e z=>by rw[(hf b z).1]at e;cases e
 refine I.step (g':=s.gens) (d':=s.drawn) (ch:=ch) (λb hb=>⟨(hf b hb).2.2.2.1,(hf b hb).2.1,(hf b hb).2.2.2.2.1,(hf b hb).2.2.2.2.2⟩) (λb o _ _ hc e _=>k b o hc e) (λb o _ _ hc e _=>⟨o.slots,k b o hc e⟩) (λ_ _ _ _ n=>n)
  (λb o hc e=>⟨o,k b o hc e⟩) (λ_ _ e=>e) (λ_ _ _ e=>e) (λb ps e=>⟨#[],by rw[e];simp⟩) (λm hm=>?_) (λb u e=>?_) I.bare
 ·obtain⟨o,es,ep,ho,r⟩:=hm;exact⟨o,es,ep,k _ o (λz=>(hf _ z).2.1 rfl) ho,r⟩
 ·refine(I.hok b u e).mr (λc v hc q=>k c v ?_ q) (λ_ q=>q) λ_ _ q=>q
  rcases hc with z|z
  ·rw[z];exact nit b u e
  ·exact nit c _ z
end
def qj(tp:Bool)(K:aA)(H:Hp)(a:aE)(xs:List V):Prop:=match tp with
 |true=>wa K H a xs
 |false=>pd K H a xs
def qj.inj(I:Inv X h_ σ H s)(h:qj tp X.K H a xs)(h':qj tp X.K H a ys):xs=ys:=by
 cases tp
 ·exact I.qO h h'
 ·exact I.oK h h'
def qj.at (I:Inv X h_ σ H s)(h:qj tp X.K H a xs):∃its:List ak,bW xs its/\jL tp s.heap a its.toArray:=by
 cases tp
 ·obtain⟨its,rv,p,_⟩:=I.list h;exact⟨its,rv,p.isList⟩
 ·obtain⟨its,rv,p,_⟩:=I.tuple h;exact⟨its,rv,p⟩
noncomputable def ZZ(tp tq:Bool)(K:aA)(a b:aE):It:=
 ⟨λi H=>∃xs ys x y,qj tp K H a xs/\qj tq K H b ys/\xs[i]?=a_ x/\ys[i]?=a_ y,
  λi H x H'=>∃T,H T=b_/\x=.ref T/\∃x1 y1,(∀xs,qj tp K H a xs->xs[i]?=a_ x1)/\(∀ys,qj tq K H b ys->ys[i]?=a_ y1)/\H'=upd H T (.tup [x1,y1]),
  λi H=>∃xs ys,qj tp K H a xs/\qj tq K H b ys/\(xs.length<=i\/ys.length<=i)⟩
def Ia{K:aA}(a b z TI TO i1 i2:aE)(D:XD z TI TO i1 i2 a b) :
  Turn P w K (.Tuple elts k pos) (ZZ tp tq K a b) [z,TI,TO,i1,i2] z (λi h=>nU h z TI TO .none/\ir h TI (.ref i1) (.ref i2)/\(∃u v,ir h TO u v)/\jo tp h i1 a i/\jo tq h i2 b i) where
 mem:=by simp
 obj:=λi h st c hc=>by
  obtain⟨hz,hTI,⟨u,v,hTO⟩,h1,h2⟩:=st;obtain⟨o1,e1,_,d1⟩:=h1.obj;obtain⟨o2,e2,_,d2⟩:=h2.obj;simp only[aq,aX,or_false]at hc
  rcases hc with rfl|rfl|rfl|rfl|rfl
  ·exact⟨_,hz,λv z=>nomatch z⟩
  ·exact⟨_,hTI,λv z=>nomatch z⟩
  ·exact⟨_,hTO,λv z=>nomatch z⟩
  ·exact⟨_,e1,λv z=>by rw[d1]at z;cases z⟩
  ·exact⟨_,e2,λv z=>by rw[d2]at z;cases z⟩
 keep:=λi h h' st k=>by
  obtain⟨hz,hTI,⟨u,v,hTO⟩,h1,h2⟩:=st;exact⟨k z (by simp) _ hz,k TI (by simp) _ hTI,⟨u,v,k TO (by simp) _ hTO⟩,h1.keep λo e=>k i1 (by simp) o e,h2.keep λo e=>k i2 (by simp) o e⟩
 item:=by
  intro X hP hw hK hc i h_ s σ H E I hf st hg;subst hP hw hK;obtain⟨xs,ys,x,y,ha,hb,hx,hy⟩:=hg;obtain⟨its,rv,p⟩:=qj.at I ha;obtain⟨j_,rv2,p2⟩:=qj.at I hb;obtain⟨u,hu,ru⟩:=rv.get hx;obtain⟨u2,hu2,ru2⟩:=rv2.get hy;obtain⟨hz,hTI,⟨w1,w2,hTO⟩,h1,h2⟩:=st;refine Jn D hz hTI hTO h1 h2 p p2 (x:=u) (y:=u2) (by simpa using hu) (by simpa using hu2) λh' g1 g2 g3 g4 g5 g6 hk=>?_;refine⟨_,rfl,wpAny_letOwnedTupleGo_zip g1 λh'' g1' hs''=>?_⟩
  have fc:∀c∈[z,TO,i1,i2],qc X h_ H c:=λc hc=>hf c (by
   simp only[aq,aX,or_false]at hc ⊢
   rcases hc with rfl|rfl|rfl|rfl<;>simp)
  have kk:∀c o,c∉[z,TO,i1,i2]->s.heap.get? c=a_ o->h''.get? c=a_ o:=λc o hc e=>by
   simp only[aq,aX,or_false,not_or]at hc;exact hs''.extBut c o hc.1 (hk c o hc.1 hc.2.1 hc.2.2.1 hc.2.2.2 e)
  have I1:Inv X h_ σ H { s with heap:=h'' }:=I.tS (t':=s.toks) kk fc;have nz:s.heap.objs.size≠z:=jW (hl9 hz);have hT:h''.get? s.heap.objs.size=a_ { cls:=.type "tuple",data:=.seq #[u,u2] }:=hs''.extBut _ _ nz g5;have hfr:H s.heap.objs.size=b_:=I.hok.fresh (aI _)
  have I2:Inv X h_ σ (upd H s.heap.objs.size (.tup [x,y])) { s with heap:=h'' }:=by
   refine I1.Im (I.Bb (aI _) hfr) I.sz ⟨by rw[bu];show 2<=16777216;decide,[u,u2],.cons ru (.cons ru2 .nil),?_⟩;exact⟨_,hT,rfl,_,rfl⟩
  refine⟨.ref s.heap.objs.size,_,I2,rfl,⟨_,hfr,rfl,x,y,λxs' h1=>by rw[qj.inj I h1 ha];exact hx,λys' h1=>by rw[qj.inj I h1 hb];exact hy,rfl⟩,⟨g1',?_,⟨u,u2,hs''.extBut _ _ D.Uz g2⟩,g3.keep λo e=>hs''.extBut _ o D.iz e,g4.keep λo e=>hs''.extBut _ o D.jz e⟩,λc hc=>?_⟩
  ·exact hs''.extBut _ _ D.Tz (hk _ _ D.Tz D.TU D.Ti D.Tj hTI)
  ·rw[bq ?_]
   ·exact(hf c hc).1
   ·have:c<s.heap.objs.size:=by
     simp only[aq,aX,or_false]at hc
     rcases hc with rfl|rfl|rfl|rfl|rfl
     ·exact hl9 hz
     ·exact hl9 hTI
     ·exact hl9 hTO
     ·obtain⟨_,e,_⟩:=h1.obj;exact hl9 e
     ·obtain⟨_,e,_⟩:=h2.obj;exact hl9 e
    exact bc this
 done:=by
  intro X hP hw hK hc i h_ s σ H E I hf st hg;subst hP hw hK;obtain⟨xs,ys,ha,hb,hx⟩:=hg;obtain⟨its,rv,p⟩:=qj.at I ha;obtain⟨j_,rv2,p2⟩:=qj.at I hb;obtain⟨hz,hTI,⟨w1,w2,hTO⟩,h1,h2⟩:=st;have l1:=rv.length;have l2:=rv2.length;refine Nu (I.ok.hd hc) D hz hTI hTO h1 h2 p p2 ?_ λh' hk=>⟨rfl,I.tS (t':=s.toks) (ch:=[z,TO,i1,i2]) (λc o hc e=>?_) λc hc=>hf c ?_⟩
  ·rcases hx with hx|hx
   ·exact .inl (by simp;exact ae (aM l1.symm) hx)
   ·exact .inr (by simp;exact ae (aM l2.symm) hx)
  ·simp only[aq,aX,or_false,not_or]at hc;exact hk c o hc.1 hc.2.1 hc.2.2.1 hc.2.2.2 e
  ·simp only[aq,aX,or_false]at hc ⊢
   rcases hc with rfl|rfl|rfl|rfl<;>simp
 self:=λ_ _ _ _ _ st h=>wpAny_pyIter_zip st.1 h
def K6{A:cm}(hh:A.handled=b_)(it l:aE)(hne:l≠it)(items:Array ak) :
  Draws prog w A it [it,l] items.size (λi v=>items[i]?=a_ v) (λi h=>jo tp h it l i/\jL tp h l items) where
 live:=λ_ _ st=>let ⟨o,ho,_⟩:=st.1.obj;⟨o,ho⟩
 frame:=λ_ _ _ st hk=>⟨st.1.keep λo e=>hk it (by simp) o e,st.2.keep λo e=>hk l (by simp) o e⟩
 item:=λi s Q E hi st hQ=>by
  refine tX st.1 st.2 (v:=items[i]) (by simp[hi]) λh' hit' hs'=>?_;exact hQ _ h' s.toks (by simp[hi]) ⟨hit',st.2.keep λo e=>hs'.extBut _ o hne e⟩ hs'
 done:=λs Q E st hE=>yF hh st.1 st.2 (by simp) hE
set_option tactic.hygienic true in
def UA(l:aE)(items:Array ak) :
  Meets (gX.«enumerate.__new__» ⟨[.type "enumerate",.ref l],[]⟩) (λ_ R s=>jL tp s.heap l items/\
   R (.ok (.ret (.ref (s.heap.push (lA tp l)).objs.size))) { s with heap:=(s.heap.push (lA tp l)).push { cls:=.type "enumerate",data:=.fields #[.none,.bool d_,.ref s.heap.objs.size,rawInt 0,.none,.none] } }):=
 .of_wp λprog w A R s h=>by
  obtain⟨hp,g,d,tk,os⟩:=s;obtain⟨hl,h⟩:=h;have hsub:=sub_enumerate;have hL:jL tp (BD ⟨hp,g,d,tk,os⟩) l items:=hl
  wp_walk
  refine wpAny_stack_any λst=>wu9 ?_;split
  ·rename_i c _ _ _ _ _;cases(c == j7 "enumerate")
   ·wp_walk using mC hL
    exact⟨_,rfl,h⟩
   ·wp_walk using mC hL
    exact⟨_,rfl,h⟩
  ·wp_walk using mC hL
   exact⟨_,rfl,h⟩
section
variable{s:aw}
def OZ(hL:jL tp s.heap l items)
  (k:∀h',IsEnum h' (s.heap.objs.size+1) s.heap.objs.size 0 .none->jo tp h' s.heap.objs.size l 0->(∀b o,s.heap.get? b=a_ o->h'.get? b=a_ o)->Q (.ref (s.heap.objs.size+1)) { s with heap:=h' }) :
  ax (aB prog w) A (call (.type "enumerate") [.ref l]) Q E s:=by
 refine callType_new PySem.F.called_enumerate bG (PySem.F.typeCall_enumerate_1 _) (PySem.F.newCall_enumerate_1 _) (λobj=>PySem.F.args_object_init_2 obj _) PySem.F.entry_enumerate_new (UA (tp:=tp) l items) ⟨hL,?_⟩;have z1:(s.heap.push (lA tp l)).objs.size=s.heap.objs.size+1:=dO ..;have g1:((s.heap.push (lA tp l)).push { cls:=.type "enumerate",data:=.fields #[.none,.bool d_,.ref s.heap.objs.size,rawInt 0,.none,.none] }).get? (s.heap.push (lA tp l)).objs.size=a_ _:=aK _ rfl;have g2:((s.heap.push (lA tp l)).push { cls:=.type "enumerate",data:=.fields #[.none,.bool d_,.ref s.heap.objs.size,rawInt 0,.none,.none] }).get? s.heap.objs.size=a_ (lA tp l):=hp9 _ (aK _ rfl);show _/\_;rw[z1]at g1;rw[z1];exact⟨⟨_,g1,rfl⟩,k _ g1 (yN g2) λb o x=>hp9 _ (hp9 _ x)⟩
end
def Z2(tp:Bool)(K:aA)(a:aE):It:=
 ⟨λi H=>∃xs x,qj tp K H a xs/\xs[i]?=a_ x,
  λi H x H'=>∃T,H T=b_/\x=.ref T/\∃x1,(∀xs,qj tp K H a xs->xs[i]?=a_ x1)/\H'=upd H T (.tup [.int i,x1]),
  λi H=>∃xs,qj tp K H a xs/\xs.length<=i⟩
def GV{A:cm}(hh:A.handled=b_)(it l:aE)(items:Array ak)(i:Nat)(hi:items.size<=i) :
  Draws prog w A it [it,l] i (λ_ _=>True) (λj h=>j=i/\jo tp h it l i/\jL tp h l items) where
 live:=λ_ _ st=>let ⟨o,ho,_⟩:=st.2.1.obj;⟨o,ho⟩
 frame:=λ_ _ _ st hk=>⟨st.1,st.2.1.keep λo e=>hk it (by simp) o e,st.2.2.keep λo e=>hk l (by simp) o e⟩
 item:=λj s Q E hj st hQ=>absurd st.1 (bc hj)
 done:=λs Q E st hE=>yF hh st.2.1 st.2.2 (by simp[hi]) hE
def Ic{K:aA}(a e it:aE)(hei:e≠it)(hae:a≠e)(hai:a≠it) :
  Turn P w K (.Tuple elts k pos) (Z2 tp K a) [e,it] e (λi h=>(∃old,IsEnum h e it i old)/\jo tp h it a i) where
 mem:=by simp
 obj:=λi h st c hc=>by
  obtain⟨⟨old,he⟩,h1⟩:=st;obtain⟨o1,e1,_,d1⟩:=h1.obj;simp only[aq,aX,or_false]at hc
  rcases hc with rfl|rfl
  ·exact⟨_,he,λv z=>nomatch z⟩
  ·exact⟨_,e1,λv z=>by rw[d1]at z;cases z⟩
 keep:=λi h h' st k=>by
  obtain⟨⟨old,he⟩,h1⟩:=st;exact⟨⟨old,k e (by simp) _ he⟩,h1.keep λo q=>k it (by simp) o q⟩
 item:=by
  intro X hP hw hK hc i h_ s σ H E I hf st hg;subst hP hw hK;obtain⟨xs,x,ha,hx⟩:=hg;obtain⟨its,rv,p⟩:=qj.at I ha;obtain⟨u,hu,ru⟩:=rv.get hx;obtain⟨⟨old,he⟩,h1⟩:=st
  have hil:i<its.toArray.size:=by
   rw[aJ];exact(bx.mp hu).1
  refine wpAny_pyNext_enum_itemD (K6 (tp:=tp) (A:=X.A.in1) (I.ok.hd hc) it a hai its.toArray) he ⟨h1,p⟩ hil hei (by simp[hei,fJ hae]) λv h' tk hv g1 g2 g3 g4 hk=>?_
  have hv':v=u:=by
   have:its.toArray[i]?=a_ u:=by simpa using hu
   exact aO (hv.symm.trans this)
  subst hv';refine⟨_,rfl,wpAny_letOwnedTupleGo_enum g1 λh'' g1' hs''=>?_⟩;have fc:∀c∈[e,it],qc X h_ H c:=hf
  have kk:∀c o,c∉[e,it]->s.heap.get? c=a_ o->h''.get? c=a_ o:=λc o hc q=>by
   simp only[aq,aX,or_false,not_or]at hc;exact hs''.extBut c o hc.1 (hk c o hc.1 hc.2 q)
  have I1:Inv X h_ σ H { s with heap:=h'',toks:=tk+1 }:=I.tS (t':=tk+1) kk fc;have nz:s.heap.objs.size≠e:=jW (hl9 he);have hT:h''.get? s.heap.objs.size=a_ { cls:=.type "tuple",data:=.seq #[.int i tk,v] }:=hs''.extBut _ _ nz g3;have hfr:H s.heap.objs.size=b_:=I.hok.fresh (aI _)
  have I2:Inv X h_ σ (upd H s.heap.objs.size (.tup [.int i,x])) { s with heap:=h'',toks:=tk+1 }:=by
   refine I1.Im (I.Bb (aI _) hfr) I.sz ⟨by rw[bu];show 2<=16777216;decide,[.int i tk,v],.cons ⟨_,rfl⟩ (.cons ru .nil),?_⟩;exact⟨_,hT,rfl,_,rfl⟩
  refine⟨.ref s.heap.objs.size,_,I2,rfl,⟨_,hfr,rfl,x,λxs' h1=>by rw[qj.inj I h1 ha];exact hx,rfl⟩,⟨⟨_,by simpa using g1'⟩,g2.1.keep λo q=>hs''.extBut _ o hei.symm q⟩,λc hc=>?_⟩;rw[bq ?_]
  ·exact(hf c hc).1
  ·have:c<s.heap.objs.size:=by
    simp only[aq,aX,or_false]at hc
    rcases hc with rfl|rfl
    ·exact hl9 he
    ·obtain⟨_,q,_⟩:=h1.obj;exact hl9 q
   exact bc this
 done:=by
  intro X hP hw hK hc i h_ s σ H E I hf st hg;subst hP hw hK;obtain⟨xs,ha,hx⟩:=hg;obtain⟨its,rv,p⟩:=qj.at I ha;obtain⟨⟨old,he⟩,h1⟩:=st;have l1:=rv.length;refine wpAny_pyNext_enum_endD (GV (tp:=tp) (A:=X.A.in1) (I.ok.hd hc) it a its.toArray i (by simp;exact ae (aM l1.symm) hx)) he ⟨rfl,h1,p⟩ λh' hk=>⟨rfl,I.tS (t':=s.toks) (ch:=[it]) (λc o hc q=>?_) λc hc=>hf c ?_⟩
  ·exact hk c o (by simpa using hc) q
  ·simp only[aq,aX,or_false]at hc ⊢;exact .inr hc
 self:=λ_ _ _ _ _ st h=>let ⟨⟨_,he⟩,_⟩:=st;wpAny_pyIter_enum he h
end L2
namespace M
open PySem PySem.Spec PyProof.Rows L2
section
variable{X:Cx}{a b:aV}{xa:Ex}{xs:List Ex}{σ:St}{F H:Hp}{iter:aV}
def Za(tp tq:Bool)(K:Fg)(ta:TA):TI:=λσ H R=>ta σ H λvs H1=>∃a b,vs=[.ref a,.ref b]/\(∃xs,qj tp K H1 a xs)/\(∃ys,qj tq K H1 b ys)/\R (ZZ tp tq K a b) H1
def Sb(hg:Gl X "zip")(hm:X.mg "zip"=b_)(ha:PA X [a,b] ta)(hs:aG [a,b] X.env=[(d_,eval a X.env),(d_,eval b X.env)])(hs2:aG [b] X.env=[(d_,eval b X.env)]) :
  PI X (.Tuple elts k tpos) (.Call (.Name "zip" p) [a,b] [] pos) (Za tp tq X.K ta):=by
 intro h_ s σ H R I h;refine Call_ (m8 I hg hm (by decide +kernel:bootBuiltins "zip"=a_ (.type "zip")) (dM (hZ (ha pos h_ s σ H _ I h) λus s1 ⟨vs,H1,I1,r1,q1⟩=>?_) (by rw[hs,hs2]) (by rw[hs2];rfl)));obtain⟨l1,l2,e,⟨xs,hx⟩,⟨ys,hy⟩,q⟩:=q1;subst e
 cases r1 with
 |cons r rr=>
   cases rr with
   |cons r' rr=>
     cases rr;cases r;cases r';obtain⟨its,rv,pl⟩:=qj.at I1 hx;obtain⟨j_,rv2,pl2⟩:=qj.at I1 hy;refine Mj pl pl2 λh' g1 g2 g3 g4 g5 kk=>?_;have I2:Inv X h_ σ H1 { s1 with heap:=h' }:=I1.kept (t':=s1.toks) kk;have n1:@LT.lt Nat _ l1 s1.heap.objs.size:=by obtain⟨_,e,_⟩:=pl.obj;exact hl9 e
     have n2:@LT.lt Nat _ l2 s1.heap.objs.size:=by obtain⟨_,e,_⟩:=pl2.obj;exact hl9 e
     refine wpAny_pyIter_zip g1 ⟨_,[s1.heap.objs.size+4,s1.heap.objs.size+2,s1.heap.objs.size+3,s1.heap.objs.size,s1.heap.objs.size+1],_,_,H1,rfl,I2,
      Ia l1 l2 _ _ _ _ _ ⟨?_,?_,?_,?_,?_,?_,?_,?_,?_,?_,?_,?_,?_,?_,?_,?_,?_,?_⟩,⟨g1,g2,⟨_,_,g3⟩,g4,g5⟩,λc hc=>?_,q⟩
     all_goals try (show@Ne Nat _ _;omega)
     have hle:s1.heap.objs.size<=c:=by
      simp only[aq,aX,or_false]at hc
      rcases hc with rfl|rfl|rfl|rfl|rfl<;>first|exact bO _ _|exact aI _
     exact I1.Bb hle (I1.hok.fresh hle)
theorem zL:∀(xs ys:List Dat) (i:Nat),(kR xs ys)[i]?=match xs[i]?,ys[i]? with
  |some x,a_ y=>a_ (.tup [x,y])
  |_,_=>b_
 |[],_,_=>by simp[kR]
 |_::_,[],i=>by
   have:∀o:Option Dat,(match o,(b_:Option Dat)with|some x,a_ y=>a_ (Dat.tup [x,y])|_,_=>b_)=b_:=λo=>by cases o<;>rfl
   simp[kR,this]
 |x::xs,y::ys,0=>by simp[kR]
 |x::xs,y::ys,i+1=>by simp only[kR,cA];exact zL xs ys i
theorem uB:∀(xs ys:List Dat),(kR xs ys).length=min xs.length ys.length
 |[],_=>by simp[kR]
 |_::_,[]=>by simp[kR]
 |x::xs,y::ys=>by simp only[kR,aS,uB xs ys];simp
def Vy(tp:Bool)(K:Fg)(F:Hp)(a:aE)(vs:List V):Prop:=match tp with
 |true=>Tq K F a vs
 |false=>pd K F a vs
def Vy.up{tp:Bool}{K:Fg}{F F' H:Hp}{a:aE}{vs:List V}(h:Vy tp K F a vs)(s:bN F F')(g:Good F' H):qj tp K H a vs:=by
 cases tp
 ·exact g.sub.seq (s.seq h)
 ·exact((Tq.mono s h).mono g.sub).sq
def Kd{tp tq:Bool}{K:Fg}{F1:Hp}{a b:aE}{vs us:List V}{ds es:List Dat}(h:Vy tp K F1 a vs)(h':Vy tq K F1 b us)(r:cj K F1 ds vs)(r':cj K F1 es us):lF K F1 (ZZ tp tq K a b) (kR ds es):=λF H g s=>by
 have hq:=h.up s g;have hq':=h'.up s g;refine⟨λi d hd=>?_,λi hi=>⟨vs,us,hq,hq',?_⟩⟩
 ·rw[zL]at hd
  cases e1:ds[i]? with
  |none=>rw[e1]at hd;cases hd
  |some d1=>
    cases e2:es[i]? with
    |none=>rw[e1,e2]at hd;cases hd
    |some d2=>
      rw[e1,e2]at hd;cases hd;obtain⟨v1,f1,p1⟩:=r.get e1;obtain⟨v2,f2,p2⟩:=r'.get e2;refine⟨⟨vs,us,v1,v2,hq,hq',f1,f2⟩,λx H' y=>?_⟩;obtain⟨T,hT,rfl,x1,y1,q1,q2,rfl⟩:=y;have q3:=aO (f1.symm.trans (q1 vs hq));have q4:=aO (f2.symm.trans (q2 us hq'));subst q3 q4;refine⟨_,Step.alloc g hT,⟨T,_,rfl,.inl bh,?_⟩⟩;have sm:bN F1 (upd F T (.tup [v1,v2])):=s.trans (bN.upd (g.sub.free hT));exact⟨v1,[v2],rfl,p1.mono sm,v2,[],rfl,p2.mono sm,rfl⟩
 ·rw[uB]at hi;rw[r.length,r'.length];omega
noncomputable def D4:Dat->Option (Bool×List Dat)
 |.lst xs=>a_ (d_,xs)
 |.tup xs=>a_ (c_,xs)
 |_=>b_
def rL{K:Fg}{F:Hp}{d:Dat}{tp:Bool}{xs:List Dat}{v:V}(h:D4 d=a_ (tp,xs))(r:Rep K F d v):∃p vs,v=.ref p/\Vy tp K F p vs/\cj K F xs vs:=by
 cases d with
 |lst ds=>cases h;exact r
 |tup ds=>cases h;exact r
 |_=>cases h
def QX(h:HU ds=a_ items) :
  ∃x y tp tq xs ys,ds=[x,y]/\D4 x=a_ (tp,xs)/\D4 y=a_ (tq,ys)/\items=kR xs ys:=by
 unfold HU at h;split at h
 ·cases h;exact⟨_,_,_,_,_,_,rfl,rfl,rfl,rfl⟩
 ·cases h;exact⟨_,_,_,_,_,_,rfl,rfl,rfl,rfl⟩
 ·cases h;exact⟨_,_,_,_,_,_,rfl,rfl,rfl,rfl⟩
 ·cases h;exact⟨_,_,_,_,_,_,rfl,rfl,rfl,rfl⟩
 ·cases h
def Rq(hg:Gl X "zip")(hm:X.mg "zip"=b_)(ha:SA X C [a,b] [xa,xb])(hs:aG [a,b] X.env=[(d_,eval a X.env),(d_,eval b X.env)])(hs2:aG [b] X.env=[(d_,eval b X.env)]) :
  SI X C (.Tuple elts k tp) (.Call (.Name "zip" p) [a,b] [] pos) (.zip [xa,xb]):=λh_ s σ H R I z6=>by
 obtain⟨ρ,items,F,hi,g,RS,kk⟩:=z6;obtain⟨ds,h1,h2⟩:=bS hi;obtain⟨x,y,t1,t2,xs,ys,rfl,hx,hy,rfl⟩:=QX h2;refine Sb (tp:=t1) (tq:=t2) hg hm ha hs hs2 h_ s σ H R I ⟨ρ,[x,y],h1,F,g,RS,λvs F1 H1 st r=>?_⟩;obtain⟨v,w,rfl,r1,v',w',rfl,r2,e3⟩:=r;cases e3;obtain⟨p1,vs1,rfl,q1,r1'⟩:=rL hx r1;obtain⟨p2,vs2,rfl,q2,r2'⟩:=rL hy r2;exact⟨p1,p2,rfl,⟨vs1,q1.up (bN.refl _) st.good⟩,⟨vs2,q2.up (bN.refl _) st.good⟩,kk _ F1 H1 st (Kd q1 q2 r1' r2')⟩
def Zd(tp:Bool)(K:Fg)(ta:TA):TI:=λσ H R=>ta σ H λvs H1=>∃a,vs=[.ref a]/\(∃xs,qj tp K H1 a xs)/\R (Z2 tp K a) H1
def Sd(hg:Gl X "enumerate")(hm:X.mg "enumerate"=b_)(ha:PA X [a] ta)(hs:aG [a] X.env=[(d_,eval a X.env)]) :
  PI X (.Tuple elts k tpos) (.Call (.Name "enumerate" p) [a] [] pos) (Zd tp X.K ta):=by
 intro h_ s σ H R I h;refine Call_ (m8 I hg hm (by decide +kernel:bootBuiltins "enumerate"=a_ (.type "enumerate")) (dM (hZ (ha pos h_ s σ H _ I h) λus s1 ⟨vs,H1,I1,r1,q1⟩=>?_) (by rw[hs];rfl) (by rfl)));obtain⟨l1,e,⟨xs,hx⟩,q⟩:=q1;subst e;obtain⟨u,rfl,ru⟩:=vals1 r1;cases ru;obtain⟨its,rv,pl⟩:=qj.at I1 hx;refine OZ pl λh' g1 g2 kk=>?_;have I2:Inv X h_ σ H1 { s1 with heap:=h' }:=I1.kept (t':=s1.toks) kk;have n1:@LT.lt Nat _ l1 s1.heap.objs.size:=by obtain⟨_,e,_⟩:=pl.obj;exact hl9 e
 refine wpAny_pyIter_enum g1 ⟨_,[s1.heap.objs.size+1,s1.heap.objs.size],_,_,H1,rfl,I2,Ic (tp:=tp) l1 _ _ ?_ ?_ ?_,⟨⟨_,g1⟩,g2⟩,λc hc=>?_,q⟩
 all_goals try (show@Ne Nat _ _;omega)
 have hle:s1.heap.objs.size<=c:=by
  simp only[aq,aX,or_false]at hc
  rcases hc with rfl|rfl<;>first|exact bO _ _|exact aI _
 exact I1.Bb hle (I1.hok.fresh hle)
theorem Bh:∀(xs:List Dat)(k i:Nat),(l6 k xs)[i]?=(xs[i]?).map λx=>.tup [.int (k+i:Nat),x]
 |[],_,_=>by simp[l6]
 |x::xs,k,0=>by simp[l6]
 |x::xs,k,i+1=>by
   simp only[l6,cA];rw[Bh xs (k+1) i]
   congr 2
   funext y;rw[show k+1+i=k+(i+1)from(Nat.add_right_comm _ _ _)]
theorem Bg:∀(xs:List Dat)(k:Nat),(l6 k xs).length=xs.length
 |[],_=>rfl
 |x::xs,k=>by simp only[l6,aS,Bg xs (k+1)]
def Ke{tp:Bool}{K:Fg}{F1:Hp}{a:aE}{vs:List V}{ds:List Dat}(h:Vy tp K F1 a vs)(r:cj K F1 ds vs):lF K F1 (Z2 tp K a) (l6 0 ds):=λF H g s=>by
 have hq:=h.up s g;refine⟨λi d hd=>?_,λi hi=>⟨vs,hq,?_⟩⟩
 ·rw[Bh]at hd
  cases e1:ds[i]? with
  |none=>rw[e1]at hd;cases hd
  |some d1=>
    rw[e1]at hd;cases hd;obtain⟨v1,f1,p1⟩:=r.get e1;refine⟨⟨vs,v1,hq,f1⟩,λx H' y=>?_⟩;obtain⟨T,hT,rfl,x1,q1,rfl⟩:=y;have q3:=aO (f1.symm.trans (q1 vs hq));subst q3;refine⟨_,Step.alloc g hT,⟨T,_,rfl,.inl bh,?_⟩⟩;have sm:bN F1 (upd F T (.tup [.int i,v1])):=s.trans (bN.upd (g.sub.free hT));exact⟨.int i,[v1],rfl,by rw[jV];exact rfl,v1,[],rfl,p1.mono sm,rfl⟩
 ·rw[Bg]at hi;rw[r.length];exact hi
def MZ{d:Dat}{xs:List Dat}(h:V1 d=a_ xs):∃tp,D4 d=a_ (tp,xs):=by
 cases d with
 |lst ds=>cases h;exact⟨_,rfl⟩
 |tup ds=>cases h;exact⟨_,rfl⟩
 |_=>cases h
def Rt(hg:Gl X "enumerate")(hm:X.mg "enumerate"=b_)(ha:SA X C [a] [xa])(hs:aG [a] X.env=[(d_,eval a X.env)]) :
  SI X C (.Tuple elts k tp) (.Call (.Name "enumerate" p) [a] [] pos) (.enu xa):=λh_ s σ H R I z6=>by
 obtain⟨ρ,items,F,hi,g,RS,kk⟩:=z6;obtain⟨⟨d,fr⟩,h1,h2⟩:=bS hi;obtain⟨xs,h3,h4⟩:=er h2;subst h4;obtain⟨t1,hx⟩:=MZ h3;refine Sd (tp:=t1) hg hm ha hs h_ s σ H R I ⟨ρ,[d],by simp only[iB,h1,au,aH],F,g,RS,λvs F1 H1 st r=>?_⟩;obtain⟨v,w,rfl,r1,e3⟩:=r;cases e3;obtain⟨p1,vs1,rfl,q1,r1'⟩:=rL hx r1;exact⟨p1,rfl,⟨vs1,q1.up (bN.refl _) st.good⟩,kk _ F1 H1 st (Ke q1 r1')⟩
def pR{f:List Dat->g_}{K:Fg}{xs:List V}{H:Hp}{Q:VK}(hf:∀ds d fr,f ds=a_ (d,fr)->ds.length=1)(h:gL K f xs H Q) :
  ∃da d fr F v,f [da]=a_ (d,fr)/\xs=[v]/\Good F H/\Rep K F da v/\∀w F' H',Step F H F' H'->Rep K F' d w->(fr=c_->gn K H H' d w)->Q w H':=by
 obtain⟨ds,d,fr,h1,F,g,r,k⟩:=h
 match ds,hf ds d fr h1 with
 |[da],_=>
   obtain⟨v,w,rfl,rv,rw'⟩:=r;cases rw';exact⟨da,d,fr,F,v,h1,rfl,g,rv,k⟩
def U1:∀{ds:List Dat}{r:Dat×Bool},b1 f ds=a_ r->ds.length=1
 |[_],_,_=>rfl
 |[],_,h=>by cases h
 |_::_::_,_,h=>by cases h
def lD{b:XS}:∀ds d fr,dG b ds=a_ (d,fr)->ds.length=1:=λds d fr h=>by
 cases b<;>first|exact U1 h|cases h
set_option tactic.hygienic true
def G7:ju X (.builtin "len") (gL X.K (dG .len)):=λh_ s σ H xs us Q I r h=>by
 obtain⟨da,d,fr,F,v,h1,rfl,g,rv,k⟩:=pR lD h
 cases da with
 |lst ds=>
   cases h1;obtain⟨p,vs,rfl,t,r'⟩:=rv;refine rj h_ s σ H _ us Q I r ⟨p,vs,rfl,.inl (g.sub.seq t),?_⟩;rw[r'.length];exact k _ F H (Step.refl g) rfl aT
 |tup ds=>
   cases h1;obtain⟨p,vs,rfl,t,r'⟩:=rv;refine rj h_ s σ H _ us Q I r ⟨p,vs,rfl,.inr (t.mono g.sub).sq,?_⟩;rw[r'.length];exact k _ F H (Step.refl g) rfl aT
 |str z=>
   simp only[dG,b1,sG,mO,sE,sC,bL,Hf,sH,sD]at h1;split at h1
   ·rename_i hz;cases h1;cases rv;exact zj h_ s σ H _ us Q I r ⟨z,rfl,hz,k _ F H (Step.refl g) rfl aT⟩
   ·cases h1
 |dct ks ds=>
   cases h1;obtain⟨p,k_,rfl,hF,rfl,rr⟩:=rv;obtain⟨u,rfl,ru⟩:=vals1 r;cases ru;refine Xl I (.inl (g.sub _ _ hF)) λt s' I'=>⟨.int _,H,I',⟨t,rfl⟩,?_⟩
   have e1:k_.length=(k_.map (·.1)).length:=(ag ..).symm;rw[e1];exact k _ F H (Step.refl g) rfl aT
 |_=>cases h1
def G9:ju X (.type "int") (gL X.K (dG .int)):=λh_ s σ H xs us Q I r h=>by
 obtain⟨da,d,fr,F,v,h1,rfl,g,rv,k⟩:=pR lD h
 cases da with
 |int i=>
   cases h1;cases rv;exact Ha h_ s σ H _ us Q I r (.inl ⟨i,rfl,k _ F H (Step.refl g) rfl aT⟩)
 |bl b=>
   cases h1;cases rv;obtain⟨u,rfl,ru⟩:=vals1 r;cases ru;exact call_int_bool ⟨.int _,H,I.tok _,⟨_,rfl⟩,k _ F H (Step.refl g) rfl aT⟩
 |str x=>
   simp only[dG,b1,sG,mO,sE,sC,bL,Hf,sH,sD]at h1;split at h1
   ·rename_i hl;obtain⟨i,h2,h1⟩:=er h1;cases h1;cases rv;obtain⟨u,rfl,t,rfl⟩:=vals1 r;exact PySem.W.KIN.call_text h2 hl ⟨.int i,H,I.tok _,⟨_,rfl⟩,k _ F H (Step.refl g) rfl aT⟩
   ·cases h1
 |_=>cases h1
def G6:ju X (.type "str") (gL X.K (dG .str)):=λh_ s σ H xs us Q I r h=>by
 obtain⟨da,d,fr,F,v,h1,rfl,g,rv,k⟩:=pR lD h
 cases da with
 |int i=>
   simp only[dG,b1,sG,mO,sE,sC,bL,Hf,sH,sD]at h1;split at h1
   ·rename_i hl;cases h1;cases rv;exact zi h_ s σ H _ us Q I r ⟨i,rfl,hl,k _ F H (Step.refl g) rfl aT⟩
   ·cases h1
 |_=>cases h1
set_option tactic.hygienic false
def Dt:ju X (.type "list") (gL X.K (dG .list)):=λh_ s σ H xs us Q I r h=>by
 obtain⟨da,d,fr,F,v,h1,rfl,g,rv,k⟩:=pR lD h
 have fin:∀{vs:List V}{ds:List Dat},cj X.K F ds vs->(d,fr)=(Dat.lst ds,jT ds)->∀l,H l=b_->Q (.ref l) (upd H l (.lst vs)):=λ{vs ds}r' e l hl=>by
  cases e;have r2:=r'.mono (bN.upd (o:=.lst vs) (g.sub.free hl));exact k _ _ _ (Step.alloc g hl) ⟨l,vs,rfl,.inl (.inl bh),r2⟩ λz=>.lst (bN.refl _) hl (.jS g z r')
 cases da with
 |lst ds=>
   obtain⟨p,vs,rfl,t,r'⟩:=rv;exact rh h_ s σ H _ us Q I r ⟨p,vs,rfl,.inl (g.sub.seq t),fin r' (aO h1).symm⟩
 |tup ds=>
   obtain⟨p,vs,rfl,t,r'⟩:=rv;exact rh h_ s σ H _ us Q I r ⟨p,vs,rfl,.inr (t.mono g.sub).sq,fin r' (aO h1).symm⟩
 |_=>cases h1
def Bo:ju X (.type "tuple") (gL X.K (dG .tuple)):=λh_ s σ H xs us Q I r h=>by
 obtain⟨da,d,fr,F,v,h1,rfl,g,rv,k⟩:=pR lD h
 cases da with
 |lst ds=>
   cases h1;obtain⟨p,vs,rfl,t,r'⟩:=rv;exact pB h_ s σ H _ us Q I r ⟨p,vs,rfl,.inl ⟨g.sub.seq t,λl hl=>k _ _ _ (Step.alloc g hl) ⟨l,vs,rfl,.inl bh,r'.mono (bN.upd (g.sub.free hl))⟩ aT⟩⟩
 |tup ds=>
   cases h1;obtain⟨p,vs,rfl,t,r'⟩:=rv;exact pB h_ s σ H _ us Q I r ⟨p,vs,rfl,.inr ⟨(t.mono g.sub).sq,k _ F H (Step.refl g) ⟨p,vs,rfl,t,r'⟩ aT⟩⟩
 |_=>cases h1
theorem oZ{K:Fg}:∀{ds:List Dat}{bs:List Bool}{vs:List V}{us:List ak},jZ ds=a_ bs->cj K F ds vs->bW vs us->us=bs.map j8
 |[],bs,vs,us,h,r,w=>by
   cases h;rw[show vs=[]from r]at w;cases w;rfl
 |d::ds,bs,vs,us,h,z5,w=>by
   obtain⟨v,r,e,h1,h2⟩:=z5;subst e
   cases d with
   |bl b=>
     simp only[jZ]at h;obtain⟨bs',hb,h⟩:=er h;cases h;cases h1
     cases w with
     |cons q w=>cases q;rw[oZ hb h2 w];rfl
   |_=>cases h
def w5{s:aw}{h':bM}(hk:∀b x,b∉[s.heap.objs.size]->(s.heap.push o).get? b=a_ x->h'.get? b=a_ x):∀b x,s.heap.get? b=a_ x->h'.get? b=a_ x:=
 λb x e=>hk b x (λhm=>absurd (hl9 e) (by rw[aQ.mp hm];exact bp _)) (hp9 _ e)
def CI(bs:List Bool):((aP bs.length).all λi=>(bs[i]?).getD c_)=bs.all id:=by
 rw[vH,aC,aC];constructor
 ·intro h b hb;obtain⟨i,hi,rfl⟩:=jh hb;have:=h i (aR.mpr hi);simpa [ao hi]using this
 ·intro h i hi;have hi':=aR.mp hi;simp only[ao hi',fD];exact h _ (bA hi')
def Hc(hcalm:X.calm=c_):ju X (.builtin "all") (gL X.K (dG .all)):=λh_ s σ H xs us Q I r h=>by
 obtain⟨da,d,fr,F,v,h1,rfl,g,rv,k⟩:=pR lD h
 cases da with
 |lst ds=>
   simp only[dG,b1,sG,mO,sE,sC,bL,Hf,sH,sD]at h1;obtain⟨bs,hb,h1⟩:=er h1;cases h1;obtain⟨p,vs,rfl,t,r'⟩:=rv;obtain⟨its,w1,pl,_⟩:=I.lstR g t;obtain⟨u,rfl,ru⟩:=vals1 r;cases ru;have ei:=oZ hb r' w1;have hlt:=pl.lt;refine call_all_walk (kr pl.isList ?_)
   refine⟨s.heap.objs.size,[s.heap.objs.size,p],[s.heap.objs.size],its.toArray.size,_,_,λi=>(bs[i]?).getD c_,rfl,FG (A:=X.A.in1) (I.ok.hd hcalm) _ p (bc hlt) its.toArray,
    ⟨⟨_,aK _ rfl,rfl,rfl⟩,pl.isList.push _⟩,λi v s' Q' E' hP hQ=>?_,λh' tk hk=>?_⟩
   ·subst ei;have hP':(bs.map j8)[i]?=a_ v:=by simpa using hP
    rw[aY]at hP'
    cases hi:bs[i]? with
    |none=>rw[hi]at hP';cases hP'
    |some b=>
      rw[hi]at hP';cases hP';simp only[hi,fD]at hQ;exact dh hQ
   ·have e1:its.toArray.size=bs.length:=by rw[ei];simp
    rw[e1,CI];exact⟨.bl _,H,I.kept (w5 hk),rfl,k _ F H (Step.refl g) rfl aT⟩
 |_=>cases h1
end
section
variable{X:Cx}{xa:Ex}{xs:List Ex}{F H:Hp}{iter:aV}
noncomputable def tyName:Ty->String
 |.int=>"int"
 |.bool=>"bool"
 |.str=>"str"
 |.tuple=>"tuple"
 |.list=>"list"
noncomputable def WR:Dat->String
 |.non=>"NoneType"
 |.bl _=>"bool"
 |.int _=>"int"
 |.str _=>"str"
 |.tup _=>"tuple"
 |.lst _=>"list"
 |.dct _ _=>"dict"
 |.dcn _=>"dict"
 |.exc _ _ _=>""
def Tv(K:Fg)(t:Ty)(d:Dat)(h:XZ d=d_):lp K (.type (WR d)) (.type (tyName t))=a_ (kU t d):=by
 cases t<;>cases d<;>first|rfl|cases h
def YM(K:Fg)(t:Ty):List V->Hp->VK->Prop:=λxs H Q=>∃da F v,xs=[v,.ty (tyName t)]/\Good F H/\Rep K F da v/\XZ da=d_/\Q (.bl (kU t da)) H
def G8:ju X (.builtin "isinstance") (YM X.K t):=λh_ s σ H xs us Q I r h=>by
 obtain⟨da,F,v,rfl,g,rv,hx,q⟩:=h;obtain⟨u,w,rfl,ru,rw'⟩:=vals2 r;obtain rfl:w=.type (tyName t):=rw';have e:=Tv X.K t da hx;have fin:∀tk,EP X h_ σ Q (.bool (kU t da)) { s with toks:=tk }:=λtk=>⟨.bl _,H,I.tok tk,rfl,q⟩
 cases da with
 |non=>cases rv;obtain rfl:u=.none:=ru;exact fe PySem.W.kitx_none I.tJ ie e (λz=>nomatch z) fin
 |bl y=>cases rv;obtain rfl:u=.bool y:=ru;exact fe PySem.W.kitx_bool I.tJ ie e (λz=>nomatch z) fin
 |int y=>cases rv;obtain⟨t1,rfl⟩:=ru;exact fe PySem.W.kitx_int I.tJ ie e (λz=>nomatch z) fin
 |str y=>cases rv;obtain⟨t1,rfl⟩:=ru;exact fe PySem.W.kitx_str I.tJ ie e (λz=>nomatch z) fin
 |tup ds=>
   obtain⟨p,vs,rfl,t1,_⟩:=rv;obtain rfl:u=.ref p:=ru;obtain⟨its,_,⟨o,h1,h2,_⟩,_⟩:=I.tupR g t1;exact fe PySem.W.kitx_tuple I.tJ ⟨o,h1,h2⟩ e (λz=>nomatch z) fin
 |lst ds=>
   obtain⟨p,vs,rfl,t1,_⟩:=rv;obtain rfl:u=.ref p:=ru;obtain⟨its,_,⟨o,n,h1,h2,_⟩,_⟩:=I.lstR g t1;exact fe PySem.W.kitx_list I.tJ ⟨o,h1,h2⟩ e (λz=>nomatch z) fin
 |dct ks ds=>
   obtain⟨p,k_,rfl,t1,_⟩:=rv;obtain rfl:u=.ref p:=ru;obtain⟨_,_,_,_,o,es,ep,h1,h2,_⟩:=I.hok p _ (g.sub _ _ t1);exact fe DQ I.tJ ⟨o,h1,h2.1⟩ e (λz=>nomatch z) fin
 |dcn ks=>
   obtain⟨p,xs,rfl,t1,_⟩:=rv;obtain rfl:u=.ref p:=ru;obtain⟨_,_,o,es,ep,h1,h2,_⟩:=I.hok p _ (g.sub _ _ t1);exact fe DQ I.tJ ⟨o,h1,h2.1⟩ e (λz=>nomatch z) fin
 |exc _ _ _=>cases hx
set_option tactic.hygienic true in
def RF(t:Ty)(hg:Gl X "isinstance")(hm:X.mg "isinstance"=b_)(hg2:Gl X x)(hm2:X.mg x=b_)(hv2:bootBuiltins x=a_ (.type (tyName t)))(ha:SE X C a xa)(hn:x≠"__name__")(hdb:(x == ("__debug__":a8))=d_)
  (he:aG [a,.Name x p2] X.env=(d_,eval a X.env)::aG [.Name x p2] X.env)(hpl:(backTo pos (aG [.Name x p2] X.env)).any (·.1)=d_) :
  SE X C (.Call (.Name "isinstance" p) [a,.Name x p2] [] pos) (.blt (.isi t) [xa]):=
 PE.imp (qH G8 hg hm (by decide +kernel:bootBuiltins "isinstance"=a_ (.builtin "isinstance")) (kT ha (kT (Er hg2 hm2 hv2 (v:=.ty (tyName t)) rfl hn hdb) rV) he) bG bG he hpl) λσ H Q z3=>by
  obtain⟨ρ,d,fr,h,F,g,R,k⟩:=z3;obtain⟨ds,h1,h2⟩:=bS h;obtain⟨⟨da,fa⟩,h3,h1⟩:=bS h1;cases h1;have h2:(if XZ da=c_ then b_ else a_ (Dat.bl (kU t da),d_))=a_ (d,fr):=h2;split at h2
  ·cases h2
  ·rename_i hx;cases h2;exact⟨ρ,da,fa,h3,F,g,R,λv F1 H1 st r _=>⟨da,F1,v,rfl,st.good,r,Bool.not_eq_true _▸hx,k _ F1 H1 st rfl aT⟩⟩
def Bl:∀σ H Q,gE X.K C (.Pd o o' xa xb xc) σ H Q->Cf (gB X.K (mL o)) (gB X.K (mL o')) (gE X.K C xa) (gE X.K C xb) (gE X.K C xc) σ H Q:=λσ H Q z3=>by
 obtain⟨ρ,d,fr,h,F,g,R,k⟩:=z3;obtain⟨⟨da,fa⟩,h1,h⟩:=bS h;obtain⟨⟨db,fb⟩,h2,h⟩:=bS h;obtain⟨r,h3,h⟩:=bS h;refine⟨ρ,da,fa,h1,F,g,R,λv F1 H1 st1 r1 _=>⟨ρ,db,fb,h2,F1,st1.good,R.mono st1.ff,λw F2 H2 st2 r2 _=>?_⟩⟩;refine⟨da,db,.bl r,d_,by show(cx o da db).map _=_;rw[h3];rfl,F2,st2.good,r1.mono st2.ff,r2,λu F3 H3 st3 r3 _=>⟨r,r3,?_⟩⟩
 cases r with
 |true=>
   refine C9 ?_;obtain⟨⟨dc,fc⟩,h4,h⟩:=bS h;refine⟨ρ,dc,fc,h4,F3,st3.good,R.mono ((st1.ff.trans st2.ff).trans st3.ff),λy F4 H4 st4 r4 _=>?_⟩;exact⟨db,dc,d,fr,h,F4,st4.good,r2.mono (st3.ff.trans st4.ff),r4,λu F5 H5 st5 r5 f5=>k u F5 H5 ((((st1.trans st2).trans st3).trans st4).trans st5) r5 λz=>(f5 z).back (F:=F) (((st1.hh.trans st2.hh).trans st3.hh).trans st4.hh)⟩
 |false=>
   refine Dc ?_;cases h;exact k _ F3 H3 ((st1.trans st2).trans st3) rfl aT
end
theorem xn:∀{us:List ak}{is:List Int},lJ us is->bW (is.map V.int) us
 |_,_,.nil=>.nil
 |_,_,.cons n t h=>.cons ⟨t,rfl⟩ (xn h)
theorem wJ:∀{us:List ak}{is:List a8},pJ us is->bW (is.map V.str) us
 |_,_,.nil=>.nil
 |_,_,.cons n t h=>.cons ⟨t,rfl⟩ (wJ h)
theorem YE{K:Fg}:∀(is:List Int),cj K F (is.map Dat.int) (is.map V.int)
 |[]=>rfl
 |i::is=>⟨_,_,rfl,rfl,YE is⟩
theorem YD{K:Fg}:∀(is:List a8),cj K F (is.map Dat.str) (is.map V.str)
 |[]=>rfl
 |i::is=>⟨_,_,rfl,rfl,YD is⟩
theorem WZ:∀(is:List Int),jT (is.map Dat.int)=c_
 |[]=>rfl
 |i::is=>by rw[ah];simp only[jT,im,Bool.true_and];exact WZ is
theorem WY:∀(is:List a8),jT (is.map Dat.str)=c_
 |[]=>rfl
 |i::is=>by rw[ah];simp only[jT,im,Bool.true_and];exact WY is
section
end
section
variable{xa:Ex}
end
section
variable{X:Cx}{iter:aV}{ifs:List aV}{cn:List a8}
def M9(hcalm:X.calm=c_)(S:jt X scope tn cn caps)(hi:SI X C tg iter it)(touch:pD tn.length g)(tgc:Vb X.K tn.length one g)
  (hg:∀(cl:List (a8×aE))(s₂:aw)(H₂:Hp)(Ca:aE)(ex:List aE),PG (eX X scope cl (tn++cn) s₂ H₂ Ca ex) tg g)
  (ht:∀(cl:List (a8×aE))(s₂:aw)(H₂:Hp)(Ca:aE)(ex:List aE),LZ (eX X scope cl (tn++cn) s₂ H₂ Ca ex) ifs (Vp X.K C xs))
  (he:∀(cl:List (a8×aE))(s₂:aw)(H₂:Hp)(Ca:aE)(ex:List aE),SE (eX X scope cl (tn++cn) s₂ H₂ Ca ex) C elt xe)
  (hs:∀x,foldedSetIterable iter X.env x=pure x):SE X C (.ListComp elt [⟨tg,iter,ifs,0⟩] scope pos) (.comp tn.length one caps it xs xe):=
 PE.imp (ND hcalm S hi hg touch ht he hs) (xB tgc λ_ _ _=>trivial)
def Ck{spos:rE}(hN:X.N.Nodup)(hi':X.N[i]?=a_ x)(hx:Loc X.env.scope x)(hcalm:X.calm=c_)(S:jt X scope tn cn caps)(hi:SI X C tg iter it)(touch:pD tn.length g)(tgc:Vb X.K tn.length one g)
  (hg:∀(cl:List (a8×aE))(s₂:aw)(H₂:Hp)(Ca:aE)(ex:List aE),PG (eX X scope cl (tn++cn) s₂ H₂ Ca ex) tg g)
  (ht:∀(cl:List (a8×aE))(s₂:aw)(H₂:Hp)(Ca:aE)(ex:List aE),LZ (eX X scope cl (tn++cn) s₂ H₂ Ca ex) ifs (Vp X.K C xs))
  (he:∀(cl:List (a8×aE))(s₂:aw)(H₂:Hp)(Ca:aE)(ex:List aE),SE (eX X scope cl (tn++cn) s₂ H₂ Ca ex) C elt xe)
  (hsw:swapsWith (.ListComp elt [⟨tg,iter,ifs,0⟩] scope pos) (a_ (.Name x pos')) spos.line X.env=pure c_)
  (hs:∀x,foldedSetIterable iter X.env x=pure x)(hf:X.fn x=c_\/X.env.scope.names.lookup x=a_ .local) :
  SS X C EE (.Assign [.Name x pos'] (.ListComp elt [⟨tg,iter,ifs,0⟩] scope pos) spos) (.set i (.comp tn.length one caps it xs xe)):=
 PS.imp (CM hN hi' hx hcalm S hi hg touch ht he hsw hs hf) (zV (xB tgc λ_ _ _=>trivial))
end
def Va(K:Fg)(one:Bool)(ts:List Nat)(g:TG):Prop:=∀Fz H₀ F H σ ρ d x ρ1 Q,Rl K Fz H₀ F H σ ρ->Rep K F d x->dW one ts d ρ=a_ ρ1->(∀σ1,Rl K Fz H₀ F H σ1 ρ1->Q σ1 H)->g x σ H Q
def Mv{K:Fg}:Va K c_ [i] (kh i):=λFz H₀ F H σ ρ d x ρ1 Q R r hb k=>by
 simp only[dW,jl]at hb;subst hb;exact k _ (R.CA r)
def X4:List Nat->QU
 |[]=>GR
 |i::is=>xt (kh i) (X4 is)
theorem KA{K:Fg}:∀(ts:List Nat){σ:St}{ρ:cX},Rl K Fz H₀ F H σ ρ->∀ds:List Dat,ds.length=ts.length->(∀σ1,Rl K Fz H₀ F H σ1 (oQ ts ds ρ)->Q σ1 H)->∀vs,cj K F ds vs->X4 ts vs σ H Q
 |[],σ,ρ,R,ds,hz,k,vs,r=>by
   cases ds with
   |nil=>exact⟨r,k _ R⟩
   |cons _ _=>cases hz
 |i::is,σ,ρ,R,ds,hz,k,vs,r=>by
   cases ds with
   |nil=>cases hz
   |cons d ds=>
     obtain⟨v,w,e,r1,r2⟩:=r;subst e;exact⟨v,w,rfl,KA is (R.CA r1) ds (by simpa using hz) k w r2⟩
set_option tactic.hygienic true in
def Ip{K:Fg}:Va K d_ ts (Kz K ts.length (X4 ts)):=λFz H₀ F H σ ρ d x ρ1 Q R r hb k=>by
 simp only[dW]at hb
 cases d with
 |tup ds=>
   dsimp only at hb;split at hb
   ·rename_i hz;cases hb;obtain⟨a,vs,rfl,t,r⟩:=r;refine⟨a,vs,rfl,(t.mono R.step.good.sub).sq,by rw[r.length];exact hz,?_⟩;exact KA ts R ds hz k vs r
   ·cases hb
 |_=>cases hb
section
variable{X:Cx}{iter:aV}{pos:rE}
def K1{K:Fg}(R:Rl K Fz H₀ F H σ ρ)(h:Ux C (.rng es) ρ=a_ (items,ρ'))
  (k:∀J F1 H1,bN F F1->Rl K Fz H₀ F1 H1 σ ρ'->lF K (vq (.rng es) F1) J items->Q J H1):gI K C (.rng es) σ H Q:=by
 simp only[Ux]at h;obtain⟨ds,h1,h⟩:=er h;cases h;obtain⟨Fp,sp,Rp⟩:=R.jX;refine⟨_,_,Fp,h1,Rp.step.good,Rp.full,λJ F1 H1 st ok=>?_⟩;have oO:=Step.shrink R.step.good sp st;exact k J _ H1 oO.ff (R.moved oO) ok
def Bf{K:Fg}(R:Rl K Fz H₀ F H σ ρ)(h:(sv C it (sQ (kL is ρ))).map (λds=>(ds,kL is ρ))=a_ (items,ρ'))
  (k:∀J F1 H1,bN F F1->Rl K Fz H₀ F1 H1 σ ρ'->lF K (vq it F1) J items->Q J H1):gI K C it σ H Q:=by
 obtain⟨ds,h1,h⟩:=er h;cases h;obtain⟨F2,s2,R2⟩:=R.freeze is;exact⟨_,_,F2,h1,R2.step.good,R2.sQ,λJ F1 H1 st ok=>k J F1 H1 (s2.trans st.ff) (R2.moved st) ok⟩
def qM{K:Fg}{D:Ends}(tgs:Va K one ts g)(s1:bN F F1)(R1:Rl K Fz H₀ F1 H1 σ ρ')(le:∀F2,bN F1 F2->bN F0 F2)(ok:lF K F0 J items)
  (h:eE (dW one ts) (bH C xs) items ρ'=a_ out)(k:qV K Fz H₀ F D EE out):∃W:Nat->Nat->St->Hp->Prop,(∃m,W 0 m σ H1)/\∀i m σ H,W i m σ H->
   (J.stop i H/\D.nx σ H)\/(J.go i H/\∃N:St->Hp->Prop,(∀σ' H',N σ' H'->∃m',m'<m/\W (i+1) m' σ' H')/\∀x H',J.yld i H x H'->g x σ H' λσ2 H2=>gSs K C EE xs { D with nx:=N,ct:=N,bk:=D.nx } σ2 H2):=by
 refine⟨λi m σ H=>∃F ρ,Rl K Fz H₀ F H σ ρ/\bN F1 F/\eE (dW one ts) (bH C xs) (items.drop i) ρ=a_ out/\m=items.length - i/\i<=items.length,⟨items.length,F1,ρ',R1,bN.refl _,h,rfl,bQ _⟩,?_⟩;rintro i m σ2 H2 ⟨F2,ρ2,R2,s2,hl,rfl,hi'⟩;obtain⟨okg,WB⟩:=ok F2 H2 R2.step.good (le F2 s2);by_cases hlt:i<items.length
 ·obtain⟨go,yl⟩:=okg i items[i] (ao hlt);refine .inr ⟨go,λσ' H'=>∃m',m'<items.length - i/\∃F ρ,Rl K Fz H₀ F H' σ' ρ/\bN F1 F/\eE (dW one ts) (bH C xs) (items.drop (i+1)) ρ=a_ out/\m'=items.length - (i+1)/\i+1<=items.length,λσ' H' z=>z,λx H3 y3=>?_⟩;obtain⟨F3,st3,r3⟩:=yl x H3 y3;rw[xY hlt]at hl;simp only[eE]at hl;obtain⟨ρ3,hb3,hl⟩:=bS hl;obtain⟨o,ho,hl⟩:=bS hl;refine tgs Fz H₀ F3 H3 σ2 ρ2 _ x ρ3 _ (R2.moved st3) r3 hb3 λσ4 R4=>?_;have sAll:bN F1 F3:=s2.trans st3.ff;refine⟨Fz,H₀,F3,ρ3,o,ho,R4,?_⟩
  cases o with
  |nx ρ5=>exact λF5 H5 σ5 s5 R5=>⟨items.length - (i+1),by omega,F5,ρ5,R5,sAll.trans s5,hl,rfl,hlt⟩
  |ct ρ5=>exact λF5 H5 σ5 s5 R5=>⟨items.length - (i+1),by omega,F5,ρ5,R5,sAll.trans s5,hl,rfl,hlt⟩
  |bk ρ5=>
    cases hl;exact λF5 H5 σ5 s5 R5=>k F5 H5 σ5 ((s1.trans sAll).trans s5) R5
  |rt d fr=>
    cases hl;exact k
  |xc c f d=>
    cases hl;exact k
 ·have e:i=items.length:=fV hi' (eU hlt);subst e;rw[LR]at hl;simp only[eE]at hl;cases hl;exact .inl ⟨WB _ (aI _),k F2 H2 σ2 (s1.trans s2) R2⟩
def Cm(hp:Hm (aB X.prog X.w) X.A X.env X.xe)(hc:X.calm=c_)(hi:SI X C tg iter it)(hni:∀a,it≠.itv a)(hg:PG X tg g)(tgs:Va X.K one ts g)(hb:Hx X C EE body xs)
  (hs:∀x,foldedSetIterable iter X.env x=pure x):SS X C EE (.For tg iter body [] pos) (.loop one ts it xs):=
 PS.imp (Jt hp hc hi hg hb hs) λD σ H z3=>by
  obtain⟨Fz,H₀,F,ρ,out,h,R,k⟩:=z3;obtain⟨⟨items,ρ'⟩,h1,h⟩:=bS h;have fin:∀J F1 H1,bN F F1->Rl X.K Fz H₀ F1 H1 σ ρ'->lF X.K (vq it F1) J items->_:=λJ F1 H1 s1 R1 ok=>qM (D:=D) tgs s1 R1 (λF2 s=>Ba s) ok h k
  cases it with
  |itv a=>exact absurd rfl (hni a)
  |rng es=>exact K1 R h1 fin
  |zip es=>exact Bf R h1 fin
  |enu a=>exact Bf R h1 fin
def MH(hp:Hm (aB X.prog X.w) X.A X.env X.xe)(hc:X.calm=c_)(he:SE X C iter xe)(hg:PG X tg g)(tgs:Va X.K one ts g)(hb:Hx X C EE body xs)
  (hs:∀x,foldedSetIterable iter X.env x=pure x):SS X C EE (.For tg iter body [] pos) (.loop one ts (.itv xe) xs):=
 PS.imp (Jt hp hc (PI.or (PI.or (En he) (Jv he)) (Jw he)) hg hb hs) λD σ H z3=>by
  obtain⟨Fz,H₀,F,ρ,out,h,R,k⟩:=z3;obtain⟨⟨items,ρ'⟩,h1,h⟩:=bS h;obtain⟨⟨d,fr,ρ1⟩,h2,h3⟩:=bS h1;obtain⟨ds,h4,h5⟩:=er h3;cases h5
  cases d with
  |lst es=>
    cases h4;refine .inl (.inl (yZ R h2 λv Fm F' H' sm Rm st r f=>?_));obtain⟨p,vs,rfl,t,rr⟩:=r;exact⟨p,rfl,⟨vs,st.good.sub.seq t⟩,qM (D:=D) tgs (sm.trans st.ff) (Rm.moved st) (λF2 s=>s) (xf t rr) h k⟩
  |tup es=>
    cases h4;refine .inl (.inr (yZ R h2 λv Fm F' H' sm Rm st r f=>?_));obtain⟨p,vs,rfl,t,rr⟩:=r;exact⟨p,rfl,⟨vs,(t.mono st.good.sub).sq⟩,qM (D:=D) tgs (sm.trans st.ff) (Rm.moved st) (λF2 s=>s) (AQ t rr) h k⟩
  |str x=>
    cases h4;refine .inr (yZ R h2 λv Fm F' H' sm Rm st r f=>?_);cases r;exact⟨x,rfl,qM (D:=D) tgs (sm.trans st.ff) (Rm.moved st) (λF2 s=>s) AR h k⟩
  |_=>cases h4
set_option tactic.hygienic true in
def Rb(he:SE X C e xe)(tgs:Va X.K d_ ts tg')(hg:PG X tgt tg')
  (hs:swapsWithSole [tgt] e pos.line X.env=pure d_)(hw:swappedStores [tgt] e X.env=pure b_)(h1:(assignEach [tgt] X.env).map (·.2)=[assign tgt X.env]):SS X C EE (.Assign [tgt] e pos) (.Qe ts xe):=
 PS.imp (CO he hg hs hw h1) λD σ H z3=>by
  obtain⟨Fz,H₀,F,ρ,out,h,R,k⟩:=z3;obtain⟨⟨d,fr,ρ'⟩,h1,h⟩:=bS h
  cases d with
  |tup ds=>
    have h:(if ds.length=ts.length then a_ (Out.nx (oQ ts ds ρ'))else b_)=a_ out:=h;split at h
    ·rename_i hz;cases h;refine yZ R h1 λv Fm F' H' sm Rm st r f=>?_;refine tgs Fz H₀ F' H' σ ρ' (.tup ds) v (oQ ts ds ρ') _ (Rm.moved st) r ?_ λσ1 R1=>k F' H' σ1 (sm.trans st.ff) R1;simp only[dW];rw[if_pos hz]
    ·cases h
  |_=>cases h
end
theorem dA.take{K:Fg}:∀(n:Nat){ds:List Dat}{vs:List V}{S:List aE},dA K H ds vs S->∃S1 S2,dA K H (ds.take n) (vs.take n) S1/\dA K H (ds.drop n) (vs.drop n) S2/\S=S1++S2
 |0,ds,vs,S,h=>⟨[],S,⟨rfl,rfl⟩,h,rfl⟩
 |n+1,[],vs,S,h=>by
   obtain⟨rfl,rfl⟩:=h;exact⟨[],[],⟨rfl,rfl⟩,⟨rfl,rfl⟩,rfl⟩
 |n+1,d::ds,vs,S,z4=>by
   obtain⟨v,r,S1,S2,e,h1,h2,q⟩:=z4;subst e q;obtain⟨T1,T2,g1,g2,g3⟩:=dA.take n h2;exact⟨S1++T1,T2,⟨v,r.take n,S1,T1,rfl,h1,g1,rfl⟩,g2,by rw[g3,mj]⟩
theorem dA.setAt{K:Fg}{T:List aE}(h':nP K H d' v' T):∀(n:Nat){ds:List Dat}{vs:List V}{S:List aE},n<ds.length->dA K H ds vs S->∃S1 S2 S3,dA K H (ds.set n d') (vs.set n v') (S1++T++S3)/\S=S1++S2++S3
 |n,[],vs,S,hn,h=>absurd hn (by simp)
 |0,d::ds,vs,S,_,z5=>by
   obtain⟨v,r,S1,S2,e,h1,h2,q⟩:=z5;subst e q;exact⟨[],S1,S2,⟨v',r,T,S2,rfl,h',h2,by simp⟩,by simp⟩
 |n+1,d::ds,vs,S,hn,z5=>by
   obtain⟨v,r,S1,S2,e,h1,h2,q⟩:=z5;subst e q;obtain⟨T1,T2,T3,g1,g2⟩:=dA.setAt h' n (by simpa using hn) h2;refine⟨S1++T1,T2,T3,⟨v,r.set n v',S1,T1++T++T3,rfl,h1,g1,by simp⟩,by rw[g2];simp⟩
section
variable{K:Fg}
def Rl.mut(R:Rl K Fz H₀ F H σ ρ)(O:Ow K H₀ F H σ ρ Ss)(hi:ρ[i]?=a_ (a_ (d,c_)))(hσ:σ[i]?=a_ (a_ v))
  (hl:l∈Ss i)(mu:PN o')(o:nP K (upd H l o') d' v S')(nd:S'.Nodup)(hS:∀a∈S',a∈Ss i\/(F a=b_/\H₀ a=b_/\∀(j:Nat)d2,ρ[j]?=a_ (a_ (d2,c_))->a∉Ss j)) :
  Rl K Fz H₀ F (upd H l o') σ (ρ.set i (a_ (d',c_))):=by
 obtain⟨w,e1,e2,e3,e4⟩:=O.own i d hi;have hF:F l=b_:=(e4 l hl).1;have h0:H₀ l=b_:=(e4 l hl).2;obtain⟨ol,hol,mul⟩:=e2.BN _ l hl;have nt:∀vs,H l≠a_ (.tup vs):=λvs z=>by rw[hol]at z;cases z;exact mul
 refine⟨⟨⟨λa u q=>?_,λa us q=>?_⟩,R.step.ff,λa u q=>?_,R.step.un⟩,by simpa using R.len,λj d2 q=>?_,λj=>if j=i then S' else Ss j,λj d2 q=>?_,λj k d1 d2 hjk q1 q2=>?_⟩
 ·rw[bq (cC q hF)];exact R.step.good.sub a u q
 ·by_cases ha:a=l
  ·subst ha;rw[bh]at q;cases q;exact mu.elim
  ·rw[bq ha]at q;exact R.step.good.tup a us q
 ·rw[bq (cC q h0)];exact R.step.hh a u q
 ·rcases fK q with⟨rfl,e⟩|⟨hne,q'⟩
  ·cases e
  ·exact R.val j d2 q'
 ·rcases fK q with⟨rfl,e⟩|⟨hne,q'⟩
  ·cases e;rw[if_pos rfl];refine⟨v,hσ,o,nd,λa m=>?_⟩
   rcases hS a m with m|m
   ·exact e4 a m
   ·exact⟨m.1,m.2.1⟩
  ·rw[if_neg (fJ hne)];obtain⟨w,g1,g2,g3,g4⟩:=O.own j d2 q';exact⟨w,g1,g2.upd nt d2 (O.sep i j d d2 hne hi q' l hl),g3,g4⟩
 ·intro a m
  rcases fK q1 with⟨rfl,e⟩|⟨h1,q1'⟩
  ·rw[if_pos rfl]at m
   rcases fK q2 with⟨e2,_⟩|⟨h2,q2'⟩
   ·exact absurd e2 hjk
   ·rw[if_neg (fJ h2)]
    rcases hS a m with m|m
    ·exact O.sep _ k d d2 h2 hi q2' a m
    ·exact m.2.2 k d2 q2'
  ·rw[if_neg (fJ h1)]at m
   rcases fK q2 with⟨rfl,e⟩|⟨h2,q2'⟩
   ·rw[if_pos rfl];intro m2
    rcases hS a m2 with m2|m2
    ·exact O.sep _ j d d1 h1 hi q1' a m2 m
    ·exact m2.2.2 j d1 q1' m
   ·rw[if_neg (fJ h2)];exact O.sep j k d1 d2 hjk q1' q2' a m
def Step.VG(st:Step F H F' H')(g:Good F H)(hS:∀a∈S,H a=b_)(o:dA K H' ds vs S):Step F H (uz F' S) H':=by
 refine⟨⟨λa o' q=>?_,λa vs q=>?_⟩,λa o' q=>?_,st.hh,λa o' q n=>?_⟩
 ·by_cases m:a∈S
  ·rw[wC m]at q;cases q
  ·rw[n8 m]at q;exact st.good.sub a o' q
 ·rw[n8 λm=>?_]
  ·exact st.good.tup a vs q
  ·obtain⟨u,hu,mu⟩:=o.BN _ a m;rw[q]at hu;cases hu;exact mu
 ·rw[n8 λm=>?_]
  ·exact st.ff a o' q
  ·rw[g.sub.free (hS a m)]at q;cases q
 ·by_cases m:a∈S
  ·exact wC m
  ·rw[n8 m];exact st.un a o' q n
def E5(R:Rl K Fz H₀ F H σ ρ)(h:ni C es (M.full ρ)=a_ (ds,c_))
  (k:∀vs F' H' S,Step F H F' H'->dA K H' ds vs S->S.Nodup->(∀a∈S,H a=b_/\F' a=b_)->Q vs H'):gF K C es σ H Q:=by
 obtain⟨Fp,sp,Rp⟩:=R.jX;refine⟨_,ds,c_,h,Fp,Rp.step.good,Rp.full,λvs F1 H1 st r f=>?_⟩;obtain⟨S,n,e1,o⟩:=f rfl;have oO:=Step.shrink R.step.good sp st;exact k vs _ H1 S (Step.VG oO R.step.good e1 o) o n λa m=>⟨e1 a m,wC m⟩
end
noncomputable def TJ:V->Option Key
 |.int i=>a_ (.inl i)
 |.str x=>a_ (.inr x)
 |_=>b_
def TH(h:TJ v=a_ k):v=kV k:=by
 cases v<;>first|(cases h;rfl)|cases h
def Oi(k:Key):TJ (kV k)=a_ k:=by cases k<;>rfl
noncomputable def rR(k:Key)(y:V):List (Key×V)->List (Key×V)
 |[]=>[(k,y)]
 |p::r=>if p.1=k then(p.1,y)::r else p::rR k y r
theorem D9:∀(r:List (Key×V)),(r.any λkv=>decide (kv.1=k))=d_->r.map (λkv=>if kv.1=k then(kv.1,y)else kv)=r
 |[],_=>rfl
 |p::r,h=>by
   rw[eF,Bool.or_eq_false_iff]at h;rw[ah,if_neg (of_decide_eq_false h.1),D9 r h.2]
theorem Eh:∀(k_:List (Key×V)),Ap k (k_.map (·.1))=c_->putK k_ k y=rR k y k_
 |[],_=>rfl
 |p::r,h=>by
   simp only[ah,Ap]at h;by_cases e:p.1=k
   ·rw[if_pos e]at h
    have h2:(r.any λkv=>decide (kv.1=k))=d_:=by
     simp only[fj]at h;rw[List.any_map]at h;exact h
    unfold putK rR;rw[if_pos e,if_pos (by rw[eF,decide_eq_true e];rfl),ah,if_pos e,D9 r h2]
   ·rw[if_neg e]at h;have ih:=Eh (y:=y) r h;unfold rR;rw[if_neg e,<-ih];unfold putK;rw[eF,decide_eq_false e,qv];split
    ·rw[ah,if_neg e]
    ·rfl
theorem wN:∀(k_:List (Key×V))(ds:List Dat),ds.length=k_.length->(rR k y k_).map (·.1)=(putD k d (k_.map (·.1)) ds).1
 |[],ds,h=>by
   cases ds with
   |nil=>rfl
   |cons _ _=>cases h
 |p::r,[],h=>by cases h
 |p::r,e::ds,h=>by
   have ih:=wN (k:=k) (y:=y) (d:=d) r ds (by simpa using h);simp only[rR,ah,putD];by_cases q:p.1=k
   ·rw[if_pos q,if_pos q];rfl
   ·rw[if_neg q,if_neg q,ah,ih]
theorem dA.put{K:Fg}{T:List aE}(o:nP K H d y T)(nT:T.Nodup):∀(k_:List (Key×V)) (ds:List Dat) (S:List aE),dA K H ds (k_.map (·.2)) S->S.Nodup->(∀a∈S,a∉T)->
  ∃S',dA K H (putD k d (k_.map (·.1)) ds).2 ((rR k y k_).map (·.2)) S'/\S'.Nodup/\∀a∈S',a∈S\/a∈T
 |[],[],S,os,nS,dj=>⟨T,.one o,nT,λa m=>.inr m⟩
 |[],e::ds,S,os,nS,dj=>by
   obtain⟨v,r,S1,S2,q,_⟩:=os;cases q
 |p::r,[],S,os,nS,dj=>by
   obtain⟨q,_⟩:=os;cases q
 |p::r,e::ds,S,os,nS,dj=>by
   obtain⟨v,r',S1,S2,q,o1,o2,rfl⟩:=os;cases q;have n1:=fh.mp nS;simp only[rR,ah,putD];by_cases q:p.1=k
   ·rw[if_pos q,if_pos q];refine⟨T++S2,⟨y,r.map (·.2),T,S2,rfl,o,o2,rfl⟩,fh.mpr ⟨nT,n1.2.1,λa m b m2 z=>dj b (aF _ m2) (z▸m)⟩,λa m=>?_⟩
    rcases aL.mp m with m|m
    ·exact .inr m
    ·exact .inl (aF _ m)
   ·rw[if_neg q,if_neg q];obtain⟨S',g1,g2,g3⟩:=dA.put (k:=k) o nT r ds S2 o2 n1.2.1 λa m=>dj a (aF _ m);refine⟨S1++S',⟨p.2,(rR k y r).map (·.2),S1,S',rfl,o1,g1,rfl⟩,fh.mpr ⟨n1.1,g2,λa m b m2 z=>?_⟩,λa m=>?_⟩
    ·subst z
     rcases g3 a m2 with z|z
     ·exact n1.2.2 a m a z rfl
     ·exact dj a (aZ _ m) z
    ·rcases aL.mp m with m|m
     ·exact .inl (aZ _ m)
     ·rcases g3 a m with z|z
      ·exact .inl (aF _ z)
      ·exact .inr z
noncomputable def yE:HO->List V->Option HO
 |.lst xs,[y]=>if xs.length<aD then a_ (.lst (xs++[y]))else b_
 |_,_=>b_
def yC:HO->List V->Option HO
 | .lst xs,l=>match l with
   |[.int i,y]=>if xs.length<aD/\-1000000<=i/\i<=1000000 then a_ (.lst (insI y i xs))else b_
   |_=>b_
 |_,_=>b_
noncomputable def yD:HO->List V->Option HO
 |.lst _,[]=>a_ (.lst [])
 |_,_=>b_
def yB:HO->List V->Option HO
 | .lst xs,l=>match l with
   |[y,.int i]=>if -1000000<=i/\i<=1000000 then(uM y i xs).map .lst else b_
   |_=>b_
 | .dK k_,l=>match l with
   |[y,v]=>(TJ v).bind λk=>if k_.length<aD then a_ (.dK (putK k_ k y))else b_
   |_=>b_
 |_,_=>b_
def Gv:QW->HO->List V->Option HO
 |.app,a,l=>yE a l
 |.ins,a,l=>yC a l
 |.clr,a,l=>yD a l
 |.seti,a,l=>yB a l
 |_,_,_=>b_
def rY{T:List aE}(nd:(S++T).Nodup):S.Nodup/\T.Nodup/\∀a∈S,a∉T:=by
 obtain⟨h1,h2,h3⟩:=fh.mp nd;exact⟨h1,h2,λa m n=>h3 a m a n rfl⟩
def ou{S T:List aE}(h1:S.Nodup)(h2:T.Nodup)(h3:∀a∈S,a∉T):(S++T).Nodup:=fh.mpr ⟨h1,h2,λa m b n z=>h3 a m (z▸n)⟩
def xO(K:Fg)(H:Hp)(op:QW)(d':Dat)(v:V)(vs:List V)(S T:List aE):Prop:=
 ∃l ob ob' S',v=.ref l/\l∈S/\H l=a_ ob/\Gv op ob vs=a_ ob'/\PN ob'/\nP K (upd H l ob') d' v S'/\S'.Nodup/\∀a∈S',a∈S\/a∈T
section
variable{K:Fg}{T:List aE}
def N9{d1:Dat}(hl:H l=a_ (.lst xs))(os:dA K H es xs S')(nd:(l::S').Nodup)(a1:nP K H d1 y T)(nt:T.Nodup)(dj:∀a∈l::S',a∉T)(hz:es.length<aD):xO K H .app (.lst (es++[d1])) (.ref l) [y] (l::S') T:=by
 have hn:=cv.mp nd;have nt':∀vs,H l≠a_ (.tup vs):=λvs z=>by rw[hl]at z;cases z
 have hlT:l∉T:=dj l iw;have elen:=os.length;refine⟨l,_,.lst (xs++[y]),l::(S'++T),rfl,iw,hl,by simp only[Gv,yE,yC,yD,yB];rw[if_pos (by rw[elen];exact hz)],trivial,⟨l,xs++[y],S'++T,rfl,bh,(os.upd nt' _ hn.1).append (.one (a1.upd nt' _ hlT)),rfl⟩,?_,λb m=>?_⟩
 ·refine cv.mpr ⟨λm=>?_,ou hn.2 nt λb m=>dj b (jd _ m)⟩
  rcases aL.mp m with m|m
  ·exact hn.1 m
  ·exact hlT m
 ·rcases aq.mp m with rfl|m
  ·exact .inl iw
  ·rcases aL.mp m with m|m
   ·exact .inl (jd _ m)
   ·exact .inr m
def N7{d1:Dat}(hl:H l=a_ (.lst xs))(os:dA K H es xs S')(nd:(l::S').Nodup)(a1:nP K H d1 y T)(nt:T.Nodup)(dj:∀a∈l::S',a∉T)(hz:es.length<aD/\-1000000<=i/\i<=1000000):xO K H .ins (.lst (insI d1 i es)) (.ref l) [.int i,y] (l::S') T:=by
 have hn:=cv.mp nd;have nt':∀vs,H l≠a_ (.tup vs):=λvs z=>by rw[hl]at z;cases z
 have hlT:l∉T:=dj l iw;have elen:=os.length;obtain⟨S1,S2,g1,g2,g3⟩:=os.take (HT.ic es.length 0 (a_ i));subst g3;have eix:HT.ic xs.length 0 (a_ i)=HT.ic es.length 0 (a_ i):=by rw[elen]
 have nd2:=rY hn.2;refine⟨l,_,.lst (insI y i xs),l::(S1++(T++S2)),rfl,iw,hl,by simp only[Gv,yE,yC,yD,yB];rw[if_pos (by rw[elen];exact hz)],trivial,⟨l,insI y i xs,S1++(T++S2),rfl,bh,?_,rfl⟩,?_,λb m=>?_⟩
 ·have p2:=g2.upd (o:=.lst (insI y i xs)) nt' _ (λm=>hn.1 (aF _ m));have pa:=(dA.one (a1.upd (o:=.lst (insI y i xs)) nt' _ hlT)).append p2;have p1:=(g1.upd (o:=.lst (insI y i xs)) nt' _ (λm=>hn.1 (aZ _ m))).append pa;have e1:insI d1 i es=es.take (HT.ic es.length 0 (a_ i))++([d1]++es.drop (HT.ic es.length 0 (a_ i))):=rfl;have e2:insI y i xs=xs.take (HT.ic es.length 0 (a_ i))++([y]++xs.drop (HT.ic es.length 0 (a_ i))):=by unfold insI;rw[eix];rfl
  rw[e1];generalize hH:L2.upd H l (.lst (insI y i xs))=H2 at p1 ⊢;rw[e2];exact p1
 ·refine cv.mpr ⟨λm=>?_,ou nd2.1 (ou nt nd2.2.1 λb m m2=>dj b (jd _ (aF _ m2)) m) λb m m2=>?_⟩
  ·rcases aL.mp m with m|m
   ·exact hn.1 (aZ _ m)
   ·rcases aL.mp m with m|m
    ·exact hlT m
    ·exact hn.1 (aF _ m)
  ·rcases aL.mp m2 with m2|m2
   ·exact dj b (jd _ (aZ _ m)) m2
   ·exact nd2.2.2 b m m2
 ·rcases aq.mp m with rfl|m
  ·exact .inl iw
  ·rcases aL.mp m with m|m
   ·exact .inl (jd _ (aZ _ m))
   ·rcases aL.mp m with m|m
    ·exact .inr m
    ·exact .inl (jd _ (aF _ m))
def N8(hl:H l=a_ (.lst xs)):xO K H .clr (.lst []) (.ref l) [] (l::S') []:=
 ⟨l,_,.lst [],[l],rfl,iw,hl,rfl,trivial,⟨l,[],[],rfl,bh,⟨rfl,rfl⟩,rfl⟩,by simp,λb m=>by
  rcases aq.mp m with rfl|m
  ·exact .inl iw
  ·cases m⟩
def TQ(h:EM n i=a_ k):k<n:=(yM h).2.1
def N5{d1:Dat}(hl:H l=a_ (.lst xs))(os:dA K H es xs S')(nd:(l::S').Nodup)(a1:nP K H d1 y T)(nt:T.Nodup)(dj:∀a∈l::S',a∉T)(hz:-1000000<=i/\i<=1000000)(h2:EM es.length i=a_ k):xO K H .seti (.lst (es.set k d1)) (.ref l) [y,.int i] (l::S') T:=by
 have hn:=cv.mp nd;have nt':∀vs,H l≠a_ (.tup vs):=λvs z=>by rw[hl]at z;cases z
 have hlT:l∉T:=dj l iw;have elen:=os.length;obtain⟨S1,S2,S3,g1,g2⟩:=os.setAt a1 k (TQ h2);subst g2;have n1:=rY hn.2;have n2:=rY n1.1
 have hlN:l∉S1++T++S3:=λm=>by
  rcases aL.mp m with m|m
  ·rcases aL.mp m with m|m
   ·exact hn.1 (aZ _ (aZ _ m))
   ·exact hlT m
  ·exact hn.1 (aF _ m)
 refine⟨l,_,.lst (xs.set k y),l::(S1++T++S3),rfl,iw,hl,?_,trivial,⟨l,xs.set k y,S1++T++S3,rfl,bh,g1.upd nt' _ hlN,rfl⟩,?_,λb m=>?_⟩
 ·simp only[Gv,yE,yC,yD,yB];rw[if_pos hz];unfold uM;rw[elen,h2];rfl
 ·refine cv.mpr ⟨hlN,ou (ou n2.1 nt λb m=>dj b (jd _ (aZ _ (aZ _ m)))) n1.2.1 λb m m2=>?_⟩
  rcases aL.mp m with m|m
  ·exact n1.2.2 b (aZ _ m) m2
  ·exact dj b (jd _ (aF _ m2)) m
 ·rcases aq.mp m with rfl|m
  ·exact .inl iw
  ·rcases aL.mp m with m|m
   ·rcases aL.mp m with m|m
    ·exact .inl (jd _ (aZ _ (aZ _ m)))
    ·exact .inr m
   ·exact .inl (jd _ (aF _ m))
end
def JW{K:Fg}{T:List aE}{d1:Dat}(hl:H l=a_ (.dK k_))(os:dA K H ds (k_.map (·.2)) S')(nd:(l::S').Nodup)(a1:nP K H d1 y T)(nt:T.Nodup)(dj:∀a∈l::S',a∉T)(hz:(k_.map (·.1)).length<aD/\Ap k (k_.map (·.1))=c_) :
  xO K H .seti (.dct (putD k d1 (k_.map (·.1)) ds).1 (putD k d1 (k_.map (·.1)) ds).2) (.ref l) [y,kV k] (l::S') T:=by
 have hn:=cv.mp nd;have nt':∀vs,H l≠a_ (.tup vs):=λvs z=>by rw[hl]at z;cases z
 have hlT:l∉T:=dj l iw;have elen:ds.length=k_.length:=by have:=os.length;simpa using this.symm
 obtain⟨S2,g1,g2,g3⟩:=dA.put (k:=k) a1 nt k_ ds S' os hn.2 λa m=>dj a (jd _ m)
 have hlS:l∉S2:=λm=>by
  rcases g3 l m with z|z
  ·exact hn.1 z
  ·exact hlT z
 refine⟨l,_,.dK (rR k y k_),l::S2,rfl,iw,hl,?_,trivial,⟨l,rR k y k_,S2,rfl,bh,wN k_ ds elen,g1.upd nt' _ hlS,rfl⟩,cv.mpr ⟨hlS,g2⟩,λb m=>?_⟩
 ·simp only[Gv,yE,yC,yD,yB,Oi,au];rw[if_pos (by simpa using hz.1),Eh k_ hz.2]
 ·rcases aq.mp m with rfl|m
  ·exact .inl iw
  ·rcases g3 b m with z|z
   ·exact .inl (jd _ z)
   ·exact .inr z
set_option tactic.hygienic true in
def N6{K:Fg}{T:List aE}(h1:op≠.ext)(h2:op≠.dput)(h:lz op d ds=a_ d')(o:nP K H d v S)(nd:S.Nodup)(a:dA K H ds vs T)(nt:T.Nodup)(dj:∀a∈S,a∉T):xO K H op d' v vs S T:=by
 have hd:(∃es,d=.lst es)\/(op=.seti/\∃ks ws,d=.dct ks ws):=by
  cases d with
  |lst es=>exact .inl ⟨es,rfl⟩
  |dct ks ws=>cases op<;>first|exact absurd rfl h1|exact absurd rfl h2|exact .inr ⟨rfl,ks,ws,rfl⟩|cases h
  |dcn _=>cases op<;>first|exact absurd rfl h1|exact absurd rfl h2|cases h
  |exc _ _ _=>cases op<;>first|exact absurd rfl h1|exact absurd rfl h2|cases h
  |_=>cases op<;>cases h
 rcases hd with hd|⟨rfl,ks,ws,rfl⟩
 rotate_left
 ·obtain⟨l,k_,S',rfl,hl,rfl,os,rfl⟩:=o
  cases ds with
  |nil=>cases h
  |cons d1 ds=>
    cases ds with
    |nil=>cases h
    |cons d0 ds=>
      cases ds with
      |cons _ _=>cases h
      |nil=>
        simp only[lz,B7,B5,B4,B6,B2,B3]at h;obtain⟨k,hk,h⟩:=bS h;split at h
        ·rename_i hz;cases h;obtain⟨y,r,T1,T2,e,a1,a3,q⟩:=a;obtain⟨y0,r0,T0,T0',e0,a0,a2,q0⟩:=a3;obtain⟨rfl,rfl⟩:=a2
         have hy:y0=kV k/\T0=[]:=by
          cases d0 with
          |int i=>cases hk;exact a0
          |str x=>cases hk;exact a0
          |_=>cases hk
         obtain⟨rfl,rfl⟩:=hy;rw[bJ]at q0;subst e e0 q0;rw[bJ]at q;subst q;exact JW hl os nd a1 nt dj hz
        ·cases h
 obtain⟨es,rfl⟩:=hd;obtain⟨l,xs,S',rfl,hl,os,rfl⟩:=o
 cases op with
 |ext=>exact absurd rfl h1
 |dput=>exact absurd rfl h2
 |app=>
   cases ds with
   |nil=>cases h
   |cons d1 ds=>
     cases ds with
     |cons _ _=>cases h
     |nil=>
       obtain⟨y,r,T1,T2,e,a1,a2,q⟩:=a;obtain⟨rfl,rfl⟩:=a2;rw[bJ]at q;subst e q;simp only[lz,B7,B5,B4,B6,B2,B3]at h;split at h
       ·rename_i hz;cases h;exact N9 hl os nd a1 nt dj hz
       ·cases h
 |ins=>
   cases ds with
   |nil=>cases h
   |cons d0 ds=>
     cases ds with
     |nil=>cases d0<;>cases h
     |cons d1 ds=>
       cases ds with
       |cons _ _=>cases d0<;>cases h
       |nil=>
         cases d0 with
         |int i=>
           obtain⟨y0,r0,T0,T0',e0,a0,a3,q0⟩:=a;obtain⟨y,r,T1,T2,e,a1,a2,q⟩:=a3;obtain⟨rfl,rfl⟩:=a2;obtain⟨rfl,rfl⟩:=a0;rw[bJ]at q;subst e e0 q;rw[dq]at q0;subst q0;simp only[lz,B7,B5,B4,B6,B2,B3]at h;split at h
           ·rename_i hz;cases h;exact N7 hl os nd a1 nt dj hz
           ·cases h
         |_=>cases h
 |clr=>
   cases ds with
   |cons _ _=>cases h
   |nil=>
     obtain⟨rfl,rfl⟩:=a;cases h;exact N8 hl
 |seti=>
   cases ds with
   |nil=>cases h
   |cons d1 ds=>
     cases ds with
     |nil=>cases h
     |cons d0 ds=>
       cases ds with
       |cons _ _=>cases d0<;>cases h
       |nil=>
         cases d0 with
         |int i=>
           obtain⟨y,r,T1,T2,e,a1,a3,q⟩:=a;obtain⟨y0,r0,T0,T0',e0,a0,a2,q0⟩:=a3;obtain⟨rfl,rfl⟩:=a2;obtain⟨rfl,rfl⟩:=a0;rw[bJ]at q0;subst e e0 q0;rw[bJ]at q;subst q;simp only[lz,B7,B5,B4,B6,B2,B3]at h;split at h
           ·rename_i hz;obtain⟨es',g1,h⟩:=er h;cases h;unfold uM at g1;obtain⟨k,g2,g1⟩:=er g1;subst g1;exact N5 hl os nd a1 nt dj hz g2
           ·cases h
         |_=>cases h
section
variable{X:Cx}{K:Fg}
def KD{xa:Ex}(h:gF K C [xa,xb] σ H Q):gE K C xa σ H λx H1=>gE K C xb σ H1 λy H2=>Q [x,y] H2:=by
 obtain⟨ρ,ds,al,h,F,g,R,k⟩:=h;simp only[ni]at h;obtain⟨⟨d,fr⟩,h1,h⟩:=bS h;obtain⟨⟨r,ar⟩,h2,h⟩:=er h;cases h;obtain⟨⟨d2,fr2⟩,h3,h4⟩:=bS h2;cases h4;refine⟨ρ,d,fr,h1,F,g,R,λv F1 H1 st1 r1 f1=>⟨ρ,d2,fr2,h3,F1,st1.good,R.mono st1.ff,λw F2 H2 st2 r2 f2=>k [v,w] F2 H2 (st1.trans st2) ⟨v,[w],rfl,r1.mono st2.ff,w,[],rfl,r2,rfl⟩ λz=>?_⟩⟩;simp only[eY,n0,af]at z;refine fw.cons st1.hh st2.hh ?_ (fw.cons (H1:=H2) st2.hh (bN.refl _) ?_ .nil)
 ·rcases z.1 with z|z
  ·exact f1 z
  ·exact .jS st1.good z r1
 ·rcases z.2 with z|z
  ·exact f2 z
  ·exact .jS st2.good z r2
def ub(h:gE K C x σ H Q)(f:∀v H1,bN H H1->Q v H1->Q' v H1):gE K C x σ H Q':=by
 obtain⟨ρ,d,fr,h,F,g,R,k⟩:=h;exact⟨ρ,d,fr,h,F,g,R,λv F' H' st r fr=>f v H' st.hh (k v F' H' st r fr)⟩
def Ax(h:gJ C (.mut op i es) ρ=a_ out) :
  ∃ds d d',ni C es (full ρ)=a_ (ds,c_)/\ρ[i]?=a_ (a_ (d,c_))/\lz op d ds=a_ d'/\out=.nx (ρ.set i (a_ (d',c_))):=by
 obtain⟨⟨ds,al⟩,h3,h⟩:=bS h;have h:(if al=c_ then JX op i ρ ds (ρ[i]?).join else b_)=a_ out:=h;by_cases hal:al=c_
 ·rw[if_pos hal]at h;subst hal
  cases q:ρ[i]? with
  |none=>rw[q]at h;cases h
  |some z=>
    rw[q]at h
    match z,h with
    |some (d,c_),h=>
      obtain⟨d',h4,h5⟩:=er h;exact⟨ds,d,d',h3,rfl,h4,h5.symm⟩
 ·rw[if_neg hal]at h;cases h
def Aw(h1:op≠.ext)(h2:op≠.dput){D:Ends}(h:gS K C EE (.mut op i es) D σ H) :
  ∃l ob0,σ[i]?=a_ (a_ (.ref l))/\H l=a_ ob0/\(op≠.seti->∃xs,ob0=.lst xs)/\gF K C es σ H λvs H1=>∃ob ob',H1 l=a_ ob/\Gv op ob vs=a_ ob'/\D.nx σ (upd H1 l ob'):=by
 obtain⟨Fz,H₀,F,ρ,out,h,R,k⟩:=h;obtain⟨ds,d,d',h3,hi,h4,rfl⟩:=Ax h;obtain⟨Ss,O⟩:=R.ow;obtain⟨v,e1,e2,e3,e4⟩:=O.own i d hi
 have hdl:∃l ob0,v=.ref l/\H l=a_ ob0/\(op≠.seti->∃xs,ob0=.lst xs):=by
  cases d with
  |lst es=>
    obtain⟨l,xs,S',rfl,hl,os,eS⟩:=id e2;exact⟨l,_,rfl,hl,λ_=>⟨xs,rfl⟩⟩
  |dct ks ws=>
    obtain⟨l,k_,S',rfl,hl,_⟩:=id e2;refine⟨l,_,rfl,hl,λhne=>?_⟩
    cases op<;>first|exact absurd rfl h1|exact absurd rfl h2|exact absurd rfl hne|cases h4
  |dcn _=>cases op<;>first|exact absurd rfl h1|exact absurd rfl h2|cases h4
  |exc _ _ _=>cases op<;>first|exact absurd rfl h1|exact absurd rfl h2|cases h4
  |_=>cases op<;>cases h4
 obtain⟨l,ob0,rfl,hl,hlo⟩:=hdl;refine⟨l,ob0,e1,hl,hlo,E5 R h3 λvs F' H' T st ow nT hT=>?_⟩;have O':=O.moved st;have R':=R.moved st
 have dj:∀a∈Ss i,a∉T:=λa m m2=>by
  obtain⟨u,hu,_⟩:=e2.BN _ a m;rw[(hT a m2).1]at hu;cases hu
 obtain⟨l2,ob,ob',S2,ev,hl2,hob,hop,mu,o2,nd2,hS2⟩:=N6 h1 h2 h4 (e2.mono st.hh) e3 ow nT dj;cases ev;refine⟨ob,ob',hob,hop,k F' _ σ st.ff (R'.mut O' hi e1 hl2 mu o2 nd2 λa m=>?_)⟩
 rcases hS2 a m with m|m
 ·exact .inl m
 ·refine .inr ⟨(hT a m).2,R.step.hh.free (hT a m).1,λj d2 q m2=>?_⟩;obtain⟨w,_,g2,_⟩:=O.own j d2 q;obtain⟨u,hu,_⟩:=g2.BN _ a m2;rw[(hT a m).1]at hu;cases hu
def DY{st:i8}(h1:op≠.ext)(h2:op≠.dput)(h3:op≠.seti)(hr:∀l ob ob' vs H Q,H l=a_ ob->Gv op ob vs=a_ ob'->(∀u,Q u (upd H l ob'))->r (.ref l) vs H Q)
  (hm:PS X st (Qi (XX X.K "list" r (Iv i) (gF X.K C es)))):SS X C EE st (.mut op i es):=PS.imp hm λD σ H h=>by
 obtain⟨l,ob0,e1,hl,hlo,g⟩:=Aw h1 h2 h;obtain⟨xs,rfl⟩:=hlo h3;refine⟨.ref l,e1,.inl ⟨rfl,xs,pd.of hl⟩,?_⟩;obtain⟨ρ,ds,al,h,F,gg,R,k⟩:=g;exact⟨ρ,ds,al,h,F,gg,R,λvs F' H' st r f=>let ⟨ob,ob',q1,q2,q3⟩:=k vs F' H' st r f;hr l ob ob' vs H' _ q1 q2 λ_=>q3⟩
def Qm:V->V->V->Hp->(Hp->Prop)->Prop:=λo i v H Q=>∃p k_ k,o=.ref p/\i=kV k/\H p=a_ (.dK k_)/\k_.length<aD/\Q (upd H p (.dK (putK k_ k v)))
def MV(hu:X.A.units+1<cP):PM X (λo i v H Q=>Jm o i v H Q\/Qm o i v H Q):=λh_ s σ H o i v ov iv u Q I ro ri rv h=>by
 rcases h with h|⟨p,k_,k,rfl,rfl,hp,hz,q⟩
 ·exact set_list h_ s σ H o i v ov iv u Q I ro ri rv h
 ·cases ro;exact GW hu I (PR.k hp hz) ri rv λs' I'=>⟨_,I',q⟩
set_option tactic.hygienic true in
def ME{st:i8}(hm:PS X st (Cg (gE X.K C xe) (Ud (Iv i) (gE X.K C xi) (λo i v H Q=>Jm o i v H Q\/Qm o i v H Q)))):SS X C EE st (.mut .seti i [xe,xi]):=PS.imp hm λD σ H h=>by
 obtain⟨l,ob0,e1,hl,_,g⟩:=Aw (op:=.seti) (by simp) (by simp) h;have g2:=KD g;refine ub g2 λx H1 s1 g3=>⟨.ref l,e1,ub g3 λy H2 s2 g4=>?_⟩
 obtain⟨ob,ob',q1,q2,q3⟩:=g4
 cases ob with
 |lst ys=>
   cases y with
   |int k=>
     simp only[Gv,yE,yC,yD,yB]at q2;split at q2
     ·obtain⟨zs,q4,q5⟩:=er q2;cases q5;unfold uM at q4;obtain⟨j,q6,q7⟩:=er q4;subst q7;exact .inl ⟨l,ys,k,j,rfl,rfl,q1,q6,q3⟩
     ·cases q2
   |_=>cases q2
 |dK k_=>
   simp only[Gv,yE,yC,yD,yB]at q2;obtain⟨k,hk,q2⟩:=bS q2;split at q2
   ·rename_i hz;cases q2;exact .inr ⟨l,k_,k,rfl,TH hk,q1,hz,q3⟩
   ·cases q2
 |_=>cases q2
end
section
def Ed:V->List V->Hp->VK->Prop:=λx vs H Q=>∃l xs i y,x=.ref l/\vs=[.int i,y]/\H l=a_ (.lst xs)/\xs.length<aD/\-1000000<=i/\i<=1000000/\Q .non (upd H l (.lst (insI y i xs)))
def GB:MtM X "list.insert" Ed:=by
 intro h_ s σ H x vs v us Q I rx rv h;obtain⟨l,xs,i,y,rfl,rfl,hH,hz,hi1,hi2,q⟩:=h;cases rx;obtain⟨ui,u,rfl,rui,ru⟩:=vals2 rv;obtain⟨ti,rfl⟩:=rui;obtain⟨z,its,n,r,hl,e⟩:=I.WK hH
 have hfit:¬(!km i)=c_:=by
  have:km i=c_:=by
   unfold km;simp;omega
  rw[this];simp
 have ek:(if i<0 then(i+((its.toArray.size:Nat):Int)).toNat else min i.toNat its.toArray.size)=HT.ic xs.length 0 (a_ i):=by
  rw[aJ,<-hl];rfl
 refine mU vN ⟨_,e,rfl⟩ F.entry_list_insert (F.args_list_insert_3 _ _ _) (AutoListH.list_insert_list_int_val_1 l its.toArray n i ti u hfit (by rw[aJ];exact ae (aM hl.symm) z)) ⟨e,?_⟩;refine⟨.non,_,I.WL (its':=insI u i its) hH e ?_ ?_ ?_,rfl,q⟩
 ·dsimp only;rw[ek];unfold insI;rw[<-hl];simp;exact BH (by simp)
 ·unfold insI;rw[<-hl];exact(r.take _).append (.cons ru (r.drop _))
 ·unfold insI;have:=HT.IX xs.length 0 (bQ _) (a_ i);simp;omega
set_option tactic.hygienic true
def Ub:∀l ob ob' vs H(Q:VK),H l=a_ ob->Gv .app ob vs=a_ ob'->(∀u,Q u (upd H l ob'))->Ee (.ref l) vs H Q:=λl ob ob' vs H Q h1 h2 h3=>by
 cases ob with
 |lst xs=>
   cases vs with
   |nil=>cases h2
   |cons y vs=>
     cases vs with
     |cons _ _=>cases h2
     |nil=>
       simp only[Gv,yE,yC,yD,yB]at h2;split at h2
       ·rename_i hz;cases h2;exact⟨l,xs,y,rfl,rfl,h1,hz,h3 _⟩
       ·cases h2
 |_=>cases h2
def Ua:∀l ob ob' vs H(Q:VK),H l=a_ ob->Gv .ins ob vs=a_ ob'->(∀u,Q u (upd H l ob'))->Ed (.ref l) vs H Q:=λl ob ob' vs H Q h1 h2 h3=>by
 cases ob with
 |lst xs=>
   cases vs with
   |nil=>cases h2
   |cons y vs=>
     cases vs with
     |nil=>cases y<;>cases h2
     |cons z vs=>
       cases vs with
       |cons _ _=>cases y<;>cases h2
       |nil=>
         cases y with
         |int i=>
           simp only[Gv,yE,yC,yD,yB]at h2;split at h2
           ·rename_i hz;cases h2;exact⟨l,xs,i,z,rfl,rfl,h1,hz.1,hz.2.1,hz.2.2,h3 _⟩
           ·cases h2
         |_=>cases h2
 |_=>cases h2
set_option tactic.hygienic false
end
end M
namespace L2
open PySem PySem.Spec PyProof.Rows
section
variable{X:Cx}
def PS.kZ{st:i8}(h:PS X.kZ st t):PS X st t:=λh_ s σ H D I hw=>bE (h h_ s σ H D (I.n4 _) hw) (λ_ _ q=>q.iT) λ_ _ z=>bB z
def PA.kZ(h:PA X.kZ es t):PA X es t:=λpos h_ s σ H Q I hw=>bE (h pos h_ s σ H Q (I.n4 _) hw) (λ_ _ ⟨vs,H',I',r,q⟩=>⟨vs,H',I'.iT,r,q⟩) λ_ _ z=>bB z
def PI.kZ{iter:aV}(h:PI X.kZ tg iter t):PI X tg iter t:=λh_ s σ H R I hw=>bE (h h_ s σ H R (I.n4 _) hw) (λ_ _ q=>bE q (λ_ _ ⟨it,fp,tn,J,H',e,I',T,t0,fo,r⟩=>⟨it,fp,tn,J,H',e,I'.iT,T,t0,fo,r⟩) λ_ _ z=>bB z) λ_ _ z=>bB z
def PG.kZ(h:PG X.kZ tg t):PG X tg t:=λh_ s σ H v u Q I r hw=>bE (h h_ s σ H v u Q (I.n4 _) r hw) (λ_ _ ⟨σ',H',I',q⟩=>⟨σ',H',I'.iT,q⟩) λ_ _ z=>bB z
end
end L2
namespace M
open PySem PySem.Spec PyProof.Rows L2
def gLx(K:Fg)(g:List Dat->g_):List V->Hp->XK->Prop:=λvs H E=>∃ds d fr,g ds=a_ (d,fr)/\∃F,Good F H/\cj K F ds vs/\∀c f e v F' H' dx,qX d=a_ (.xc c f e)->xv e=a_ v->Step F H F' H'->H' dx=b_->E (.ref c) (a_ dx) (upd H' dx (.xd [(f,v)]))
def IJ(K:Fg)(n:Nat)(f g:List Dat->g_):Sp:=λvs H Q E=>vs.length=n/\(gL K f vs H Q\/gLx K g vs H E)
def KH{K:Fg}(h:xv d=a_ v)(r:Rep K F d w):w=v:=by
 cases d with
 |int i=>cases h;exact r
 |str x=>cases h;exact r
 |_=>cases h
section
variable{X:Cx}{st:i8}
def Rg{fI:aE}(hw:Fv X EE)(hcalm:X.calm=c_)(hg:Gl X x)(hm:X.mg x=a_ (.ref c))(q:uC X.K c fI=c_)(hd:(x == ("__debug__":a8))=d_)(F:jx X.prog X.w X.K X.mg X.base Fy k fI fd ["self",f] (uH c f))(hr:je (k+1) X.A)(hb:Binds X.K fd ["self",f] [])
  (ha:SA X.kZ C [e₀] [xe])(he:aG [e₀] X.env=[(d_,eval e₀ X.env)]):SS X C EE (.Raise (a_ (.Call (.Name x np) [e₀] [] cpos)) b_ pos) (.wL c f xe):=
 PS.imp (Js hw hcalm hg hm q hd F hr hb ha he) λD σ H z3=>by
  obtain⟨Fz,H₀,G,ρ,out,h,R,k⟩:=z3;obtain⟨⟨d,fr⟩,h1,h⟩:=bS h;obtain⟨v,h2,h⟩:=er h;cases h;obtain⟨Fp,sp,Rp⟩:=R.jX;refine⟨_,[d],by simp only[iB];rw[h1];rfl,Fp,Rp.step.good,Rp.full,λvs F' H' st r=>?_⟩;obtain⟨w,r',rfl,q1,e⟩:=r;cases e;exact⟨w,rfl,λdx hdx=>by rw[KH h2 q1];exact k v F' H' dx h2 (Rp.step.trans st) hdx⟩
set_option tactic.hygienic true in
def uD{j n:Nat}{xs:List Ex}{D:Ends}{σ:St}{H Fz H₀ F:Hp}{ρ:cX}{out:Out}{Q:VK}{mk:Dat×Bool->Out}(hn:xs.length=n)(h:(match bg C (.call j xs) (full ρ)with|some x=>a_ (mk x)|none=>(bg C (.call (j+o8) xs) (full ρ)).bind λx=>qX x.1)=a_ out)(R:Rl X.K Fz H₀ F H σ ρ)(k:qV X.K Fz H₀ F D EE out)
  (kq:∀d fr,out=mk (d,fr)->∀v Fp F' H',bN F Fp->Rl X.K Fz H₀ Fp H σ (pT ρ)->Step Fp H F' H'->Rep X.K F' d v->(fr=c_->gn X.K H H' d v)->Q v H') :
  Iz (IJ X.K n (C j) (C (j+o8))) [] EE (gA X.K C xs) σ H Q:=by
 obtain⟨Fp,sp,Rp⟩:=R.jX;have hcall:∀(g:Nat)(d:Dat)(fr:Bool),bg C (.call g xs) (full ρ)=a_ (d,fr)->∃ds,iB C xs (full ρ)=a_ ds/\C g ds=a_ (d,fr):=λg d fr h=>bS h;split at h
 ·rename_i x h1;obtain⟨d,fr⟩:=x;cases h;obtain⟨ds,h2,h3⟩:=hcall j d fr h1;refine⟨_,ds,h2,Fp,Rp.step.good,Rp.full,λvs F1 H1 st1 r1=>?_⟩;show IJ _ _ _ _ (vs++[]) H1 _ _;rw[bJ];exact⟨by rw[r1.length,kj h2,hn],.inl ⟨ds,d,fr,h3,F1,st1.good,r1,λv F2 H2 st2 r2 f2=>kq d fr rfl v Fp F2 H2 sp Rp (st1.trans st2) r2 λz=>(f2 z).back (F:=Fp) st1.hh⟩⟩
 ·obtain⟨⟨d,fr⟩,h1,h⟩:=bS h;obtain⟨ds,h2,h3⟩:=hcall _ d fr h1;refine⟨_,ds,h2,Fp,Rp.step.good,Rp.full,λvs F1 H1 st1 r1=>?_⟩;show IJ _ _ _ _ (vs++[]) H1 _ _;rw[bJ];refine⟨by rw[r1.length,kj h2,hn],.inr ⟨ds,d,fr,h3,F1,st1.good,r1,λc f e v F2 H2 dx q1 q2 st2 hdx=>?_⟩⟩;have h:qX d=a_ out:=h;rw[q1]at h;cases h;exact k v F2 H2 dx q2 (Rp.step.trans (st1.trans st2)) hdx
end
section
variable{X:Cx}
def Ri(F:jx X.prog X.w X.K X.mg X.base (tz X.prog X.w) k f fd ps (IJ X.K n (C j) (C (j+o8))))(hr:je k X.A)(hg:Gl X x)(hm:X.mg x=a_ (.ref f))(hk:de X.K (.ref f)=c_)(hb:Binds X.K fd ps [])(hx:oE (tz X.prog X.w) X EE)
  (ha:SA X.kZ C (e::es) xs)(hn:xs.length=n)(hdb:(x == ("__debug__":a8))=d_)(he:aG (e::es) X.env=(d_,eval e X.env)::aG es X.env)(hpl:(backTo cpos (aG es X.env)).any (·.1)=d_):SS X C EE (.Expr (.Call (.Name x p) (e::es) [] cpos) pos) (.OR j xs):=
 PS.imp (yu (yw F hr hg hm hk hb .nil hx (PA.kZ ha) hdb he hpl) rfl) λD σ H ⟨Fz,H₀,G,ρ,out,h,R,k⟩=>
  uD (mk:=λ_=>.nx ρ) hn h R k λd fr e v Fp F' H' sp Rp st r fq=>by
   subst e;have oO:=Step.shrink R.step.good sp st;exact k _ H' σ oO.ff (R.moved oO)
def Rf(F:jx X.prog X.w X.K X.mg X.base (tz X.prog X.w) k f fd ps (IJ X.K n (C j) (C (j+o8))))(hr:je k X.A)(hg:Gl X x)(hm:X.mg x=a_ (.ref f))(hk:de X.K (.ref f)=c_)(hb:Binds X.K fd ps [])(hx:oE (tz X.prog X.w) X EE)
  (ha:SA X.kZ C (e::es) xs)(hn:xs.length=n)(hdb:(x == ("__debug__":a8))=d_)(he:aG (e::es) X.env=(d_,eval e X.env)::aG es X.env)(hpl:(backTo cpos (aG es X.env)).any (·.1)=d_):SS X C EE (.Return (a_ (.Call (.Name x p) (e::es) [] cpos)) pos) (.Hu j xs):=
 PS.imp (CN (yw F hr hg hm hk hb .nil hx (PA.kZ ha) hdb he hpl)) λD σ H ⟨Fz,H₀,G,ρ,out,h,R,k⟩=>
  uD (mk:=λx=>.rt x.1 x.2) hn h R k λd fr e v Fp F' H' sp Rp st r fq=>by
   subst e;exact k v F' H' (Rp.step.trans st) r λz=>(fq z).back (F:=G) R.step.hh
end
section
variable{K:Fg}{base:bM}
def Ac{N ps:List a8}(g:Good Fz H)(r:cj K Fz ds vs)(hl:vs.length=ps.length)(hn:ds.length=ps.length)(hNp:ps.length<=N.length) :
  Rl K Fz H Fz H (L2.start N vs) (ds.map (λd=>a_ (d,d_))++be (N.length - ps.length) b_):=by
 refine⟨Step.refl g,?_,λi d' q=>?_,λ_=>[],λi d' q=>?_,λi j d1 d2 hij q1 q2=>?_⟩
 ·unfold L2.start;simp[hl,hn]
 ·have hi:i<ds.length:=by
   by_cases hi:i<ds.length
   ·exact hi
   ·rw[dn (by simpa using hi),fi]at q;split at q<;>cases q
  rw[cG (by simpa using hi),aY]at q;obtain⟨d2,e1,e2⟩:=er q;cases e2;obtain⟨v,e3,e4⟩:=r.get e1;refine⟨v,?_,e4⟩;unfold L2.start;rw[cG (by simp;exact ae hi (ae (aM hn) (aM hl.symm))),aY,e3];rfl
 ·exfalso;by_cases hi:i<ds.length
  ·rw[cG (by simpa using hi),aY]at q;obtain⟨d2,e1,e2⟩:=er q;cases e2
  ·rw[dn (by simpa using hi),fi]at q;split at q<;>cases q
 ·intro a m;cases m
set_option tactic.hygienic true in
def Uh{st:i8}(F:Z5 K x qual st f fd)(S:o4 N ps (cV st))(hNp:ps.length<=N.length)
  (hbody:∀(cdv:ak)(A:cm)(outer:List HI)(s:aw)(H:Hp)(E:XK),je k (A.deeper (envOfC qual (cV st) s.heap.objs.size f cdv))->
   Hx (mJ (tz P w) P w K mg base N qual (cV st) f cdv A outer s H E) C E (jj st) body) :
  jx P w K mg base (tz P w) (k+1) f fd ps (IJ K ps.length (GU C ps.length N.length body) (KY C ps.length N.length body)):=by
 obtain⟨oc,od,kV,doc,pm,an,cdv,ct,osl,rfl,lk,hcd⟩:=F.ex;refine Qy lk hcd S (λvs H Q E h=>h.1) λA outer s H vs Q E hr h=>⟨_,hbody cdv A outer s H E hr,?_⟩
 obtain⟨hl,h|h⟩:=h
 ·obtain⟨ds,d,fr,he,Fz,g,r,kq⟩:=h;unfold GU at he;split at he
  ·rename_i hn;obtain⟨o,ho,he⟩:=bS he;refine⟨Fz,H,Fz,_,o,ho,Ac g r hl hn hNp,?_⟩
   cases o with
   |nx ρ'=>cases he;exact λF' H' σ' s' R=>kq _ F' H' R.step rfl aT
   |rt d2 f2=>cases he;exact λv F' H' st r f=>kq v F' H' st r f
   |_=>cases he
  ·cases he
 ·obtain⟨ds,d,fr,he,Fz,g,r,kq⟩:=h;unfold KY at he;split at he
  ·rename_i hn;obtain⟨o,ho,he⟩:=bS he;refine⟨Fz,H,Fz,_,o,ho,Ac g r hl hn hNp,?_⟩
   cases o with
   |xc c f e=>
     cases he;exact λv F' H' dx q1 st q2=>kq c f e v F' H' dx rfl q1 st q2
   |_=>cases he
  ·cases he
def _root_.L2.jx.calm(F:jx P w K mg base (tz P w) k f fd ps (IJ K n g g')):jx P w K mg base Fy k f fd ps (Vk K n g):=
 ⟨λvs H Q E h=>F.len vs H Q E0 ⟨h.1,.inl h.2⟩,λA outer s H args us vs Q E hr e0 hb hv h=>gQ (F.run A outer s H args us vs Q E0 hr e0 hb hv ⟨h.1,.inl h.2⟩) λr s' hq=>by
  cases r with
  |error e=>
    obtain⟨_,_,_,_,_,_,_,_,_,z⟩:=hq;exact bB z
  |ok fl=>cases fl<;>exact hq⟩
end
noncomputable def WU(tab:List (Nat×Bool)):Dat->g_
 |.exc c _ _=>(tab.lookup c).map λb=>(.bl b,d_)
 |_=>b_
def Ex.Dd(tab:List (Nat×Bool))(a:Ex):Ex:=⟨a.fv,λC ρ=>(bg C a ρ).bind λx=>WU tab x.1⟩
section
variable{X:Cx}{C:Fs}{a:aV}{xa:Ex}
def YL(K:Fg)(tab:List (Nat×Bool))(vc:V):List V->Hp->VK->Prop:=λxs H Q=>∃c f k F v b,xs=[v,vc]/\Good F H/\Rep K F (.exc c f k) v/\tab.lookup c=a_ b/\Q (.bl b) H
def By(K:Fg)(tab:List (Nat×Bool))(u:ak):Prop:=∀c b,tab.lookup c=a_ b->vS K c=c_/\lp K (.ref c) u=a_ b
def Lg(hu:∀w,RelV vc w->w=u)(ht:By X.K tab u):ju X (.builtin "isinstance") (YL X.K tab vc):=λh_ s σ H xs us Q I r h=>by
 obtain⟨c,f,k,F,v,b,rfl,g,⟨p,dx,rfl,hF,hD⟩,hb,q⟩:=h;obtain⟨u1,w,rfl,ru,rw'⟩:=vals2 r;obtain rfl:=hu w rw';obtain rfl:u1=.ref p:=ru;obtain⟨h1,h2⟩:=ht _ _ hb;exact fe (Kc h1) I.tJ (I.hok p _ (g.sub _ _ hF)).1 h2 (λz=>nomatch z) λtk=>⟨.bl _,H,I.tok tk,rfl,q⟩
def AV(h:gE X.K C (.Dd tab xa) σ H Q):gE X.K C xa σ H λv H1=>∃c f k F b,Good F H1/\Rep X.K F (.exc c f k) v/\tab.lookup c=a_ b/\∀F' H',Step F H1 F' H'->Q (.bl b) H':=by
 obtain⟨ρ,d,fr,h,F,g,R,k⟩:=h;obtain⟨⟨da,fa⟩,h3,h2⟩:=bS h;have h2:WU tab da=a_ (d,fr):=h2
 cases da with
 |exc c f key=>
   obtain⟨b,hb,h2⟩:=er h2;cases h2;exact⟨ρ,_,fa,h3,F,g,R,λv F1 H1 st r _=>⟨c,f,key,F1,b,st.good,r,hb,λF' H' st'=>k _ F' H' (st.trans st') rfl aT⟩⟩
 |_=>cases h2
def IU(hg:Gl X "isinstance")(hm:X.mg "isinstance"=b_)(hc:PE X (.Name x p2) (tC vc))(hu:∀w,RelV vc w->w=u)(ht:By X.K tab u)(ha:SE X C a xa)
  (he:aG [a,.Name x p2] X.env=(d_,eval a X.env)::aG [.Name x p2] X.env)(hpl:(backTo pos (aG [.Name x p2] X.env)).any (·.1)=d_) :
  SE X C (.Call (.Name "isinstance" p) [a,.Name x p2] [] pos) (.Dd tab xa):=
 PE.imp (qH (Lg hu ht) hg hm (by decide +kernel:bootBuiltins "isinstance"=a_ (.builtin "isinstance")) (kT ha (kT hc rV) he) bG bG he hpl) λσ H Q h=>by
  obtain⟨ρ,d,fr,h1,F,g,R,k⟩:=AV h;exact⟨ρ,d,fr,h1,F,g,R,λv F1 H1 st r f=>let ⟨c,f,key,F2,b,g2,r2,hb,q⟩:=k v F1 H1 st r f;⟨c,f,key,F2,v,b,rfl,g2,r2,hb,q F2 H1 (Step.refl g2)⟩⟩
def YN(K:Fg)(tab:List (Nat×Bool))(vcs:List V):List V->Hp->VK->Prop:=λxs H Q=>∃c f k F v b tp,xs=[v,.ref tp]/\Good F H/\Rep K F (.exc c f k) v/\H tp=a_ (.tup vcs)/\tab.lookup c=a_ b/\Q (.bl b) H
def TabsOk(K:Fg)(tab:List (Nat×Bool))(us:List ak):Prop:=∀c b,tab.lookup c=a_ b->vS K c=c_/\HC K (.ref c) us=a_ b
def Lh(hu:∀ws,bW vcs ws->ws=us)(ht:TabsOk X.K tab us):ju X (.builtin "isinstance") (YN X.K tab vcs):=λh_ s σ H xs vs Q I r h=>by
 obtain⟨c,f,k,F,v,b,tp,rfl,g,⟨p,dx,rfl,hF,hD⟩,hT,hb,q⟩:=h;obtain⟨u1,w,rfl,ru,rw'⟩:=vals2 r;obtain rfl:u1=.ref p:=ru;obtain rfl:w=.ref tp:=rw';obtain⟨h1,h2⟩:=ht _ _ hb;obtain⟨_,its,rv,o,e1,e2,n,e3⟩:=I.hok tp _ hT;obtain rfl:=hu its rv;obtain⟨oc,od,dt,sl⟩:=o;dsimp only at e2 e3;subst e2 e3;exact PySem.W.kia_tup (Kc h1) I.tJ (I.hok p _ (g.sub _ _ hF)).1 e1 h2 (λz=>nomatch z) λtk=>⟨.bl _,H,I.tok tk,rfl,q⟩
def RG{kx}{vcs:List V}(hz:vcs.length<=aD)(hg:Gl X "isinstance")(hm:X.mg "isinstance"=b_)(hc:PA X es (λ_ H Q=>Q vcs H))(hu:∀ws,bW vcs ws->ws=us)(ht:TabsOk X.K tab us)(ha:SE X C a xa)
  (he:aG [a,.Tuple es kx p2] X.env=(d_,eval a X.env)::aG [.Tuple es kx p2] X.env)(he2:aG [.Tuple es kx p2] X.env=(d_,eval (.Tuple es kx p2) X.env)::aG [] X.env)(hpl:(backTo pos (aG [.Tuple es kx p2] X.env)).any (·.1)=d_) :
  SE X C (.Call (.Name "isinstance" p) [a,.Tuple es kx p2] [] pos) (.Dd tab xa):=
 PE.imp (qH (Lh hu ht) hg hm (by decide +kernel:bootBuiltins "isinstance"=a_ (.builtin "isinstance")) (kT ha (kT (JB hc) rV he2) he) bG bG he hpl) λσ H Q h=>by
  obtain⟨ρ,d,fr,h1,F,g,R,k⟩:=AV h;refine⟨ρ,d,fr,h1,F,g,R,λv F1 H1 st r f=>?_⟩;obtain⟨c,fl,key,F2,b,g2,r2,hb,q⟩:=k v F1 H1 st r f;refine⟨hz,λtp hp=>?_⟩;have st':Step F2 H1 (upd F2 tp (.tup vcs)) (upd H1 tp (.tup vcs)):=Step.alloc g2 hp;exact⟨c,fl,key,_,v,b,tp,rfl,st'.good,Rep.mono st'.ff _ r2,bh,hb,q _ _ st'⟩
noncomputable def kD:Key->Dat
 |.inl i=>.int i
 |.inr x=>.str x
def TK{K:Fg}(k:Key):Rep K F (kD k) (kV k):=by cases k<;>rfl
def Oj(r:RelV (kV k) u):PySem.W.handedIn u=c_:=by
 cases k with
 |inl i=>obtain⟨t,rfl⟩:=r;rfl
 |inr x=>obtain⟨t,rfl⟩:=r;rfl
def XC(cs:List Nat)(f:a8):Dat->g_
 |.exc c g k=>if c∈cs/\g=f then a_ (kD k,d_)else b_
 |_=>b_
def Ex.Bx(cs:List Nat)(f:a8)(a:Ex):Ex:=⟨a.fv,λC ρ=>(bg C a ρ).bind λx=>XC cs f x.1⟩
def Sk(he:PE X e ta)(hb:attributeBase e f X.env (eval e X.env)=eval e X.env):PE X (.Attribute e f pos) (λσ H Q=>ta σ H λv H1=>∃a c dx k,v=.ref a/\H1 a=a_ (.ext (XO a c dx))/\H1 dx=a_ (.xd [(f,kV k)])/\zM X.K c f=c_/\Q (kV k) H1):=by
 intro h_ s σ H Q I h;refine PF hb (hZ (he h_ s σ H _ I h) λu s1 ⟨x,H1,I1,rx,a,c,dx,k,ex,ea,ed,hf,q⟩=>?_);subst ex;obtain rfl:u=bI a:=rx;obtain⟨mA,hn,rel⟩:=I1.hok dx _ ed;have rf:=rel f;rw[cy,beq_self_eq_true]at rf;obtain⟨hh,g,d,t,os⟩:=s1
 cases hu:mA f with
 |none=>rw[hu]at rf;exact bB rf
 |some w=>
   rw[hu]at rf;exact Mn I1.tJ hf (I1.hok a _ ea).1 hn.ns hu (Oj rf) ⟨kV k,H1,I1.tok _,rf,q⟩
def RK(hcs:∀c∈cs,zM X.K c f=c_)(he:SE X C a xa)(hb:attributeBase a f X.env (eval a X.env)=eval a X.env):SE X C (.Attribute a f pos) (.Bx cs f xa):=
 PE.imp (Sk he hb) λσ H Q z3=>by
  obtain⟨ρ,d,fr,h,F,g,R,k⟩:=z3;obtain⟨⟨da,fa⟩,h3,h2⟩:=bS h;have h2:XC cs f da=a_ (d,fr):=h2
  cases da with
  |exc c g' key=>
    have h4:(if c∈cs/\g'=f then a_ (kD key,d_)else b_)=a_ (d,fr):=h2;clear h2 h;by_cases hc:c∈cs/\g'=f
    ·rw[if_pos hc]at h4;cases h4;obtain⟨hc,rfl⟩:=hc;refine⟨ρ,_,fa,h3,F,g,R,λv F1 H1 st r _=>?_⟩;obtain⟨p,dx,rfl,hF,hD⟩:=r;exact⟨p,c,dx,key,rfl,st.good.sub _ _ hF,st.good.sub _ _ hD,hcs c hc,k _ F1 H1 st (TK key) aT⟩
    ·rw[if_neg hc]at h4;cases h4
  |_=>cases h2
end
def DT:Dat->g_
 | .tup l=>match l with
   |[.int c,.str f,d]=>(oz d).map λk=>(.exc c.toNat f k,c_)
   |_=>b_
 |_=>b_
def Ex.zN(j:Nat)(xs:List Ex):Ex:=⟨OM xs,λC ρ=>(bg C (.call (j+o8) xs) ρ).bind λx=>DT x.1⟩
noncomputable def Q3(y m:Nat)(ok:List Nat)(ρ:cX)(fr:Bool):Dat->Option Out
 |.exc c f k=>if c∈ok then a_ (.nx ((ρ.set y (a_ (.exc c f k,fr))).set m b_))else b_
 |_=>b_
def Sx.Qg(i j:Nat)(xs:List Ex)(y m:Nat)(ok:List Nat):Sx:={ ex:=λC ρ=>match pY C (.call j xs) ρ with
 |some x=>a_ (.nx (x.2.2.set i (a_ (x.1,x.2.1 && !im x.1))))
 |none=>(pY C (.zN j xs) ρ).bind λx=>Q3 y m ok x.2.2 x.2.1 x.1 }
def Rl.MW{K:Fg}(m:Nat)(R:Rl K Fz H₀ F H σ ρ):Rl K Fz H₀ F H (σ.set m b_) (ρ.set m b_):=by
 obtain⟨Ss,O⟩:=R.ow;refine⟨R.step,by simpa using R.len,λj d' q=>?_,Ss,λj d' q=>?_,λj k d1 d2 hjk q1 q2=>?_⟩
 ·rcases fK q with⟨rfl,e⟩|⟨hne,q'⟩
  ·cases e
  ·obtain⟨w,g1,g2⟩:=R.val j d' q';exact⟨w,by rw[cD hne];exact g1,g2⟩
 ·rcases fK q with⟨rfl,e⟩|⟨hne,q'⟩
  ·cases e
  ·obtain⟨w,g1,g2⟩:=O.own j d' q';exact⟨w,by rw[cD hne];exact g1,g2⟩
 ·rcases fK q1 with⟨_,e⟩|⟨_,q1'⟩
  ·cases e
  ·rcases fK q2 with⟨_,e⟩|⟨_,q2'⟩
   ·cases e
   ·exact O.sep j k d1 d2 hjk q1' q2'
def Io(h:DT d=a_ (e,fr)):∃c f x k,qX d=a_ (.xc c f x)/\oz x=a_ k/\e=.exc c f k/\fr=c_:=by
 unfold DT at h;split at h
 ·split at h
  ·obtain⟨k,h1,h2⟩:=er h;cases h2;exact⟨_,_,_,k,rfl,h1,rfl,rfl⟩
  ·cases h
 ·cases h
def KI(h:oz d=a_ k)(h':xv d=a_ v):v=kV k:=by
 cases d with
 |int i=>cases h;cases h';rfl
 |str x=>cases h;cases h';rfl
 |_=>cases h'
section
variable{X:Cx}{xs:List Ex}
set_option tactic.hygienic true in
def Ij(hmy:m≠y)(hn:xs.length=n)(hok:∀c∈ok,gC X.K (.ref c) (.ref CD)=a_ c_) :
  ∀D σ H,gS X.K C EE (.Qg i j xs y m ok) D σ H->VM X.K (IJ X.K n (C j) (C (j+o8))) CD i y m (gA X.K C xs) D σ H:=λD σ H z3=>by
 obtain⟨Fz,H₀,F,ρ,out,h,R,k⟩:=z3;have hcall:∀(g:Nat)(ρe:fP)(d:Dat)(fr:Bool),bg C (.call g xs) ρe=a_ (d,fr)->∃ds,iB C xs ρe=a_ ds/\C g ds=a_ (d,fr):=λg ρe d fr h=>bS h;have h:(match pY C (.call j xs) ρ with|some x=>a_ (Out.nx (x.2.2.set i (a_ (x.1,x.2.1 && !im x.1))))|none=>(pY C (.zN j xs) ρ).bind λx=>Q3 y m ok x.2.2 x.2.1 x.1)=a_ out:=h;split at h
 ·rename_i x h1;obtain⟨d,fr,ρ'⟩:=x;cases h;obtain⟨ρe,e1,Fe,ge,Re,ke⟩:=rK (X:=X) (D:=D) (i:=i) R h1 k;obtain⟨ds,e2,e3⟩:=hcall j ρe d fr e1;refine⟨ρe,ds,e2,Fe,ge,Re,λvs F1 H1 st1 r1=>⟨by rw[r1.length,kj e2,hn],.inl ⟨ds,d,fr,e3,F1,st1.good,r1,λv F2 H2 st2 r2 f2=>?_⟩⟩⟩;exact ke v F2 H2 (st1.trans st2) r2 λz=>(f2 z).back (F:=Fe) st1.hh
 ·obtain⟨⟨d,fr,ρ'⟩,h1,h⟩:=bS h
  cases d with
  |exc c f key=>
    have h:(if c∈ok then a_ (Out.nx ((ρ'.set y (a_ (.exc c f key,fr))).set m b_))else b_)=a_ out:=h;split at h
    ·rename_i hc;cases h
     have k2:qV X.K Fz H₀ F { D with nx:=λσ' H'=>D.nx (σ'.set m b_) H' } EE (.nx (ρ'.set y (a_ (.exc c f key,fr && !im (.exc c f key))))):=λF' H' σ' s' R'=>by
      have e:(fr && !im (.exc c f key))=fr:=by simp[im]
      rw[e]at R';exact k F' H' _ s' (R'.MW m)
     obtain⟨ρe,e1,Fe,ge,Re,ke⟩:=rK (X:=X) (D:={ D with nx:=λσ' H'=>D.nx (σ'.set m b_) H' }) (i:=y) R h1 k2;obtain⟨⟨dt,ft⟩,e4,e5⟩:=bS e1;obtain⟨ds,e2,e3⟩:=hcall _ ρe _ _ e4;obtain⟨c',f',x,k',z1,z2,z3,rfl⟩:=Io (show DT dt=_ from e5);cases z3;refine⟨ρe,ds,e2,Fe,ge,Re,λvs F1 H1 st1 r1=>⟨by rw[r1.length,kj e2,hn],.inr ⟨ds,_,ft,e3,F1,st1.good,r1,λc2 f2 x2 v F2 H2 dx q1 q2 st2 hdx=>?_⟩⟩⟩;rw[z1]at q1;cases q1;obtain rfl:=KI z2 q2;refine⟨c,dx,rfl,rfl,hok c hc,λa ha=>?_⟩;have had:a≠dx:=λz=>by subst z;rw[bh]at ha;cases ha
     have st3:=(st2.trans (Step.alloc (o:=.xd [(f,kV key)]) st2.good hdx))
     have st4:=st3.trans (Step.alloc (o:=.ext (XO a c dx)) st3.good ha);have e6:upd (upd H2 dx (HO.xd [(f,kV key)])) a (.ext (XO a c dx)) dx=a_ (.xd [(f,kV key)]):=by rw[bq had.symm,bh]
     have e7:upd (upd F2 dx (HO.xd [(f,kV key)])) a (.ext (XO a c dx)) dx=a_ (.xd [(f,kV key)]):=by rw[bq had.symm,bh]
     have na:H2 a=b_:=by rw[bq had]at ha;exact ha
     have q:=ke (.ref a) _ _ (st1.trans st4) ⟨a,dx,rfl,bh,e7⟩ λ_=>⟨[a,dx],by simp[had],λb hb=>?_,a,dx,rfl,bh,e6,rfl⟩
     ·have es:((σ.set m (a_ (V.ref a))).set y (a_ (.ref a))).set m b_=(σ.set y (a_ (.ref a))).set m b_:=by
       rw[List.set_comm _ _ hmy,List.set_set]
      show D.nx (((σ.set m (a_ (V.ref a))).set y (a_ (.ref a))).set m b_) _;rw[es];exact q
     ·rcases aq.mp hb with rfl|hb
      ·exact(st1.trans st2).hh.free na
      ·rw[aQ.mp hb];exact(st1.trans st2).hh.free hdx
    ·cases h
  |_=>cases h
end
section
variable{X:Cx}
def CH(bs:List Bool):((aP bs.length).any λi=>(bs[i]?).getD d_)=bs.any id:=by
 rw[vH,nE,nE];constructor
 ·rintro⟨i,hi,h⟩;have hi':=aR.mp hi;rw[ao hi',fD]at h;exact⟨_,bA hi',h⟩
 ·rintro⟨b,hb,h⟩;obtain⟨i,hi,rfl⟩:=jh hb;exact⟨i,aR.mpr hi,by rw[ao hi];exact h⟩
def Hb(hcalm:X.calm=c_):ju X (.builtin "any") (gL X.K (dG .any)):=λh_ s σ H xs us Q I r h=>by
 obtain⟨da,d,fr,F,v,h1,rfl,g,rv,k⟩:=pR lD h
 cases da with
 |lst ds=>
   simp only[dG,b1,sG,mO,sE,sC,bL,Hf,sH,sD]at h1;obtain⟨bs,hb,h1⟩:=er h1;cases h1;obtain⟨p,vs,rfl,t,r'⟩:=rv;obtain⟨its,w1,pl,_⟩:=I.lstR g t;obtain⟨u,rfl,ru⟩:=vals1 r;cases ru;have ei:=oZ hb r' w1;have hlt:=pl.lt;refine call_any_walk (kr pl.isList ?_)
   refine⟨s.heap.objs.size,[s.heap.objs.size,p],[s.heap.objs.size],its.toArray.size,_,_,λi=>(bs[i]?).getD d_,rfl,FG (A:=X.A.in1) (I.ok.hd hcalm) _ p (bc hlt) its.toArray,
    ⟨⟨_,aK _ rfl,rfl,rfl⟩,pl.isList.push _⟩,λi v s' Q' E' hP hQ=>?_,λh' tk hk=>?_⟩
   ·subst ei;have hP':(bs.map j8)[i]?=a_ v:=by simpa using hP
    rw[aY]at hP'
    cases hi:bs[i]? with
    |none=>rw[hi]at hP';cases hP'
    |some b=>
      rw[hi]at hP';cases hP';simp only[hi,fD]at hQ;exact dh hQ
   ·have e1:its.toArray.size=bs.length:=by rw[ei];simp
    rw[e1,CH];exact⟨.bl _,H,I.kept (w5 hk),rfl,k _ F H (Step.refl g) rfl aT⟩
 |_=>cases h1
end
section
variable{X:Cx}{K:Fg}{H:Hp}
def _root_.L2.Inv.noNT(I:Inv X h_ σ H s)(g:Good F H)(h:F a=a_ (.dN xs))(h':Tq X.K F a ws):False:=by
 obtain⟨_,_,o,es,ep,h1,h2,_⟩:=I.hok a _ (g.sub _ _ h);obtain⟨its,_,⟨o',h3,h4,_⟩,_⟩:=I.tupR g h';rw[h1]at h3;cases h3;rw[h2.1]at h4;exact absurd (nv h4) bG
def _root_.L2.Inv.noXT(I:Inv X h_ σ H s)(g:Good F H)(h:F a=a_ (.ext (XO a c dx)))(h':Tq X.K F a ws):False:=by
 obtain⟨⟨o,h1,h2,_⟩,_,_⟩:=I.hok a _ (g.sub _ _ h);obtain⟨its,_,⟨o',h3,h4,_⟩,_⟩:=I.tupR g h';rw[h1]at h3;cases h3;rw[h2]at h4;cases h4
def _root_.L2.Inv.noXL(I:Inv X h_ σ H s)(g:Good F H)(h:F a=a_ (.ext (XO a c dx)))(h':pd X.K F a ws):False:=by
 obtain⟨⟨o,h1,h2,_⟩,_,_⟩:=I.hok a _ (g.sub _ _ h);obtain⟨its,_,pl,_⟩:=I.lstR g h';obtain⟨o',h3,h4,_⟩:=pl.isList;rw[h1]at h3;cases h3;rw[h2]at h4;cases h4
def _root_.L2.Inv.xinj(I:Inv X h_ σ H s)(g:Good F H)(h:F a=a_ (.ext (XO a c dx)))(h':F a=a_ (.ext (XO a c' dx'))):c=c'/\dx=dx':=by
 obtain⟨⟨o,h1,h2,h3,_⟩,_,_⟩:=I.hok a _ (g.sub _ _ h);obtain⟨⟨o',k1,k2,k3,_⟩,_,_⟩:=I.hok a _ (g.sub _ _ h');rw[h1]at k1;cases k1;rw[h2]at k2;cases k2;rw[h3]at k3;cases k3;exact⟨rfl,rfl⟩
def _root_.L2.Inv.noNL(I:Inv X h_ σ H s)(g:Good F H)(h:F a=a_ (.dN xs))(h':pd X.K F a ws):False:=by
 obtain⟨_,_,o,es,ep,h1,h2,_⟩:=I.hok a _ (g.sub _ _ h);obtain⟨its,_,pl,_⟩:=I.lstR g h';obtain⟨o',h3,h4,_⟩:=pl.isList;rw[h1]at h3;cases h3;rw[h2.1]at h4;exact absurd (nv h4) bG
theorem wY:∀{ds:List Dat}{q:List Key}{vs:List V},EL ds=a_ q->cj K F ds vs->vs=q.map kV
 |[],_,_,h,r=>by cases h;exact r
 |d::ds,_,_,h,z4=>by
   obtain⟨v,w,e,h1,h2⟩:=z4;simp only[EL]at h;obtain⟨k,hk,h⟩:=bS h;obtain⟨q,hq,h⟩:=er h;cases h;subst e;rw[ah,<-wY hq h2]
   congr 1
   cases d with
   |int i=>cases hk;exact h1
   |str x=>cases hk;exact h1
   |_=>cases hk
theorem EB:∀{ds:List Dat}{q:List N2}{vs:List V},Vn ds=a_ q->cj K F ds vs->L7 K F q vs
 |[],_,_,h,r=>by cases h;exact r
 |d::ds,_,_,h,z4=>by
   obtain⟨v,w,e,h1,h2⟩:=z4;simp only[Vn]at h;obtain⟨k,hk,h⟩:=bS h;obtain⟨q,hq,h⟩:=er h;cases h;subst e;have ih:=EB hq h2
   cases d with
   |int i=>cases hk;cases h1;exact⟨w,rfl,ih⟩
   |str x=>cases hk;cases h1;exact⟨w,rfl,ih⟩
   |tup es=>
     simp only[YW]at hk;obtain⟨q2,hq2,hk⟩:=er hk;cases hk;obtain⟨a,vs,rfl,t,r⟩:=h1;rw[wY hq2 r]at t;exact⟨a,w,rfl,t,ih⟩
   |_=>cases hk
theorem Ey:∀{ds:List Dat}{q:List NK}{vs:List V},WE ds=a_ q->cj K F ds vs->L6 K F q vs
 |[],_,_,h,r=>by cases h;exact r
 |d::ds,_,_,h,z4=>by
   obtain⟨v,w,e,h1,h2⟩:=z4;simp only[WE]at h;obtain⟨k,hk,h⟩:=bS h;obtain⟨q,hq,h⟩:=er h;cases h;subst e;have ih:=Ey hq h2
   cases d with
   |int i=>cases hk;cases h1;exact⟨w,rfl,ih⟩
   |str x=>cases hk;cases h1;exact⟨w,rfl,ih⟩
   |tup es=>
     simp only[YU]at hk;obtain⟨q2,hq2,hk⟩:=er hk;cases hk;obtain⟨a,vs,rfl,t,r⟩:=h1;exact⟨a,w,vs,rfl,t,EB hq2 r,ih⟩
   |_=>cases hk
def yH(h:Au da=a_ k)(r:Rep K F da v):∃a,v=.ref a/\Hz K F k a:=by
 cases da with
 |tup ds=>
   obtain⟨a,vs,rfl,t,r⟩:=r;exact⟨a,rfl,vs,t,Ey h r⟩
 |_=>cases h
theorem EO:∀{q:List Key}{us:List ak},bW (q.map kV) us->∀h:bM,zr (GL X.prog X.w) h q us
 |[],_,w,_=>by cases w;exact .nil
 |k::q,_,w,h=>by
   cases w with
   |cons a b=>exact .cons (sX a) (EO b h)
theorem rX(I:Inv X h_ σ H s)(g:Good F H):∀{k:List N2}{vs:List V}{us:List ak},L7 X.K F k vs->bW vs us->zr (i2 X.prog X.w) s.heap k us
 |[],_,_,h,w=>by rw[show _=[]from h]at w;cases w;exact .nil
 |.inl k::ks,_,_,h,w=>by
   obtain⟨r,e,h⟩:=h;subst e
   cases w with
   |cons q w=>exact .cons (I:=i2 X.prog X.w) (k:=.inl k) (sX q) (rX I g h w)
 |.inr q::ks,_,_,h,w=>by
   obtain⟨b,r,e,t,h⟩:=h;subst e
   cases w with
   |cons q2 w=>
     refine .cons (I:=i2 X.prog X.w) (k:=.inr q) ?_ (rX I g h w);cases(show _=bI b from q2);obtain⟨its,w1,⟨o,h1,h2,n,h3⟩,_⟩:=I.tupR g t;exact⟨b,rfl,o,its.toArray,n,h1,h2,h3,by simpa using EO (X:=X) w1 s.heap⟩
theorem rW(I:Inv X h_ σ H s)(g:Good F H):∀{k:List NK}{vs:List V}{us:List ak},L6 X.K F k vs->bW vs us->Ve X.prog X.w s.heap k us
 |[],_,_,h,w=>by rw[show _=[]from h]at w;cases w;exact .nil
 |.inl k::ks,_,_,h,w=>by
   obtain⟨r,e,h⟩:=h;subst e
   cases w with
   |cons q w=>exact .cons (I:=i3 X.prog X.w) (k:=.inl k) (sX q) (rW I g h w)
 |.inr q::ks,_,_,h,w=>by
   obtain⟨b,r,us,e,t,n2,h⟩:=h;subst e
   cases w with
   |cons q2 w=>
     refine .cons (I:=i3 X.prog X.w) (k:=.inr q) ?_ (rW I g h w);cases(show _=bI b from q2);obtain⟨its,w1,⟨o,h1,h2,n,h3⟩,_⟩:=I.tupR g t;exact⟨b,rfl,o,its.toArray,n,h1,h2,h3,by simpa using rX I g n2 w1⟩
def yG(I:Inv X h_ σ H s)(g:Good F H)(h:Hz X.K F k a):(sV X.prog X.w).is s.heap k a:=by
 obtain⟨vs,t,r⟩:=h;obtain⟨its,w1,⟨o,h1,h2,n,h3⟩,_⟩:=I.tupR g t;exact⟨o,its.toArray,n,h1,h2,h3,by simpa using rW I g r w1⟩
def kK(xs:List (List NK×aE)):List (List NK×aE×ak):=xs.map λx=>(x.1,x.2,.bool c_)
def vp(xs:List (List NK×aE)):(kK xs).map (·.1)=xs.map (·.1):=by
 unfold kK;rw[br];rfl
def K8(I:Inv X h_ σ H s)(g:Good F H)(hF:F p=a_ (.dN xs))(al:DM X.K F ks xs) :
  xs.length<=aD/\(p == sysModules)=d_/\s.heap.DictOfH (sV X.prog X.w) p (kK xs):=by
 obtain⟨z,y,o,es,ep,h1,h2,h3,h4,h5⟩:=I.hok p _ (g.sub _ _ hF);refine⟨z,y,o,es,ep,h1,h2,h3,by rw[h4];unfold kK;rw[br];rfl,λx hx=>?_,by rw[vp];exact h5⟩;unfold kK at hx;obtain⟨q,hq,rfl⟩:=bb.mp hx;exact yG I g (al.2 q hq)
theorem oB(k:List NK):∀xs:List (List NK×aE),(atKey (kK xs) k).isSome=decide (k∈xs.map (·.1))
 |[]=>rfl
 |x::xs=>by
   have ih:=oB k xs;unfold atKey kK at ih ⊢;rw[ah,du];by_cases e:x.1=k
   ·simp[e]
   ·have e':¬k=x.1:=λz=>e z.symm;simp only[e,decide_false];rw[ih];simp[e']
def TZ(hu:X.A.units+20<cP)(I:Inv X h_ σ H s)(g:Good F H)(hk:Au da=a_ kk)(ra:Rep X.K F da v)(rx:RelV v u)(hF:F p=a_ (.dN xs))(al:DM X.K F ks xs)
  (q:Q (.bl (decide (kk∈ks))) H):ax (aB X.prog X.w) X.A (compareOp .In u (.ref p)) (EP X h_ σ Q) X.xe s:=by
 obtain⟨a,rfl,ky⟩:=yH hk ra;cases(show u=bI a from rx);obtain⟨z,y,dd⟩:=K8 I g hF al;refine FA (knd:=sV X.prog X.w) ?_ (yG I g ky) y dd ?_
 ·show X.A.units+1+3<=cP;omega
 ·refine⟨.bl _,H,I.tok _,rfl,?_⟩;rw[oB,al.1];exact q
def none_of(I:Inv X h_ σ H s)(hH:H p=a_ (.dK [])):(p == sysModules)=d_/\s.heap.DictOfH (sV X.prog X.w) p []:=by
 obtain⟨z,y,vs,r,dd⟩:=QD I.hok hH;cases r;obtain⟨o,es,ep,h1,h2,h3,_,h4,_⟩:=dd;refine⟨y,o,es,ep,h1,h2,h3,?_,λx hx=>(nomatch hx),by simp⟩;generalize es.toList=l at h4;cases h4;rfl
def OG(hu:X.A.units+20<cP)(I:Inv X h_ σ H s)(g:Good F H)(hk:Au da=a_ kk)(ra:Rep X.K F da v)(rx:RelV v u)(hF:F p=a_ (.dK []))
  (q:Q (.bl d_) H):ax (aB X.prog X.w) X.A (compareOp .In u (.ref p)) (EP X h_ σ Q) X.xe s:=by
 obtain⟨a,rfl,ky⟩:=yH hk ra;cases(show u=bI a from rx);obtain⟨y,dd⟩:=none_of I (g.sub _ _ hF);refine FA (knd:=sV X.prog X.w) ?_ (yG I g ky) y dd ?_
 ·show X.A.units+1+3<=cP;omega
 ·exact⟨.bl _,H,I.tok _,rfl,q⟩
def OL(H:Hp)(T:List aE):fz H H T=H:=by
 funext a;unfold fz;split<;>rfl
def sg(H:Hp):Good H H:=⟨bN.refl _,λ_ _ e=>e⟩
def NH(o:nP K H d v S):Rep K H d v:=by
 have:=nP.kL (sg H) d (T:=S) o λ_ m=>m;rw[OL]at this;exact this
def Ql(K:Fg):V->V->V->Hp->(Hp->Prop)->Prop:=λo i v H Q=>∃p k a xs,o=.ref p/\i=.ref a/\v=.bl c_/\Hz K H k a/\((H p=a_ (.dK [])/\xs=[])\/(H p=a_ (.dN xs)/\∀x∈xs,Hz K H x.1 x.2))/\
 k∉xs.map (·.1)/\xs.length<aD/\Q (upd H p (.dN (xs++[(k,a)])))
def V0(hu:X.A.units+20<cP):PM X (Ql X.K):=λh_ s σ H o i v ov iv u Q I ro ri rv h=>by
 obtain⟨p,k,a,xs,rfl,rfl,rfl,ky,hp,hk,hz,q⟩:=h;cases ro;cases ri;obtain rfl:u=.bool c_:=rv
 have dd:(p == sysModules)=d_/\s.heap.DictOfH (sV X.prog X.w) p (kK xs):=by
  rcases hp with⟨hp,rfl⟩|⟨hp,al⟩
  ·exact none_of I hp
  ·exact(K8 I (sg H) hp ⟨rfl,al⟩).2
 have mu:VA (H p):=by
  rcases hp with⟨hp,_⟩|⟨hp,_⟩<;>(rw[hp];exact ie)
 have hl:(kK xs).length<=aD:=by unfold kK;rw[ag];exact bo hz
 refine wpAny_setItem_heap (knd:=sV X.prog X.w) (hsz:=hl) ?_ (yG I (sg H) ky) dd.2 λh' dd' hs=>?_
 ·show X.A.units+1+3<=cP;omega
 have hno:atKey (kK xs) k=b_:=by
  have:=oB k xs;rw[decide_eq_false hk]at this
  cases hq:atKey (kK xs) k with
  |none=>rfl
  |some z=>rw[hq]at this;cases this
 rw[storedH_new hno]at dd';obtain⟨o,es,ep,hq,h2,h3,h4,_,h5⟩:=dd';have e1:kK xs++[(k,a,j8 c_)]=kK (xs++[(k,a)]):=by unfold kK;rw[fk];rfl
 rw[e1]at h4 h5;refine⟨_,zd (ob:=.dN (xs++[(k,a)])) I mu hs ⟨o,hq⟩ ⟨by rw[cg];simp;exact hz,dd.1,o,es,ep,hq,h2,h3,?_,?_⟩,q⟩
 ·rw[h4];unfold kK;rw[br];rfl
 ·rw[vp]at h5;exact h5
set_option tactic.hygienic true in
def JO{T:List aE}(h:lz .dput d ds=a_ d')(o:nP K H d v S)(a:dA K H ds vs T) :
  ∃l k b xs,v=.ref l/\S=[l]/\vs=[.bl c_,.ref b]/\Hz K H k b/\((H l=a_ (.dK [])/\xs=[])\/(H l=a_ (.dN xs)/\∀x∈xs,Hz K H x.1 x.2))/\k∉xs.map (·.1)/\xs.length<aD/\nP K (upd H l (.dN (xs++[(k,b)]))) d' v [l]:=by
 have keyed:∀{d0 d1:Dat}{kk:List NK},ds=[.bl c_,d1]->Au d1=a_ kk->∃b,vs=[.bl c_,.ref b]/\Hz K H kk b:=λ{d0 d1 kk}e hk=>by
  subst e;obtain⟨y,r,T1,T2,e,a1,a3,_⟩:=a;obtain⟨y0,r0,T0,T0',e0,a0,a2,_⟩:=a3;obtain⟨rfl,rfl⟩:=a2;obtain⟨b,rfl,ky⟩:=yH hk (NH a0);obtain⟨rfl,_⟩:=a1;subst e e0;exact⟨b,rfl,ky⟩
 have up:∀{l:aE}{ob:HO},(∀ws,H l≠a_ (.tup ws))->∀b vs,Tq K H b vs->Tq K (upd H l ob) b vs:=λ{l ob}nt b vs t=>by
  rcases t with t|t
  ·refine .inl ?_;rw[bq (λz=>nt vs (by rw[<-z];exact t))];exact t
  ·exact .inr t
 have kup:∀{l:aE}{ob:HO}{k:List NK}{b:aE},(∀ws,H l≠a_ (.tup ws))->Hz K H k b->Hz K (upd H l ob) k b:=λnt ⟨ws,t,r⟩=>⟨ws,up nt _ _ t,r.imp (up nt)⟩
 cases d with
 |dct ks ws=>
   obtain⟨l,k_,S',rfl,hl,rfl,os,rfl⟩:=o;have nt:∀us,H l≠a_ (.tup us):=λus z=>by rw[hl]at z;cases z
   have hds:∃d1,ds=[.bl c_,d1]:=by
    match ds,h with
    |[.bl c_,d1],_=>exact⟨d1,rfl⟩
   obtain⟨d1,rfl⟩:=hds;simp only[lz,B7,B5,B4,B6,B2,B3]at h;split at h
   ·rename_i he;obtain⟨kk,hk,h⟩:=er h;subst h;have e0:k_=[]:=by simpa using he
    subst e0;obtain⟨b,hvs,ky⟩:=keyed (d0:=.non) rfl hk
    have e1:S'=[]:=by
     cases ws with
     |nil=>exact os.2
     |cons _ _=>obtain⟨_,_,_,_,z,_⟩:=os;cases z
    subst e1;refine⟨l,kk,b,[],rfl,rfl,hvs,ky,.inl ⟨hl,rfl⟩,by simp,by rw[bu];simp,l,[(kk,b)],rfl,bh,⟨rfl,λx hx=>?_⟩,rfl⟩;rw[aQ.mp hx];exact kup nt ky
   ·cases h
 |dcn ks=>
   obtain⟨l,xs,rfl,hl,al,rfl⟩:=o;have nt:∀us,H l≠a_ (.tup us):=λus z=>by rw[hl]at z;cases z
   have hds:∃d1,ds=[.bl c_,d1]:=by
    match ds,h with
    |[.bl c_,d1],_=>exact⟨d1,rfl⟩
   obtain⟨d1,rfl⟩:=hds;simp only[lz,B7,B5,B4,B6,B2,B3]at h;obtain⟨kk,hk,h⟩:=bS h;split at h
   ·rename_i hz;cases h;obtain⟨b,hvs,ky⟩:=keyed (d0:=.non) rfl hk;obtain⟨e1,al2⟩:=al;subst e1;refine⟨l,kk,b,xs,rfl,rfl,hvs,ky,.inr ⟨hl,al2⟩,hz.2,by simpa using hz.1,l,xs++[(kk,b)],rfl,bh,⟨by rw[fk];rfl,λx hx=>?_⟩,rfl⟩
    rcases aL.mp hx with hx|hx
    ·exact kup nt (al2 x hx)
    ·rw[aQ.mp hx];exact kup nt ky
   ·cases h
 |_=>cases h
def Gx{D:Ends}(h:gS K C EE (.mut .dput i es) D σ H) :
  ∃l,σ[i]?=a_ (a_ (.ref l))/\gF K C es σ H λvs H1=>∃k b xs,vs=[.bl c_,.ref b]/\Hz K H1 k b/\((H1 l=a_ (.dK [])/\xs=[])\/(H1 l=a_ (.dN xs)/\∀x∈xs,Hz K H1 x.1 x.2))/\k∉xs.map (·.1)/\xs.length<aD/\D.nx σ (upd H1 l (.dN (xs++[(k,b)]))):=by
 obtain⟨Fz,H₀,F,ρ,out,h,R,k⟩:=h;obtain⟨ds,d,d',h3,hi,h4,rfl⟩:=Ax h;obtain⟨Ss,O⟩:=R.ow;obtain⟨v,e1,e2,e3,e4⟩:=O.own i d hi
 have hdl:∃l,v=.ref l:=by
  cases d with
  |dct ks ws=>obtain⟨l,_,_,rfl,_⟩:=id e2;exact⟨l,rfl⟩
  |dcn ks=>obtain⟨l,_,rfl,_⟩:=id e2;exact⟨l,rfl⟩
  |_=>cases h4
 obtain⟨l,rfl⟩:=hdl;refine⟨l,e1,E5 R h3 λvs F' H' T st ow nT hT=>?_⟩;have O':=O.moved st;have R':=R.moved st;obtain⟨l2,kk,b,xs,ev,eS,hvs,ky,hq,hno,hz,o2⟩:=JO h4 (e2.mono st.hh) ow;cases ev;refine⟨kk,b,xs,hvs,ky,hq,hno,hz,k F' _ σ st.ff (R'.mut O' hi e1 (by rw[eS];exact iw) trivial o2 (by simp) λa m=>?_)⟩;exact .inl (by rw[eS];exact m)
def MG{st:i8}(hm:PS X st (Cg (gE X.K C xe) (Ud (Iv i) (gE X.K C xi) (Ql X.K)))):SS X C EE st (.mut .dput i [xe,xi]):=PS.imp hm λD σ H h=>by
 obtain⟨l,e1,g⟩:=Gx h;have g2:=KD g;refine ub g2 λx H1 s1 g3=>⟨.ref l,e1,ub g3 λy H2 s2 g4=>?_⟩
 obtain⟨k,b,xs,q1,q2,q3,q4,q5,q6⟩:=g4;cases q1;exact⟨l,k,b,xs,rfl,rfl,rfl,q2,q3,q4,q5,q6⟩
end
section
variable{X:Cx}
def _root_.L2.Inv.noDT(I:Inv X h_ σ H s)(g:Good F H)(h:F a=a_ (.dK k_))(h':Tq X.K F a ws):False:=by
 obtain⟨_,_,_,_,o,es,ep,h1,h2,_⟩:=I.hok a _ (g.sub _ _ h);obtain⟨its,_,⟨o',h3,h4,_⟩,_⟩:=I.tupR g h';rw[h1]at h3;cases h3;rw[h2.1]at h4;exact absurd (nv h4) bG
def _root_.L2.Inv.noDL(I:Inv X h_ σ H s)(g:Good F H)(h:F a=a_ (.dK k_))(h':pd X.K F a ws):False:=by
 obtain⟨_,_,_,_,o,es,ep,h1,h2,_⟩:=I.hok a _ (g.sub _ _ h);obtain⟨its,_,pl,_⟩:=I.lstR g h';obtain⟨o',h3,h4,_⟩:=pl.isList;rw[h1]at h3;cases h3;rw[h2.1]at h4;exact absurd (nv h4) bG
mutual
theorem Ea(I:Inv X h_ σ H s)(g:Good F H):∀(da db:Dat){x:V},Rep X.K F da x->Rep X.K F db x->da=db
 |.non,db,x,ra,rb=>by
   rw[show x=.non from ra]at rb
   cases db with
   |non=>rfl
   |tup _=>obtain⟨_,_,z,_⟩:=rb;cases z
   |lst _=>obtain⟨_,_,z,_⟩:=rb;cases z
   |dct _ _=>obtain⟨_,_,z,_⟩:=rb;cases z
   |dcn _=>obtain⟨_,_,z,_⟩:=rb;cases z
   |exc _ _ _=>obtain⟨_,_,z,_⟩:=rb;cases z
   |_=>cases rb
 |.bl b,db,x,ra,rb=>by
   rw[show x=.bl b from ra]at rb
   cases db with
   |bl c=>cases rb;rfl
   |tup _=>obtain⟨_,_,z,_⟩:=rb;cases z
   |lst _=>obtain⟨_,_,z,_⟩:=rb;cases z
   |dct _ _=>obtain⟨_,_,z,_⟩:=rb;cases z
   |dcn _=>obtain⟨_,_,z,_⟩:=rb;cases z
   |exc _ _ _=>obtain⟨_,_,z,_⟩:=rb;cases z
   |_=>cases rb
 |.int i,db,x,ra,rb=>by
   rw[show x=.int i from ra]at rb
   cases db with
   |int c=>cases rb;rfl
   |tup _=>obtain⟨_,_,z,_⟩:=rb;cases z
   |lst _=>obtain⟨_,_,z,_⟩:=rb;cases z
   |dct _ _=>obtain⟨_,_,z,_⟩:=rb;cases z
   |dcn _=>obtain⟨_,_,z,_⟩:=rb;cases z
   |exc _ _ _=>obtain⟨_,_,z,_⟩:=rb;cases z
   |_=>cases rb
 |.str i,db,x,ra,rb=>by
   rw[show x=.str i from ra]at rb
   cases db with
   |str c=>cases rb;rfl
   |tup _=>obtain⟨_,_,z,_⟩:=rb;cases z
   |lst _=>obtain⟨_,_,z,_⟩:=rb;cases z
   |dct _ _=>obtain⟨_,_,z,_⟩:=rb;cases z
   |dcn _=>obtain⟨_,_,z,_⟩:=rb;cases z
   |exc _ _ _=>obtain⟨_,_,z,_⟩:=rb;cases z
   |_=>cases rb
 |.tup ds,db,x,z3,rb=>by
   obtain⟨p,vs,e,t,r⟩:=z3;subst e
   cases db with
   |tup es=>
     obtain⟨q,us,e',t',r'⟩:=rb;cases e';have ev:vs=us:=I.oK (t.mono g.sub).sq (t'.mono g.sub).sq;subst ev;rw[qE I g ds es r r']
   |lst es=>
     obtain⟨q,us,e',t',r'⟩:=rb;cases e';exact(I.noLT g t' t).elim
   |dct ks es=>
     obtain⟨q,us,e',t',r'⟩:=rb;cases e';exact(I.noDT g t' t).elim
   |dcn ks=>
     obtain⟨q,us,e',t',r'⟩:=rb;cases e';exact(I.noNT g t' t).elim
   |exc _ _ _=>
     obtain⟨q,us,e',t',r'⟩:=rb;cases e';exact(I.noXT g t' t).elim
   |_=>cases rb
 |.lst ds,db,x,z3,rb=>by
   obtain⟨p,vs,e,t,r⟩:=z3;subst e
   cases db with
   |lst es=>
     obtain⟨q,us,e',t',r'⟩:=rb;cases e';have ev:vs=us:=I.qO (g.sub.seq t) (g.sub.seq t');subst ev;rw[qE I g ds es r r']
   |tup es=>
     obtain⟨q,us,e',t',r'⟩:=rb;cases e';exact(I.noLT g t t').elim
   |dct ks es=>
     obtain⟨q,us,e',t',r'⟩:=rb;cases e';exact(I.noDL g t' t).elim
   |dcn ks=>
     obtain⟨q,us,e',t',r'⟩:=rb;cases e';exact(I.noNL g t' t).elim
   |exc _ _ _=>
     obtain⟨q,us,e',t',r'⟩:=rb;cases e';exact(I.noXL g t' t).elim
   |_=>cases rb
 |.dct ks ds,db,x,z3,rb=>by
   obtain⟨p,k_,e,t,kk,r⟩:=z3;subst e
   cases db with
   |dct ks' es=>
     obtain⟨q,us,e',t',k',r'⟩:=rb;cases e';rw[t]at t';cases t';rw[<-kk,<-k',qE I g ds es r r']
   |lst es=>
     obtain⟨q,us,e',t',r'⟩:=rb;cases e';exact(I.noDL g t t').elim
   |tup es=>
     obtain⟨q,us,e',t',r'⟩:=rb;cases e';exact(I.noDT g t t').elim
   |dcn _=>
     obtain⟨q,us,e',t',r'⟩:=rb;cases e';rw[t]at t';cases t'
   |exc _ _ _=>
     obtain⟨q,us,e',t',r'⟩:=rb;cases e';rw[t]at t';cases t'
   |_=>cases rb
 |.dcn ks,db,x,z3,rb=>by
   obtain⟨p,xs,e,t,r⟩:=z3;subst e
   cases db with
   |dcn ks'=>
     obtain⟨q,us,e',t',r'⟩:=rb;cases e';rw[t]at t';cases t';rw[<-r.1,<-r'.1]
   |dct _ _=>
     obtain⟨q,us,e',t',r'⟩:=rb;cases e';rw[t]at t';cases t'
   |lst es=>
     obtain⟨q,us,e',t',r'⟩:=rb;cases e';exact(I.noNL g t t').elim
   |tup es=>
     obtain⟨q,us,e',t',r'⟩:=rb;cases e';exact(I.noNT g t t').elim
   |exc _ _ _=>
     obtain⟨q,us,e',t',r'⟩:=rb;cases e';rw[t]at t';cases t'
   |_=>cases rb
 |.exc c f k,db,x,z3,rb=>by
   obtain⟨p,dx,e,t,r⟩:=z3;subst e
   cases db with
   |exc c' f' k'=>
     obtain⟨q,us,e',t',r'⟩:=rb;cases e';obtain⟨rfl,rfl⟩:=I.xinj g t t';rw[r]at r';have z:f=f'/\kV k=kV k':=by cases k<;>cases k'<;>cases r'<;>exact⟨rfl,rfl⟩
     obtain⟨rfl,z⟩:=z;have:k=k':=by cases k<;>cases k'<;>cases z<;>rfl
     rw[this]
   |dcn ks'=>
     obtain⟨q,us,e',t',r'⟩:=rb;cases e';rw[t]at t';cases t'
   |dct _ _=>
     obtain⟨q,us,e',t',r'⟩:=rb;cases e';rw[t]at t';cases t'
   |lst es=>
     obtain⟨q,us,e',t',r'⟩:=rb;cases e';exact(I.noXL g t t').elim
   |tup es=>
     obtain⟨q,us,e',t',r'⟩:=rb;cases e';exact(I.noXT g t t').elim
   |_=>cases rb
theorem qE(I:Inv X h_ σ H s)(g:Good F H):∀(ds es:List Dat){vs:List V},cj X.K F ds vs->cj X.K F es vs->ds=es
 |[],es,vs,h,h'=>by
   rw[show vs=[]from h]at h'
   cases es with
   |nil=>rfl
   |cons _ _=>obtain⟨_,_,z,_⟩:=h';cases z
 |d::ds,es,vs,z3,h'=>by
   obtain⟨v,r,e,h1,h2⟩:=z3;subst e
   cases es with
   |nil=>exact nomatch (show v::r=[]from h')
   |cons f fs=>
     obtain⟨v',r',e',h1',h2'⟩:=h';cases e';rw[Ea I g d f h1 h1',qE I g ds fs h2 h2']
end
noncomputable def BM(da:Dat)(ds:List Dat)(its:List ak)(w:ak):Bool:=@decide (∃(i:Nat) (d:Dat),its[i]?=a_ w/\ds[i]?=a_ d/\kM d da=c_) (lX _)
def Dr(I:Inv X h_ σ H s)(g:Good F H){da:Dat}{ds:List Dat}{vs:List V}{its:List ak}(r:cj X.K F ds vs)(w:bW vs its){i:Nat}{d:Dat}{u:ak}(h1:its[i]?=a_ u)(h2:ds[i]?=a_ d):BM da ds its u=kM d da:=by
 have one:∀(j:Nat)d',its[j]?=a_ u->ds[j]?=a_ d'->d'=d:=λj d' q1 q2=>by
  obtain⟨v,e1,e2⟩:=r.get h2;obtain⟨v',e1',e2'⟩:=r.get q2;obtain⟨u1,f1,f2⟩:=w.get e1;obtain⟨u2,f1',f2'⟩:=w.get e1';rw[h1]at f1;cases f1;rw[q1]at f1';cases f1';have:=f2.inj f2';subst this;exact(Ea I g d d' e2 e2').symm
 unfold BM;by_cases hd:kM d da=c_
 ·rw[hd];exact@decide_eq_true _ (lX _) ⟨i,d,h1,h2,hd⟩
 ·have:kM d da=d_:=by simpa using hd
  rw[this];refine@decide_eq_false _ (lX _) λ⟨j,d',q1,q2,q3⟩=>?_;rw[one j d' q1 q2]at q3;exact hd q3
def uk(I:Inv X h_ σ H s)(g:Good F H)(r:cj X.K F ds vs)(w:bW vs its):its.any (BM da ds its)=ds.any λy=>kM y da:=by
 have hl:its.length=ds.length:=by rw[<-w.length,r.length]
 rw[vH,nE,nE];constructor
 ·rintro⟨u,hu,h⟩;obtain⟨i,hi,e⟩:=jh hu;have hi2:i<ds.length:=ae hi (aM hl);refine⟨ds[i],bA hi2,?_⟩;rw[<-Dr I g r w (by rw[ao hi,e]) (ao hi2)];exact h
 ·rintro⟨d,hd,h⟩;obtain⟨i,hi,e⟩:=jh hd;have hi2:i<its.length:=ae hi (aM hl.symm);refine⟨its[i],bA hi2,?_⟩;rw[Dr I g r w (ao hi2) (by rw[ao hi,e])];exact h
def za(I:Inv X h_ σ H s)(g:Good F H)(A:cm)(hu:A.units+20<cP)(sa:eO 20 da=c_)(ss:dI 20 ds=c_)(ra:Rep X.K F da x)(rx:RelV x u)(r:cj X.K F ds vs)(w:bW vs its) :
  ∀y∈its,lK A s y u (BM da ds its y):=λy hy=>by
 obtain⟨i,hi,e⟩:=jh hy;have hl:its.length=ds.length:=by rw[<-w.length,r.length]
 have hi2:i<ds.length:=ae hi (aM hl);have h1:its[i]?=a_ y:=by rw[ao hi,e]
 have h2:=ao hi2;rw[Dr I g r w h1 h2];obtain⟨v,e1,e2⟩:=r.get h2;obtain⟨u1,f1,f2⟩:=w.get e1;rw[h1]at f1;cases f1;exact(mI I g 20 A ds[i] da hu (my ss h2) sa e2 ra f2 rx).1
set_option tactic.hygienic true
def SD(hu:X.A.units+21<cP):iO X (compareOp .In) (gB X.K (mL .isin)):=λh_ s σ H x y v u Q I rx ry z12=>by
 obtain⟨da,db,d,fr,h,F,g,ra,rb,k⟩:=z12;obtain⟨b,hd,rfl,rfl⟩:=jY h;have hu1:X.A.in1.units+20<cP:=by show X.A.units+1+20<cP;omega
 cases db with
 |str z=>
   cases da with
   |str z'=>
     simp only[cx,BO,Hd,sA,Fl]at hd;cases hd;exact Gu h_ s σ H x y v u Q I rx ry ⟨_,_,ra,rb,k _ F H (Step.refl g) rfl aT⟩
   |_=>cases hd
 |lst ds=>
   have hd':(if eO 20 da && dI 20 ds then a_ (ds.any λy=>kM y da)else b_)=a_ b:=by cases da<;>exact hd
   split at hd'
   ·rename_i hs;rw[af]at hs;cases hd';obtain⟨p,vs,rfl,t,r⟩:=rb;obtain rfl:u=.ref p:=ry;obtain⟨its,w,pl,_⟩:=I.lstR g t;refine SeqAt.in_listAt (BM da ds its) pl.isList (λy hy=>za I g _ hu1 hs.1 hs.2 ra rx r w y (by simpa using hy)) ⟨.bl _,H,I,rfl,?_⟩;rw[show its.toArray.any (BM da ds its)=its.any (BM da ds its) by simp,uk I g r w];exact k _ F H (Step.refl g) rfl aT
   ·cases hd'
 |tup ds=>
   have hd':(if eO 20 da && dI 20 ds then a_ (ds.any λy=>kM y da)else b_)=a_ b:=by cases da<;>exact hd
   split at hd'
   ·rename_i hs;rw[af]at hs;cases hd';obtain⟨p,vs,rfl,t,r⟩:=rb;obtain rfl:u=.ref p:=ry;obtain⟨its,w,pl,_⟩:=I.tupR g t;refine SeqAt.in_tupleAt (BM da ds its) pl (λy hy=>za I g _ hu1 hs.1 hs.2 ra rx r w y (by simpa using hy)) ⟨.bl _,H,I,rfl,?_⟩;rw[show its.toArray.any (BM da ds its)=its.any (BM da ds its) by simp,uk I g r w];exact k _ F H (Step.refl g) rfl aT
   ·cases hd'
 |dcn ks=>
   have hd':(Au da).map (λk=>decide (k∈ks))=a_ b:=by cases da<;>exact hd
   obtain⟨kk,hk,hd'⟩:=er hd';subst hd';obtain⟨p,xs,rfl,hF,al⟩:=rb;obtain rfl:u=.ref p:=ry;exact TZ (bo hu1) I g hk ra rx hF al (k _ F H (Step.refl g) rfl aT)
 |dct ks ds=>
   have hd2:(match oz da with|some k=>a_ (iR k ks ds).isSome|none=>if ks.isEmpty=c_ then(Au da).map λ_=>d_ else b_)=a_ b:=by cases da<;>exact hd
   cases hkd:oz da with
   |none=>
     rw[hkd]at hd2;dsimp only at hd2;split at hd2
     ·rename_i he;obtain⟨kk,hk,hd2⟩:=er hd2;subst hd2;obtain⟨p,k_,rfl,hF,rfl,rr⟩:=rb;obtain rfl:u=.ref p:=ry;have e0:k_=[]:=by simpa using he
      subst e0;exact OG (by omega) I g hk ra rx hF (k _ F H (Step.refl g) rfl aT)
     ·cases hd2
   |some kk0=>
   rw[hkd]at hd2;have hd':(oz da).map (λk=>(iR k ks ds).isSome)=a_ b:=by rw[hkd];exact hd2
   obtain⟨kk,hk,hd'⟩:=er hd';subst hd';obtain⟨p,k_,rfl,hF,rfl,rr⟩:=rb;obtain rfl:=vg hk ra;obtain rfl:u=.ref p:=ry
   have e1:(iR kk (k_.map (·.1)) ds).isSome=(n6 k_ kk).isSome:=by
    cases q:iR kk (k_.map (·.1)) ds with
    |none=>rw[r8 q rr];rfl
    |some d=>obtain⟨w,e2,_⟩:=oR q rr;rw[e2];rfl
   refine Zr (o:=n6 k_ kk) (ae (FN hu1) bG) I (wc.k (g.sub _ _ hF)) rx λs' I'=>⟨.bl _,H,I',rfl,?_⟩
   rw[<-e1];exact k _ F H (Step.refl g) rfl aT
 |_=>cases da<;>cases hd
def NP(hu:X.A.units+21<cP):iO X (compareOp .NotIn) (gB X.K (mL .nin)):=λh_ s σ H x y v u Q I rx ry z12=>by
 obtain⟨da,db,d,fr,h,F,g,ra,rb,k⟩:=z12;obtain⟨b,hd,rfl,rfl⟩:=jY h;have hu1:X.A.in1.units+20<cP:=by show X.A.units+1+20<cP;omega
 cases db with
 |str z=>
   cases da with
   |str z'=>
     simp only[cx,BO,Hd,sA,Fl]at hd;cases hd;exact yz h_ s σ H x y v u Q I rx ry ⟨_,_,ra,rb,k _ F H (Step.refl g) rfl aT⟩
   |_=>cases hd
 |lst ds=>
   have hd':(if eO 20 da && dI 20 ds then a_ (!(ds.any λy=>kM y da))else b_)=a_ b:=by cases da<;>exact hd
   split at hd'
   ·rename_i hs;rw[af]at hs;cases hd';obtain⟨p,vs,rfl,t,r⟩:=rb;obtain rfl:u=.ref p:=ry;obtain⟨its,w,pl,_⟩:=I.lstR g t;refine SeqAt.notIn_listAt (BM da ds its) pl.isList (λy hy=>za I g _ hu1 hs.1 hs.2 ra rx r w y (by simpa using hy)) ⟨.bl _,H,I,rfl,?_⟩;rw[show its.toArray.any (BM da ds its)=its.any (BM da ds its) by simp,uk I g r w];exact k _ F H (Step.refl g) rfl aT
   ·cases hd'
 |tup ds=>
   have hd':(if eO 20 da && dI 20 ds then a_ (!(ds.any λy=>kM y da))else b_)=a_ b:=by cases da<;>exact hd
   split at hd'
   ·rename_i hs;rw[af]at hs;cases hd';obtain⟨p,vs,rfl,t,r⟩:=rb;obtain rfl:u=.ref p:=ry;obtain⟨its,w,pl,_⟩:=I.tupR g t;refine SeqAt.notIn_tupleAt (BM da ds its) pl (λy hy=>za I g _ hu1 hs.1 hs.2 ra rx r w y (by simpa using hy)) ⟨.bl _,H,I,rfl,?_⟩;rw[show its.toArray.any (BM da ds its)=its.any (BM da ds its) by simp,uk I g r w];exact k _ F H (Step.refl g) rfl aT
   ·cases hd'
 |dct ks ds=>
   have hd':(oz da).map (λk=>!(iR k ks ds).isSome)=a_ b:=by cases da<;>exact hd
   obtain⟨kk,hk,hd'⟩:=er hd';subst hd';obtain⟨p,k_,rfl,hF,rfl,rr⟩:=rb;obtain rfl:=vg hk ra;obtain rfl:u=.ref p:=ry
   have e1:(iR kk (k_.map (·.1)) ds).isSome=(n6 k_ kk).isSome:=by
    cases q:iR kk (k_.map (·.1)) ds with
    |none=>rw[r8 q rr];rfl
    |some d=>obtain⟨w,e2,_⟩:=oR q rr;rw[e2];rfl
   refine O2 (o:=n6 k_ kk) (by omega) I (wc.k (g.sub _ _ hF)) rx λs' I'=>⟨.bl _,H,I',rfl,?_⟩
   rw[<-e1];exact k _ F H (Step.refl g) rfl aT
 |_=>cases da<;>cases hd
set_option tactic.hygienic false
end
def gM(K:Fg)(f:Dat->List Dat->g_):V->List V->Hp->VK->Prop:=λx xs H Q=>∃da ds d fr F,f da ds=a_ (d,fr)/\Good F H/\Rep K F da x/\cj K F ds xs/\∀v F' H',Step F H F' H'->Rep K F' d v->(fr=c_->gn K H H' d v)->Q v H'
section
variable{X:Cx}{xo:Ex}
def GD(hs:∀da ds r,gZ m da ds=a_ r->∃z,da=.str z):∀σ H Q,gE X.K C (.eD m xo xs) σ H Q->XX X.K "str" (gM X.K (gZ m)) (gE X.K C xo) (gA X.K C xs) σ H Q:=λσ H Q z3=>by
 obtain⟨ρ,d,fr,h,F,g,R,k⟩:=z3;obtain⟨⟨da,fa⟩,h1,h⟩:=bS h;obtain⟨ds,h2,h3⟩:=bS h;obtain⟨z,hz⟩:=hs da ds _ h3;refine⟨ρ,da,fa,h1,F,g,R,λv F1 H1 st1 r1 _=>⟨?_,ρ,ds,h2,F1,st1.good,R.mono st1.ff,λvs F2 H2 st2 r2=>⟨da,ds,d,fr,F2,h3,st2.good,r1.mono st2.ff,r2,λw F3 H3 st3 r3 f3=>k w F3 H3 ((st1.trans st2).trans st3) r3 λq=>(f3 q).back (F:=F) (st1.hh.trans st2.hh)⟩⟩⟩;rw[hz]at r1;rw[show v=.str z from r1];exact rfl
def wA(r:cj X.K F [.str y] vs)(w:bW vs us):∃t,us=[.str y t]:=by
 obtain⟨v,q,e,r1,r2⟩:=r;rw[show q=[]from r2]at e;subst e;rw[show v=.str y from r1]at w;obtain⟨u,rfl,t,rfl⟩:=vals1 w;exact⟨t,rfl⟩
section
set_option tactic.hygienic true
def AZ(h:gZ .find da ds=a_ r):∃x y,da=.str x/\ds=[.str y]/\gZ .find (.str x) [.str y]=a_ r:=by
 cases da with
 |str x=>
   cases ds with
   |nil=>cases h
   |cons d1 ds=>
     cases ds with
     |nil=>
       cases d1 with
       |str y=>exact⟨x,y,rfl,rfl,h⟩
       |_=>cases h
     |cons _ _=>cases d1<;>cases h
 |_=>cases ds<;>first|cases h|(rename_i d1 ds;cases ds<;>cases d1<;>cases h)
def inv_split(h:gZ .split da ds=a_ r):∃x y,da=.str x/\ds=[.str y]/\gZ .split (.str x) [.str y]=a_ r:=by
 cases da with
 |str x=>
   cases ds with
   |nil=>cases h
   |cons d1 ds=>
     cases ds with
     |nil=>
       cases d1 with
       |str y=>exact⟨x,y,rfl,rfl,h⟩
       |_=>cases h
     |cons _ _=>cases d1<;>cases h
 |_=>cases ds<;>first|cases h|(rename_i d1 ds;cases ds<;>cases d1<;>cases h)
def AY(h:gZ .join da ds=a_ r):∃x es,da=.str x/\ds=[.lst es]/\gZ .join (.str x) [.lst es]=a_ r:=by
 cases da with
 |str x=>
   cases ds with
   |nil=>cases h
   |cons d1 ds=>
     cases ds with
     |nil=>
       cases d1 with
       |lst y=>exact⟨x,y,rfl,rfl,h⟩
       |_=>cases h
     |cons _ _=>cases d1<;>cases h
 |_=>cases ds<;>first|cases h|(rename_i d1 ds;cases ds<;>cases d1<;>cases h)
def Od:QV X "str.find" (gM X.K (gZ .find)):=λh_ s σ H x xs v us Q I rx rv z12=>by
 obtain⟨da,ds,d,fr,F,h,g,ra,rs,k⟩:=z12;obtain⟨x',y,rfl,rfl,h⟩:=AZ h;cases h;rw[show x=.str x' from ra]at rx;obtain⟨t,rfl⟩:=rx;obtain⟨u,rfl⟩:=wA rs rv;exact SC.find ⟨.int _,H,I.tok _,⟨_,rfl⟩,k _ F H (Step.refl g) rfl aT⟩
theorem zP:∀{es:List Dat}{ys:List a8}{vs:List V}{us:List ak},pq es=a_ ys->cj X.K F es vs->bW vs us->pJ us ys
 |[],ys,vs,us,h,r,w=>by
   cases h;rw[show vs=[]from r]at w;cases w;exact .nil
 |d::es,ys,vs,us,h,r,w=>by
   cases d with
   |str x=>
     simp only[pq]at h;obtain⟨zs,h1,h⟩:=er h;cases h;obtain⟨v,q,e,r1,r2⟩:=r;subst e;rw[show v=.str x from r1]at w
     cases w with
     |cons w1 w2=>
       obtain⟨t,rfl⟩:=w1;exact .cons x t (zP h1 r2 w2)
   |_=>cases h
def Oc:QV X "str.join" (gM X.K (gZ .join)):=λh_ s σ H x xs v us Q I rx rv z12=>by
 obtain⟨da,ds,d,fr,F,h,g,ra,rs,k⟩:=z12;obtain⟨x',es,rfl,rfl,h⟩:=AY h;simp only[gZ,Tf,Of,WJ,GH,J1]at h;obtain⟨ys,h1,h⟩:=bS h;split at h
 ·rename_i hz;cases h;rw[show x=.str x' from ra]at rx;obtain⟨t,rfl⟩:=rx;obtain⟨v1,q,e,⟨p,vs,e1,tq,r1⟩,r2⟩:=rs;rw[show q=[]from r2]at e;subst e e1;obtain⟨u,rfl,ru⟩:=vals1 rv;obtain rfl:u=.ref p:=ru;obtain⟨its,w1,pl,_⟩:=I.lstR g tq;exact join_list pl.isList (by simpa using zP h1 r1 w1) (ae hz bG) λt' k'=>⟨.str _,H,I.tok _,⟨_,rfl⟩,k _ F H (Step.refl g) rfl aT⟩
 ·cases h
set_option tactic.hygienic false
end
end
section
open PySem.Builtin PySem.Builtin.Str
variable{s:aw}{x y:a8}
def Co(ny:(y.length == 0)=d_)(hz:x.length<=1000000)
  (kq:∀l k,l.map (·.1)=eZ x y->Q (.ref s.heap.objs.size) { s with heap:=s.heap.push { cls:=.type "list",data:=.seq (strValues l).toArray },toks:=k }) :
  ax (aB prog w) A (call (.builtin "str.split") [.str x t,.str y u]) Q E s:=by
 have few:(partsBetween x (occurrences x y 0 x.length (x.length+1)) y.length).length<=aD:=by
  have b1:=StrLaws.occ_length_le x y 0 x.length (x.length+1);rw[length_partsBetween,bu];omega
 have sz:x.length+2<=aD:=by rw[bu];exact dF (aN hz bG)
 have sl:=xT;have en:=PySem.F.entry_str_split;have ar:=PySem.F.args_str_split_2 (.str x t) (.str y u)
 cases c1:(decide (x.length<y.length) || decide (strKind x<strKind y))with
 |true=>
   exact mU sl (pF _ _ _) en ar (meets_str_split_cannot_occur x y t u c1) (kq [(x,t)] s.toks (if_pos c1).symm)
 |false=>
   cases c2:(occurrences x y 0 x.length (x.length+1)).isEmpty with
   |true=>
     exact mU sl (pF _ _ _) en ar (meets_str_split_not_found x y t u c1 ny c2) (kq [(x,t)] s.toks ((if_neg (ne_true_of_eq_false c1)).trans (if_pos c2)).symm)
   |false=>
     refine mU sl (pF _ _ _) en ar (meets_str_split_sep x y t u c1 ny c2 (ae hz bG) few) ?_;have fin:=kq (numbered s.toks (partsBetween x (occurrences x y 0 x.length (x.length+1)) y.length)) (s.toks+(partsBetween x (occurrences x y 0 x.length (x.length+1)) y.length).length) ((numbered_texts _ _).trans ((if_neg (ne_true_of_eq_false c1)).trans (if_neg (ne_true_of_eq_false c2))).symm);rw[<-strsFrom_eq]at fin;exact fin
end
section
theorem wz:∀(l:List (a8×Tok)),bW (l.map λp=>V.str p.1) (strValues l)
 |[]=>.nil
 |(y,t)::l=>.cons ⟨t,rfl⟩ (wz l)
theorem wM{K:Fg}:∀(ys:List a8),cj K F (ys.map Dat.str) (ys.map V.str)
 |[]=>rfl
 |y::ys=>⟨_,_,rfl,rfl,wM ys⟩
theorem A4:∀ys:List a8,jT (ys.map Dat.str)=c_
 |[]=>rfl
 |y::ys=>by show(c_ && jT (ys.map Dat.str))=c_;rw[A4 ys];rfl
set_option tactic.hygienic true in
def JY:QV X "str.split" (gM X.K (gZ .split)):=λh_ s σ H x xs v us Q I rx rv z12=>by
 obtain⟨da,ds,d,fr,F,h,g,ra,rs,k⟩:=z12;obtain⟨x',y,rfl,rfl,h⟩:=inv_split h;simp only[gZ,Tf,Of,WJ,GH,J1]at h;split at h
 ·rename_i hz;cases h;rw[show x=.str x' from ra]at rx;obtain⟨t,rfl⟩:=rx;obtain⟨u,rfl⟩:=wA rs rv;refine Co (by have:=hz.1;simp;exact λz=>(eh this (aM z))) hz.2 λl kk hl=>?_;have e1:(l.map λp=>V.str p.1)=(eZ x' y).map V.str:=by rw[<-hl,br];rfl
  have w1:=wz l;rw[e1]at w1
  have hlen:((eZ x' y).map V.str).length<=aD:=by
   have:=split_le x' y;rw[ag,bu];omega
  have r0:=wM (K:=X.K) (F:=F) (eZ x' y);have r2:=r0.mono (bN.upd (o:=.lst ((eZ x' y).map V.str)) (g.sub.free I.fresh));exact⟨.ref _,_,I.WO (t':=kk) w1 hlen,rfl,k _ _ _ (Step.alloc g I.fresh) ⟨_,_,rfl,.inl (.inl bh),r2⟩ λ_=>.lst (bN.refl _) I.fresh (.jS g (A4 _) r0)⟩
 ·cases h
end
section
variable{A:cm}{s:aw}
def FW{t:aE}{its:Array ak}{x:ak}{e:Nat->Bool}{k:Nat}{Q:ak->aw->Prop}(ht:Hn s.heap t its)(hs:its.size<=aD)(hq:∀j (h:j<its.size),lK A.in1 s its[j] x (e j))(hk:k<its.size)(h1:e k=c_)(h0:∀j<k,e j=d_)
  (h:∀tk,Q (.int k s.toks) { s with toks:=tk }):ax (aB prog w) A (call (.builtin "tuple.index") [.ref t,x]) Q E s:=by
 refine bP vM ht.typeIs PySem.F.entry_tuple_index ?_ (PySem.F.args_tuple_index_2 _ _);unfold gX.«tuple.index»;refine wb9 (zu (a:=(bI t,[x])) rfl ?_);dsimp only;refine wb9 (FL ht ?_);rw[pure_bind,pure_bind];refine wb9 ?_;rw[PX];refine jv _ (λrest b s'=>b.1=b_/\s'=s/\∃j,rest=mh j (its.size - j)/\j<=k) _ ?_ ?_ _ _ ⟨rfl,rfl,0,?_,bQ _⟩
 ·rintro i rest b s' ⟨hb,rfl,j,hj,hle⟩;have hlt:j<its.size:=aN hle hk;rw[show its.size - j=(its.size - (j+1))+1 by omega,tN]at hj;cases hj;simp only[a9 hlt];refine wb9 (hq i hlt _ _ _ _ ?_);by_cases hjk:i=k
  ·subst hjk;rw[h1,if_pos rfl];refine wb9 ?_;show ax _ _ (mkInt _ >>= _) _ _ _;refine wb9 (wpAny_mkInt (wu9 (wu9 (wu9 ⟨_,rfl,h _⟩))))
  ·rw[h0 i (lV hle hjk),if_neg cJ];exact wu9 ⟨rfl,rfl,i+1,rfl,lV hle hjk⟩
 ·rintro⟨b1,b2⟩ s' ⟨hb,rfl,j,hj,hle⟩;have:=congrArg ux hj;rw[List.length_range']at this;simp at this;omega
 ·simp[PV]
end
set_option tactic.hygienic true in
theorem Be(d:Dat):∀(ds:List Dat)(k0 k:Nat),findD d ds k0=a_ k->k0<=k/\k<k0+ds.length/\kM (ds.getD (k - k0) .non) d=c_/\∀j,j<k - k0->kM (ds.getD j .non) d=d_
 |[],_,_,h=>by cases h
 |x::xs,k0,k,h=>by
   simp only[findD]at h;split at h
   ·rename_i e;cases h;exact⟨aI _,by simp,by simpa using e,λj hj=>by omega⟩
   ·rename_i e;obtain⟨h1,h2,h3,h4⟩:=Be d xs (k0+1) k h;refine⟨bo h1,by simp;omega,?_,λj hj=>?_⟩
    ·rw[show k - k0=(k - (k0+1))+1 by omega];simpa using h3
    ·cases j with
     |zero=>simpa using e
     |succ j=>simpa using h4 j (Nat.le_sub_one_of_lt hj)
section
variable{X:Cx}{xa:Ex}
set_option tactic.hygienic true in
def Gz(hu:X.A.units+21<cP):QV X "tuple.index" (gM X.K (gZ .tindex)):=λh_ s σ H x xs v us Q I rx rv z12=>by
 obtain⟨da,ds,d,fr,F,h,g,ra,rs,k⟩:=z12
 have hsh:∃es d1,da=.tup es/\ds=[d1]:=by
  match da,ds,h with
  |.tup es,[d1],_=>exact⟨es,d1,rfl,rfl⟩
 obtain⟨es,d1,rfl,rfl⟩:=hsh;simp only[gZ,GH]at h;split at h
 ·rename_i hs;rw[af]at hs;obtain⟨kq,hf0,h⟩:=er h;cases h
  obtain⟨kk,hf,rfl⟩:∃kk:Nat,findD d1 es 0=a_ kk/\kq=(kk:Int):=by
   cases hz:findD d1 es 0 with
   |none=>rw[hz]at hf0;cases hf0
   |some z=>rw[hz]at hf0;cases hf0;exact⟨z,rfl,rfl⟩
  obtain⟨p,vs,rfl,t,r⟩:=ra;obtain⟨v1,w1,rfl,r1,e1⟩:=rs;cases e1;obtain⟨u,rfl,ru⟩:=vals1 rv;cases rx;obtain⟨its,w2,pl,hz⟩:=I.tupR g t;obtain⟨_,f2,f3,f4⟩:=Be d1 es 0 kk hf;have el:its.toArray.size=es.length:=by rw[aJ,<-w2.length,r.length]
  refine FW (e:=λj=>kM (es.getD j .non) d1) (k:=kk) pl (by rw[el,<-r.length];exact hz) (λj hj=>?_) (ae f2 (kQ (aM el.symm) (bQ _))) (by simpa using f3) (λj hj=>f4 j (by omega)) λtk=>⟨.int _,H,I.tok _,⟨_,rfl⟩,k _ F H (Step.refl g) rfl aT⟩
  have hj':j<es.length:=ae hj (aM el);obtain⟨vj,e2,q2⟩:=tQ w2 hj;obtain⟨z1,g1,g2⟩:=r.get (ao hj');rw[e2]at g1;cases g1;have g3:es.getD j .non=es[j]:=by simp[lM,hj']
  show lK X.A.in1 s its.toArray[j] u (kM (es.getD j .non) d1);rw[g3];exact(mI I g 20 X.A.in1 _ _ (by show X.A.units+1+20<cP;omega) (my hs.2 (ao hj')) hs.1 g2 r1 q2 ru).1
 ·cases h
def F8{ap cp:rE}(hu:X.A.units+21<cP)(hn:PE X (.Name x p) (λ_ H Q=>Q v H))(hd:∀F,Rep X.K F (.tup ds) v)(ht:∀a,v=.ref a->∃o,X.K.lookup a=a_ o/\o.cls=.type "tuple"/\o.dict=b_)
  (ha:SA X C [e] [xa])(hl:(ap.endLine == cp.line)=c_)(h1:aG [e] X.env=(d_,eval e X.env)::aG [] X.env):SE X C (.Call (.Attribute (.Name x p) "index" ap) [e] [] cp) (.eD .tindex (.con (.tup ds)) [xa]):=
 PE.imp (wQ PySem.F.plainAttrs_tuple vM PySem.F.type_tuple_index (Gz hu) hn ha rfl (by rw[h1];rfl) hl h1 rfl) λσ H Q z3=>by
  obtain⟨ρ,d,fr,h,F,g,R,k⟩:=z3;obtain⟨ds',h2,h3⟩:=bS (show(iB C [xa] ρ).bind (λds'=>gZ .tindex (.tup ds) ds')=a_ (d,fr)from h)
  have hv:Yk X.K "tuple" v H:=by
   obtain⟨a,vs,rfl,_⟩:=hd F;exact .inr (.inl ⟨rfl,ht a rfl⟩)
  exact⟨hv,ρ,ds',h2,F,g,R,λvs F2 H2 st2 r2=>⟨.tup ds,ds',d,fr,F2,h3,st2.good,hd F2,r2,λw F3 H3 st3 r3 f3=>k w F3 H3 (st2.trans st3) r3 λq=>(f3 q).back (F:=F) st2.hh⟩⟩
end
section
variable{X:Cx}{es:List aV}{xo xa:Ex}
def gn.zb{K:Fg}(hp:H p=b_):gn K H (L2.upd H p (.dK [])) (.dct [] []) (.ref p):=
 ⟨[p],by simp,λa m=>by rw[aQ.mp m];exact hp,p,[],[],rfl,bh,rfl,⟨rfl,rfl⟩,rfl⟩
def M8:SE X C (.Dict [] [] pos) .zb:=PE.imp JE λσ H Q z3 p hp=>by
 obtain⟨ρ,d,fr,h,F,g,R,k⟩:=z3;cases h;exact k _ _ _ (Step.alloc g hp) ⟨p,[],rfl,bh,rfl,rfl⟩ λ_=>.zb hp
noncomputable def baseOk:aV->Bool
 |.Call (.Name _ _) [] [] _=>d_
 |_=>c_
def o3(h:baseOk o=c_):attributeBase o m env w=w:=by
 cases o with
 |Call f a k p=>
   cases f with
   |Name x q=>
     cases a with
     |nil=>
       cases k with
       |nil=>cases h
       |cons _ _=>rfl
     |cons _ _=>rfl
   |_=>rfl
 |_=>rfl
def IT{id:String}{ap cp:rE}(slot:Slot "str" name id)(ty:typeOf (.builtin id)=pure (.type "method_descriptor"))(hm:QV X id (gM X.K (gZ m)))(hs:∀da ds r,gZ m da ds=a_ r->∃z,da=.str z)
  (ho:SE X C o xo)(ha:SA X C [e] [xa])(hb:baseOk o=c_)(hl:(ap.endLine == cp.line)=c_)(h1:aG [e] X.env=(d_,eval e X.env)::aG [] X.env):SE X C (.Call (.Attribute o name ap) [e] [] cp) (.eD m xo [xa]):=
 PE.imp (wQ PySem.F.plainAttrs_str slot ty hm ho ha (o3 hb) (by rw[h1];rfl) hl h1 rfl) (GD hs)
noncomputable def UN(m:a8)(k:Nat):Option Ye:=
 if m="join"/\k=1 then a_ .join else if m="split"/\k=1 then a_ .split else if m="find"/\k=1 then a_ .find else b_
set_option tactic.hygienic true in
def Pn{mt:Ye}{ap cp:rE}(hu:X.A.units+1<cP)(h:UN m es.length=a_ mt)(ho:SE X C o xo)(ha:SA X C es xs)(hlen:xs.length=es.length)(hst:∀e,es=[e]->aG [e] X.env=(d_,eval e X.env)::aG [] X.env)(hb:baseOk o=c_)(hl:(ap.endLine == cp.line)=c_) :
  SE X C (.Call (.Attribute o m ap) es [] cp) (.eD mt xo xs):=by
 have one:es.length=1->∃e xa,es=[e]/\xs=[xa]:=λq=>by
  match es,xs,hlen,q with
  |[e],[xa],_,_=>exact⟨e,xa,rfl,rfl⟩
 have nil:es.length=0->es=[]/\xs=[]:=λq=>by
  match es,xs,hlen,q with
  |[],[],_,_=>exact⟨rfl,rfl⟩
 unfold UN at h;split at h
 ·rename_i q;cases h;obtain⟨rfl,q⟩:=q;obtain⟨e,xa,rfl,rfl⟩:=one q;exact IT PySem.F.slot_str_join PySem.F.type_str_join Oc (λ_ _ _ h=>let ⟨x,_,q,_⟩:=AY h;⟨x,q⟩) ho ha hb hl (hst e rfl)
 split at h
 ·rename_i q;cases h;obtain⟨rfl,q⟩:=q;obtain⟨e,xa,rfl,rfl⟩:=one q;exact IT xT PySem.F.type_str_split JY (λ_ _ _ h=>let ⟨x,_,q,_⟩:=inv_split h;⟨x,q⟩) ho ha hb hl (hst e rfl)
 split at h
 ·rename_i q;cases h;obtain⟨rfl,q⟩:=q;obtain⟨e,xa,rfl,rfl⟩:=one q;exact IT PySem.F.slot_str_find PySem.F.type_str_find Od (λ_ _ _ h=>let ⟨x,_,q,_⟩:=AZ h;⟨x,q⟩) ho ha hb hl (hst e rfl)
 ·cases h
end
def EJ:Dat->Dat->g_
 |.lst ds,.bl b=>(jZ ds).map λbs=>(.int (bs.countP (·== b):Nat),d_)
 |_,_=>b_
noncomputable def EX:Dat->Dat->Bool
 |.bl _,.bl _=>c_
 |.str _,.str _=>c_
 |_,_=>d_
def AH:Dat->Dat->g_
 |.lst ds,d=>if ds.all (EX d)=c_ then(ds.findIdx? λe=>kM e d).map λj=>(.int (j:Nat),d_)else b_
 |_,_=>b_
def Ex.To(a b:Ex):Ex:=⟨a.fv++b.fv,λC ρ=>(bg C a ρ).bind λx=>(bg C b ρ).bind λy=>EJ x.1 y.1⟩
def Ex.vX(a b:Ex):Ex:=⟨a.fv++b.fv,λC ρ=>(bg C a ρ).bind λx=>(bg C b ρ).bind λy=>AH x.1 y.1⟩
section
variable{X:Cx}{xo xa:Ex}{ap cp:rE}
def YH(K:Fg)(g:Dat->Dat->g_):V->List V->Hp->VK->Prop:=λx vs H Q=>∃F da db d w,Good F H/\Rep K F da x/\vs=[w]/\Rep K F db w/\g da db=a_ (d,d_)/\∀z,Rep K F d z->Q z H
noncomputable def Y8(b:Bool):ak->Bool
 |.bool c=>c == b
 |_=>d_
def AI(h:EJ da db=a_ (d,fr)):∃ds b bs,da=.lst ds/\db=.bl b/\jZ ds=a_ bs/\d=.int (bs.countP (·== b):Nat)/\fr=d_:=by
 unfold EJ at h;split at h
 ·obtain⟨bs,h1,h2⟩:=er h;cases h2;exact⟨_,_,bs,rfl,rfl,h1,rfl,rfl⟩
 ·cases h
set_option tactic.hygienic true in
def AG(h:AH da db=a_ (d,fr)):∃ds j,da=.lst ds/\ds.all (EX db)=c_/\ds.findIdx? (λe=>kM e db)=a_ j/\d=.int (j:Nat)/\fr=d_:=by
 cases da with
 |lst ds=>
   have h:(if ds.all (EX db)=c_ then(ds.findIdx? λe=>kM e db).map λj:Nat=>(Dat.int (j:Nat),d_)else b_)=a_ (d,fr):=h;split at h
   ·rename_i hf;obtain⟨j,h3,h4⟩:=er h;cases h4;exact⟨ds,j,rfl,hf,h3,rfl,rfl⟩
   ·cases h
 |_=>cases h
noncomputable def fE:Dat->ak->Bool
 |.bl b,.bool c=>c == b
 |.str x,.str y _=>y == x
 |_,_=>d_
def Xa{K:Fg}{F:Hp}{db e:Dat}{v:V}{y:ak}(h:EX db e=c_)(r:Rep K F e v)(q:RelV v y):fE db y=kM e db/\eO 0 e=c_/\eO 0 db=c_:=by
 cases db with
 |bl b=>
   cases e with
   |bl c=>cases r;rw[show y=.bool c from q];exact⟨rfl,rfl,rfl⟩
   |_=>cases h
 |str x=>
   cases e with
   |str z=>cases r;obtain⟨t,rfl⟩:=q;exact⟨rfl,rfl,rfl⟩
   |_=>cases h
 |_=>cases h
def K4(hu:X.A.units+1<cP)(I:Inv X h_ σ H s)(g:Good F H){bs:List Bool}:∀y,y∈(bs.map j8).toArray->lK X.A.in1 s y (.bool b) (Y8 b y):=λy hy=>by
 obtain⟨c,_,rfl⟩:=bb.mp (List.mem_toArray.mp hy);have:=(mI I g 0 X.A.in1 (.bl c) (.bl b) (x:=.bl c) (y:=.bl b) (u:=.bool c) (w:=.bool b) (by show X.A.units+1+0<cP;omega) rfl rfl rfl rfl rfl rfl).1;exact this
def Ob(hu:X.A.units+1<cP):QV X "list.count" (YH X.K EJ):=λh_ s σ H x vs v us Q I rx rv h=>by
 obtain⟨F,da,db,d,w,g,ra,rfl,rb,hd,q⟩:=h;obtain⟨ds,b,bs,rfl,rfl,hb,rfl,_⟩:=AI hd;obtain⟨p,ws,rfl,t,r'⟩:=ra;obtain⟨its,w1,pl,_⟩:=I.lstR g t;cases rx;obtain⟨u,rfl,ru⟩:=rv.one;cases rb;obtain rfl:u=.bool b:=ru;have ei:=oZ hb r' w1;subst ei;obtain⟨⟨oc,od,dt,sl⟩,n,e1,e2,e3,e4⟩:=pl;dsimp only at e2 e3 e4;subst e2 e3 e4;refine mU wk ⟨_,e1,rfl⟩ PySem.F.entry_list_count (PySem.F.args_list_count_2 _ _) (SeqAt.list_countAt p _ n b_ sl (.bool b) (Y8 b)) ⟨e1,K4 hu I g,?_⟩
 have ec:(bs.map j8).toArray.toList.countP (Y8 b)=bs.countP (·== b):=by
  rw[FO,List.countP_map];rfl
 rw[ec];exact⟨.int _,H,I.tok _,⟨_,rfl⟩,q _ rfl⟩
def Oa(hu:X.A.units+1<cP):QV X "list.index" (YH X.K AH):=λh_ s σ H x vs v us Q I rx rv h=>by
 obtain⟨F,da,db,d,w,g,ra,rfl,rb,hd,q⟩:=h;obtain⟨ds,j,rfl,hf,hj,rfl,_⟩:=AG hd;obtain⟨p,ws,rfl,t,r'⟩:=ra;obtain⟨its,w1,pl,hz⟩:=I.lstR g t;cases rx;obtain⟨u,rfl,ru⟩:=rv.one;have hlen:its.length<=aD:=by rw[<-w1.length];exact hz
 have hl:its.length=ds.length:=by rw[<-w1.length,r'.length]
 have key:∀i(hi:i<its.toArray.size),∃hd:i<ds.length,fE db its.toArray[i]=kM ds[i] db/\lK X.A.in1 s its.toArray[i] u (fE db its.toArray[i]):=λi hi=>by
  have hi':i<ds.length:=by rw[<-hl];simpa using hi
  obtain⟨z,e1,q1⟩:=tQ w1 hi;obtain⟨z',e2,q2⟩:=r'.get (ao hi');rw[e1]at e2;cases e2;obtain⟨f1,f2,f3⟩:=Xa (aC.mp hf _ (bA hi')) q2 q1;refine⟨hi',f1,?_⟩;rw[f1];exact(mI I g 0 X.A.in1 _ db (by show X.A.units+1+0<cP;omega) f2 f3 q2 rb q1 ru).1
 obtain⟨⟨oc,od,dt,sl⟩,n,e1,e2,e3,e4⟩:=pl;dsimp only at e2 e3 e4;subst e2 e3 e4;obtain⟨hjl,hjb,hjn⟩:=jM.mp hj;have hjs:j<its.toArray.size:=by simpa [hl]using hjl
 refine mU wj ⟨_,e1,rfl⟩ PySem.F.entry_list_index (PySem.F.args_list_index_2 _ _) (SeqAt.list_indexAt p _ n b_ sl u (fE db) j hjs ?_ ?_ ?_) ⟨e1,λy hy=>?_,?_⟩
 ·have h63:(2:Int) ^ 63 - 1=9223372036854775807:=bG;rw[h63];rw[bu]at hlen;omega
 ·obtain⟨_,f1,_⟩:=key j hjs;rw[f1];exact hjb
 ·intro m hm hmj;obtain⟨_,f1,_⟩:=key m hm;rw[f1];simpa using hjn m hmj
 ·obtain⟨i,hi,rfl⟩:=Array.mem_iff_getElem.mp hy;obtain⟨_,_,f2⟩:=key i hi;exact f2
 ·exact⟨.int _,H,I.tok _,⟨_,rfl⟩,q _ rfl⟩
def EH(hz:∀ρ d fr,bg C z ρ=a_ (d,fr)->∃x y,bg C xo ρ=a_ x/\bg C xa ρ=a_ y/\g x.1 y.1=a_ (d,fr))(hg:∀da db d fr,g da db=a_ (d,fr)->(∃ds,da=.lst ds)/\fr=d_):∀σ H Q,gE X.K C z σ H Q->XX X.K "list" (YH X.K g) (gE X.K C xo) (gA X.K C [xa]) σ H Q:=λσ H Q z3=>by
 obtain⟨ρ,d,fr,h,F,gd,R,k⟩:=z3;obtain⟨⟨da,fa⟩,⟨db,fb⟩,h1,h2,h3⟩:=hz ρ d fr h;obtain⟨⟨ds,e⟩,hfr⟩:=hg _ _ _ _ h3;have e:da=.lst ds:=e;subst e hfr;refine⟨ρ,_,fa,h1,F,gd,R,λv F1 H1 st1 r1 _=>⟨?_,ρ,[db],by simp only[iB];rw[h2];rfl,F1,st1.good,R.mono st1.ff,λvs F2 H2 st2 r2=>?_⟩⟩
 ·obtain⟨p,ws,rfl,t,_⟩:=r1;exact .inl ⟨rfl,ws,st1.good.sub.seq t⟩
 ·obtain⟨w,r',rfl,q1,e⟩:=r2;cases e;exact⟨F2,_,db,d,w,st2.good,Rep.mono st2.ff _ r1,rfl,q1,h3,λz rz=>k z F2 H2 (st1.trans st2) rz aT⟩
def M6(hu:X.A.units+1<cP)(ho:SE X C o xo)(ha:SA X C [e] [xa])(hb:baseOk o=c_)(hl:(ap.endLine == cp.line)=c_)(h1:aG [e] X.env=(d_,eval e X.env)::aG [] X.env):SE X C (.Call (.Attribute o "count" ap) [e] [] cp) (.To xo xa):=
 PE.imp (wQ jq wk PySem.F.type_list_count (Ob hu) ho ha (o3 hb) (by rw[h1];rfl) hl h1 rfl) (EH (λρ d fr h=>by
  obtain⟨x,h1,h⟩:=bS h;obtain⟨y,h2,h⟩:=bS h
  exact⟨x,y,h1,h2,h⟩) λda db d fr h=>let ⟨ds,_,_,e,_,_,_,f⟩:=AI h;⟨⟨ds,e⟩,f⟩)
def M5(hu:X.A.units+1<cP)(ho:SE X C o xo)(ha:SA X C [e] [xa])(hb:baseOk o=c_)(hl:(ap.endLine == cp.line)=c_)(h1:aG [e] X.env=(d_,eval e X.env)::aG [] X.env):SE X C (.Call (.Attribute o "index" ap) [e] [] cp) (.vX xo xa):=
 PE.imp (wQ jq wj PySem.F.type_list_index (Oa hu) ho ha (o3 hb) (by rw[h1];rfl) hl h1 rfl) (EH (λρ d fr h=>by
  obtain⟨x,h1,h⟩:=bS h;obtain⟨y,h2,h⟩:=bS h
  exact⟨x,y,h1,h2,h⟩) λda db d fr h=>let ⟨ds,_,e,_,_,_,f⟩:=AG h;⟨⟨ds,e⟩,f⟩)
end
structure LO{α:Type}(lt:α->α->Bool):Prop where
 irr:∀x,lt x x=d_
 tr:∀x y z,lt x y=c_->lt y z=c_->lt x z=c_
 tot:∀x y,lt x y=d_->lt y x=d_->x=y
def LO.Lu (o:LO lt)(h:lt x y=c_):lt y x=d_:=by
 cases q:lt y x with
 |false=>rfl
 |true=>have:=o.tr _ _ _ h q;rw[o.irr]at this;cases this
def LO.Y0 (o:LO lt)(h:lt y x=d_)(h':lt z y=d_):lt z x=d_:=by
 cases q:lt z x with
 |false=>rfl
 |true=>
   cases r:lt y z with
   |true=>have:=o.tr _ _ _ r q;rw[h]at this;cases this
   |false=>have:=o.tot _ _ r h';subst this;rw[h]at q;cases q
def Hw:LO ltI:=⟨λx=>by simp[ltI],λx y z h h'=>by simp[ltI]at *;exact BY (dX h h'),λx y h h'=>by simp[ltI]at *;exact Int.le_antisymm h' h⟩
def Th:LO t7:=⟨λx=>by simp[t7],λx y z h h'=>by
  simp only[t7,decide_eq_true_eq]at *
  exact List.lt_trans h h',λx y h h'=>by
  simp only[t7,decide_eq_false_iff_not]at *;have:x.cps.toList=y.cps.toList:=List.le_antisymm (List.not_lt.mp h') (List.not_lt.mp h);obtain⟨a⟩:=x;obtain⟨b⟩:=y;obtain⟨a⟩:=a;obtain⟨b⟩:=b;simp at this
  rw[this]⟩
section
variable{α:Type}
set_option tactic.hygienic true
theorem uY(o:LO lt):∀{l:List α},z∈qR lt x l↔z=x\/z∈l
 |[]=>by simp[qR]
 |y::ys=>by
   unfold qR;split
   ·rw[aq]
   ·rename_i h1;split
    ·rw[aq,uY o,aq];constructor
     ·rintro(h|h|h)
      ·exact .inr (.inl h)
      ·exact .inl h
      ·exact .inr (.inr h)
     ·rintro(h|h|h)
      ·exact .inr (.inl h)
      ·exact .inl h
      ·exact .inr (.inr h)
    ·rename_i h2;have:=o.tot x y (by simpa using h1) (by simpa using h2);subst this;rw[aq];exact⟨λh=>.inr h,λh=>h.elim .inl id⟩
theorem lh(o:LO lt):∀{l:List α},z∈eN lt l↔z∈l
 |[]=>Iff.rfl
 |x::l=>by rw[eN,uY o,lh o,aq]
theorem Eg(o:LO lt):∀{l:List α},l.Pairwise (λa b=>lt a b=c_)->(qR lt x l).Pairwise (λa b=>lt a b=c_)
 |[],_=>by simp[qR]
 |y::ys,h=>by
   obtain⟨h1,h2⟩:=ik.mp h;unfold qR;split
   ·rename_i q;refine ik.mpr ⟨λz hz=>?_,h⟩
    rcases aq.mp hz with rfl|hz
    ·exact q
    ·exact o.tr _ _ _ q (h1 z hz)
   ·split
    ·rename_i q;refine ik.mpr ⟨λz hz=>?_,Eg o h2⟩
     rcases(uY o).mp hz with rfl|hz
     ·exact q
     ·exact h1 z hz
    ·exact h
set_option tactic.hygienic false
theorem jH(o:LO lt):∀(l:List α),(eN lt l).Pairwise (λa b=>lt a b=c_)
 |[]=>.nil
 |x::l=>Eg o (jH o l)
def mE(o:LO lt){l:List α}(h:l.Pairwise (λa b=>lt a b=c_)):l.Nodup:=h.imp λq e=>by subst e;rw[o.irr]at q;cases q
def HY(o:LO lt){r:List α}(hn:r.Nodup)(hs:r.Pairwise (λa b=>lt b a=d_))(hm:∀z,z∈r↔z∈l):r=eN lt l:=by
 refine iS (le:=λa b=>lt b a=d_) (λa b _ _ h h'=>o.tot _ _ h' h) hs ((jH o l).imp λq=>o.Lu q) ?_;rw[fM hn (mE o (jH o l))];intro z;rw[hm,lh o]
end
theorem Ji:∀{l:List a8}{p:a8},risingS p l=c_->(p::l).Pairwise (λa b=>t7 b a=d_)
 |[],p,_=>by simp
 |x::r,p,h=>by
   simp only[risingS,af,fj]at h;obtain⟨h1,h2⟩:=h;rw[ltCps_eq]at h1;have h1':t7 x p=d_:=h1;have ih:=Ji h2;refine ik.mpr ⟨λz hz=>?_,ih⟩
   rcases aq.mp hz with rfl|hz
   ·exact h1'
   ·exact Th.Y0 h1' ((ik.mp ih).1 z hz)
def Rj(h:sortedS l=c_):l.Pairwise (λa b=>t7 b a=d_):=by
 cases l with
 |nil=>exact .nil
 |cons x r=>exact Ji h
def TX{l:List Int}(h:l.Pairwise (·<=·)):l.Pairwise (λa b=>ltI b a=d_):=h.imp λq=>by simp[ltI];omega
theorem We{K:Fg}:∀{ds:List Dat}{is:List Int}{vs:List V}{us:List ak},qQ ds=a_ is->cj K F ds vs->bW vs us->lJ us is
 |[],is,vs,us,h,r,w=>by
   cases h;rw[show vs=[]from r]at w;cases w;exact .nil
 |d::ds,is,vs,us,h,z5,w=>by
   obtain⟨v,r,e,h1,h2⟩:=z5;subst e
   cases d with
   |int i=>
     simp only[qQ]at h;obtain⟨js,h3,h4⟩:=er h;subst h4
     cases w with
     |cons a b=>
       cases h1;obtain⟨t,rfl⟩:=a;exact .cons _ _ (We h3 h2 b)
   |_=>cases h
theorem Wd{K:Fg}:∀{ds:List Dat}{is:List a8}{vs:List V}{us:List ak},pq ds=a_ is->cj K F ds vs->bW vs us->pJ us is
 |[],is,vs,us,h,r,w=>by
   cases h;rw[show vs=[]from r]at w;cases w;exact .nil
 |d::ds,is,vs,us,h,z5,w=>by
   obtain⟨v,r,e,h1,h2⟩:=z5;subst e
   cases d with
   |str i=>
     simp only[pq]at h;obtain⟨js,h3,h4⟩:=er h;subst h4
     cases w with
     |cons a b=>
       cases h1;obtain⟨t,rfl⟩:=a;exact .cons _ _ (Wd h3 h2 b)
   |_=>cases h
section
variable{X:Cx}{xa:Ex}
def DZ{h':bM}{out:List ak}(I:Inv X h_ σ H s)(ex:∀b o,s.heap.get? b=a_ o->h'.get? b=a_ o)(hl:s.heap.objs.size<=l)(g:h'.get? l=a_ (seqObj "list" out.toArray e))(w:bW vs out)(hz:vs.length<=aD) :
  Inv X h_ σ (upd H l (.lst vs)) { s with heap:=h',drawn:=d,toks:=tk }:=by
 have I2:Inv X h_ σ (upd H l (.lst vs)) { s with heap:=h',toks:=tk }:=I.laid ex hl ⟨hz,out,e,w,g⟩;exact⟨I2.ok,I2.os,I2.bare,I2.base,I2.loc,I2.cell,I2.free,I2.freeC,I2.pin,I2.hok,I2.len⟩
def KO{Q:VK}{F:Hp}{d:Dat}{fr:Bool}{l:aE}{is:List Int}(g:Good F H)(hfr:H l=b_)(k:∀w F' H',Step F H F' H'->Rep X.K F' (.lst (is.map .int)) w->(c_=c_->gn X.K H H' (.lst (is.map .int)) w)->Q w H'):Q (.ref l) (upd H l (.lst (is.map V.int))):=
 k _ _ _ (Step.alloc g hfr) ⟨l,_,rfl,.inl (.inl bh),YE is⟩ λ_=>.lst (bN.refl _) hfr (.jS g (WZ is) (YE is))
def KN{Q:VK}{F:Hp}{d:Dat}{fr:Bool}{l:aE}{is:List a8}(g:Good F H)(hfr:H l=b_)(k:∀w F' H',Step F H F' H'->Rep X.K F' (.lst (is.map .str)) w->(c_=c_->gn X.K H H' (.lst (is.map .str)) w)->Q w H'):Q (.ref l) (upd H l (.lst (is.map V.str))):=
 k _ _ _ (Step.alloc g hfr) ⟨l,_,rfl,.inl (.inl bh),YD is⟩ λ_=>.lst (bN.refl _) hfr (.jS g (WY is) (YD is))
def uJ(h:n<64):n<=aD:=by rw[bu];exact bo (ae h bG)
def Yy{js:List Int}(I:Inv X h_ σ H s)(h64:js.length<64)(hc:Hj X.prog X.w X.A s v (λvs=>∃is',lJ vs is'/\is'.Perm is))(he:∀r:List Int,r.Perm is->r.Pairwise (λa b=>ltI b a=d_)->r=js)(hi:is.length=js.length)
  (k:∀l,H l=b_->Q (.ref l) (upd H l (.lst (js.map V.int)))):ax (aB X.prog X.w) X.A (call (.builtin "sorted") [v]) (EP X h_ σ Q) E s:=by
 refine IL (is:=is) (aN (aM hi) h64) hc λh' d tk l out is' e ex hl g i1 i2 i3=>?_;obtain rfl:=he is' i2 (TX i3);exact⟨.ref l,_,DZ I ex hl g (xn i1) (by rw[ag];exact uJ h64),rfl,k l (I.hok.fresh hl)⟩
def Yx{js:List a8}(I:Inv X h_ σ H s)(h64:js.length<64)(hc:Hj X.prog X.w X.A s v (λvs=>∃is',pJ vs is'/\is'.Perm is))(he:∀r:List a8,r.Perm is->r.Pairwise (λa b=>t7 b a=d_)->r=js)(hi:is.length=js.length)
  (k:∀l,H l=b_->Q (.ref l) (upd H l (.lst (js.map V.str)))):ax (aB X.prog X.w) X.A (call (.builtin "sorted") [v]) (EP X h_ σ Q) E s:=by
 refine IK (ss:=is) (aN (aM hi) h64) hc λh' d tk l out is' e ex hl g i1 i2 i3=>?_;obtain rfl:=he is' i2 (Rj i3);exact⟨.ref l,_,DZ I ex hl g (wJ i1) (by rw[ag];exact uJ h64),rfl,k l (I.hok.fresh hl)⟩
end
def kI:Key->Int
 |.inl i=>i
 |.inr _=>0
def kS:Key->a8
 |.inl _=>""
 |.inr x=>x
theorem ER:∀{vs:List ak}{ks:List Key},jC (λv k=>pz k v=c_) vs ks->(∀k∈ks,∃i,k=jy i)->lJ vs (ks.map kI)
 |_,_,.nil,_=>.nil
 |_,_,.cons (a:=v) (b:=k) p q,h=>by
   obtain⟨i,rfl⟩:=h _ (.head _)
   rcases dU p with⟨j,t,e,rfl⟩|⟨x,t,e,_⟩
   ·cases e;exact .cons _ _ (ER q λk hk=>h k (.tail _ hk))
   ·cases e
theorem DU:∀{vs:List ak}{ks:List Key},jC (λv k=>pz k v=c_) vs ks->(∀k∈ks,∃i,k=ej i)->pJ vs (ks.map kS)
 |_,_,.nil,_=>.nil
 |_,_,.cons (a:=v) (b:=k) p q,h=>by
   obtain⟨i,rfl⟩:=h _ (.head _)
   rcases dU p with⟨j,t,e,_⟩|⟨x,t,e,rfl⟩
   ·cases e
   ·cases e;exact .cons _ _ (DU q λk hk=>h k (.tail _ hk))
theorem pP{α β γ:Type}{R:β->γ->Prop}{f:α->β}:∀{l:List α}{ks:List γ},jC (λa c=>R (f a) c) l ks->jC R (l.map f) ks
 |_,_,.nil=>.nil
 |_,_,.cons p q=>.cons p (pP q)
def JR{ks:List Key}(h:ks.Nodup)(ha:∀k∈ks,∃i,k=jy i):(ks.map kI).Nodup:=by
 unfold List.Nodup at *;rw[sN];refine rH ?_ h;intro a b ma mb hab e;obtain⟨i,rfl⟩:=ha a ma;obtain⟨j,rfl⟩:=ha b mb;exact hab (by simp only[kI]at e;rw[e])
def JQ{ks:List Key}(h:ks.Nodup)(ha:∀k∈ks,∃i,k=ej i):(ks.map kS).Nodup:=by
 unfold List.Nodup at *;rw[sN];refine rH ?_ h;intro a b ma mb hab e;obtain⟨i,rfl⟩:=ha a ma;obtain⟨j,rfl⟩:=ha b mb;exact hab (by simp only[kS]at e;rw[e])
section
variable{A:cm}{s:aw}
def G0{is:List Int}(hh:A.handled=b_)(y:lE (bT prog w) (oy w) s.heap S n (λq=>∃j,j<is.length/\jy (is.getD j 0)=q))(hn:n<=4000) :
  Hj prog w A s (.ref S) (λvs=>∃is',lJ vs is'/\is'.Perm (eN ltI is)):=by
 obtain⟨es,ep,t,ks,ya,yb,yc,yd,ye,yf⟩:=y;have len:=m4 yc;rw[cu]at len;intro A' E' Q' e k;refine sZ (e.trans hh) ya (by rw[bu];omega) λh1 d tk vs ex sz pm=>k vs h1 d tk ex sz ?_;obtain⟨ks',p1,p2⟩:=om pm (pP (R:=λv k=>pz k v=c_) (f:=λe:Int×ak=>e.2) yc)
 have ha:∀k∈ks,∃i,k=jy i:=λk hk=>by
  obtain⟨j,_,e⟩:=(yf k).mp hk;exact⟨_,e.symm⟩
 refine⟨_,ER p1 λk hk=>ha k (p2.mem_iff.mp hk),(p2.map kI).trans ?_⟩;rw[fM (JR yd ha) (mE Hw (jH Hw is))];intro z;rw[lh Hw,bb];constructor
 ·rintro⟨q,hq,rfl⟩;obtain⟨j,hj,e⟩:=(yf q).mp hq;subst e;simp only[kI,eG,ao hj,fD];exact bA hj
 ·intro hz;obtain⟨j,hj,rfl⟩:=fX.mp hz;refine⟨jy is[j],(yf _).mpr ⟨j,hj,?_⟩,rfl⟩;simp only[eG,ao hj,fD]
def GZ{is:List a8}(hh:A.handled=b_)(y:lE (bT prog w) (oy w) s.heap S n (λq=>∃j,j<is.length/\ej (is.getD j "")=q))(hn:n<=4000) :
  Hj prog w A s (.ref S) (λvs=>∃is',pJ vs is'/\is'.Perm (eN t7 is)):=by
 obtain⟨es,ep,t,ks,ya,yb,yc,yd,ye,yf⟩:=y;have len:=m4 yc;rw[cu]at len;intro A' E' Q' e k;refine sZ (e.trans hh) ya (by rw[bu];omega) λh1 d tk vs ex sz pm=>k vs h1 d tk ex sz ?_;obtain⟨ks',p1,p2⟩:=om pm (pP (R:=λv k=>pz k v=c_) (f:=λe:Int×ak=>e.2) yc)
 have ha:∀k∈ks,∃i,k=ej i:=λk hk=>by
  obtain⟨j,_,e⟩:=(yf k).mp hk;exact⟨_,e.symm⟩
 refine⟨_,DU p1 λk hk=>ha k (p2.mem_iff.mp hk),(p2.map kS).trans ?_⟩;rw[fM (JQ yd ha) (mE Th (jH Th is))];intro z;rw[lh Th,bb];constructor
 ·rintro⟨q,hq,rfl⟩;obtain⟨j,hj,e⟩:=(yf q).mp hq;subst e;simp only[kS,eG,ao hj,fD];exact bA hj
 ·intro hz;obtain⟨j,hj,rfl⟩:=fX.mp hz;refine⟨ej is[j],(yf _).mpr ⟨j,hj,?_⟩,rfl⟩;simp only[eG,ao hj,fD]
def WT{h:bM}(hl:h.IsList l items):LF prog w h (.ref l) items.size (λi v=>items[i]?=a_ v):=by
 intro A1 E1 s1 Q1 sz ex k;have hl1:s1.heap.IsList l items:=hl.at λo e=>ex l o e;have lt:l<h.objs.size:=by obtain⟨o,e,_⟩:=hl;exact hl9 e
 have ne:l≠s1.heap.objs.size:=bc (iu lt sz);refine kr hl1 (k _ [s1.heap.objs.size,l] _ (λA' hA=>FG hA _ l ne items) (λb hb=>?_) ⟨⟨_,aK _ rfl,rfl,rfl⟩,hl1.push _⟩)
 rcases aq.mp hb with z|z
 ·exact .inl z
 ·exact .inr (by rw[aQ.mp z];exact lt)
def Y5:LF prog w h (.str x tx) x.cps.size (SignAt x):=by
 intro A1 E1 s1 Q1 sz ex k;refine wpAny_pyIter_str λo St W st=>k o [s1.heap.objs.size] St W (λb hb=>.inl (aQ.mp hb)) st
def Ci:isSubtype (.type "str") (.type "set")=pure d_:=by rw[rC];kernel_rfl
def Cj:isSubtype (.type "str") (.type "frozenset")=pure d_:=by rw[rC];kernel_rfl
theorem DV:∀{vs:List ak}{ss:List a8},pJ vs ss->∀(i:Nat)(v:ak),vs[i]?=a_ v->∃t,v=.str (ss.getD i "") t
 |_,_,.nil,i,v,h=>by simp at h
 |_,_,.cons y t r,0,v,h=>by simp at h;exact⟨t,by rw[<-h];rfl⟩
 |_,_,.cons y t r,i+1,v,h=>by
   simp only[cA]at h;obtain⟨t',e⟩:=DV r i v h;exact⟨t',by rw[e];rfl⟩
end
section
variable{X:Cx}{xa:Ex}
set_option tactic.hygienic true in
def M3(hu:X.A.units+21<cP)(hcalm:X.calm=c_)(hg:Gl X "sorted")(hm:X.mg "sorted"=b_)(hg2:Gl X "set")(hm2:X.mg "set"=b_)(ha:SE X C a xa)
  (hs:aG [a] X.env=[(d_,eval a X.env)]) :
  SE X C (.Call (.Name "sorted" p) [.Call (.Name "set" p2) [a] [] pos2] [] pos) (.blt .sset [xa]):=by
 intro h_ s σ H Q I h;obtain⟨ρ,d,fr,h,F,g,R,k⟩:=h;obtain⟨ds,h1,h2⟩:=bS h;obtain⟨⟨da,fa⟩,h3,h1⟩:=bS h1;cases h1;refine fU (m8 I hg hm (by decide +kernel:bootBuiltins "sorted"=a_ (.builtin "sorted")) (ph ?_ rfl rfl));show ax _ _ (spliced ((d_,eval (.Call (.Name "set" p2) [a] [] pos2) X.env)::backTo pos [])) _ _ s;refine FK ?_;refine fU (m8 I hg2 hm2 (by decide +kernel:bootBuiltins "set"=a_ (.type "set")) (dM ?_ (by rw[hs];rfl) rfl));have hpa:PA X [a] (gA X.K C [xa]):=iG ha mY (by rw[hs];rfl);have hev:iB C [xa] ρ=a_ [da]:=by simp only[iB,h3,au,aH]
 refine hZ (hpa pos2 h_ s σ H (λvs H1=>∃F1,Step F H F1 H1/\cj X.K F1 [da] vs) I ⟨ρ,[da],hev,F,g,R,λvs F1 H1 st1 r1=>⟨F1,st1,r1⟩⟩) λus s1 ⟨vs,H1,I1,rv,F1,st1,r1⟩=>?_;have hh:=I.ok.hd hcalm;obtain⟨v,w,rfl,rda,e⟩:=r1;cases e;obtain⟨u,rfl,ru⟩:=vals1 rv
 have endI:∀{is:List Int} {n:Nat} {h':bM} {tk:Nat} {S:aE},(d,fr)=(Dat.lst ((eN ltI is).map .int),c_)->(eN ltI is).length<64->(∀b o,s1.heap.get? b=a_ o->h'.get? b=a_ o)->n<=4000->
   lE (bT X.prog X.w) (oy X.w) h' S n (λq=>∃j,j<is.length/\jy (is.getD j 0)=q)->
   ax (aB X.prog X.w) X.A (call (.builtin "sorted") [.ref S]) (EP X h_ σ Q) X.xe { s1 with heap:=h',toks:=tk }:=by
  intro is n h' tk S e h64 ex hn y;cases e;have I2:Inv X h_ σ H1 { s1 with heap:=h',toks:=tk }:=I1.kept ex
  exact Yy (is:=eN ltI is) (js:=eN ltI is) I2 h64 (G0 hh y hn) (λr hp hs=>iS (le:=λa b=>ltI b a=d_) (λa b _ _ h h'=>Hw.tot _ _ h' h) hs ((jH Hw is).imp λq=>Hw.Lu q) hp) rfl
   λl hfr=>KO (fr:=c_) (d:=.non) st1.good hfr λw F' H' st r f=>k w F' H' (st1.trans st) r λz=>gn.back (F:=F1) st1.hh (f z)
 have endS:∀{is:List a8} {n:Nat} {h':bM} {tk:Nat} {S:aE},(d,fr)=(Dat.lst ((eN t7 is).map .str),c_)->(eN t7 is).length<64->(∀b o,s1.heap.get? b=a_ o->h'.get? b=a_ o)->n<=4000->
   lE (bT X.prog X.w) (oy X.w) h' S n (λq=>∃j,j<is.length/\ej (is.getD j "")=q)->
   ax (aB X.prog X.w) X.A (call (.builtin "sorted") [.ref S]) (EP X h_ σ Q) X.xe { s1 with heap:=h',toks:=tk }:=by
  intro is n h' tk S e h64 ex hn y;cases e;have I2:Inv X h_ σ H1 { s1 with heap:=h',toks:=tk }:=I1.kept ex
  exact Yx (is:=eN t7 is) (js:=eN t7 is) I2 h64 (GZ hh y hn) (λr hp hs=>iS (le:=λa b=>t7 b a=d_) (λa b _ _ h h'=>Th.tot _ _ h' h) hs ((jH Th is).imp λq=>Th.Lu q) hp) rfl
   λl hfr=>KN (fr:=c_) (d:=.non) st1.good hfr λw F' H' st r f=>k w F' H' (st1.trans st) r λz=>gn.back (F:=F1) st1.hh (f z)
 cases da with
 |lst ds=>
   obtain⟨l,vs,rfl,t,r'⟩:=rda;cases ru;obtain⟨its,w1,pl,hz⟩:=I1.lstR st1.good t
   have hty:∀s2:aw,(∀b o,s1.heap.get? b=a_ o->s2.heap.get? b=a_ o)->s2.TypeIs (.ref l) "list":=λs2 ex=>by
    obtain⟨o,e1,e2,_⟩:=pl.isList;exact⟨o,ex _ _ e1,e2⟩
   simp only[dG,b1,sG,mO,sE,sC,bL,Hf,sH,sD]at h2
   cases qi:qQ ds with
   |some is=>
     rw[qi]at h2;simp only[IH]at h2;split at h2
     ·rename_i hb;have ia:=We qi r' w1;have il:=HL ia;refine uL (knd:=bT X.prog X.w) hh hty zH uq bG (WT pl.isList) (λi=>jy (is.getD i 0)) (λi v hv=>?_) (by rw[aJ];unfold o5;omega) λh' tk y ex=>?_
      ·obtain⟨t',rfl⟩:=Ho ia i v (by simpa using hv);exact⟨wZ _ t',rfl⟩
      ·refine l9 ?_;rw[show its.toArray.size=is.length by rw[aJ,il]]at y;exact endI (aO h2).symm hb.2 ex (bo hb.1) y
     ·cases h2
   |none=>
     rw[qi]at h2
     cases qs:pq ds with
     |none=>
       rw[qs]at h2;cases h2
     |some ss=>
       rw[qs]at h2;simp only[wK]at h2;split at h2
       ·rename_i hb;have ia:=Wd qs r' w1;have il:its.length=ss.length:=by rw[<-ia.strs,ag]
        refine uL (knd:=bT X.prog X.w) hh hty zH uq bG (WT pl.isList) (λi=>ej (ss.getD i "")) (λi v hv=>?_) (by rw[aJ];unfold o5;omega) λh' tk y ex=>?_
        ·obtain⟨t',rfl⟩:=DV ia i v (by simpa using hv);exact⟨sd _ t',rfl⟩
        ·refine l9 ?_;rw[show its.toArray.size=ss.length by rw[aJ,il]]at y;exact endS (aO h2).symm hb.2 ex (bo hb.1) y
       ·cases h2
 |str x=>
   cases rda;obtain⟨tx,rfl⟩:=ru;simp only[dG,b1,sG,mO,sE,sC,bL,Hf,sH,sD,wK]at h2;have hl:(lY x).length=x.cps.size:=by simp[lY]
   split at h2
   ·rename_i hb;refine uL (knd:=bT X.prog X.w) hh (λs2 _=>rfl) Ci Cj bG Y5 (λi=>ej ((lY x).getD i "")) (λi v hv=>?_) (by unfold o5;omega) λh' tk y ex=>?_
    ·obtain⟨c,u,q1,rfl⟩:=hv
     have e:(lY x).getD i ""=⟨#[c]⟩:=by
      have hi:i<x.cps.size:=by rcases dk.mp q1 with⟨q,_⟩;exact q
      rw[a9 hi]at q1;cases q1;simp[lY,hi]
     rw[e];exact⟨sd _ u,rfl⟩
    ·refine l9 ?_;rw[<-hl]at y;exact endS (aO h2).symm hb.2 ex (bo hb.1) y
   ·cases h2
 |_=>simp only[dG,b1,sG,mO,sE,sC,bL,Hf,sH,sD]at h2;cases h2
end
section
variable{X:Cx}
def IV(j n:Nat)(G:jx X.prog X.w X.K X.mg X.base Fy k f fd ps (Vk X.K n (C j)))(hr:je k X.A)(hg:Gl X x)(hm:X.mg x=a_ (.ref f))(hk:de X.K (.ref f)=c_)(hb:Binds X.K fd ps [])
  (hn:n=0)(hdb:(x == ("__debug__":a8))=d_):SE X C (.Call (.Name x p) [] [] pos) (.call j []):=
 PE.imp (JG G hr hg hm hk hb .nil Qo hdb) λσ H Q h=>by
  have h':=uh (X:=X) (xs:=[]) (f:=C j) (x:=.call j []) (λρ d fr h=>by
   exact bS h) σ H Q h
  obtain⟨ρ,ds,h1,F,g,R,k⟩:=h';simp only[iB]at h1;cases h1;show Vk X.K n (C j) ([]++[]) H Q E0;exact⟨by rw[hn];rfl,k [] F H (Step.refl g) rfl⟩
end
structure Xg where
 exc:List (a8×Nat×a8)
 cls:List (a8×List (Nat×Bool))
 tcl:List (List a8×List (Nat×Bool))
 Bx:List (a8×List Nat)
 hnd:List (a8×List Nat)
 kf:Fg->(a8->Option ak)->Prop
structure Sg where
 fns:List (a8×Nat)
 con:List (a8×Dat)
 x:Xg
structure Sc where
 N:List a8
 nm:List (a8×kB)
 top:Bool
noncomputable def lC:List a8:=["len","range","zip","all","any","isinstance","list","tuple","reversed","int","bool","str","sorted","set","min","max","enumerate","sum","dict","abs"]
noncomputable def o9(x:a8):List a8->Option Nat
 |[]=>b_
 |y::r=>if y=x then a_ 0 else(o9 x r).map (·+ 1)
set_option tactic.hygienic true
theorem fR:∀{N:List a8}{i:Nat},o9 x N=a_ i->N[i]?=a_ x
 |[],_,h=>by cases h
 |y::r,i,h=>by
   have h:(if y=x then a_ 0 else(o9 x r).map (·+ 1))=a_ i:=h;split at h
   ·cases h;rename_i e;subst e;rfl
   ·obtain⟨j,h1,rfl⟩:=er h;exact(cA ..).trans (fR h1)
noncomputable def Dk(x:a8):Nat->List (a8×Nat)->Option (Nat×Nat)
 |_,[]=>b_
 |k,y::r=>if y.1=x then a_ (k,y.2)else Dk x (k+1) r
theorem qW:∀{L:List (a8×Nat)}{k j n:Nat},Dk x k L=a_ (j,n)->∃i,j=k+i/\L[i]?=a_ (x,n)
 |[],_,_,_,h=>by cases h
 |y::r,k,j,n,h=>by
   have h:(if y.1=x then a_ (k,y.2)else Dk x (k+1) r)=a_ (j,n):=h;split at h
   ·cases h;rename_i e;subst e;exact⟨0,rfl,rfl⟩
   ·obtain⟨i,e1,e2⟩:=qW h;exact⟨i+1,by omega,(cA ..).trans e2⟩
set_option tactic.hygienic false
noncomputable def gG(x:a8):Bool:=!(x == ("__debug__":a8)) && !(x == ("__classdict__":a8)) && !(x == ("__name__":a8))
noncomputable def Yh:Option kB->Bool
 |some .local=>c_
 |some .cell=>c_
 |some .free=>c_
 |_=>d_
noncomputable def YY:Option kB->Bool
 |some .local=>c_
 |some .cell=>c_
 |_=>d_
def FR(S:Sc)(x:a8):Bool:=Yh (S.nm.lookup x)
def u9(S:Sc)(x:a8):Bool:=YY (S.nm.lookup x)
noncomputable def vZ(S:Sc)(x:a8):Bool:=S.nm.lookup x == a_ .globalImplicit
noncomputable def eC:aV->Bool
 |.Starred _ _=>d_
 |_=>c_
def oo:aV->Bool
 |.Set _ _ _=>d_
 |_=>c_
noncomputable def sU:aV->Bool
 |.IfExp _ _ _ _=>d_
 |_=>c_
noncomputable def Xy:Operator->Option XQ
 |.Add=>a_ .add
 |.Sub=>a_ .sub
 |.Mult=>a_ .mul
 |.FloorDiv=>a_ .fdiv
 |.Mod=>a_ .mod
 |.RShift=>a_ .shr
 |.LShift=>a_ .shl
 |.BitAnd=>a_ .band
 |.BitOr=>a_ .bor
 |_=>b_
noncomputable def Pr:CmpOp->VD
 |.Eq=>.eq
 |.NotEq=>.ne
 |.Lt=>.lt
 |.LtE=>.le
 |.Gt=>.gt
 |.GtE=>.ge
 |.Is=>.isn
 |.IsNot=>.nisn
 |.In=>.isin
 |.NotIn=>.nin
noncomputable def Zx(x:a8):Option Ty:=
 if x="int" then a_ .int else if x="bool" then a_ .bool else if x="str" then a_ .str else if x="tuple" then a_ .tuple else if x="list" then a_ .list else b_
noncomputable def UR(x:a8):Option XS:=
 if x="len" then a_ .len else if x="list" then a_ .list else if x="tuple" then a_ .tuple else if x="all" then a_ .all else if x="int" then a_ .int else if x="str" then a_ .str else if x="any" then a_ .any else b_
noncomputable def Af(S:Sc)(sc:l8):List (a8×kB):=sc.names.map λp=>if(p.2 == ee && S.nm.lookup p.1 == a_ .cell)then(p.1,lO)else p
noncomputable def gH:aV->Option a8
 |.Name x _=>a_ x
 |_=>b_
def dS(h:gH e=a_ x):∃p,e=.Name x p:=by
 cases e with
 |Name y p=>cases h;exact⟨p,rfl⟩
 |_=>cases h
def namesOf:List aV->Option (List a8)
 |[]=>a_ []
 |e::r=>(gH e).bind λt=>(namesOf r).map λts=>t::ts
def oM:aV->Option (Bool×List a8)
 |.Name t _=>a_ (c_,[t])
 |.Tuple es _ _=>(namesOf es).map λts=>(d_,ts)
 |_=>b_
def freeOf(sc:l8):List a8:=sc.names.filterMap λp=>if p.2=.free then a_ p.1 else b_
def td(N:List a8):List a8->Option (List Nat)
 |[]=>a_ []
 |x::r=>(o9 x N).bind λi=>(td N r).map λis=>i::is
noncomputable def Lb(S:Sc)(sc:l8)(tn cn:List a8):Bool:=
 decide (sc.kind=.function) && sc.names.all (λy=>!decide (y.2=.cell)) && sc.names.all (λy=>!decide (y.2=.local) || decide (sc.names.lookup y.1=a_ .local))
  && sc.names.all (λy=>!decide (y.2=.free) || decide (S.nm.lookup y.1=a_ .cell) || decide (S.nm.lookup y.1=a_ .free))
  && cn.all (λx=>(decide (S.nm.lookup x=a_ .cell) || decide (S.nm.lookup x=a_ .free)) && decide (sc.names.lookup x=a_ .free))
  && decide (tn++cn).Nodup && tn.all λx=>decide (sc.names.lookup x=a_ .local)
def inner(S:Sc)(sc:l8)(tn cn:List a8):Sc:=⟨tn++cn,Af S sc,d_⟩
noncomputable def Bd(f:Ex->Ex->Ex):List Ex->Option Ex
 |[]=>b_
 | x::r=>match r with
   |[]=>a_ x
   |_::_=>(Bd f r).map (f x)
def tG(f:aV->Option Ex):List aV->Option (List Ex)
 |[]=>a_ []
 |e::r=>if eC e=c_ then(f e).bind λx=>(tG f r).map λxs=>x::xs else b_
noncomputable def iQ{α:Type}:List α->Option α
 |[]=>b_
 |a::r=>if r.isEmpty=c_ then a_ a else b_
def eP (h:iQ l=a_ a):l=[a]:=by
 match l,h with
 |[b],h=>cases h;rfl
def uU{α:Type}:List α->Option (α×α)
 |[]=>b_
 |a::r=>(iQ r).map λb=>(a,b)
def mD (h:uU l=a_ p):l=[p.1,p.2]:=by
 cases l with
 |nil=>cases h
 |cons a r=>
   obtain⟨b,h1,rfl⟩:=er h;rw[eP h1]
structure Ca where
 fn:aV
 args:List aV
 kws:List vL
 pos:rE
noncomputable def UH:aV->Option Ca
 |.Call fn args kws p=>a_ ⟨fn,args,kws,p⟩
 |_=>b_
def Fi(h:UH e=a_ c):e=.Call c.fn c.args c.kws c.pos:=by
 cases e with
 |Call fn args kws p=>cases h;rfl
 |_=>cases h
def sy(e:aV):Option (a8×List aV):=(UH e).bind λc=>if c.kws.isEmpty=c_ then(gH c.fn).map λx=>(x,c.args)else b_
set_option tactic.hygienic true in
def mM(h:sy e=a_ (x,args)):∃p q,e=.Call (.Name x p) args [] q:=by
 obtain⟨⟨fn,as,kws,q⟩,h0,h1⟩:=bS h;obtain rfl:=Fi h0;split at h1
 ·rename_i hk;obtain⟨y,h2,h3⟩:=er h1;cases h3;obtain⟨p,h4⟩:=dS h2;obtain rfl:fn=.Name x p:=h4;exact⟨p,q,congrArg (λk=>Expr.Call _ _ k _) (hG.mp hk)⟩
 ·cases h1
def isTup:aV->Bool
 |.Tuple _ _ _=>c_
 |_=>d_
def AW(h:isTup e=c_):∃es k p,e=.Tuple es k p:=by
 cases e with
 |Tuple es k p=>exact⟨es,k,p,rfl⟩
 |_=>cases h
def QK(S:Sc)(f:aV->Option Ex)(tg:aV)(x:a8)(args:List aV):Option Iw:=
 if vZ S x=c_ then(tG f args).bind λxs=>
  if x="range" then(match iQ xs with
   |some a=>a_ (.rng [a])
   |none=>(uU xs).map λp=>.rng [p.1,p.2])
  else if(decide (x="zip") && isTup tg)=c_ then(uU xs).map λp=>.zip [p.1,p.2]
  else if(decide (x="enumerate") && isTup tg)=c_ then(iQ xs).map .enu else b_
 else b_
noncomputable def TV(x:a8):Bool:=decide (x="range") || decide (x="zip") || decide (x="enumerate")
def Kf(e:aV):Option (a8×List aV):=(sy e).bind λc=>if TV c.1=c_ then a_ c else b_
def cI(S:Sc)(f:aV->Option Ex)(tg iter:aV):Option Iw:=match Kf iter with
 |some c=>QK S f tg c.1 c.2
 |none=>(f iter).map .itv
def Zy(f:aV->Option Ex):List aV->Option (List Ex)
 |[]=>a_ []
 |c::r=>if(r.isEmpty && sU c)=c_ then(f c).map λx=>[x]else b_
noncomputable def Lj(f:aV->Option Ex):Option aV->Option (Option Ex)
 |none=>a_ b_
 |some e=>(f e).map a_
noncomputable def UP:Const->Option Dat
 |.int i=>a_ (.int i)
 |.bool b=>a_ (.bl b)
 |.none=>a_ .non
 |.str x=>a_ (.str x)
 |_=>b_
def QI(G:Sg)(S:Sc)(x:a8):Option Ex:=if gG x=c_ then(if FR S x=c_ then(o9 x S.N).map .v else if vZ S x=c_ then(G.con.lookup x).map .con else b_)else b_
def cUn(f:aV->Option Ex)(a:aV):UnaryOp->Option Ex
 |.USub=>(f a).map .neg
 |.Not=>if sU a=c_ then(f a).map .not else b_
 |_=>b_
def UQ(f:aV->Option Ex)(es:List aV):BoolOp->Option Ex
 |.And=>(tG f es).bind (Bd .and)
 |.Or=>(tG f es).bind (Bd .or)
def QN(f:aV->Option Ex)(a:aV)(ops:List CmpOp)(bs:List aV):Option Ex:=(f a).bind λxa=>match iQ ops with
 |some op=>(iQ bs).bind λb=>if oo b=c_ then(f b).map λxb=>.cmp (Pr op) xa xb else b_
 |none=>(uU ops).bind λo=>(uU bs).bind λb=>if oo b.2=c_ then(f b.1).bind λxb=>(f b.2).map λxc=>.Pd (Pr o.1) (Pr o.2) xa xb xc else b_
def Ll(f:aV->Option Ex)(ks:List (Option aV))(vs:List aV):Option Ex:=
 if(ks.isEmpty && vs.isEmpty)=c_ then a_ .zb
 else b_
noncomputable def oP:aV->Option (Option aV×Option aV×Option aV)
 |.Slice lo hi st _=>a_ (lo,hi,st)
 |_=>b_
def Xs(f:aV->Option Ex)(a b:aV):Option Ex:=(f a).bind λxa=>match oP b with
 |some t=>if t.2.2.isNone=c_ then(Lj f t.1).bind λxl=>(Lj f t.2.1).map λxh=>.sl xa xl xh else b_
 |none=>(f b).map λxb=>.ix xa xb
def Ds(G:Sg)(S:Sc)(o:aV)(m:a8):Option (List Dat):=(gH o).bind λx=>if(decide (m="index") && gG x && vZ S x)=c_ then(match G.con.lookup x with
 |some (.tup ds)=>a_ ds
 |_=>b_)else b_
noncomputable def VH:aV->Option Bool
 |.Constant (.bool b) _ _=>a_ b
 |_=>b_
def TR:aV->Bool
 |.List _ _=>c_
 |_=>d_
def UK(f:aV->Option Ex)(o:aV)(m:a8)(args:List aV):Option Ex:=(iQ args).bind λa=>if(baseOk o && eC a && ((VH a).isSome || TR o))=c_ then(f o).bind λxo=>(f a).bind λxa=>if m="count" then a_ (.To xo xa)else if m="index" then a_ (.vX xo xa)else b_ else b_
def QJ(G:Sg)(S:Sc)(f:aV->Option Ex)(o:aV)(m:a8)(ap:rE)(args:List aV)(cp:rE):Option Ex:=
 if(ap.endLine == cp.line)=c_ then match UK f o m args with
  |some z=>a_ z
  | none=>(tG f args).bind λxs=>match Ds G S o m with
   |some ds=>(iQ xs).map λxa=>.eD .tindex (.con (.tup ds)) [xa]
   |none=>if baseOk o=c_ then(f o).bind λxo=>(UN m args.length).map λmt=>.eD mt xo xs else b_
 else b_
def Xw(S:Sc)(f:aV->Option Ex)(args:List aV):Option Ex:=(uU args).bind λp=>(gH p.2).bind λt=>
 if(vZ S "isinstance" && vZ S t && eC p.1)=c_ then(Zx t).bind λty=>(f p.1).map λxa=>.blt (.isi ty) [xa]else b_
def UJ(S:Sc)(f:aV->Option Ex)(x y:a8)(b:XS)(args:List aV):Option Ex:=(iQ args).bind λe=>(sy e).bind λc=>if c.1=y then(iQ c.2).bind λa=>
 if(vZ S x && vZ S y && eC a)=c_ then(f a).map λxa=>.blt b [xa]else b_ else b_
def Xx(G:Sg)(S:Sc)(x:a8)(xs:List Ex):Option Ex:=
 if(gG x && vZ S x)=c_ then match Dk x 0 G.fns with
  |some jn=>if xs.length=jn.2 then a_ (.call jn.1 xs)else b_
  | none=>match iQ xs with
    |some xa=>(UR x).map λb=>.blt b [xa]
    |none=>b_
 else b_
noncomputable def Qf:aV->Option (List aV)
 |.Tuple es _ _=>a_ es
 |_=>b_
def Xv(G:Sg)(S:Sc)(f:aV->Option Ex)(args:List aV):Option Ex:=(uU args).bind λp=>if(vZ S "isinstance" && eC p.1)=c_ then(match gH p.2 with
 |some t=>if(gG t && vZ S t)=c_ then(G.x.cls.lookup t).bind λtab=>(f p.1).map λxa=>.Dd tab xa else b_
 |none=>(Qf p.2).bind λes=>(namesOf es).bind λns=>if ns.all (λn=>gG n && vZ S n)=c_ then(G.x.tcl.lookup ns).bind λtab=>(f p.1).map λxa=>.Dd tab xa else b_)else b_
def Du(G:Sg)(S:Sc)(f:aV->Option Ex)(x:a8)(args:List aV):Option Ex:=
 if x="isinstance" then(match Xw S f args with
  |some z=>a_ z
  |none=>Xv G S f args)else match(if x="sorted" then UJ S f "sorted" "set" .sset args else b_)with
  |some z=>a_ z
  |none=>(tG f args).bind (Xx G S x)
noncomputable def zo:aV->Option (aV×a8×rE)
 |.Attribute o m ap=>a_ (o,m,ap)
 |_=>b_
def xN(h:zo e=a_ t):e=.Attribute t.1 t.2.1 t.2.2:=by
 cases e with
 |Attribute o m ap=>cases h;rfl
 |_=>cases h
def Ln(G:Sg)(S:Sc)(f:aV->Option Ex)(fn:aV)(args:List aV)(cp:rE):Option Ex:=match zo fn with
 |some t=>QJ G S f t.1 t.2.1 t.2.2 args cp
 |none=>(gH fn).bind λx=>Du G S f x args
structure Gn where
 tg:aV
 it:aV
 ifs:List aV
def Qx(gs:List Comprehension):Option Gn:=(iQ gs).bind λg=>if g.is_async=0 then a_ ⟨g.target,g.iter,g.ifs⟩else b_
def QM(S:Sc)(f:Sc->aV->Option Ex)(elt:aV)(g:Gn)(sc:l8):Option Ex:=(oM g.tg).bind λt=>(td S.N (freeOf sc)).bind λcaps=>
 if(Lb S sc t.2 (freeOf sc) && oo g.it)=c_ then
  (cI S (f S) g.tg g.it).bind λit=>(Zy (f (inner S sc t.2 (freeOf sc))) g.ifs).bind λxs=>(f (inner S sc t.2 (freeOf sc)) elt).map λxe=>.comp t.2.length t.1 caps it xs xe
 else b_
def cE(G:Sg):Nat->Sc->aV->Option Ex
 |0,_,_=>b_
 | n+1,S,e=>match e with
   |.Constant c _ _=>(UP c).map .con
   |.Name x _=>QI G S x
   |.BinOp a op b _=>(Xy op).bind λo=>(cE G n S a).bind λxa=>(cE G n S b).map λxb=>.bin o xa xb
   |.UnaryOp op a _=>cUn (cE G n S) a op
   |.BoolOp op es _=>if es.all sU=c_ then UQ (cE G n S) es op else b_
   |.Compare a ops bs _=>QN (cE G n S) a ops bs
   |.IfExp c a b _=>if sU c=c_ then(cE G n S c).bind λxc=>(cE G n S a).bind λxa=>(cE G n S b).map λxb=>.ite xc xa xb else b_
   |.Tuple es _ _=>(tG (cE G n S) es).map .tup
   |.List es _=>(tG (cE G n S) es).map .lst
   |.Dict ks vs _=>Ll (cE G n S) ks vs
   |.Subscript a b _=>Xs (cE G n S) a b
   |.Call fn args kws cp=>if kws.isEmpty=c_ then Ln G S (cE G n S) fn args cp else b_
   |.Attribute a m _=>if baseOk a=c_ then(G.x.Bx.lookup m).bind λcs=>(cE G n S a).map λxa=>.Bx cs m xa else b_
   |.ListComp elt gs sc _=>(Qx gs).bind λg=>QM S (cE G n) elt g sc
   |_=>b_
def CV(K:Fg)(d:Dat)(v:V):Prop:=(∀F,Rep K F d v)/\∀a,v=.ref a->∃o,K.lookup a=a_ o/\o.cls=.type "tuple"/\o.dict=b_
def LG(K:Fg)(mg:a8->Option ak)(x:a8)(tab:List (Nat×Bool)):Prop:=(∃C,mg x=a_ (.ref C)/\By K tab (.ref C))\/∃T,mg x=b_/\bootBuiltins x=a_ (.type T)/\x≠"__name__"/\By K tab (.type T)
def LC(K:Fg)(mg:a8->Option ak)(ns:List a8)(tab:List (Nat×Bool)):Prop:=∃Cs:List aE,ns.map mg=Cs.map (λC=>a_ (.ref C))/\Cs.length<=aD/\TabsOk K tab (Cs.map .ref)
structure nO(G:Sg)(C:Fs)(S:Sc)(X:Cx):Prop where
 N:X.N=S.N
 nm:X.env.scope.names=S.nm
 kind:X.env.scope.kind=.function
 calm:X.calm=c_
 un:X.A.units+21<cP
 xe:X.xe=λ_ _=>False
 fn:S.top=c_->∀x,X.fn x=c_
 fns:∀(j:Nat)x n,G.fns[j]?=a_ (x,n)->∃k f fd ps,jx X.prog X.w X.K X.mg X.base Fy k f fd ps (Vk X.K n (C j))/\je k X.A/\X.mg x=a_ (.ref f)/\de X.K (.ref f)=c_/\Binds X.K fd ps []
 blt:∀x∈lC,X.mg x=b_
 con:∀x d,G.con.lookup x=a_ d->∃v u,X.mg x=a_ u/\RelV v u/\CV X.K d v
 cls:∀x tab,G.x.cls.lookup x=a_ tab->LG X.K X.mg x tab
 tcl:∀ns tab,G.x.tcl.lookup ns=a_ tab->LC X.K X.mg ns tab
 Bx:∀f cs,G.x.Bx.lookup f=a_ cs->∀c∈cs,zM X.K c f=c_
inductive Args (P:aV->Ex->Prop):List aV->List Ex->Prop
 |nil:Args P [] []
 |cons {e:aV} {es:List aV} {x:Ex} {xs:List Ex}:eC e=c_->P e x->Args P es xs->Args P (e::es) (x::xs)
def bw (h:(if b=c_ then x else b_)=a_ y):b=c_/\x=a_ y:=by
 split at h
 ·exact⟨by assumption,h⟩
 ·cases h
section
variable{G:Sg}{C:Fs}{S:Sc}{X:Cx}{e:aV}{xa:Ex}{x:a8}
def tP(T:nO G C S X)(h:FR S x=c_):LA X.env.scope x:=by
 unfold FR at h;unfold LA;rw[T.nm]
 cases q:S.nm.lookup x with
 |none=>rw[q]at h;cases h
 |some k=>rw[q]at h;cases k<;>first|(simp;done)|cases h
def oS(T:nO G C S X)(h:u9 S x=c_):L2.Loc X.env.scope x:=by
 unfold u9 at h;unfold L2.Loc;rw[T.nm]
 cases q:S.nm.lookup x with
 |none=>rw[q]at h;cases h
 |some k=>rw[q]at h;cases k<;>first|(simp;done)|cases h
def iA(T:nO G C S X)(h:vZ S x=c_):Gl X x:=by
 unfold Gl rG;rw[T.nm];exact beq_iff_eq.mp h
def e9(h:gG x=c_):(x == ("__debug__":a8))=d_/\(x == ("__classdict__":a8))=d_/\x≠"__name__":=by
 unfold gG at h;simp only[af,fj]at h;exact⟨h.1.1,h.1.2,λz=>by have:=h.2;rw[z]at this;revert this;decide⟩
def bD(h:eC e=c_):aG (e::es) env=(d_,eval e env)::aG es env:=by
 cases e<;>first|rfl|cases h
theorem jF:∀{es:List aV},es.all eC=c_->(backTo pos (aG es env)).any (·.1)=d_
 |[],_=>rfl
 |e::es,h=>by
   rw[dv,af]at h;rw[bD h.1];have q:=jF (pos:=pos) (env:=env) h.2;unfold backTo at q ⊢;rw[ah,eF,q];rfl
theorem jI(hf:∀e x,f e=a_ x->P e x):∀{es:List aV}{xs:List Ex},tG f es=a_ xs->Args P es xs
 |[],_,h=>by cases h;exact .nil
 |e::r,_,h=>by
   obtain⟨hs,h⟩:=bw h;obtain⟨x,h1,h⟩:=bS h;obtain⟨xs,h2,rfl⟩:=er h;exact .cons hs (hf _ _ h1) (jI hf h2)
theorem Args.sa:∀{es:List aV}{xs:List Ex},Args (SE X C) es xs->SA X C es xs
 |_,_,.nil=>mY
 |_,_,.cons hs h r=>iG h r.sa (bD hs)
theorem Args.sf:∀{es:List aV}{xs:List Ex},Args (SE X C) es xs->SF X C es xs
 |_,_,.nil=>Rw
 |_,_,.cons hs h r=>MR h r.sf (bD hs)
theorem Args.star:∀{es:List aV}{xs:List Ex},Args P es xs->es.all eC=c_
 |_,_,.nil=>rfl
 |_,_,.cons hs _ r=>by rw[dv,hs,r.star];rfl
theorem Args.len:∀{es:List aV}{xs:List Ex},Args P es xs->xs.length=es.length
 |_,_,.nil=>rfl
 |_,_,.cons _ _ r=>congrArg (·+ 1) r.len
def Args.one(h:Args P es [z]):∃a,es=[a]/\eC a=c_/\P a z:=by
 cases h with
 |cons s p r=>cases r;exact⟨_,rfl,s,p⟩
def Args.two(h:Args P es [z,w]):∃a b,es=[a,b]/\eC a=c_/\eC b=c_/\P a z/\P b w:=by
 cases h with
 |cons s p r=>
   obtain⟨b,rfl,s',p'⟩:=r.one;exact⟨_,b,rfl,s,s',p,p'⟩
def IW(s:eC a=c_)(s':eC b=c_)(ha:SE X C a z)(hb:SE X C b w):SA X C [a,b] [z,w]:=iG ha (iG hb mY (bD s')) (bD s)
def zQ(s:eC a=c_)(s':eC b=c_):aG [a,b] env=[(d_,eval a env),(d_,eval b env)]:=(bD s).trans (congrArg _ (bD s'))
def Pt(h:Xy op=a_ o):iO X (binaryOp op) (gB X.K (g9 o)):=by
 cases op<;>first|(cases h;first|exact NW|exact NJ|exact NQ|exact JL|exact NR|exact NM|exact NN|exact NV|exact Sq)|cases h
def oX(hu:X.A.units+21<cP):iO X (compareOp op) (gB X.K (mL (Pr op))):=by
 cases op<;>first|exact SJ (by omega)|exact Sr (by omega)|exact SD hu|exact NP hu|exact Sw|exact Sy|exact SG|exact SH|exact NS|exact JK
def JS(h:oo b=c_):behindInMarks op b=d_:=by
 cases b<;>first|rfl|cases h
def Ew(h:oo c=c_):lastMarks [op,op'] [b,c]=d_:=by
 cases c<;>first|rfl|cases h
def M4(ha:SE X C a xa):SE X C (.UnaryOp .Not a pos) (.not xa):=by
 intro h_ s σ H Q I ⟨ρ,d,fr,h,F,g,R,k⟩;obtain⟨⟨da,fa⟩,h1,h⟩:=bS h;obtain⟨b,hb,h⟩:=er h;cases h;refine UnaryOp_ (hZ (ha h_ s σ H (λv H1=>∃F1,Step F H F1 H1/\Rep X.K F1 da v) I ⟨ρ,da,fa,h1,F,g,R,λv F1 H1 st r _=>⟨F1,st,r⟩⟩) λv s1 ⟨x,H1,I1,r1,F1,st,r⟩=>?_);refine not_of (hZ (Ii h_ s1 σ H1 x v (λc H2=>c=b/\H2=H1) I1 r1 ⟨b,DS st.good r hb,rfl,rfl⟩) ?_);rintro c s2 ⟨H2,I2,rfl,rfl⟩;exact⟨.bl (!c),H2,I2,rfl,k _ F1 H2 st rfl aT⟩
def Q9(ho:iO X (compareOp op) (gB X.K (mL o)))(ho':iO X (compareOp op') (gB X.K (mL o')))(ha:SE X C a xa)(hb:SE X C b xb)(hc:SE X C c xc)(hm:lastMarks [op,op'] [b,c]=d_) :
  ST X C (.Compare a [op,op'] [b,c] pos) (.Pd o o' xa xb xc):=
 PT.imp (Jp ho ho' ha hb hc hm) λσ H Q z3=>by
  obtain⟨ρ,d,fr,b,h,hb,F,g,R,k⟩:=z3;refine Bl (X:=X) σ H _ ⟨ρ,d,fr,h,F,g,R,λv F1 H1 st r _=>?_⟩
  have hd:∃z,d=.bl z:=by
   obtain⟨⟨da,fa⟩,h1,h⟩:=bS h;obtain⟨⟨db,fb⟩,h2,h⟩:=bS h;obtain⟨r,h3,h⟩:=bS h;split at h
   ·obtain⟨⟨dc,fc⟩,h4,h⟩:=bS h;obtain⟨z,_,h⟩:=er h;cases h;exact⟨z,rfl⟩
   ·cases h;exact⟨d_,rfl⟩
  obtain⟨z,rfl⟩:=hd;cases hb;exact⟨_,r,k F1 H1 st⟩
def Vi(X:Cx)(C:Fs)(e:aV)(x:Ex):Prop:=SE X C e x/\(sU e=c_->ST X C e x)
theorem xu:∀{es:List aV}{xs:List Ex}{x:Ex},Args (Vi X C) es xs->es.all sU=c_->Bd .and xs=a_ x->SE X C (.BoolOp .And es pos) x/\SW X C (.BoolOp .And es pos) x
 |_,_,_,.nil,_,h=>by cases h
 |_,_,_,.cons _ p .nil,n,h=>by
   rw[dv,af]at n;cases h;exact⟨D5 p.1,Mz (p.2 n.1)⟩
 |_,_,_,.cons _ p (.cons s q r),n,h=>by
   rw[dv,af]at n;obtain⟨z,h1,rfl⟩:=er h;obtain⟨i1,i2⟩:=xu (.cons s q r) n.2 h1;exact⟨RL p.1 i1,Q6 (p.2 n.1) i2⟩
theorem Bc:∀{es:List aV}{xs:List Ex}{x:Ex},Args (Vi X C) es xs->es.all sU=c_->Bd .or xs=a_ x->SE X C (.BoolOp .Or es pos) x/\SW X C (.BoolOp .Or es pos) x
 |_,_,_,.nil,_,h=>by cases h
 |_,_,_,.cons _ p .nil,n,h=>by
   rw[dv,af]at n;cases h;exact⟨D5 p.1,Q5 (p.2 n.1)⟩
 |_,_,_,.cons _ p (.cons s q r),n,h=>by
   rw[dv,af]at n;obtain⟨z,h1,rfl⟩:=er h;obtain⟨i1,i2⟩:=Bc (.cons s q r) n.2 h1;exact⟨V3 p.1 i1,VU (p.2 n.1) i2⟩
set_option tactic.hygienic true
def Nb(T:nO G C S X)(hb:UR x=a_ bt)(hp:gG x=c_)(hg:vZ S x=c_)(hs:eC e=c_)(he:SE X C e xa):SE X C (.Call (.Name x p) [e] [] pos) (.blt bt [xa]):=by
 have h1:aG [e] X.env=(d_,eval e X.env)::aG [] X.env:=bD hs;have ha:SA X C [e] [xa]:=iG he mY h1;obtain⟨d1,d2,d3⟩:=e9 hp;have gl:=iA T hg;unfold UR at hb;split at hb
 ·rename_i q;subst q;cases hb;exact yq G7 gl (T.blt _ (by decide +kernel)) PySem.boot_len ha d3 d1 h1 rfl
 split at hb
 ·rename_i q;subst q;cases hb;exact tU Dt gl (T.blt _ (by decide +kernel)) (by decide +kernel) ha d3 d1 h1 rfl
 split at hb
 ·rename_i q;subst q;cases hb;exact tU Bo gl (T.blt _ (by decide +kernel)) (by decide +kernel) ha d3 d1 h1 rfl
 split at hb
 ·rename_i q;subst q;cases hb;exact yq (Hc T.calm) gl (T.blt _ (by decide +kernel)) (by decide +kernel) ha d3 d1 h1 rfl
 split at hb
 ·rename_i q;subst q;cases hb;exact tU G9 gl (T.blt _ (by decide +kernel)) (by decide +kernel) ha d3 d1 h1 rfl
 split at hb
 ·rename_i q;subst q;cases hb;exact tU G6 gl (T.blt _ (by decide +kernel)) (by decide +kernel) ha d3 d1 h1 rfl
 split at hb
 ·rename_i q;subst q;cases hb;exact yq (Hb T.calm) gl (T.blt _ (by decide +kernel)) (by decide +kernel) ha d3 d1 h1 rfl
 ·cases hb
def Pp(T:nO G C S X)(ha:Args (SE X C) es xs)(h:Xx G S x xs=a_ z):SE X C (.Call (.Name x p) es [] pos) z:=by
 obtain⟨hp,h⟩:=bw h;rw[af]at hp;obtain⟨d1,d2,d3⟩:=e9 hp.1
 cases hj:Dk x 0 G.fns with
 |some jn=>
   obtain⟨j,n⟩:=jn;rw[hj]at h;have h:(if xs.length=n then a_ (Ex.call j xs)else b_)=a_ z:=h;split at h
   ·rename_i hn;cases h;obtain⟨i,e1,e2⟩:=qW hj;obtain⟨k,f,fd,ps,F,hr,hm,hk,hb⟩:=T.fns i x n e2;rw[jV]at e1;subst e1
    cases ha with
    |nil=>exact IV j n F hr (iA T hp.2) hm hk hb hn.symm d1
    |cons hs he r=>exact Na j n F hr (iA T hp.2) hm hk hb (iG he r.sa (bD hs)) hn d1 (bD hs) (jF r.star)
   ·cases h
 |none=>
   rw[hj]at h
   cases ho:iQ xs with
   |some xa=>
     obtain rfl:=eP ho;obtain⟨e,rfl,hs,he⟩:=ha.one;rw[ho]at h;obtain⟨b,h1,rfl⟩:=er h;exact Nb T h1 hp.1 hp.2 hs he
   |none=>
     rw[ho]at h;cases h
def UI(h:Zx t=a_ ty):bootBuiltins t=a_ (.type (tyName ty))/\t∈lC/\(t == ("__debug__":a8))=d_/\t≠"__name__":=by
 unfold Zx at h
 repeat' (split at h;(rename_i q;subst q;cases h;exact⟨by decide +kernel,by decide +kernel,by decide +kernel,by decide +kernel⟩))
 cases h
def QL{iter:aV}(T:nO G C S X)(hf:∀e x,f e=a_ x->SE X C e x)(h:cI S f tg iter=a_ it):SI X C tg iter it/\∀a,it=.itv a->SE X C iter a:=by
 unfold cI at h
 cases hi:Kf iter with
 |none=>
   rw[hi]at h;obtain⟨x,h1,rfl⟩:=er h;exact⟨Rr (hf _ _ h1),λa z=>by cases z;exact hf _ _ h1⟩
 |some c=>
   rw[hi]at h;obtain⟨x,args⟩:=c;have h:QK S f tg x args=a_ it:=h;obtain⟨c',h1,h2⟩:=bS hi;obtain⟨_,h2⟩:=bw h2;obtain rfl:c'=(x,args):=aO h2;obtain⟨p,q,rfl⟩:=mM h1;obtain⟨hg,h3⟩:=bw h;clear h h1 h2 hi;obtain⟨xs,h4,hq⟩:=bS h3;have ha:=jI hf h4;clear h3 h4;have gl:=iA T hg;split at hq
   ·rename_i e;subst e
    cases ho:iQ xs with
    |some xa=>
      rw[ho]at hq;cases hq;obtain rfl:=eP ho;obtain⟨a,rfl,hs,he⟩:=ha.one;exact⟨MP gl (T.blt _ (by decide +kernel)) (iG he mY (bD hs)) (bD hs),λa z=>nomatch z⟩
    |none=>
      rw[ho]at hq;obtain⟨p,h6,rfl⟩:=er hq;obtain rfl:=mD h6;obtain⟨a,b,rfl,hs,hs',he,hb⟩:=ha.two;exact⟨MO gl (T.blt _ (by decide +kernel)) (IW hs hs' he hb) (zQ hs hs') (bD hs'),λa z=>nomatch z⟩
   split at hq
   ·rename_i e;simp only[af,decide_eq_true_eq]at e;obtain⟨rfl,ht⟩:=e;obtain⟨p,h6,rfl⟩:=er hq;obtain rfl:=mD h6;obtain⟨ts,k,tp,rfl⟩:=AW ht;obtain⟨a,b,rfl,hs,hs',he,hb⟩:=ha.two;exact⟨Rq gl (T.blt _ (by decide +kernel)) (IW hs hs' he hb) (zQ hs hs') (bD hs'),λa z=>nomatch z⟩
   ·obtain⟨e,h5⟩:=bw hq;simp only[af,decide_eq_true_eq]at e;obtain⟨rfl,ht⟩:=e;obtain⟨ts,k,tp,rfl⟩:=AW ht;obtain⟨xa,h6,rfl⟩:=er h5;obtain rfl:=eP h6;obtain⟨a,rfl,hs,he⟩:=ha.one;exact⟨Rt gl (T.blt _ (by decide +kernel)) (iG he mY (bD hs)) (bD hs),λa z=>nomatch z⟩
def lg(h:oo e=c_):∀v,foldedSetIterable e X.env v=pure v:=λv=>by
 cases e<;>first|rfl|cases h
theorem Bn:∀{cn:List a8}{is:List Nat},td N cn=a_ is->is.map (λj=>N[j]?)=cn.map a_
 |[],_,h=>by cases h;rfl
 |x::r,_,h=>by
   obtain⟨i,h1,h⟩:=bS h;obtain⟨is,h2,rfl⟩:=er h;rw[ah,ah,fR h1,Bn h2]
theorem lookup_mem:∀{L:List (a8×kB)},L.lookup x=a_ k->(x,k)∈L
 |[],h=>by cases h
 |(y,j)::r,h=>by
   rw[cy]at h;split at h
   ·rename_i q;cases h;rw[eq_of_beq q];exact iw
   ·exact jd _ (lookup_mem h)
set_option tactic.hygienic false
structure Fx(S:Sc)(sc:l8)(tn cn:List a8):Prop where
 kind:sc.kind=.function
 nocell:∀y∈sc.names,y.2≠.cell
 locs:∀y∈sc.names,y.2=.local->sc.names.lookup y.1=a_ .local
 frees:∀y∈sc.names,y.2=.free->S.nm.lookup y.1=a_ .cell\/S.nm.lookup y.1=a_ .free
 capk:∀x∈cn,(S.nm.lookup x=a_ .cell\/S.nm.lookup x=a_ .free)/\sc.names.lookup x=a_ .free
 nd:(tn++cn).Nodup
 tl:∀x∈tn,sc.names.lookup x=a_ .local
def La{cn:List a8}(h:Lb S sc tn cn=c_):Fx S sc tn cn:=by
 unfold Lb at h;simp only[af,aC,decide_eq_true_eq,n0,fj,decide_eq_false_iff_not]at h;obtain⟨⟨⟨⟨⟨⟨h1,h2⟩,h3⟩,h4⟩,h5⟩,h6⟩,h7⟩:=h;refine⟨h1,h2,λy hy e=>?_,λy hy e=>?_,h5,h6,h7⟩
 ·rcases h3 y hy with z|z
  ·exact absurd e z
  ·exact z
 ·rcases h4 y hy with(z|z)|z
  ·exact absurd e z
  ·exact .inl z
  ·exact .inr z
def zg{cn:List a8}(T:nO G C S X)(h:Fx S sc tn cn)(hc:td S.N cn=a_ caps):jt X sc tn cn caps where
 kind:=h.kind
 nocell:=h.nocell
 locs:=h.locs
 frees:=λy hy e=>by unfold rG;rw[T.nm];exact h.frees y hy e
 nofree:=λx e=>lookup_mem e
 caps:=by rw[T.N];exact Bn hc
 capk:=λx hx=>by unfold rG;rw[T.nm];exact(h.capk x hx).1
 capn:=λx hx=>(h.capk x hx).2
def rJ{cn:List a8}(T:nO G C S X)(h:Fx S sc tn cn)(cl:List (a8×aE))(s₂:aw)(H₂:Hp)(Ca:aE)(ex:List aE):nO G C (inner S sc tn cn) (eX X sc cl (tn++cn) s₂ H₂ Ca ex) where
 N:=rfl
 nm:=by
  show(relabel sc X.env).names=Af S sc;unfold relabel Af rG;rw[T.nm,T.kind];refine jg λp _=>?_;obtain⟨n,k⟩:=p;dsimp only;rw[show(kO == kO)=c_ from rfl,eY]
 kind:=h.kind
 calm:=T.calm
 un:=T.un
 xe:=rfl
 fn:=λz=>nomatch z
 fns:=T.fns
 blt:=T.blt
 con:=T.con
 cls:=T.cls
 tcl:=T.tcl
 Bx:=T.Bx
end
section
variable{G:Sg}{C:Fs}{S:Sc}{X:Cx}{e:aV}{xa:Ex}{x:a8}{f:aV->Option Ex}
def JA(T:nO G C S Y)(hN:S.N.Nodup)(hi:S.N[i]?=a_ t)(hl:S.nm.lookup t=a_ .local):PG Y (.Name t p) (kh i):=by
 refine Ep (by rw[T.N];exact hN) (by rw[T.N];exact hi) ?_ (.inr (by rw[T.nm];exact hl));unfold L2.Loc;rw[T.nm];exact .inl hl
def qN{sc:l8}(h:sc.names.lookup x=a_ .local):(Af S sc).lookup x=a_ .local:=by
 unfold Af;generalize sc.names=L at h
 induction L with
 |nil=>cases h
 |cons p r ih=>
   obtain⟨y,k⟩:=p;rw[cy]at h;rw[ah];by_cases hc:(k == ee && S.nm.lookup y == a_ .cell)=c_
   ·dsimp only;rw[if_pos hc,cy];split at h
    ·cases h;simp at hc
    ·exact ih h
   ·dsimp only;rw[if_neg hc,cy];split at h
    ·exact h
    ·exact ih h
theorem m6:∀{es:List aV}{tn:List a8},namesOf es=a_ tn->(assignEach es env).length=es.length/\(assignEach es env).findIdx? (·.1)=b_/\tn.length=es.length
 |[],tn,h=>by cases h;exact⟨rfl,rfl,rfl⟩
 |e::es,tn,h=>by
   obtain⟨t,h0,h⟩:=bS h;obtain⟨tn',h1,rfl⟩:=er h;obtain⟨p,rfl⟩:=dS h0;obtain⟨q1,q2,q3⟩:=m6 (env:=env) h1;have e1:assignEach (.Name t p::es) env=(d_,assign (.Name t p) env)::assignEach es env:=rfl;rw[e1];refine⟨by simp[q1],?_,by simp[q3]⟩;rw[jB];simp[q2]
def gK:Nat->Nat->QU
 |_,0=>GR
 |k,n+1=>xt (kh k) (gK (k+1) n)
theorem EV:∀n k x σ H Q Q',(∀σ2 H2,Q σ2 H2->Q' σ2 H2)->gK k n x σ H Q->gK k n x σ H Q'
 |0,_=>GQ
 |n+1,k=>Dj vm (EV n (k+1))
theorem A9:∀n k,k+n<=nt->vE nt (gK k n)
 |0,_,_=>FY
 |n+1,k,h=>Cc vm (EV n (k+1)) (uE (aN (bO _ _) h)) (A9 n (k+1) (by omega))
theorem KC{K:Fg}:∀(ds:List Dat)(vs:List V)(k:Nat)(σ:St)(ρ:fP)(Q:St->Hp->Prop),cj K F ds vs->mQ K F σ ρ->σ.length=ρ.length->(∀σ1,mQ K F σ1 (yj k ds ρ)->Q σ1 H)->gK k ds.length vs σ H Q
 |[],vs,k,σ,ρ,Q,r,R,hl,q=>⟨r,q σ R⟩
 |d::ds,vs,k,σ,ρ,Q,r,R,hl,q=>by
   obtain⟨v,w,rfl,r1,r2⟩:=r;exact⟨v,w,rfl,KC ds w (k+1) _ _ Q r2 (Ag hl R r1) (by simpa using hl) q⟩
set_option tactic.hygienic true
def Iq{K:Fg}:Vb K n d_ (Kz K n (gK 0 n)):=λF H σ ρ d x ρ1 Q g R hn hl r hb k=>by
 cases d with
 |tup ds=>
   have hb:(if ds.length=n then a_ (yj 0 ds ρ)else b_)=a_ ρ1:=hb;split at hb
   ·rename_i hz;cases hb;obtain⟨a,vs,rfl,t,r⟩:=r;subst hz;exact⟨a,vs,rfl,(t.mono g.sub).sq,r.length,KC ds vs 0 σ ρ Q r R hl k⟩
   ·cases hb
 |_=>cases hb
theorem Aj(T:nO G C S Y)(nd:S.N.Nodup):∀{es:List aV}{tn:List a8}(k:Nat),namesOf es=a_ tn->(∀i t,tn[i]?=a_ t->S.N[k+i]?=a_ t)->(∀t∈tn,S.nm.lookup t=a_ .local)->Vz Y es (gK k es.length)
 |[],_,_,_,_,_=>Eo
 |e::es,tn,k,h,hi,hl=>by
   obtain⟨t,h0,h⟩:=bS h;obtain⟨tn',h1,rfl⟩:=er h;obtain⟨p,rfl⟩:=dS h0;refine Ak (JA T nd (hi 0 t rfl) (hl t iw)) (Aj T nd (k+1) h1 (λi t' e=>?_) λt' m=>hl t' (jd _ m));rw[show k+1+i=k+(i+1) by omega];exact hi (i+1) t' ((cA ..).trans e)
def VJ(T:nO G C S X)(ht:oM tg=a_ (one,tn))(h:Fx S sc tn (freeOf sc)) :
  ∃g,pD tn.length g/\Vb X.K tn.length one g/\∀(cl:List (a8×aE))(s₂:aw)(H₂:Hp)(Ca:aE)(ex:List aE),PG (eX X sc cl (tn++freeOf sc) s₂ H₂ Ca ex) tg g:=by
 cases tg with
 |Name t p=>
   cases ht;refine⟨kh 0,uE (by simp),Mw,λcl s₂ H₂ Ca ex=>?_⟩;exact JA (rJ T h cl s₂ H₂ Ca ex) h.nd rfl (qN (h.tl t (by simp)))
 |Tuple es k pos=>
   obtain⟨ts,h1,h2⟩:=er ht;cases h2;refine⟨Kz X.K tn.length (gK 0 tn.length),FX (A9 _ 0 (kQ (aI _) (bQ _))),Iq,λcl s₂ H₂ Ca ex=>?_⟩;have T':=rJ T h cl s₂ H₂ Ca ex;have n:=m6 (env:=(eX X sc cl (tn++freeOf sc) s₂ H₂ Ca ex).env) h1;have q:=Aj T' h.nd 0 h1 (λi t e=>by rw[jV];exact(cG (bx.mp e).1).trans e) λt m=>qN (h.tl t m);rw[<-n.2.2]at q;exact Jx T'.calm q (n.1.trans n.2.2.symm) n.2.1
 |_=>cases ht
def Ih(G:Sg)(C:Fs)(f:Sc->aV->Option Ex):Prop:=∀S e x,f S e=a_ x->∀X,nO G C S X->Vi X C e x
def Bq(T:nO G C S X)(h:QI G S x=a_ z):SE X C (.Name x p) z:=by
 obtain⟨hp,h⟩:=bw h;obtain⟨d1,d2,d3⟩:=e9 hp;split at h
 ·rename_i hv;obtain⟨i,h1,rfl⟩:=er h;exact Ry i (by rw[T.N];exact fR h1) (tP T hv) d1 d2
 ·obtain⟨hg,h⟩:=bw h;obtain⟨d,h1,rfl⟩:=er h;obtain⟨v,u,hm,r,hd⟩:=T.con x d h1;exact M7 (iA T hg) hm r hd.1 d1
def Lm(T:nO G C S X)(hf:∀e x,f e=a_ x->SE X C e x)(h:QN f a ops bs=a_ z):SE X C (.Compare a ops bs pos) z/\ST X C (.Compare a ops bs pos) z:=by
 obtain⟨xa,h1,h⟩:=bS h
 cases ho:iQ ops with
 |some op=>
   rw[ho]at h;obtain rfl:=eP ho;obtain⟨b,h2,h⟩:=bS h;obtain rfl:=eP h2;obtain⟨hs,h⟩:=bw h;obtain⟨xb,h3,rfl⟩:=er h;exact⟨RI (oX T.un) (hf _ _ h1) (hf _ _ h3) (JS hs),Q8 (oX T.un) (hf _ _ h1) (hf _ _ h3) (JS hs)⟩
 |none=>
   rw[ho]at h;obtain⟨⟨o,o'⟩,h2,g1⟩:=bS h;obtain⟨⟨b,c⟩,h3,g2⟩:=bS g1;obtain rfl:ops=[o,o']:=mD h2;obtain rfl:bs=[b,c]:=mD h3;obtain⟨hs,g3⟩:=bw g2;obtain⟨xb,h4,g4⟩:=bS g3;obtain⟨xc,h5,rfl⟩:=er g4;exact⟨PE.imp (JF (oX T.un) (oX T.un) (hf _ _ h1) (hf _ _ h4) (hf _ _ h5) (Ew hs)) Bl,Q9 (oX T.un) (oX T.un) (hf _ _ h1) (hf _ _ h4) (hf _ _ h5) (Ew hs)⟩
def Br(hf:∀e x,f e=a_ x->SE X C e x)(h:Ll f ks vs=a_ z):SE X C (.Dict ks vs pos) z:=by
 unfold Ll at h;split at h
 ·rename_i q;simp only[af,hG]at q;obtain⟨rfl,rfl⟩:=q;cases h;exact M8
 ·cases h
def Bp(hf:∀e x,f e=a_ x->SE X C e x)(h:Lj f o=a_ z):SO X C o z:=by
 cases o with
 |none=>cases h;exact MK
 |some e=>
   obtain⟨y,h1,rfl⟩:=er h;exact MJ (hf _ _ h1)
def Cu{lo st:Option aV}(h:oP b=a_ (lo,hi,st)):∃p,b=.Slice lo hi st p:=by
 cases b with
 |Slice lo' hi' st' p=>cases h;exact⟨p,rfl⟩
 |_=>cases h
def CP(h:oP b=b_):zq b:=by
 cases b<;>first|(intro o i;rfl)|cases h
def Fk(T:nO G C S X)(hf:∀e x,f e=a_ x->SE X C e x)(h:Xs f a b=a_ z):SE X C (.Subscript a b pos) z:=by
 obtain⟨xa,h1,h⟩:=bS h
 cases hs:oP b with
 |some t=>
   rw[hs]at h;obtain⟨lo,hi,st⟩:=t;obtain⟨hn,g1⟩:=bw h;obtain⟨xl,h2,g2⟩:=bS g1;obtain⟨xh,h3,rfl⟩:=er g2;obtain⟨p,rfl⟩:=Cu hs
   cases st with
   |none=>exact V2 (hf _ _ h1) (Bp hf h2) (Bp hf h3)
   |some _=>cases hn
 |none=>
   rw[hs]at h;obtain⟨xb,h2,rfl⟩:=er h;exact V4 (Y4 (by have:=T.un;exact aN (FN this) bG)) (hf _ _ h1) (hf _ _ h2) (CP hs)
def GY(h:Ds G S o m=a_ ds):∃x p,o=.Name x p/\m="index"/\gG x=c_/\vZ S x=c_/\G.con.lookup x=a_ (.tup ds):=by
 obtain⟨x,h1,h⟩:=bS h;obtain⟨p,rfl⟩:=dS h1;obtain⟨hc,h⟩:=bw h;simp only[af,decide_eq_true_eq]at hc
 cases q:G.con.lookup x with
 |none=>rw[q]at h;cases h
 |some d=>
   rw[q]at h
   cases d with
   |tup ds'=>cases h;exact⟨x,p,rfl,hc.1.1,hc.1.2,hc.2,q⟩
   |_=>cases h
def Ph{ap cp:rE}(T:nO G C S X)(hf:∀e x,f e=a_ x->SE X C e x)(hln:(ap.endLine == cp.line)=c_)(h:UK f o m es=a_ z):SE X C (.Call (.Attribute o m ap) es [] cp) z:=by
 obtain⟨a,h1,g⟩:=bS h;obtain rfl:=eP h1;obtain⟨hb,g⟩:=bw g;rw[af,af]at hb;obtain⟨xo,h3,g⟩:=bS g;obtain⟨xa,h4,h5⟩:=bS g;have hu:X.A.units+1<cP:=by have:=T.un;omega
 have h1':aG [a] X.env=(d_,eval a X.env)::aG [] X.env:=bD hb.1.2;split at h5
 ·rename_i q;subst q;cases h5;exact M6 hu (hf _ _ h3) (iG (hf _ _ h4) mY h1') hb.1.1 hln h1'
 split at h5
 ·rename_i q;subst q;cases h5;exact M5 hu (hf _ _ h3) (iG (hf _ _ h4) mY h1') hb.1.1 hln h1'
 ·cases h5
def Lk(T:nO G C S X)(hf:∀e x,f e=a_ x->SE X C e x)(h:QJ G S f o m ap es cp=a_ z):SE X C (.Call (.Attribute o m ap) es [] cp) z:=by
 obtain⟨hln,h⟩:=bw h
 cases htr:UK f o m es with
 |some z'=>rw[htr]at h;cases h;exact Ph T hf hln htr
 |none=>
 rw[htr]at h;obtain⟨xs,h1,h⟩:=bS h;have ha:=jI hf h1
 cases hct:Ds G S o m with
 |some ds=>
   rw[hct]at h;obtain⟨xa,h2,rfl⟩:=er h;obtain rfl:=eP h2;obtain⟨e,rfl,hs,he⟩:=ha.one;obtain⟨y,p,rfl,rfl,hp,hg,hlk⟩:=GY hct;obtain⟨v,u,hm,r,hd⟩:=T.con y _ hlk;exact F8 T.un (tW (iA T hg) hm r (e9 hp).1) hd.1 hd.2 ha.sa hln (bD hs)
 |none=>
   rw[hct]at h;obtain⟨hb,h⟩:=bw h;obtain⟨xo,h0,h⟩:=bS h;obtain⟨mt,h2,rfl⟩:=er h;have hs:=ha.star;exact Pn (by have:=T.un;omega) h2 (hf _ _ h0) ha.sa ha.len (λe z=>by subst z;exact bD (by simpa using hs)) hb hln
def Pf(T:nO G C S X)(hf:∀e x,f e=a_ x->SE X C e x)(h:UJ S f x y bt es=a_ z)
  (hl:∀a xa(p q q1 pos:rE),eC a=c_->Gl X x->Gl X y->SE X C a xa->SE X C (.Call (.Name x p) [.Call (.Name y q) [a] [] q1] [] pos) (.blt bt [xa])):SE X C (.Call (.Name x p) es [] pos) z:=by
 obtain⟨e,h1,g1⟩:=bS h;obtain⟨⟨y',as⟩,h2,g2⟩:=bS g1;obtain⟨q,q1,rfl⟩:=mM h2;obtain rfl:=eP h1;split at g2
 ·rename_i hy;obtain rfl:y'=y:=hy;obtain⟨a,h3,g3⟩:=bS g2;obtain rfl:as=[a]:=eP h3;obtain⟨hc,g4⟩:=bw g3;simp only[af]at hc;obtain⟨xa,h4,rfl⟩:=er g4;exact hl a xa _ _ _ _ hc.2 (iA T hc.1.1) (iA T hc.1.2) (hf _ _ h4)
 ·cases g2
theorem JH:∀{es:List aV}{ns:List a8}{Cs:List aE},namesOf es=a_ ns->ns.map X.mg=Cs.map (λC=>a_ (.ref C))->(∀n∈ns,Gl X n/\(n == ("__debug__":a8))=d_)->PA X es (λ_ H Q=>Q (Cs.map V.ref) H)
 |[],ns,Cs,h,e,_=>by
   cases h
   cases Cs with
   |nil=>exact rV
   |cons _ _=>cases e
 |a::es,ns,Cs,h,e,hg=>by
   obtain⟨t,h0,h⟩:=bS h;obtain⟨tn,h1,rfl⟩:=er h;obtain⟨p,rfl⟩:=dS h0
   cases Cs with
   |nil=>cases e
   |cons c Cs=>
     rw[ah,ah]at e;obtain⟨e1,e2⟩:=uA e;exact kT (tW (v:=.ref c) (hg t iw).1 e1 rfl (hg t iw).2) (JH h1 e2 λn m=>hg n (jd _ m)) (bD rfl)
def Po(T:nO G C S X)(hf:∀e x,f e=a_ x->SE X C e x)(h:Xv G S f es=a_ z):SE X C (.Call (.Name "isinstance" p) es [] pos) z:=by
 obtain⟨⟨a,t'⟩,h1,g1⟩:=bS h;obtain rfl:es=[a,t']:=mD h1;obtain⟨hc,g2⟩:=bw g1;rw[af]at hc;have hgi:Gl X "isinstance":=iA T hc.1;have hmi:=T.blt "isinstance" (by decide +kernel)
 cases hn:gH t' with
 |some t=>
   have g2:(match gH t' with|some t=>if(gG t && vZ S t)=c_ then(G.x.cls.lookup t).bind λtab=>(f a).map λxa=>Ex.Dd tab xa else b_|none=>_)=a_ z:=g2;rw[hn]at g2;obtain⟨p2,rfl⟩:=dS hn;obtain⟨hp,g3⟩:=bw g2;rw[af]at hp;obtain⟨d1,d2,d3⟩:=e9 hp.1;obtain⟨tab,h2,g4⟩:=bS g3;obtain⟨xa,h3,rfl⟩:=er g4
   rcases T.cls t tab h2 with⟨C0,hm,ht⟩|⟨T0,hm,hv,hnn,ht⟩
   ·exact IU hgi hmi (tW (v:=.ref C0) (iA T hp.2) hm rfl d1) (λw r=>r) ht (hf _ _ h3) (bD hc.2) (jF (by rfl))
   ·exact IU hgi hmi (Er (v:=.ty T0) (iA T hp.2) hm hv rfl hnn d1) (λw r=>r) ht (hf _ _ h3) (bD hc.2) (jF (by rfl))
 |none=>
   have g2:(match gH t' with|some t=>if(gG t && vZ S t)=c_ then(G.x.cls.lookup t).bind λtab=>(f a).map λxa=>Ex.Dd tab xa else b_|none=>(Qf t').bind λes=>(namesOf es).bind λns=>if ns.all (λn=>gG n && vZ S n)=c_ then(G.x.tcl.lookup ns).bind λtab=>(f a).map λxa=>Ex.Dd tab xa else b_)=a_ z:=g2;rw[hn]at g2;obtain⟨es,h2,g3⟩:=bS g2;obtain⟨ns,h3,g4⟩:=bS g3;obtain⟨hp,g5⟩:=bw g4;obtain⟨tab,h4,g6⟩:=bS g5;obtain⟨xa,h5,rfl⟩:=er g6
   cases t' with
   |Tuple es' kx p2=>
     cases h2;obtain⟨Cs,e1,e2,ht⟩:=T.tcl ns tab h4
     have hg:∀n∈ns,Gl X n/\(n == ("__debug__":a8))=d_:=λn m=>by
      have:=aC.mp hp n m;rw[af]at this;exact⟨iA T this.2,(e9 this.1).1⟩
     have hu:∀(l:List aE)(ws:List ak),bW (l.map V.ref) ws->ws=l.map bI:=λl=>by
      induction l with
      |nil=>intro ws h;cases h;rfl
      |cons c l ih=>
        intro ws h
        cases h with
        |cons r rs=>rw[show _=bI c from r,ih _ rs];rfl
     exact RG (by rw[ag];exact e2) hgi hmi (JH h3 e1 hg) (hu Cs) ht (hf _ _ h5) (bD hc.2) (bD rfl) (jF (by rfl))
   |_=>cases h2
def He(T:nO G C S X)(hf:∀e x,f e=a_ x->SE X C e x)(h:Du G S f x es=a_ z):SE X C (.Call (.Name x p) es [] pos) z:=by
 unfold Du at h;split at h
 ·rename_i hx;subst hx
  cases hci:Xw S f es with
  |none=>rw[hci]at h;exact Po T hf h
  |some w=>
    rw[hci]at h;cases h;have h:=hci;clear hci;obtain⟨⟨a,t'⟩,h1,g1⟩:=bS h;obtain rfl:es=[a,t']:=mD h1;obtain⟨t,h2,g2⟩:=bS g1;obtain⟨p2,h5⟩:=dS h2;obtain rfl:t'=.Name t p2:=h5;obtain⟨hc,g3⟩:=bw g2;simp only[af]at hc;obtain⟨ty,h3,g4⟩:=bS g3;obtain⟨xa,h4,rfl⟩:=er g4;obtain⟨b1,b2,b3,b4⟩:=UI h3;exact RF ty (iA T hc.1.1) (T.blt _ (by decide +kernel)) (iA T hc.1.2) (T.blt _ b2) b1 (hf _ _ h4) b4 b3 (bD hc.2) (jF (by rfl))
 ·generalize hw:(if x="sorted" then UJ S f "sorted" "set" .sset es else b_)=w at h
  cases w with
  |some w=>
    cases h;split at hw
    ·rename_i hx;subst hx;exact Pf T hf hw λa xa _ _ _ _ hs g1 g2 ha=>M3 T.un T.calm g1 (T.blt _ (by decide +kernel)) g2 (T.blt _ (by decide +kernel)) ha (by rw[bD hs];rfl)
    ·cases hw
  |none=>
    obtain⟨xs,h1,h⟩:=bS h;exact Pp T (jI hf h1) h
def Bt(T:nO G C S X)(hf:∀e x,f e=a_ x->SE X C e x)(h:Ln G S f fn es pos=a_ z):SE X C (.Call fn es [] pos) z:=by
 unfold Ln at h
 cases hq:zo fn with
 |some t=>
   rw[hq]at h;obtain rfl:=xN hq;exact Lk T hf h
 |none=>
   rw[hq]at h;obtain⟨x,h1,h⟩:=bS h;obtain⟨p,rfl⟩:=dS h1;exact He T hf h
def A8(h:Qx gs=a_ g):gs=[⟨g.tg,g.it,g.ifs,0⟩]:=by
 obtain⟨c,h1,g1⟩:=bS h;obtain rfl:=eP h1;split at g1
 ·rename_i hz;cases g1;cases c;cases hz;rfl
 ·cases g1
set_option tactic.hygienic false
def Bs(ih:Ih G C F)(T:nO G C S X)(h:QM S F elt g sc=a_ z) :
  ∃tn caps one it xs xe gg,z=.comp tn caps one it xs xe/\∃tl:List a8,tl.length=tn/\jt X sc tl (freeOf sc) one/\SI X C g.tg g.it it/\pD tl.length gg/\Vb X.K tl.length caps gg/\
   (∀(cl:List (a8×aE))(s₂:aw)(H₂:Hp)(Ca:aE)(ex:List aE),PG (eX X sc cl (tl++freeOf sc) s₂ H₂ Ca ex) g.tg gg/\LZ (eX X sc cl (tl++freeOf sc) s₂ H₂ Ca ex) g.ifs (Vp X.K C xs)/\SE (eX X sc cl (tl++freeOf sc) s₂ H₂ Ca ex) C elt xe)/\oo g.it=c_:=by
 obtain⟨⟨one,tn⟩,h0,h⟩:=bS h;obtain⟨caps,h1,h⟩:=bS h;obtain⟨hc,h⟩:=bw h;simp only[af]at hc;obtain⟨it,h2,h⟩:=bS h;obtain⟨xs,h3,h⟩:=bS h;obtain⟨xe,h4,rfl⟩:=er h;have cb:=La hc.1;obtain⟨gg,touch,tgc,hg⟩:=VJ T h0 cb;refine⟨_,_,_,it,xs,xe,gg,rfl,tn,rfl,zg T cb h1,(QL T (λe x q=>(ih _ _ _ q X T).1) h2).1,touch,tgc,λcl s₂ H₂ Ca ex=>?_,hc.2⟩;have T':=rJ T cb cl s₂ H₂ Ca ex;refine⟨hg cl s₂ H₂ Ca ex,?_,(ih _ _ _ h4 _ T').1⟩;generalize g.ifs=ifs at h3
 cases ifs with
 |nil=>cases h3;exact MB
 |cons c r=>
   obtain⟨hn,h5⟩:=bw h3;simp only[af,hG]at hn;obtain⟨rfl,hn⟩:=hn;obtain⟨y,g1,rfl⟩:=er h5;exact MA ((ih _ _ _ g1 _ T').2 hn)
theorem xH:∀n,Ih G C (cE G n)
 |0=>λ_ _ _ h=>by cases h
 |n+1=>λS e z h X T=>by
   have ih:=λe x h=>xH n S e x h X T;have hf:=λe x h=>(ih e x h).1
   cases e with
   |Constant c k p=>
     obtain⟨d,h1,rfl⟩:=er h
     have q:SE X C (.Constant c k p) (.con d):=by
      cases c<;>first|(cases h1;first|exact RH|exact V5|exact RB|exact RA)|cases h1
     exact⟨q,λ_=>lx q⟩
   |Name x p=>exact⟨Bq T h,λ_=>lx (Bq T h)⟩
   |BinOp a op b p=>
     obtain⟨o,h0,h⟩:=bS h;obtain⟨xa,h1,h⟩:=bS h;obtain⟨xb,h2,rfl⟩:=er h;have q:=RJ (pos:=p) (Pt (X:=X) h0) (hf _ _ h1) (hf _ _ h2);exact⟨q,λ_=>lx q⟩
   |UnaryOp op a p=>
     cases op with
     |USub=>
       obtain⟨xa,h1,rfl⟩:=er h;have q:=RC (pos:=p) (hf _ _ h1);exact⟨q,λ_=>lx q⟩
     |Not=>
       obtain⟨hn,h⟩:=bw h;obtain⟨xa,h1,rfl⟩:=er h;exact⟨M4 (hf _ _ h1),λ_=>Q7 ((ih _ _ h1).2 hn)⟩
     |_=>cases h
   |BoolOp op es p=>
     obtain⟨hn,h⟩:=bw h
     cases op with
     |And=>
       obtain⟨xs,h1,h⟩:=bS h;have q:=xu (pos:=p) (jI ih h1) hn h;exact⟨q.1,λ_=>q.2.pt⟩
     |Or=>
       obtain⟨xs,h1,h⟩:=bS h;have q:=Bc (pos:=p) (jI ih h1) hn h;exact⟨q.1,λ_=>q.2.pt⟩
   |Attribute a m p=>
     obtain⟨hb,h⟩:=bw h;obtain⟨cs,h1,h⟩:=bS h;obtain⟨xa,h2,rfl⟩:=er h;have q:=RK (pos:=p) (T.Bx m cs h1) (hf _ _ h2) (o3 hb);exact⟨q,λ_=>lx q⟩
   |Compare a ops bs p=>
     have q:=Lm (pos:=p) T hf h;exact⟨q.1,λ_=>q.2⟩
   |IfExp c a b p=>
     obtain⟨hn,h⟩:=bw h;obtain⟨xc,h1,h⟩:=bS h;obtain⟨xa,h2,h⟩:=bS h;obtain⟨xb,h3,rfl⟩:=er h;exact⟨RE ((ih _ _ h1).2 hn) (hf _ _ h2) (hf _ _ h3),λz=>by cases z⟩
   |Tuple es k p=>
     obtain⟨xs,h1,rfl⟩:=er h;have q:=Rz (x1:=k) (pos:=p) (jI hf h1).sf;exact⟨q,λ_=>lx q⟩
   |List es p=>
     obtain⟨xs,h1,rfl⟩:=er h;have q:=RD (pos:=p) (jI hf h1).sf;exact⟨q,λ_=>lx q⟩
   |Dict ks vs p=>exact⟨Br hf h,λ_=>lx (Br hf h)⟩
   |Subscript a b p=>exact⟨Fk T hf h,λ_=>lx (Fk T hf h)⟩
   |Call fn args kws cp=>
     obtain⟨hk,h⟩:=bw h
     cases kws with
     |nil=>exact⟨Bt T hf h,λ_=>lx (Bt T hf h)⟩
     |cons _ _=>cases hk
   |ListComp elt gs sc p=>
     obtain⟨g,h1,h⟩:=bS h;obtain rfl:=A8 h1;obtain⟨_,_,_,it,xs,xe,gg,rfl,tl,rfl,k1,k2,k3,k4,k5,k6⟩:=Bs (xH n) T h;have q:=M9 (pos:=p) T.calm k1 k2 k3 k4 (λcl s₂ H₂ Ca ex=>(k5 cl s₂ H₂ Ca ex).1) (λcl s₂ H₂ Ca ex=>(k5 cl s₂ H₂ Ca ex).2.1) (λcl s₂ H₂ Ca ex=>(k5 cl s₂ H₂ Ca ex).2.2) (lg k6);exact⟨q,λ_=>lx q⟩
   |_=>cases h
end
noncomputable def qK:aV->Bool
 |.ListComp _ _ _ _=>d_
 |.SetComp _ _ _ _=>d_
 |.DictComp _ _ _ _ _=>d_
 |_=>c_
noncomputable def IB(S:Sc)(sc:l8)(cp:rE)(t:a8)(p:rE):Bool:=S.nm.lookup t == a_ .local && p.line == cp.line && !(sc.names.any λ(n,k)=>n == t && (k == .local || k == .cell))
noncomputable def Xu(m:a8)(k:Nat):Option QW:=
 if m="append"/\k=1 then a_ .app else if m="insert"/\k=2 then a_ .ins else b_
def E6(e:aV):Bool:=gH e == a_ "entry"
def Jj(S:Sc)(e:aV):Option Nat:=(gH e).bind λx=>if(gG x && FR S x)=c_ then o9 x S.N else b_
def UM(G:Sg)(S:Sc)(f:aV->Option Ex):Option aV->Option Sx
 |none=>b_
 | some e=>match Jj S e with
   |some i=>a_ (.rO i)
   |none=>(f e).map .ret
def ID:aV->Option (a8×aV)
 |.Subscript a ix _=>(gH a).map λx=>(x,ix)
 |_=>b_
def US(S:Sc)(f:aV->Option Ex)(t e:aV):Option Sx:=match gH t with
 |some x=>if u9 S x=c_ then(o9 x S.N).bind λi=>(f e).map λxe=>.set i xe else b_
 | none=>match ID t with
   |some (x,ix)=>if(FR S x && gG x && (oP ix).isNone && qK e)=c_ then(o9 x S.N).bind λi=>(f e).bind λxe=>(f ix).map λxi=>.mut (if E6 ix=c_ then .dput else .seti) i [xe,xi]else b_
   |none=>(oM t).bind λtn=>if(tn.2.all (u9 S) && !isTup e && !tn.1)=c_ then(td S.N tn.2).bind λts=>(f e).map λxe=>.Qe ts xe else b_
structure Mc where
 x:a8
 m:a8
 ap:rE
 args:List aV
 cp:rE
def Td(e:aV):Option Mc:=(UH e).bind λc=>(zo c.fn).bind λt=>(gH t.1).bind λx=>if c.kws.isEmpty=c_ then a_ ⟨x,t.2.1,t.2.2,c.args,c.pos⟩else b_
def cExp(S:Sc)(f:aV->Option Ex)(e:aV):Option Sx:=match Td e with
 |some c=>if(FR S c.x && gG c.x && (c.ap.endLine == c.cp.line))=c_ then(o9 c.x S.N).bind λi=>(tG f c.args).bind λxs=>(Xu c.m xs.length).map λop=>.mut op i xs else b_
 |none=>b_
def Li(G:Sg)(S:Sc)(f:aV->Option Ex)(e:aV):Option (Nat×List Ex):=(sy e).bind λc=>if(gG c.1 && vZ S c.1 && !c.2.isEmpty)=c_ then(Dk c.1 0 G.fns).bind λjn=>(tG f c.2).bind λxs=>if xs.length=jn.2 then a_ (jn.1,xs)else b_ else b_
def UL(G:Sg)(S:Sc)(f:aV->Option Ex)(v:Option aV):Option Sx:=v.bind λe=>(Li G S f e).map λq=>.Hu q.1 q.2
def Xt(G:Sg)(S:Sc)(f:aV->Option Ex)(v w:Option aV):Option Sx:=v.bind λe=>if w.isNone=c_ then(sy e).bind λc=>if(gG c.1 && vZ S c.1)=c_ then(iQ c.2).bind λa=>if eC a=c_ then(G.x.exc.lookup c.1).bind λcf=>(f a).map λxa=>.wL cf.1 cf.2 xa else b_ else b_ else b_
def Ft(b:List i8):Option (a8×a8×List aV):=(iQ b).bind λ
 |.Assign ts e _=>(iQ ts).bind λt=>(gH t).bind λx=>(sy e).map λc=>(x,c.1,c.2)
 |_=>b_
noncomputable def Qu{α:Type}(F:List aV->aV->Option α):i8->Option α
 |.Assign ts e _=>F ts e
 |_=>b_
def Kj {st:i8}(h:Qu F st=a_ x):∃ts e p,st=.Assign ts e p/\F ts e=a_ x:=by
 cases st with
 |Assign ts e p=>exact⟨ts,e,p,rfl,h⟩
 |_=>cases h
def Qw(hs:List FJ):Option (a8×a8×a8):=(iQ hs).bind λ
 |.ExceptHandler t n b _=>t.bind λt=>(gH t).bind λD=>n.bind λn=>(iQ b).bind (Qu λts e=>(iQ ts).bind λy=>(gH y).bind λy=>(gH e).bind λz=>if z=n then a_ (D,n,y)else b_)
def Xr(G:Sg)(S:Sc)(f:aV->Option Ex)(b:List i8)(hs:List FJ):Option Sx:=(Ft b).bind λa=>(Qw hs).bind λh=>
 if(gG a.2.1 && vZ S a.2.1 && !a.2.2.isEmpty && gG h.1 && vZ S h.1 && gG h.2.1 && S.nm.lookup h.2.1 == a_ .local && u9 S a.1 && u9 S h.2.2 && h.2.1 != h.2.2)=c_ then
  (Dk a.2.1 0 G.fns).bind λjn=>(tG f a.2.2).bind λxs=>if xs.length=jn.2 then(G.x.hnd.lookup h.1).bind λok=>(o9 a.1 S.N).bind λi=>(o9 h.2.1 S.N).bind λm=>(o9 h.2.2 S.N).map λy=>.Qg i jn.1 xs y m ok else b_
 else b_
def An(f:i8->Option Sx)(ss:List i8):List Sx:=ss.map λs=>(f s).getD .MC
def cS(G:Sg)(S:Sc):Nat->i8->Option Sx
 |0,_=>b_
 | n+1,st=>match st with
   | .Return v _=>match UL G S (cE G n S) v with
     |some y=>a_ y
     |none=>UM G S (cE G n S) v
   |.Raise v w _=>Xt G S (cE G n S) v w
   |.Try b hs els fin _=>if(els.isEmpty && fin.isEmpty)=c_ then Xr G S (cE G n S) b hs else b_
   |.Assign ts e _=>(iQ ts).bind λt=>US S (cE G n S) t e
   | .Expr e _=>match Li G S (cE G n S) e with
     |some q=>a_ (.OR q.1 q.2)
     |none=>cExp S (cE G n S) e
   |.If c a b _=>if sU c=c_ then(cE G n S c).map λxc=>.ifs xc (An (cS G S n) a) (An (cS G S n) b)else b_
   |.For tg iter body els _=>if els.isEmpty=c_ then(oM tg).bind λt=>if(t.2.all (u9 S) && oo iter)=c_ then(td S.N t.2).bind λts=>(cI S (cE G n S) tg iter).map λit=>.loop t.1 ts it (An (cS G S n) body)else b_ else b_
   |_=>b_
structure Vc(G:Sg)(C:Fs)(X:Cx)(EE:XK):Prop where
 wx:Fv X EE
 px:oE (tz X.prog X.w) X EE
 po:Hm (aB X.prog X.w) X.A X.env X.xe
 fx:∀(j:Nat)x n,G.fns[j]?=a_ (x,n)->∃k f fd ps,jx X.prog X.w X.K X.mg X.base (tz X.prog X.w) k f fd ps (IJ X.K n (C j) (C (j+o8)))/\je k X.A/\X.mg x=a_ (.ref f)/\de X.K (.ref f)=c_/\Binds X.K fd ps []
 ex:∀x c f,G.x.exc.lookup x=a_ (c,f)->∃fI fd k,X.mg x=a_ (.ref c)/\uC X.K c fI=c_/\jx X.prog X.w X.K X.mg X.base Fy k fI fd ["self",f] (uH c f)/\je (k+1) X.A/\Binds X.K fd ["self",f] []
 kf:G.x.kf X.K X.mg
 hn:∀n ok,G.x.hnd.lookup n=a_ ok->∃CD,X.mg n=a_ (.ref CD)/\∀c∈ok,gC X.K (.ref c) (.ref CD)=a_ c_
 st:X.stack=X.env::X.outer
 fm:X.env.frame=a_ X.env.locals
section
variable{G:Sg}{X:Cx}
theorem kg{f:i8->Option Sx}(hf:∀s y,f s=a_ y->SS X C EE s y):∀(ss:List i8),Hx X C EE ss (An f ss)
 |[]=>MD
 | s::r=>IF (by
    show SS X C EE s ((f s).getD .MC)
    cases q:f s with
    |none=>exact Rc
    |some y=>exact hf _ _ q) (kg hf r)
def CW(h:qK e=c_):swapsWith e t line X.env=pure d_:=by
 cases e<;>first|rfl|cases h
def Jy(T:nO G C S X)(ht:S.top=c_)(hN:S.N.Nodup)(hi:S.N[i]?=a_ t)(hl:u9 S t=c_):PG X (.Name t p) (kh i):=
 Ep (by rw[T.N];exact hN) (by rw[T.N];exact hi) (oS T hl) (.inl (T.fn ht t))
theorem Av(T:nO G C S X)(htop:S.top=c_)(hN:S.N.Nodup):∀{es:List aV}{tn:List a8}{ts:List Nat},namesOf es=a_ tn->tn.all (u9 S)=c_->td S.N tn=a_ ts->Vz X es (X4 ts)/\ts.length=es.length
 |[],tn,ts,h,_,hc=>by
   cases h;cases hc;exact⟨Eo,rfl⟩
 |e::es,tn,ts,h,hl,hc=>by
   obtain⟨t,h0,h⟩:=bS h;obtain⟨tn',h1,rfl⟩:=er h;obtain⟨p,rfl⟩:=dS h0;obtain⟨i,h2,hc⟩:=bS hc;obtain⟨is,h3,rfl⟩:=er hc;rw[dv,af]at hl;obtain⟨q1,q2⟩:=Av T htop hN h1 hl.2 h3;exact⟨Ak (Jy T htop hN (fR h2) hl.1) q1,congrArg (·+ 1) q2⟩
def Ir(T:nO G C S X)(htop:S.top=c_)(hN:S.N.Nodup)(ht:oM tg=a_ (one,tn))(hl:tn.all (u9 S)=c_)(hc:td S.N tn=a_ ts) :
  ∃g,Va X.K one ts g/\PG X tg g:=by
 cases tg with
 |Name t p=>
   cases ht;obtain⟨i,h1,hc⟩:=bS hc;cases hc;exact⟨kh i,Mv,Jy T htop hN (fR h1) (by simpa using hl)⟩
 |Tuple es k p=>
   obtain⟨tn',h1,h⟩:=er ht;cases h;obtain⟨q1,q2⟩:=Av T htop hN h1 hl hc;exact⟨_,Ip,Jx T.calm q1 ((m6 h1).1.trans q2.symm) (m6 h1).2.1⟩
 |_=>cases ht
def Pm(T:nO G C S X)(hf:∀e x,f e=a_ x->SE X C e x)(h:UM G S f v=a_ y):SS X C EE (.Return v pos) y:=by
 cases v with
 |none=>cases h
 |some e=>
   have h:(match Jj S e with|some i=>a_ (Sx.rO i)|none=>(f e).map .ret)=a_ y:=h
   cases hw:Jj S e with
   |some i=>
     rw[hw]at h;cases h;obtain⟨x,h1,h2⟩:=bS hw;obtain⟨p,rfl⟩:=dS h1;obtain⟨hc,h2⟩:=bw h2;rw[af]at hc;obtain⟨d1,d2,d3⟩:=e9 hc.1;exact MF (by rw[T.N];exact fR h2) (tP T hc.2) d1 d2
   |none=>
     rw[hw]at h;obtain⟨xe,h1,rfl⟩:=er h;exact Rh (hf _ _ h1)
def FZ{ix:aV}(h:qK e=c_):swapsWithSole [.Subscript a ix sp] e line env=pure d_/\swappedStores [.Subscript a ix sp] e env=pure b_:=by
 cases e<;>first|exact⟨rfl,rfl⟩|cases h
def FV(h:isTup e=d_):swapsWithSole [.Tuple es k tp] e line env=pure d_/\swappedStores [.Tuple es k tp] e env=pure b_:=by
 cases e<;>first|exact⟨rfl,rfl⟩|cases h
def IC{ix:aV}(h:ID t=a_ (x,ix)):∃p sp,t=.Subscript (.Name x p) ix sp:=by
 cases t with
 |Subscript a ix' sp=>
   obtain⟨x',h1,h2⟩:=er h;cases h2;obtain⟨p,rfl⟩:=dS h1;exact⟨p,sp,rfl⟩
 |_=>cases h
def VL(h:oM t=a_ (d_,tn)):∃es k tp,t=.Tuple es k tp:=by
 cases t with
 |Tuple es k tp=>exact⟨es,k,tp,rfl⟩
 |_=>cases h
def WS{ix:aV}(h:oP ix=b_):∀v,assign (.Subscript o ix p) env v=(do
   let ov <-holding [v] (eval o env);let iv <-holding [v,ov] (eval ix env)
   standAt p
   holding [v,ov,iv] (setItem ov iv v)
   release [v,ov,iv] []):=λv=>by
 cases ix<;>first|rfl|cases h
def UG(hc:¬qK e=c_)(h:cE G n S e=a_ z):∃elt gs sc cp,e=.ListComp elt gs sc cp:=by
 cases n with
 |zero=>cases h
 |succ n=>
   cases e with
   |ListComp elt gs sc cp=>exact⟨_,_,_,_,rfl⟩
   |SetComp _ _ _ _=>cases h
   |DictComp _ _ _ _ _=>cases h
   |_=>exact absurd rfl hc
def Pj(T:nO G C S X)(top:S.top=c_)(nd:S.N.Nodup)(hl:u9 S x=c_)(h1:o9 x S.N=a_ i)(h2:cE G n S e=a_ xe):SS X C EE (.Assign [.Name x p] e pos) (.set i xe):=by
 have hN:X.N.Nodup:=by rw[T.N];exact nd
 have hi:X.N[i]?=a_ x:=by rw[T.N];exact fR h1
 have q:=(xH n S e xe h2 X T).1;by_cases hc:qK e=c_
 ·exact II hN hi (oS T hl) q (CW hc) (.inl (T.fn top x))
 ·obtain⟨elt,gs,sc,cp,rfl⟩:=UG hc h2
  have hsw:swapsWith (.ListComp elt gs sc cp) (a_ (.Name x p)) pos.line X.env=pure (IB S sc cp x p):=by
   unfold swapsWith IB;have hb:X.env.blockKind=.function:=by unfold Env.blockKind;rw[T.kind];rfl
   simp only[pure_bind,hb,rG,T.nm];rfl
  cases hb:IB S sc cp x p with
  |false=>
    rw[hb]at hsw;exact II hN hi (oS T hl) q hsw (.inl (T.fn top x))
  |true=>
    rw[hb]at hsw
    cases n with
    |zero=>cases h2
    |succ n=>
      obtain⟨g,h3,h4⟩:=bS h2;obtain rfl:=A8 h3;obtain⟨_,_,_,it,xs,xe,gg,rfl,tl,rfl,k1,k2,k3,k4,k5,k6⟩:=Bs (xH n) T h4;exact Ck hN hi (oS T hl) T.calm k1 k2 k3 k4 (λcl s₂ H₂ Ca ex=>(k5 cl s₂ H₂ Ca ex).1) (λcl s₂ H₂ Ca ex=>(k5 cl s₂ H₂ Ca ex).2.1) (λcl s₂ H₂ Ca ex=>(k5 cl s₂ H₂ Ca ex).2.2) hsw (lg k6) (.inl (T.fn top x))
def Pu(T:nO G C S X)(top:S.top=c_)(nd:S.N.Nodup)(h:US S (cE G n S) t e=a_ y):SS X C EE (.Assign [t] e pos) y:=by
 have hf:=λe x(h:cE G n S e=a_ x)=>(xH n S e x h X T).1;unfold US at h
 cases ht:gH t with
 |some x=>
   rw[ht]at h;obtain⟨p,rfl⟩:=dS ht;obtain⟨hl,g1⟩:=bw h;obtain⟨i,h1,g2⟩:=bS g1;obtain⟨xe,h2,rfl⟩:=er g2;exact Pj T top nd hl h1 h2
 |none=>
   rw[ht]at h
   cases hs:ID t with
   |some z=>
     obtain⟨x,ix⟩:=z;rw[hs]at h;obtain⟨p,sp,rfl⟩:=IC hs;obtain⟨hc,g1⟩:=bw h;simp only[af,vR]at hc;obtain⟨⟨⟨hv,hp⟩,hsl⟩,hnc⟩:=hc;obtain⟨i,h1,g2⟩:=bS g1;obtain⟨xe,h2,g3⟩:=bS g2;obtain⟨xi,h3,rfl⟩:=er g3;obtain⟨d1,d2,d3⟩:=e9 hp;have hi:X.N[i]?=a_ x:=by rw[T.N];exact fR h1
     have sw:=FZ (line:=pos.line) (env:=X.env) (a:=.Name x p) (ix:=ix) (sp:=sp) hnc;have hvar:=pO (pos:=p) hi (tP T hv) d1 d2;by_cases hq:E6 ix=c_
     ·rw[if_pos hq];exact MG (CO (hf _ _ h2) (Jz hvar (hf _ _ h3) (V0 (by have:=T.un;exact bo this)) (WS hsl)) sw.1 sw.2 rfl)
     ·rw[if_neg hq];exact ME (CO (hf _ _ h2) (Jz hvar (hf _ _ h3) (MV (by have:=T.un;omega)) (WS hsl)) sw.1 sw.2 rfl)
   |none=>
     rw[hs]at h;obtain⟨⟨one,tn⟩,h0,g1⟩:=bS h;obtain⟨hl,g2⟩:=bw g1;simp only[af,fj]at hl;obtain⟨ts,h1,g3⟩:=bS g2;obtain⟨xe,h3,rfl⟩:=er g3;obtain⟨g,t1,t2⟩:=Ir T top nd h0 hl.1.1 h1;obtain rfl:one=d_:=hl.2;obtain⟨es,k,tp,rfl⟩:=VL h0;have sw:=FV (line:=pos.line) (env:=X.env) (es:=es) (k:=k) (tp:=tp) hl.1.2;exact Rb (hf _ _ h3) t1 t2 sw.1 sw.2 rfl
def Oe(h:Td e=a_ c):∃p,e=.Call (.Attribute (.Name c.x p) c.m c.ap) c.args [] c.cp:=by
 obtain⟨⟨fn,as,kws,cp⟩,h0,g0⟩:=bS h;obtain⟨⟨o,m,ap⟩,h1,g1⟩:=bS g0;obtain⟨x,h2,g2⟩:=bS g1;obtain⟨hk,g3⟩:=bw g2;cases g3;obtain⟨p,h4⟩:=dS h2;obtain rfl:o=.Name x p:=h4;obtain rfl:kws=[]:=hG.mp hk;obtain rfl:fn=.Attribute (.Name x p) m ap:=xN h1;exact⟨p,Fi h0⟩
set_option tactic.hygienic true
def Pq(T:nO G C S X)(hf:∀e x,f e=a_ x->SE X C e x)(h:cExp S f e=a_ y):SS X C EE (.Expr e pos) y:=by
 unfold cExp at h
 cases hm:Td e with
 |none=>
   rw[hm]at h;cases h
 |some c=>
   rw[hm]at h;obtain⟨p,rfl⟩:=Oe hm;obtain⟨x,m,ap,args,cp⟩:=c;obtain⟨hc,g1⟩:=bw h;simp only[af]at hc;obtain⟨⟨hv,hp⟩,hln⟩:=hc;obtain⟨i,h1,g2⟩:=bS g1;obtain⟨xs,h2,g3⟩:=bS g2;obtain⟨op,h3,rfl⟩:=er g3;obtain⟨d1,d2,d3⟩:=e9 hp;have ha:=jI hf h2;have hvar:=pO (pos:=p) (by rw[T.N];exact fR h1) (tP T hv) d1 d2;clear h g1 g2 g3 hm h2;unfold Xu at h3;split at h3
   ·rename_i hm;obtain⟨rfl,hk⟩:=hm;cases h3;obtain⟨xa,rfl⟩:=List.length_eq_one_iff.mp hk;obtain⟨e,rfl,hs,he⟩:=ha.one;have h1':aG [e] X.env=(d_,eval e X.env)::aG [] X.env:=bD hs;exact DY (by simp) (by simp) (by simp) Ub (yu (wQ jq vO PySem.F.type_list_append GC hvar ha.sf rfl (by rw[h1'];rfl) hln h1' rfl) rfl)
   split at h3
   ·rename_i hm;obtain⟨rfl,hk⟩:=hm;cases h3
    match xs,hk,ha with
    |[xa,xb],_,ha=>
      obtain⟨a,b,rfl,hs,hs',_,_⟩:=ha.two;have h1':aG [a,b] X.env=(d_,eval a X.env)::aG [b] X.env:=bD hs;have h2':aG [b] X.env=(d_,eval b X.env)::aG [] X.env:=bD hs';exact DY (by simp) (by simp) (by simp) Ua (yu (wQ jq vN PySem.F.type_list_insert GB hvar ha.sf rfl (by rw[h1',h2'];rfl) hln h1' (by rw[h2'];rfl)) rfl)
   ·cases h3
def Fj(T:nO G C S X.kZ)(W:Vc G C X EE)(hf:∀e x,f e=a_ x->SE X.kZ C e x)(h:Li G S f e=a_ q):(∀pos,SS X C EE (.Expr e pos) (.OR q.1 q.2))/\∀pos,SS X C EE (.Return (a_ e) pos) (.Hu q.1 q.2):=by
 obtain⟨⟨x,args⟩,h1,g1⟩:=bS h;obtain⟨p,cp,rfl⟩:=mM h1;obtain⟨hc,g2⟩:=bw g1;simp only[af]at hc;obtain⟨⟨j,n⟩,h2,g3⟩:=bS g2;obtain⟨xs,h3,g4⟩:=bS g3;have g4:(if xs.length=n then a_ (j,xs)else b_)=a_ q:=g4;split at g4
 ·rename_i hn;cases g4;obtain⟨d1,d2,d3⟩:=e9 hc.1.1;obtain⟨i,e1,e2⟩:=qW h2;rw[jV]at e1;subst e1;obtain⟨k,fa,fd,ps,F,hr,hm,hk,hb⟩:=W.fx _ x n e2;have ha:=jI hf h3;have hg:Gl X x:=iA (X:=X.kZ) T hc.1.2
  cases ha with
  |nil=>exact absurd hc.2 (by simp)
  |cons hs he r=>exact⟨λpos=>Ri F hr hg hm hk hb W.px (iG he r.sa (bD hs)) hn d1 (bD hs) (jF r.star),λpos=>Rf F hr hg hm hk hb W.px (iG he r.sa (bD hs)) hn d1 (bD hs) (jF r.star)⟩
 ·cases g4
def Pk(T:nO G C S X.kZ)(W:Vc G C X EE)(hf:∀e x,f e=a_ x->SE X.kZ C e x)(h:Xt G S f v w=a_ y):SS X C EE (.Raise v w pos) y:=by
 obtain⟨e,h0,g0⟩:=bS h;subst h0;obtain⟨hw,g1⟩:=bw g0;obtain rfl:=vR.mp hw;obtain⟨⟨x,args⟩,h1,g2⟩:=bS g1;obtain⟨p,cp,rfl⟩:=mM h1;obtain⟨hc,g3⟩:=bw g2;rw[af]at hc;obtain⟨a,h2,g4⟩:=bS g3;obtain rfl:=eP h2;obtain⟨hs,g5⟩:=bw g4;obtain⟨⟨c,fl⟩,h3,g6⟩:=bS g5;obtain⟨xa,h4,rfl⟩:=er g6;obtain⟨d1,d2,d3⟩:=e9 hc.1;obtain⟨fI,fd,k,hm,q,F,hr,hb⟩:=W.ex x c fl h3;have hg:Gl X x:=iA (X:=X.kZ) T hc.2;exact Rg W.wx T.calm hg hm q d1 F hr hb (iG (hf _ _ h4) mY (bD hs)) (bD hs)
def DH(h:Ft b=a_ (x,fn,as)):∃px p cp ap,b=[.Assign [.Name x px] (.Call (.Name fn p) as [] cp) ap]:=by
 obtain⟨st,h1,g1⟩:=bS h;obtain rfl:=eP h1
 cases st with
 |Assign ts e ap=>
   obtain⟨t,h2,g2⟩:=bS g1;obtain rfl:=eP h2;obtain⟨y,h3,g3⟩:=bS g2;obtain⟨px,rfl⟩:=dS h3;obtain⟨⟨c1,c2⟩,h4,g4⟩:=er g3;cases g4;obtain⟨p,q,rfl⟩:=mM h4;exact⟨px,p,q,ap,rfl⟩
 |_=>cases g1
def Kp{D:a8}(h:Qw hs=a_ (D,n,y)):∃dp py np yp hp,hs=[.ExceptHandler (a_ (.Name D dp)) (a_ n) [.Assign [.Name y py] (.Name n np) yp] hp]:=by
 obtain⟨hd,h1,g1⟩:=bS h;obtain rfl:=eP h1;obtain⟨t,n',b,hp⟩:=hd;obtain⟨t,rfl,g2⟩:=bS g1;obtain⟨D',h3,g3⟩:=bS g2;obtain⟨dp,rfl⟩:=dS h3;obtain⟨m,rfl,g4⟩:=bS g3;obtain⟨st,h5,g5⟩:=bS g4;obtain rfl:=eP h5;obtain⟨ts,e,yp,rfl,g5⟩:=Kj g5;obtain⟨yy,h6,g6⟩:=bS g5;obtain rfl:=eP h6;obtain⟨y',h7,g7⟩:=bS g6;obtain⟨py,rfl⟩:=dS h7;obtain⟨z,h8,g8⟩:=bS g7;obtain⟨np,rfl⟩:=dS h8;have g8:(if z=m then a_ (D',m,y')else b_)=a_ (D,n,y):=g8;split at g8
 ·rename_i hz;cases g8;subst hz;exact⟨dp,py,np,yp,hp,rfl⟩
 ·cases g8
def Pg(T:nO G C S X.kZ)(W:Vc G C X EE)(top:S.top=c_)(nd:S.N.Nodup)(hf:∀e x,f e=a_ x->SE X.kZ C e x)(h:Xr G S f b hs=a_ y):SS X C EE (.Try b hs [] [] pos) y:=by
 obtain⟨⟨x,fn,as⟩,h1,g1⟩:=bS h;obtain⟨⟨D,n,yn⟩,h2,g2⟩:=bS g1;obtain⟨px,p,cp,ap,rfl⟩:=DH h1;obtain⟨dp,py,np,yp,hp,rfl⟩:=Kp h2;obtain⟨hc,g3⟩:=bw g2;simp only[af,beq_iff_eq,bne_iff_ne]at hc;obtain⟨⟨⟨⟨⟨⟨⟨⟨⟨c1,c2⟩,c3⟩,c4⟩,c5⟩,c6⟩,c7⟩,c8⟩,c9⟩,c10⟩:=hc;obtain⟨⟨j,k⟩,h3,g4⟩:=bS g3;obtain⟨xs,h4,g5⟩:=bS g4;have g5:(if xs.length=k then(G.x.hnd.lookup D).bind λok=>(o9 x S.N).bind λi=>(o9 n S.N).bind λm=>(o9 yn S.N).map λy=>Sx.Qg i j xs y m ok else b_)=a_ y:=g5;split at g5
 ·rename_i hn;obtain⟨ok,h5,g6⟩:=bS g5;obtain⟨i,h6,g7⟩:=bS g6;obtain⟨m,h7,g8⟩:=bS g7;obtain⟨iy,h8,rfl⟩:=er g8;obtain⟨CD,hmD,hok⟩:=W.hn D ok h5;obtain⟨d1,d2,d3⟩:=e9 c1;obtain⟨e1,e2,e3⟩:=e9 c4;obtain⟨f1,f2,f3⟩:=e9 c6;obtain⟨i',e,e4⟩:=qW h3;rw[jV]at e;subst e;obtain⟨kk,fa,fd,ps,F,hr,hm,hk,hb⟩:=W.fx _ fn k e4;have ha:=jI hf h4;have hN:X.N=S.N:=T.N;have hnm:X.env.scope.names.lookup n=a_ .local:=by rw[show X.env.scope.names=S.nm from T.nm];exact c7
  have hmy:m≠iy:=λz=>by
   subst z;have z1:=fR h7;have z2:=fR h8;rw[z1]at z2;cases z2;exact c10 rfl
  cases ha with
  |nil=>exact absurd c3 (by simp)
  |cons hs he r=>
    exact PS.imp (R8 (by rw[hN];exact nd) W.st W.fm (iA (X:=X.kZ) T c5) hmD e1 (by rw[hN];exact fR h6) (oS (X:=X.kZ) T c8) (.inl (T.fn top _)) (by rw[hN];exact fR h7) hnm (by rw[hN];exact fR h8) (oS (X:=X.kZ) T c9) (.inl (T.fn top _)) f1 f2 F hr (iA (X:=X.kZ) T c2) hm hk hb d1 (iG he r.sa (bD hs)) (bD hs) (jF r.star)) (Ij hmy hn hok)
 ·cases g5
set_option tactic.hygienic false
theorem QH(T:nO G C S X.kZ)(W:Vc G C X EE)(top:S.top=c_)(nd:S.N.Nodup):∀(n:Nat)(st:i8)(y:Sx),cS G S n st=a_ y->SS X C EE st y
 |0,_,_,h=>by cases h
 |n+1,st,y,h=>by
   have ih:=λe x(h:cE G n S e=a_ x)=>xH n S e x h X.kZ T;have hf:=λe x h=>(ih e x h).1;have hs:=QH T W top nd n
   cases st with
   |Return v p=>
     have h:(match UL G S (cE G n S) v with|some y=>a_ y|none=>UM G S (cE G n S) v)=a_ y:=h
     cases hq:UL G S (cE G n S) v with
     |none=>rw[hq]at h;exact PS.kZ (Pm T hf h)
     |some z=>
       rw[hq]at h;cases h;obtain⟨e,h0,g0⟩:=bS hq;obtain⟨q,h1,rfl⟩:=er g0;subst h0;exact(Fj T W hf h1).2 _
   |Raise v w p=>exact Pk T W hf h
   |Try b hs els fin p=>
     obtain⟨hc,g1⟩:=bw h;rw[af]at hc;obtain rfl:=hG.mp hc.1;obtain rfl:=hG.mp hc.2;exact Pg T W top nd hf g1
   |Assign ts e p=>
     obtain⟨t,h1,g1⟩:=bS h;obtain rfl:=eP h1;exact PS.kZ (Pu T top nd g1)
   |Expr e p=>
     have h:(match Li G S (cE G n S) e with|some q=>a_ (.OR q.1 q.2)|none=>cExp S (cE G n S) e)=a_ y:=h
     cases hq:Li G S (cE G n S) e with
     |none=>rw[hq]at h;exact PS.kZ (Pq T hf h)
     |some q=>
       rw[hq]at h;cases h;exact(Fj T W hf hq).1 _
   |If c a b p=>
     obtain⟨hn,g1⟩:=bw h;obtain⟨xc,h1,rfl⟩:=er g1;exact VZ (PT.kZ ((ih _ _ h1).2 hn)) (kg hs _) (kg hs _)
   |For tg iter body els p=>
     obtain⟨he,g1⟩:=bw h;obtain rfl:=hG.mp he;obtain⟨⟨one,tn⟩,h0,g2⟩:=bS g1;obtain⟨hc,g3⟩:=bw g2;rw[af]at hc;obtain⟨ts,h1,g4⟩:=bS g3;obtain⟨it,h2,rfl⟩:=er g4;obtain⟨g,tgs,hg⟩:=Ir T top nd h0 hc.1 h1;obtain⟨k1,k2⟩:=QL T hf h2
     cases it with
     |itv a=>exact MH W.po T.calm (PE.kZ (k2 a rfl)) (PG.kZ hg) tgs (kg hs _) (lg hc.2)
     |rng es=>exact Cm W.po T.calm (PI.kZ k1) (λa z=>nomatch z) (PG.kZ hg) tgs (kg hs _) (lg hc.2)
     |zip es=>exact Cm W.po T.calm (PI.kZ k1) (λa z=>nomatch z) (PG.kZ hg) tgs (kg hs _) (lg hc.2)
     |enu a=>exact Cm W.po T.calm (PI.kZ k1) (λa z=>nomatch z) (PG.kZ hg) tgs (kg hs _) (lg hc.2)
   |_=>cases h
end
structure Df where
 st:i8
 p:Nat
 n:Nat
 body:List Sx
noncomputable def Df.name(d:Df):a8:=match d.st with
 |.FunctionDef x _ _ _ _ _ _ _ _ _=>x
 |_=>""
def Df.ps(d:Df):List a8:=(uf d.st).args.map λa=>a.arg
def Df.N(d:Df):List a8:=d.ps++((cV d.st).names.filterMap λp=>if(p.2 == .local || p.2 == .cell) && !(d.ps.contains p.1)then a_ p.1 else b_)
def Cn(D:List Df):Nat->Fs
 |0=>λ_ _=>b_
 | n+1=>λj ds=>if j<o8 then(match D[j]? with
   |some d=>GU (Cn D n) d.p d.n d.body ds
   |none=>b_)else match D[j - o8]? with
   |some d=>KY (Cn D n) d.p d.n d.body ds
   |none=>b_
def MQ(D:List Df)(con:List (a8×Dat))(x:Xg):Sg:=⟨D.map λd=>(d.name,d.p),con,x⟩
structure PQ(G:Sg)(d:Df):Prop where
 sc:o4 d.N d.ps (cV d.st)
 pn:d.ps.length=d.p
 nn:d.N.length=d.n
 cmp:∀{C:Fs}{X:Cx}{EE:XK},nO G C ⟨d.N,(cV d.st).names,c_⟩ X.kZ->Vc G C X EE->Hx X C EE (jj d.st) d.body
section
variable{P:cY}{w:dH}{K:Fg}{mg:a8->Option ak}{base:bM}
structure At(K:Fg)(mg:a8->Option ak)(d:Df)(f:aE)(fd:gV):Prop where
 fn:Z5 K d.name d.name d.st f fd
 mgf:mg d.name=a_ (.ref f)
 bd:∀us:List ak,us.length=d.ps.length->bindArgs fd ⟨us,[]⟩=pure (d.ps.zip us)
def Wg(K:Fg)(d:Df):Option (aE×ak×Option aE×gV×Array (Option ak)):=match eB K mainGlobals d.name with
 | some (a_ (.ref f))=>match K.lookup f with
   |some ⟨oc,od,.func fd,l⟩=>a_ (f,oc,od,fd,l)
   |_=>b_
 |_=>b_
def fnK(d:Df)(kV doc pm:ak)(an:Option aE)(cdv ct:ak):gV:=mV d.name d.name (uf d.st) (jj d.st) (cV d.st) .none kV doc pm an cdv ct
def rdB(K:Fg)(d:Df):Bool:=match Wg K d with
 |some x=>nW K x.2.2.2.1.code d.name && de K (.ref x.1)
 |none=>d_
def rdF(K:Fg)(d:Df):Option gV:=(Wg K d).map λx=>x.2.2.2.1
def Z9(K:Fg)(d:Df):Option gV:=(Wg K d).map λx=>fnK d x.2.2.2.1.kwdefaults x.2.2.2.1.doc x.2.2.2.1.pyModule x.2.2.2.1.annotations x.2.2.2.1.code x.2.2.2.1.closureTuple
set_option tactic.hygienic true in
def U3{D:List Df}(X:K.In h)(G:h.Ns mainGlobals mg)(h1:D.map (rdF K)=D.map (Z9 K))(h2:D.all (rdB K)=c_)(h3:∀(kV doc pm:ak) (an:Option aE) (cdv ct:ak) (u:Nat->ak),D.map (λd=>bindArgs (fnK d kV doc pm an cdv ct) ⟨(aP d.ps.length).map u,[]⟩)=D.map λd=>pure (d.ps.zip ((aP d.ps.length).map u))) :
  ∀d∈D,∃f fd,At K mg d f fd:=λd hd=>by
 have e1:=fY.mp h1 d hd;have e2:=aC.mp h2 d hd;unfold rdB at e2;unfold rdF Z9 at e1
 cases e:Wg K d with
 |none=>rw[e]at e2;cases e2
 |some x=>
   obtain⟨f,oc,od,fd,l⟩:=x;rw[e]at e1 e2;have e1:fd=_:=aO e1;obtain⟨c,k⟩:=bY.mp e2;unfold Wg at e;split at e
   ·rename_i f' a;split at e
    ·rename_i lk;cases e;refine⟨f,fd,⟨⟨_,_,_,_,_,_,_,_,_,e1,lk,c⟩,k⟩,j5 X G a,λus hu=>?_⟩;have:=fY.mp (h3 fd.kwdefaults fd.doc fd.pyModule fd.annotations fd.code fd.closureTuple λi=>us.getD i .none) d hd
     have q:(aP d.ps.length).map (λi=>us.getD i .none)=us:=by
      refine LQ (by rw[ag,bX,hu]) λi h1 h2=>?_;rw[List.getElem_map,Hs,eG,ao h2];rfl
     rw[q]at this;exact(congrArg (λz=>bindArgs z ⟨us,[]⟩) e1).trans this
    ·cases e
   ·cases e
def XN(K:Fg)(mg:a8->Option ak)(x:a8)(c:aE)(f:a8):Prop:=mg x=a_ (.ref c)/\∃fI fd,uC K c fI=c_/\(∀P w base k,jx P w K mg base Fy (k+1) fI fd ["self",f] (uH c f))/\Binds K fd ["self",f] []
structure Here(K:Fg)(mg:a8->Option ak)(D:List Df)(con:List (a8×Dat))(xg:Xg):Prop where
 ok:∀d∈D,PQ (MQ D con xg) d
 fn:∀d∈D,∃f fd,At K mg d f fd
 blt:∀x∈lC,mg x=b_
 con:∀x d,con.lookup x=a_ d->∃v u,mg x=a_ u/\RelV v u/\CV K d v
 exc:∀x c f,xg.exc.lookup x=a_ (c,f)->XN K mg x c f
 cls:∀x tab,xg.cls.lookup x=a_ tab->LG K mg x tab
 tcl:∀ns tab,xg.tcl.lookup ns=a_ tab->LC K mg ns tab
 Bx:∀f cs,xg.Bx.lookup f=a_ cs->∀c∈cs,zM K c f=c_
 hnd:∀n ok,xg.hnd.lookup n=a_ ok->∃CD,mg n=a_ (.ref CD)/\∀c∈ok,gC K (.ref c) (.ref CD)=a_ c_
 kf:xg.kf K mg
 len:D.length<=o8
theorem DJ{D:List Df}{con:List (a8×Dat)}{xg:Xg}(T:Here K mg D con xg):∀(n j:Nat)(d:Df)(f:aE)(fd:gV),D[j]?=a_ d->At K mg d f fd->jx P w K mg base (tz P w) (n+2) f fd d.ps (IJ K d.ps.length (Cn D n j) (Cn D n (j+o8)))
 |0,j,d,f,fd,hj,_=>by
   have no:∀vs H Q E,¬IJ K d.ps.length (Cn D 0 j) (Cn D 0 (j+o8)) vs H Q E:=λvs H Q E h=>by
    obtain⟨_,⟨ds,z,fr,h,_⟩|⟨ds,z,fr,h,_⟩⟩:=h<;>cases h
   exact⟨λvs H Q E h=>absurd h (no vs H Q E),λA outer s H args us vs Q E _ _ _ _ h=>absurd h (no vs H Q E)⟩
 |n+1,j,d,f,fd,hj,at_=>by
   have ok:=T.ok d (e8 hj);have hlt:j<o8:=aW (bx.mp hj).1 T.len
   have e:Cn D (n+1) j=GU (Cn D n) d.ps.length d.N.length d.body:=by
    funext ds;simp only[Cn,hj,ok.pn,ok.nn,if_pos hlt]
   have e2:Cn D (n+1) (j+o8)=KY (Cn D n) d.ps.length d.N.length d.body:=by
    funext ds;simp only[Cn,HN,hj,ok.pn,ok.nn,if_neg (show¬j+o8<o8 by simp)]
   rw[e,e2];have hpl:d.ps.length<=d.N.length:=by have:=congrArg ux ok.sc.pre;rw[iZ]at this;exact ae (aM this.symm) (i9 _ _)
   refine Uh (k:=n+2) at_.fn ok.sc hpl λcdv A outer s H E hr=>?_
   have hi':∀(i:Nat)(x:a8)(m:Nat),(MQ D con xg).fns[i]?=a_ (x,m)->∃d' f' fd',D[i]?=a_ d'/\x=d'.name/\m=d'.ps.length/\At K mg d' f' fd':=λi x m hi=>by
    unfold MQ at hi;rw[aY]at hi;obtain⟨d',e1,e2⟩:=er hi;cases e2;obtain⟨f',fd',at'⟩:=T.fn d' (e8 e1);exact⟨d',f',fd',e1,rfl,(T.ok d' (e8 e1)).pn.symm,at'⟩
   refine ok.cmp ?_ ?_
   ·refine⟨rfl,rfl,ok.sc.kind,rfl,?_,rfl,λ_ _=>rfl,λi x m hi=>?_,T.blt,T.con,T.cls,T.tcl,T.Bx⟩
    ·have:=hr.units;show(A.deeper _).units+21<cP;omega
    ·obtain⟨d',f',fd',e1,rfl,rfl,at'⟩:=hi' i x m hi;exact⟨n+2,f',fd',d'.ps,(DJ T n i d' f' fd' e1 at').calm,hr,at'.mgf,at'.fn.kp,.all at'.bd⟩
   ·refine⟨HX,Gs,PassesOwn.leaving,λi x m hi=>?_,λx c f hx=>?_,T.kf,T.hnd,rfl,rfl⟩
    ·obtain⟨d',f',fd',e1,rfl,rfl,at'⟩:=hi' i x m hi;exact⟨n+2,f',fd',d'.ps,DJ T n i d' f' fd' e1 at',hr,at'.mgf,at'.fn.kp,.all at'.bd⟩
    ·obtain⟨hm,fI,fd,q,F,hb⟩:=T.exc x c f hx;exact⟨fI,fd,1,hm,q,F _ _ _ 0,hr.mono (by simp),hb⟩
def D0(K:Fg):Sp:=λvs H Q _=>∃(a:aE) (ns:List Int),vs=[.ref a]/\pd K H a (ns.map V.int)/\ns.length<=63/\∀H',Q (.bl c_) H'
def Gj(ns:List Int):cj K F (ns.map Dat.int) (ns.map V.int):=by
 induction ns with
 |nil=>exact rfl
 |cons n r ih=>exact⟨_,_,rfl,rfl,ih⟩
def Tr{D:List Df}{con:List (a8×Dat)}{xg:Xg}(T:Here K mg D con xg)(hj:D[j]?=a_ d)(at_:At K mg d f fd)(hp:d.ps.length=1)
  (hm:∀ns:List Int,ns.length<=63->∃fr,Cn D n j [.lst (ns.map Dat.int)]=a_ (.bl c_,fr)):jx P w K mg base Fy (n+2) f fd d.ps (D0 K):=
 jx.imp (DJ T n j d f fd hj at_).calm λvs H Q E z4=>by
  obtain⟨a,ns,e,hS,hl,q⟩:=z4;subst e;obtain⟨fr,h⟩:=hm ns hl;refine⟨by rw[hp];rfl,_,_,fr,h,H,⟨bN.refl _,λ_ _ z=>z⟩,⟨_,_,rfl,⟨a,_,rfl,hS,Gj ns⟩,rfl⟩,λv F' H' _ r _=>?_⟩;rw[show v=.bl c_ from r];exact q H'
def Tp{D:List Df}{con:List (a8×Dat)}{xg:Xg}{l:jf}(T:Here K mg D con xg)(hj:D[j]?=a_ d)(hps:d.ps=[x])(hfa:mg d.name=a_ (.ref fa))
  (hm:∀ns:List Int,ns.length<=63->∃fr,Cn D n j [.lst (ns.map Dat.int)]=a_ (.bl c_,fr)) :
  ∃fd:gV,(∀(s:aw)(u:ak),BG s fd ⟨[u],[]⟩ [(x,u)])/\∀base:bM,K.In base->base.Ns mainGlobals mg->jx l.prog w K mg base Fy (n+2) fa fd [x] (D0 K):=by
 obtain⟨f,fd,at_⟩:=T.fn d (e8 hj);have e:=hfa.symm.trans at_.mgf
 cases e;refine⟨fd,λs u=>?_,λbase _ _=>?_⟩
 ·have:=at_.bd [u] (by rw[hps];rfl)
  rw[hps]at this;exact .of_eq this
 ·have:=Tr (P:=l.prog) (w:=w) (base:=base) T hj at_ (by rw[hps];rfl) hm
  rw[hps]at this;exact this
def walk{l:jf}{d:DefRec}{K:Params->Fg}(hn:l.most=a_ 63)(hk:je n callerA)(hdf:d.params.defaults=[])
  (hY:∀(w:dH)(h:bM),YP w h->(K w.params).In h)
  (F:∀(w:dH)(mg:a8->Option ak)(fa:aE)(h:bM),(K w.params).In h->h.Ns mainGlobals mg->mg d.name=a_ (.ref fa)->
   ∃fd:gV,(∀(s:aw)(u:ak),BG s fd ⟨[u],[]⟩ [(x,u)])/\∀base:bM,(K w.params).In base->base.Ns mainGlobals mg->jx l.prog w (K w.params) mg base Fy n fa fd [x] (D0 (K w.params))) :
  vK q loose XP YP l.row.toRowW d [] (λf vs=>FF f vs):=
 L2.Mr (n:=63) (k:=n) (x:=x) (CX:=λ_=>Fy) (sp:=λw=>D0 (K w.params)) hn bG hdf hk hY F (λ_ _ a ns hl _ hS=>⟨a,ns,rfl,hS,hl,λ_=>rfl⟩) λ_ _ _ _ _ z=>z
end
def Pz{K:Fg}(X:K.In h)(G:h.Ns mainGlobals mg)(z:lC.map (λx=>eB K mainGlobals x)=be 20 (a_ b_)):∀x∈lC,mg x=b_:=λx hx=>by
 have q:eB K mainGlobals x∈lC.map (λx=>eB K mainGlobals x):=bb.mpr ⟨x,hx,rfl⟩;rw[z]at q;exact BQ X G (List.eq_of_mem_replicate q)
def Vr(d:Df):ScopeKind×Bool×Bool×Bool×Nat×Nat:=((cV d.st).kind,(cV d.st).isCoroutine,(cV d.st).isGenerator,decide (d.N.Nodup/\(∀x∈d.ps,(cV d.st).names.lookup x=a_ .local\/(cV d.st).names.lookup x=a_ .cell)/\∀y∈(cV d.st).names,y.2≠.free),d.ps.length,d.N.length)
def Zq(G:Sg)(d:Df):List Sx:=An (cS G ⟨d.N,(cV d.st).names,c_⟩ 40) (jj d.st)
def SN{G:Sg}(e:Vr d=(.function,d_,d_,c_,d.p,d.n))(h:(∀{C:Fs}{X:Cx}{EE:XK},nO G C ⟨d.N,(cV d.st).names,c_⟩ X.kZ->Vc G C X EE->Hx X C EE (jj d.st) d.body)\/Zq G d=d.body):PQ G d:=by
 unfold Vr at e;simp only[vQ]at e;obtain⟨e1,e2,e3,e4,e5,e6⟩:=e;obtain⟨a,b,c⟩:=of_decide_eq_true e4;refine⟨⟨e1,e2,e3,a,List.take_left' rfl,b,c⟩,e5,e6,λ{C X EE}T W=>?_⟩
 rcases h with h|h
 ·exact h T W
 ·exact h▸kg (QH T W rfl a 40) _
def SQ{G:Sg}{D L:List Df}(h:D.map Vr=D.map λd=>(.function,d_,d_,c_,d.p,d.n))(hL:∀d∈L,∀{C:Fs}{X:Cx}{EE:XK},nO G C ⟨d.N,(cV d.st).names,c_⟩ X.kZ->Vc G C X EE->Hx X C EE (jj d.st) d.body)(hc:∀d∈D,d∈L\/Zq G d=d.body):∀d∈D,PQ G d:=λd hd=>
 SN (fY.mp h d hd) ((hc d hd).imp (λz=>hL d z) id)
section
variable{K:Fg}
mutual
noncomputable def Nr(K:Fg):Dat->ak->Bool
 |.str x,.str y _=>decide (x=y)
 |.int i,.int j _=>decide (i=j)
 | .tup ds,.ref p=>match K.lookup p with
   |some ⟨.type c,b_,.seq its _,_⟩=>decide (c="tuple") && decide (its.size<=aD) && Jk K ds its.toList
   |_=>d_
 |_,_=>d_
noncomputable def Jk(K:Fg):List Dat->List ak->Bool
 |[],[]=>c_
 |d::ds,u::us=>Nr K d u && Jk K ds us
 |_,_=>d_
end
set_option tactic.hygienic true
mutual
theorem Eb:∀(d:Dat)(u:ak),Nr K d u=c_->∃v,RelV v u/\CV K d v
 |.str x,.str y t,h=>by
   cases of_decide_eq_true h;exact⟨.str x,⟨t,rfl⟩,λ_=>rfl,λ_ z=>nomatch z⟩
 |.int i,.int j t,h=>by
   cases of_decide_eq_true h;exact⟨.int i,⟨t,rfl⟩,λ_=>rfl,λ_ z=>nomatch z⟩
 |.tup ds,.ref p,h=>by
   unfold Nr at h;split at h
   ·rename_i c its n l lk;obtain⟨h,h3⟩:=bY.mp h;obtain⟨h1,h2⟩:=bY.mp h;cases of_decide_eq_true h1;obtain⟨vs,r,q⟩:=Ae ds its.toList h3;exact⟨.ref p,rfl,λF=>⟨p,vs,rfl,.inr ⟨_,its,n,lk,rfl,rfl,of_decide_eq_true h2,r⟩,q F⟩,λb z=>by cases z;exact⟨_,lk,rfl,rfl⟩⟩
   ·cases h
theorem Ae:∀(ds:List Dat)(us:List ak),Jk K ds us=c_->∃vs,bW vs us/\∀F,cj K F ds vs
 |[],[],_=>⟨[],.nil,λ_=>rfl⟩
 |d::ds,u::us,h=>by
   obtain⟨h1,h2⟩:=bY.mp h;obtain⟨v,r,q⟩:=Eb d u h1;obtain⟨vs,rs,qs⟩:=Ae ds us h2;exact⟨v::vs,.cons r rs,λF=>⟨v,vs,rfl,q.1 F,qs F⟩⟩
end
def Xp(K:Fg)(p:a8×Dat):Bool:=match eB K mainGlobals p.1 with
 |some (a_ u)=>Nr K p.2 u
 |_=>d_
theorem Fc(X:K.In h)(G:h.Ns mainGlobals mg):∀{con:List (a8×Dat)},con.all (Xp K)=c_->∀x d,con.lookup x=a_ d->∃v u,mg x=a_ u/\RelV v u/\CV K d v
 |(y,e)::L,h,x,d,q=>by
   rw[dv]at h;obtain⟨h1,h2⟩:=bY.mp h;rw[cy]at q;split at q
   ·rename_i z;cases q;rw[eq_of_beq z];unfold Xp at h1;split at h1
    ·rename_i u a;obtain⟨v,r,c⟩:=Eb _ _ h1;exact⟨v,u,j5 X G a,r,c⟩
    ·cases h1
   ·exact Fc X G h2 x d q
set_option tactic.hygienic false
end
section
variable{K:Fg}
noncomputable def Y7:i8->Bool
 |.FunctionDef _ _ _ _ _ _ _ _ _ _=>c_
 |_=>d_
def TY:i8->i8
 |.ClassDef _ _ _ b _ _ _ _ _ _ _=>(b.find? Y7).getD (.Pass ⟨0,0,0,0⟩)
 |s=>s
noncomputable def isC(x:a8):i8->Bool
 |.ClassDef y _ _ _ _ _ _ _ _ _ _=>y == x
 |_=>d_
def iW(B:List i8)(x:a8):Df:=⟨TY ((B.find? (isC x)).getD (.Pass ⟨0,0,0,0⟩)),2,2,[]⟩
noncomputable def RY(K:Fg)(c:Nat):Option (aE×ak×Option aE×gV×Array (Option ak)):=match K.lookup c with
 | some ⟨_,_,.cls cd,_⟩=>match eB K cd.ns "__init__" with
   | some (a_ (.ref f))=>match K.lookup f with
     |some ⟨oc,od,.func fd,l⟩=>a_ (f,oc,od,fd,l)
     |_=>b_
   |_=>b_
 |_=>b_
def X5(d:Df)(fd:gV):gV:=mV fd.name fd.qualname (uf d.st) (jj d.st) (cV d.st) .none fd.kwdefaults fd.doc fd.pyModule fd.annotations fd.code fd.closureTuple
def Wk(d:Df):rE×rE×rE×rE:=match jj d.st with
 |[.Assign [.Attribute (.Name _ p1) _ p2] (.Name _ p3) p4]=>(p1,p2,p3,p4)
 |_=>(⟨0,0,0,0⟩,⟨0,0,0,0⟩,⟨0,0,0,0⟩,⟨0,0,0,0⟩)
noncomputable def bdI(f:a8)(p:rE×rE×rE×rE):List i8:=[.Assign [.Attribute (.Name "self" p.1) f p.2.1] (.Name f p.2.2.1) p.2.2.2]
def Zi(K:Fg)(q:a8×Nat×a8):Bool:=match RY K q.2.1 with
 |some x=>nW K x.2.2.2.1.code x.2.2.2.1.qualname && de K (.ref x.1) && uC K q.2.1 x.1 && HW K q.2.1 && (lq K (.ref q.2.1) q.2.2 == a_ b_) && (lq K (.ref q.2.1) "__setattr__" == a_ (a_ (.builtin "object.__setattr__"))) && (eB K mainGlobals q.1 == a_ (a_ (.ref q.2.1))) && !(q.2.2 == ("__debug__":a8)) && !(q.2.2 == ("__classdict__":a8))
 |none=>d_
set_option tactic.hygienic true
theorem Qq{α β:Type}[BEq α][LawfulBEq α]{x:α}{y:β}:∀{L:List (α×β)},L.lookup x=a_ y->(x,y)∈L
 |(a,b)::L,q=>by
   rw[cy]at q;split at q
   ·rename_i z;cases q;rw[eq_of_beq z];exact iw
   ·exact jd _ (Qq q)
def OS(X:K.In h)(G:h.Ns mainGlobals mg){L:List (a8×Nat×a8)}(h1:L.map (λq=>(RY K q.2.1).map λx=>x.2.2.2.1)=L.map λq=>(RY K q.2.1).map λx=>X5 (iW B q.1) x.2.2.2.1)(h2:L.all (Zi K)=c_)
  (h3:L.map (λq=>(Vr (iW B q.1),(iW B q.1).N,(iW B q.1).ps,jj (iW B q.1).st))=L.map λq=>((kO,d_,d_,c_,2,2),[("self":a8),q.2.2],[("self":a8),q.2.2],bdI q.2.2 (Wk (iW B q.1))))
  (h4:∀(fd:gV)(u v:ak),L.map (λq=>bindArgs (X5 (iW B q.1) fd) ⟨[u,v],[]⟩)=L.map λq=>pure [(("self":a8),u),(q.2.2,v)]) :
  ∀x c f,L.lookup x=a_ (c,f)->XN K mg x c f:=λx c f hx=>by
 have hm:=Qq hx;have e1:(RY K c).map (λx=>x.2.2.2.1)=(RY K c).map λz=>X5 (iW B x) z.2.2.2.1:=fY.mp h1 _ hm;have e2:Zi K (x,c,f)=c_:=aC.mp h2 _ hm;have e3:(Vr (iW B x),(iW B x).N,(iW B x).ps,jj (iW B x).st)=((kO,d_,d_,c_,2,2),[("self":a8),f],[("self":a8),f],bdI f (Wk (iW B x))):=fY.mp h3 _ hm;obtain⟨e3,e4⟩:=ka e3;obtain⟨e4,e5⟩:=ka e4;obtain⟨e5,e6⟩:=ka e5;unfold Zi at e2;dsimp only at e2
 cases e:RY K c with
 |none=>rw[e]at e2;cases e2
 |some z=>
   obtain⟨fI,oc,od,fd,l⟩:=z;rw[e]at e1 e2;have e1:fd=X5 (iW B x) fd:=aO e1;simp only[af,beq_iff_eq,fj]at e2;obtain⟨⟨⟨⟨⟨⟨⟨⟨k1,k2⟩,k3⟩,k4⟩,k5⟩,k6⟩,k7⟩,k8⟩,k9⟩:=e2
   have lk:K.lookup fI=a_ ⟨oc,od,.func fd,l⟩:=by
    unfold RY at e;split at e
    ·split at e
     ·split at e
      ·rename_i lk;cases e;exact lk
      ·cases e
     ·cases e
    ·cases e
   unfold Vr at e3;simp only[vQ]at e3;obtain⟨f1,f2,f3,f4,_⟩:=e3;obtain⟨a,b,cc⟩:=of_decide_eq_true f4;rw[e4]at a;rw[e5]at b;have S:o4 ["self",f] ["self",f] (cV (iW B x).st):=⟨f1,f2,f3,a,rfl,b,cc⟩
   have sQ:∀y∈[("self":a8),f],LA (cV (iW B x).st) y:=λy hy=>(b y hy).imp id .inl;refine⟨j5 X G k7,fI,fd,k3,λP w base k=>OP (x:=fd.name) (qual:=fd.qualname) ⟨⟨oc,od,_,_,_,_,_,_,l,e1,lk,k1⟩,k2⟩ S e6 ⟨k4,k5,k6⟩ (sQ _ iw) (sQ _ (jd _ iw)) k8 k9 λ_ _=>rfl,.all λus hu=>?_⟩
   match us,hu with
   |[u,v],_=>
     have:=fY.mp (h4 fd u v) _ hm;exact(congrArg (λz=>bindArgs z ⟨[u,v],[]⟩) e1).trans this
def clB(K:Fg)(q:a8×List (Nat×Bool)):Bool:=q.2.all (λp=>vS K p.1) && match eB K mainGlobals q.1 with
 |some (a_ (.ref C))=>q.2.all λp=>lp K (.ref p.1) (.ref C) == a_ p.2
 | some b_=>match bootBuiltins q.1 with
   |some (.type T)=>(q.1 != "__name__") && q.2.all λp=>lp K (.ref p.1) (.type T) == a_ p.2
   |_=>d_
 |_=>d_
def Iu{tab:List (Nat×Bool)}(h1:tab.all (λp=>vS K p.1)=c_)(h2:(tab.all λp=>lp K (.ref p.1) u == a_ p.2)=c_):By K tab u:=λc b q=>by
 have m:=Qq q;exact⟨aC.mp h1 _ m,eq_of_beq (aC.mp h2 _ m)⟩
def Pb(X:K.In h)(G:h.Ns mainGlobals mg){L:List (a8×List (Nat×Bool))}(h1:L.all (clB K)=c_):∀x tab,L.lookup x=a_ tab->LG K mg x tab:=λx tab hx=>by
 have e:=aC.mp h1 _ (Qq hx);unfold clB at e;obtain⟨e1,e2⟩:=bY.mp e;dsimp only at e2;split at e2
 ·rename_i C hC;exact .inl ⟨C,j5 X G hC,Iu e1 e2⟩
 ·rename_i hC;split at e2
  ·rename_i T hT;obtain⟨e3,e4⟩:=bY.mp e2;exact .inr ⟨T,BQ X G hC,hT,by simpa using e3,Iu e1 e4⟩
  ·cases e2
 ·cases e2
noncomputable def PK(K:Fg):List a8->Option (List aE)
 |[]=>a_ []
 | x::r=>match eB K mainGlobals x with
   |some (a_ (.ref C))=>(PK K r).map λl=>C::l
   |_=>b_
theorem Fu(X:K.In h)(G:h.Ns mainGlobals mg):∀{ns:List a8}{Cs:List aE},PK K ns=a_ Cs->ns.map mg=Cs.map (λC=>a_ (.ref C))
 |[],Cs,e=>by cases e;rfl
 |x::r,Cs,e=>by
   unfold PK at e;split at e
   ·rename_i C hC;obtain⟨l,h1,rfl⟩:=er e;rw[ah,ah,j5 X G hC,Fu X G h1]
   ·cases e
def Z8(K:Fg)(q:List a8×List (Nat×Bool)):Bool:=q.2.all (λp=>vS K p.1) && match PK K q.1 with
 |some Cs=>decide (Cs.length<=100) && q.2.all λp=>HC K (.ref p.1) (Cs.map .ref) == a_ p.2
 |none=>d_
def Mx(X:K.In h)(G:h.Ns mainGlobals mg){L:List (List a8×List (Nat×Bool))}(h1:L.all (Z8 K)=c_):∀ns tab,L.lookup ns=a_ tab->LC K mg ns tab:=λx tab hx=>by
 have e:=aC.mp h1 _ (Qq hx);unfold Z8 at e;obtain⟨e1,e2⟩:=bY.mp e;dsimp only at e2;split at e2
 ·rename_i Cs hC;obtain⟨e3,e4⟩:=bY.mp e2;refine⟨Cs,Fu X G hC,ae (of_decide_eq_true e3) (by rw[bu];decide),λc b q=>?_⟩;have m:=Qq q;exact⟨aC.mp e1 _ m,eq_of_beq (aC.mp e4 _ m)⟩
 ·cases e2
def PH{L:List (a8×List Nat)}(h1:(L.all λq=>q.2.all λc=>zM K c q.1)=c_):∀f cs,L.lookup f=a_ cs->∀c∈cs,zM K c f=c_:=λf cs hx c hc=>
 aC.mp (aC.mp h1 _ (Qq hx)) c hc
noncomputable def hnB(K:Fg)(q:a8×List Nat):Bool:=match eB K mainGlobals q.1 with
 |some (a_ (.ref CD))=>q.2.all λc=>gC K (.ref c) (.ref CD) == a_ c_
 |_=>d_
def OJ(X:K.In h)(G:h.Ns mainGlobals mg){L:List (a8×List Nat)}(h1:L.all (hnB K)=c_):∀n ok,L.lookup n=a_ ok->∃CD,mg n=a_ (.ref CD)/\∀c∈ok,gC K (.ref c) (.ref CD)=a_ c_:=λn ok hx=>by
 have e:=aC.mp h1 _ (Qq hx);unfold hnB at e;split at e
 ·rename_i CD hC;exact⟨CD,j5 X G hC,λc hc=>eq_of_beq (aC.mp e c hc)⟩
 ·cases e
set_option tactic.hygienic false
end
end M
namespace K07
open PySem L2 M
noncomputable def top(i:Nat):i8:=lI.main.body.getD i (.Pass ⟨0,0,0,0⟩)
abbrev cF:Nat:=78
abbrev cT:Nat:=97
noncomputable abbrev cM:Nat:=116
abbrev cL:Nat:=135
abbrev cB:Nat:=154
def cE:List Nat:=[cF,cT,cM,cL,cB]
def tb(c:Nat):List (Nat×Bool):=cE.map λx=>(x,x == c)
def tV:List (Nat×Bool):=cE.map λx=>(x,c_)
def b0:List Sx:=[(.ret (.comp 1 c_ [0] (.rng [(.e_ 1),(.e_ 7)]) [(.cmp .eq (.bin .band (.bin .shr (.v 1) (.bin .sub (.v 0) (.e_ 1))) (.e_ 1)) (.e_ 1))] (.v 0)))]
def b1:List Sx:=[(.set 1 (.e_ 0)),(.loop c_ [2] (.itv (.v 0)) [(.set 1 (.bin .bor (.v 1) (.bin .shl (.e_ 1) (.bin .sub (.v 2) (.e_ 1)))))]),(.rO 1)]
def b2:List Sx:=[(.ret (.and (.blt (.isi .int) [(.v 0)]) (.and (.not (.blt (.isi .bool) [(.v 0)])) (.Pd .le .le (.e_ 1) (.v 0) (.e_ 63)))))]
def b3:List Sx:=[(.ifs (.cmp .eq (.v 0) (.e_ 0)) [(.ret (.f_ "0"))] []),(.ret (.eD .join (.f_ "") [(.comp 1 c_ [] (.itv (.call 0 [(.v 0)])) [] (.blt .str [(.v 0)]))]))]
def b4:List Sx:=[(.set 1 (.call 1 [(.comp 1 c_ [] (.itv (.v 0)) [(.cmp .isin (.v 0) (.f_ "123456"))] (.blt .int [(.v 0)]))])),(.ret (.ite (.cmp .eq (.call 3 [(.v 1)]) (.v 0)) (.v 1) (.con .non)))]
def b5:List Sx:=[(.ifs (.cmp .eq (.v 0) (.f_ "")) [(.ret (.tup []))] []),(.set 1 (.comp 1 c_ [] (.itv (.eD .split (.v 0) [(.f_ " ")])) [] (.call 4 [(.v 0)]))),(.ret (.ite (.cmp .isin (.con .non) (.v 1)) (.con .non) (.blt .tuple [(.v 1)])))]
def b6:List Sx:=[(.ret (.and (.Pd .le .le (.v 1) (.blt .len [(.v 0)]) (.v 2)) (.blt .all [(.comp 1 c_ [] (.itv (.v 0)) [] (.call 2 [(.v 0)]))])))]
def b7:List Sx:=[(.ret (.and (.Pd .le .le (.e_ 1) (.blt .len [(.v 0)]) (.e_ 6)) (.blt .all [(.comp 1 c_ [] (.itv (.v 0)) [] (.cmp .isin (.v 0) (.f_ "abcdefghijklmnopqrstuvwxyz")))])))]
def b8:List Sx:=[(.ret (.and (.cmp .ne (.v 0) (.f_ "")) (.cmp .eq (.v 0) (.eD .join (.f_ "") [(.comp 1 c_ [0] (.itv (.f_ "wbme")) [(.cmp .isin (.v 0) (.v 1))] (.v 0))]))))]
def b9:List Sx:=[(.ret (.and (.call 7 [(.ix (.v 0) (.e_ 0))]) (.and (.call 6 [(.ix (.v 0) (.e_ 1)),(.e_ 1),(.e_ 4)]) (.call 8 [(.ix (.v 0) (.e_ 2))]))))]
def ZP:List Sx:=[(.ret (.eD .join (.f_ "") [(.blt .sset [(.eD .join (.f_ "") [(.comp 1 c_ [] (.itv (.v 0)) [] (.ix (.v 0) (.e_ 0)))])])]))]
def LY:List Sx:=[(.ifs (.cmp .eq (.blt .len [(.v 0)]) (.e_ 0)) [(.wL cF "number" (.e_ 0))] []),(.ifs (.cmp .gt (.blt .len [(.v 0)]) (.e_ 24)) [(.wL cF "number" (.e_ 24))] []),(.loop d_ [1,2] (.enu (.v 0)) [(.ifs (.not (.call 9 [(.v 2)])) [(.wL cF "number" (.v 1))] [])])]
def ZO:List Sx:=[(.set 1 .zb),(.loop d_ [2,3] (.enu (.v 0)) [(.set 4 (.tup [(.ix (.v 3) (.e_ 0)),(.ix (.v 3) (.e_ 1))])),(.ifs (.cmp .isin (.v 4) (.v 1)) [(.wL cT "number" (.v 2))] []),(.mut .dput 1 [(.con (.bl c_)),(.v 4)])])]
def U2:List Sx:=[(.loop d_ [2,3] (.enu (.v 0)) [(.ifs (.not (.call 6 [(.v 3),(.e_ 0),(.e_ 2)])) [(.wL cM "number" (.v 2))] [])]),(.ifs (.not (.call 6 [(.v 1),(.e_ 0),(.blt .len [(.f_ "0123456789")])])) [(.wL cM "number" (.e_ 4))] []),(.ifs (.and (.cmp .ne (.ix (.v 0) (.e_ 1)) (.tup [])) (.cmp .eq (.ix (.v 0) (.e_ 0)) (.tup []))) [(.wL cM "number" (.e_ 1))] []),(.loop c_ [2] (.itv (.tup [(.e_ 2),(.e_ 3)])) [(.ifs (.cmp .ne (.cmp .eq (.ix (.v 0) (.v 2)) (.tup [])) (.cmp .eq (.v 1) (.tup []))) [(.wL cM "number" (.v 2))] [])])]
def ZN:List Sx:=[(.set 1 (.comp 1 c_ [] (.itv (.v 0)) [(.cmp .eq (.ix (.v 0) (.e_ 2)) (.f_ "wbme"))] (.ix (.v 0) (.e_ 0)))),(.loop c_ [2] (.itv (.call 10 [(.v 0)])) [(.ifs (.cmp .nin (.v 2) (.v 1)) [(.wL cL "letter" (.v 2))] [])])]
def Yc:List Sx:=[(.set 3 (.tup [(.blt .tuple [(.v 0)]),(.blt .tuple [(.comp 1 c_ [] (.itv (.v 1)) [] (.blt .tuple [(.v 0)]))]),(.blt .tuple [(.v 2)])])),(.OR 11 [(.ix (.v 3) (.e_ 0))]),(.OR 12 [(.ix (.v 3) (.e_ 0))]),(.OR 13 [(.ix (.v 3) (.e_ 1)),(.ix (.v 3) (.e_ 2))]),(.OR 14 [(.ix (.v 3) (.e_ 0))]),(.rO 3)]
def ZM:List Sx:=[(.ifs (.cmp .lt (.blt .len [(.v 0)]) (.e_ 3)) [(.ret (.con .non))] []),(.set 1 (.call 5 [(.eD .join (.f_ " ") [(.sl (.v 0) (a_ (.e_ 2)) b_)])])),(.ifs (.cmp .isn (.v 1) (.con .non)) [(.ret (.con .non))] []),(.set 2 (.tup [(.ix (.v 0) (.e_ 0)),(.v 1),(.ix (.v 0) (.e_ 1))])),(.ret (.ite (.call 9 [(.v 2)]) (.v 2) (.con .non)))]
def ZL:List Sx:=[(.set 2 (.call 5 [(.eD .join (.f_ " ") [(.v 0)])])),(.ret (.ite (.and (.cmp .nisn (.v 2) (.con .non)) (.call 6 [(.v 2),(.e_ 1),(.v 1)])) (.v 2) (.con .non)))]
def Yb:List Sx:=[(.set 1 (.eD .split (.v 0) [(.f_ " ")])),(.ifs (.cmp .nin (.ix (.v 1) (.e_ 0)) (.con (.tup [(.str (aa "form")),(.str (aa "great")),(.str (aa "all")),(.str (aa "number")),(.str (aa "letter")),(.str (aa "figures"))]))) [(.ret (.con .non))] []),(.ifs (.cmp .eq (.ix (.v 1) (.e_ 0)) (.con (.str (aa "form")))) [(.set 2 (.call 16 [(.sl (.v 1) (a_ (.e_ 1)) b_)]))] [(.set 2 (.call 17 [(.sl (.v 1) (a_ (.e_ 1)) b_),(.ite (.cmp .eq (.ix (.v 1) (.e_ 0)) (.con (.str (aa "figures")))) (.blt .len [(.f_ "0123456789")]) (.e_ 2))]))]),(.ret (.ite (.cmp .isn (.v 2) (.con .non)) (.con .non) (.tup [(.eD .tindex (.con (.tup [(.str (aa "form")),(.str (aa "great")),(.str (aa "all")),(.str (aa "number")),(.str (aa "letter")),(.str (aa "figures"))])) [(.ix (.v 1) (.e_ 0))]),(.v 2)])))]
def Vx:List Sx:=[(.set 1 (.lst [])),(.set 2 (.lst [(.tup []),(.tup []),(.tup []),(.tup []),(.tup [])])),(.set 3 (.e_ 0)),(.loop d_ [4,5] (.enu (.v 0)) [(.set 6 (.call 18 [(.v 5)])),(.ifs (.or (.cmp .isn (.v 6) (.con .non)) (.cmp .lt (.ix (.v 6) (.e_ 0)) (.v 3))) [(.wL cB "place" (.v 4))] []),(.ifs (.cmp .eq (.ix (.v 6) (.e_ 0)) (.e_ 0)) [(.mut .app 1 [(.ix (.v 6) (.e_ 1))])] [(.mut .seti 2 [(.ix (.v 6) (.e_ 1)),(.bin .sub (.ix (.v 6) (.e_ 0)) (.e_ 1))]),(.set 3 (.bin .add (.ix (.v 6) (.e_ 0)) (.e_ 1)))])]),(.Hu 15 [(.v 1),(.sl (.v 2) b_ (a_ (.e_ 4))),(.ix (.v 2) (.e_ 4))])]
def ZK:List Sx:=[(.set 3 (.e_ 0)),(.ifs (.cmp .gt (.blt .len [(.v 0)]) (.e_ 0)) [(.set 3 (.bin .mod (.ix (.v 0) (.bin .mod (.v 1) (.blt .len [(.v 0)]))) (.e_ 2147483629)))] []),(.ret (.bin .mod (.bin .mod (.bin .mul (.bin .mod (.bin .mul (.bin .add (.v 3) (.e_ 1)) (.bin .add (.bin .mul (.bin .mul (.e_ 31) (.v 1)) (.v 1)) (.e_ 7919))) (.e_ 2147483647)) (.e_ 48271)) (.e_ 2147483629)) (.v 2)))]
def PD:List Sx:=[(.ifs (.or (.blt (.isi .tuple) [(.v 1)]) (.blt (.isi .list) [(.v 1)])) [(.ifs (.or (.cmp .ne (.blt (.isi .tuple) [(.v 0)]) (.blt (.isi .tuple) [(.v 1)])) (.cmp .ne (.blt (.isi .list) [(.v 0)]) (.blt (.isi .list) [(.v 1)]))) [(.ret (.con (.bl d_)))] []),(.ret (.and (.cmp .eq (.blt .len [(.v 0)]) (.blt .len [(.v 1)])) (.blt .all [(.comp 2 d_ [] (.zip [(.v 0),(.v 1)]) [] (.call 21 [(.v 0),(.v 1)]))])))] []),(.ifs (.cmp .isn (.v 1) (.con .non)) [(.ret (.cmp .isn (.v 0) (.con .non)))] []),(.ifs (.or (.blt (.isi .bool) [(.v 1)]) (.blt (.isi .bool) [(.v 0)])) [(.ret (.and (.blt (.isi .bool) [(.v 1)]) (.and (.blt (.isi .bool) [(.v 0)]) (.cmp .eq (.v 0) (.v 1)))))] []),(.ifs (.blt (.isi .int) [(.v 1)]) [(.ret (.and (.blt (.isi .int) [(.v 0)]) (.cmp .eq (.v 0) (.v 1))))] []),(.ret (.and (.blt (.isi .str) [(.v 0)]) (.cmp .eq (.v 0) (.v 1))))]
def ZJ:List Sx:=[(.ret (.blt .tuple [(.comp 1 c_ [3,1,0] (.rng [(.v 2)]) [] (.bin .add (.e_ 1) (.call 20 [(.v 3),(.bin .add (.v 2) (.v 0)),(.v 1)])))]))]
def b23:List Sx:=[(.ret (.eD .join (.f_ "") [(.comp 1 c_ [0] (.rng [(.e_ 4)]) [(.cmp .eq (.bin .band (.bin .shr (.v 1) (.v 0)) (.e_ 1)) (.e_ 1))] (.ix (.f_ "wbme") (.v 0)))]))]
def X7:List Sx:=[(.set 9 (.bin .add (.e_ 1) (.bin .fdiv (.call 20 [(.v 0),(.bin .add (.bin .add (.v 1) (.e_ 10)) (.v 6)),(.e_ 5)]) (.e_ 4)))),(.mut .app 8 [(.tup [(.ix (.v 7) (.v 6)),(.call 22 [(.v 0),(.bin .add (.bin .add (.v 1) (.e_ 20)) (.bin .mul (.e_ 5) (.v 6))),(.v 9),(.v 2)]),(.f_ "wbme")])])]
def X6:List Sx:=[(.set 10 (.bin .add (.bin .add (.v 1) (.e_ 60)) (.bin .mul (.e_ 15) (.v 6)))),(.set 11 (.eD .join (.f_ "") [(.comp 1 c_ [10,7,5,0] (.rng [(.bin .add (.e_ 1) (.call 20 [(.v 0),(.bin .add (.v 10) (.e_ 4)),(.e_ 3)]))]) [] (.ix (.v 2) (.call 20 [(.v 4),(.bin .add (.v 1) (.v 0)),(.v 3)])))])),(.set 12 (.call 22 [(.v 0),(.bin .add (.v 10) (.e_ 5)),(.ix (.lst [(.e_ 1),(.e_ 1),(.e_ 2),(.e_ 4)]) (.call 20 [(.v 0),(.bin .add (.v 10) (.e_ 9)),(.e_ 4)])),(.v 2)])),(.set 13 (.tup [(.v 11),(.v 12),(.call 23 [(.bin .add (.e_ 1) (.call 20 [(.v 0),(.bin .add (.v 10) (.e_ 10)),(.e_ 15)]))])])),(.ifs (.cmp .nin (.sl (.v 13) b_ (a_ (.e_ 2))) (.comp 1 c_ [] (.itv (.v 8)) [] (.sl (.v 0) b_ (a_ (.e_ 2))))) [(.mut .ins 8 [(.call 20 [(.v 0),(.bin .add (.v 10) (.e_ 11)),(.bin .add (.blt .len [(.v 8)]) (.e_ 1))]),(.v 13)])] [])]
def ZI:List Sx:=[(.set 3 (.call 20 [(.v 0),(.bin .add (.v 1) (.e_ 1)),(.e_ 26)])),(.set 4 (.ix (.lst [(.e_ 1),(.e_ 3),(.e_ 5),(.e_ 7)]) (.call 20 [(.v 0),(.bin .add (.v 1) (.e_ 2)),(.e_ 4)]))),(.set 5 (.ix (.lst [(.e_ 1),(.e_ 2),(.e_ 2),(.e_ 3),(.e_ 3),(.e_ 6)]) (.call 20 [(.v 0),(.bin .add (.v 1) (.e_ 3)),(.e_ 6)]))),(.set 7 (.comp 1 c_ [3,4] (.rng [(.v 5)]) [] (.ix (.f_ "abcdefghijklmnopqrstuvwxyz") (.bin .mod (.bin .add (.v 1) (.bin .mul (.v 2) (.v 0))) (.e_ 26))))),(.set 8 (.lst [])),(.loop c_ [6] (.rng [(.v 5)]) X7),(.loop c_ [6] (.rng [(.call 20 [(.v 0),(.bin .add (.v 1) (.e_ 4)),(.e_ 5)])]) X6),(.rO 8)]
def ZH:List Sx:=[(.set 3 (.lst [(.tup []),(.tup []),(.tup []),(.tup [])])),(.set 4 (.tup [])),(.ifs (.cmp .eq (.call 20 [(.v 0),(.v 1),(.e_ 4)]) (.e_ 1)) [(.mut .seti 3 [(.call 22 [(.v 0),(.bin .add (.v 1) (.e_ 1)),(.bin .add (.e_ 1) (.call 20 [(.v 0),(.bin .add (.v 1) (.e_ 3)),(.e_ 2)])),(.v 2)]),(.e_ 0)]),(.ifs (.cmp .eq (.call 20 [(.v 0),(.bin .add (.v 1) (.e_ 4)),(.e_ 2)]) (.e_ 1)) [(.mut .seti 3 [(.call 22 [(.v 0),(.bin .add (.v 1) (.e_ 5)),(.bin .add (.e_ 1) (.call 20 [(.v 0),(.bin .add (.v 1) (.e_ 7)),(.e_ 2)])),(.v 2)]),(.e_ 1)])] [])] []),(.ifs (.cmp .eq (.call 20 [(.v 0),(.bin .add (.v 1) (.e_ 8)),(.e_ 4)]) (.e_ 1)) [(.mut .seti 3 [(.call 22 [(.v 0),(.bin .add (.v 1) (.e_ 9)),(.bin .add (.e_ 1) (.call 20 [(.v 0),(.bin .add (.v 1) (.e_ 11)),(.e_ 2)])),(.v 2)]),(.e_ 2)]),(.mut .seti 3 [(.call 22 [(.v 0),(.bin .add (.v 1) (.e_ 12)),(.bin .add (.e_ 1) (.call 20 [(.v 0),(.bin .add (.v 1) (.e_ 14)),(.e_ 2)])),(.v 2)]),(.e_ 3)]),(.set 4 (.call 22 [(.v 0),(.bin .add (.v 1) (.e_ 15)),(.ix (.lst [(.e_ 1),(.e_ 2),(.e_ 3),(.e_ 10)]) (.call 20 [(.v 0),(.bin .add (.v 1) (.e_ 25)),(.e_ 4)])),(.v 2)]))] []),(.ret (.tup [(.blt .tuple [(.v 3)]),(.v 4)]))]
def ZG:List Sx:=[(.set 2 (.ix (.lst [(.e_ 4),(.e_ 4),(.e_ 12),(.e_ 63)]) (.call 20 [(.v 0),(.v 1),(.e_ 4)]))),(.set 3 (.call 24 [(.v 0),(.v 1),(.v 2)])),(.Qe [4,5] (.call 25 [(.v 0),(.bin .add (.v 1) (.e_ 150)),(.v 2)])),(.ret (.tup [(.blt .tuple [(.v 3)]),(.v 4),(.v 5)]))]
def b27:List Sx:=[(.ret (.eD .join (.f_ "") [(.comp 1 c_ [0] (.rng [(.e_ 6)]) [(.cmp .eq (.bin .band (.bin .shr (.v 1) (.v 0)) (.e_ 1)) (.e_ 1))] (.ix (.f_ "123456") (.v 0)))]))]
def ZF:List Sx:=[(.set 1 (.lst [])),(.loop d_ [2,3,4] (.itv (.ix (.v 0) (.e_ 0))) [(.mut .app 1 [(.eD .join (.f_ " ") [(.bin .add (.lst [(.con (.str (aa "form"))),(.v 2),(.v 4)]) (.comp 1 c_ [] (.itv (.v 3)) [] (.call 27 [(.v 0)])))])])]),(.set 5 (.lst [(.ix (.ix (.v 0) (.e_ 1)) (.e_ 0)),(.ix (.ix (.v 0) (.e_ 1)) (.e_ 1)),(.ix (.ix (.v 0) (.e_ 1)) (.e_ 2)),(.ix (.ix (.v 0) (.e_ 1)) (.e_ 3)),(.ix (.v 0) (.e_ 2))])),(.loop c_ [6] (.rng [(.e_ 5)]) [(.ifs (.cmp .gt (.blt .len [(.ix (.v 5) (.v 6))]) (.e_ 0)) [(.set 7 (.ix (.lst [(.f_ "great"),(.f_ "all"),(.f_ "number"),(.f_ "letter"),(.con (.str (aa "figures")))]) (.v 6))),(.mut .app 1 [(.eD .join (.f_ " ") [(.bin .add (.lst [(.v 7)]) (.comp 1 c_ [] (.itv (.ix (.v 5) (.v 6))) [] (.call 27 [(.v 0)])))])])] [])]),(.rO 1)]
def ZE:List Sx:=[(.set 3 (.eD .split (.v 2) [(.f_ " ")])),(.set 4 (.call 20 [(.v 0),(.v 1),(.blt .len [(.v 3)])])),(.set 5 (.call 20 [(.v 0),(.bin .add (.v 1) (.e_ 1)),(.e_ 5)])),(.ifs (.cmp .eq (.v 5) (.e_ 4)) [(.ret (.bin .add (.bin .add (.eD .join (.f_ " ") [(.sl (.v 3) b_ (a_ (.bin .add (.v 4) (.e_ 1))))]) (.f_ "\n")) (.eD .join (.f_ " ") [(.sl (.v 3) (a_ (.bin .add (.v 4) (.e_ 1))) b_)])))] []),(.ifs (.cmp .eq (.v 5) (.e_ 0)) [(.set 3 (.bin .add (.sl (.v 3) b_ (a_ (.v 4))) (.sl (.v 3) (a_ (.bin .add (.v 4) (.e_ 1))) b_)))] []),(.ifs (.cmp .eq (.v 5) (.e_ 1)) [(.set 3 (.bin .add (.sl (.v 3) b_ (a_ (.bin .add (.v 4) (.e_ 1)))) (.sl (.v 3) (a_ (.v 4)) b_)))] []),(.ifs (.cmp .eq (.v 5) (.e_ 2)) [(.set 6 (.lst [(.f_ ""),(.f_ "0"),(.f_ "1"),(.f_ "21"),(.f_ "7"),(.f_ "123456"),(.f_ "a"),(.f_ "A"),(.f_ "wbme"),(.f_ "bw"),(.con (.str (aa "form"))),(.f_ "great"),(.f_ "ab"),(.f_ "abcdefg"),(.f_ "we")])),(.set 6 (.bin .add (.v 6) (.lst [(.f_ "forms"),(.f_ "figure"),(.f_ "all"),(.f_ "great1"),(.f_ "lettera")]))),(.mut .seti 3 [(.ix (.v 6) (.call 20 [(.v 0),(.bin .add (.v 1) (.e_ 2)),(.e_ 20)])),(.v 4)])] []),(.ifs (.cmp .eq (.v 5) (.e_ 3)) [(.mut .ins 3 [(.call 20 [(.v 0),(.bin .add (.v 1) (.e_ 2)),(.bin .add (.blt .len [(.v 3)]) (.e_ 1))]),(.f_ "")])] []),(.ret (.eD .join (.f_ " ") [(.v 3)]))]
def Ya:List Sx:=[(.set 3 (.call 20 [(.v 0),(.v 1),(.e_ 6)])),(.set 4 (.call 20 [(.v 0),(.bin .add (.v 1) (.e_ 1)),(.blt .len [(.v 2)])])),(.ifs (.cmp .lt (.v 3) (.e_ 2)) [(.ret (.bin .add (.bin .add (.sl (.v 2) b_ (a_ (.v 4))) (.lst [(.call 29 [(.v 0),(.bin .add (.v 1) (.e_ 3)),(.ix (.v 2) (.v 4))])])) (.sl (.v 2) (a_ (.bin .add (.v 4) (.e_ 1))) b_)))] []),(.ifs (.cmp .eq (.v 3) (.e_ 2)) [(.set 5 (.call 20 [(.v 0),(.bin .add (.v 1) (.e_ 2)),(.blt .len [(.v 2)])])),(.set 6 (.blt .list [(.v 2)])),(.mut .seti 6 [(.ix (.v 2) (.v 5)),(.v 4)]),(.mut .seti 6 [(.ix (.v 2) (.v 4)),(.v 5)]),(.rO 6)] []),(.ifs (.cmp .eq (.v 3) (.e_ 3)) [(.ret (.bin .add (.bin .add (.sl (.v 2) b_ (a_ (.bin .add (.v 4) (.e_ 1)))) (.lst [(.ix (.v 2) (.v 4))])) (.sl (.v 2) (a_ (.bin .add (.v 4) (.e_ 1))) b_)))] []),(.ifs (.and (.cmp .eq (.v 3) (.e_ 4)) (.cmp .gt (.blt .len [(.v 2)]) (.e_ 1))) [(.ret (.bin .add (.sl (.v 2) b_ (a_ (.v 4))) (.sl (.v 2) (a_ (.bin .add (.v 4) (.e_ 1))) b_)))] []),(.set 7 (.lst [(.f_ ""),(.con (.str (aa "form"))),(.f_ "great"),(.f_ "great 1 2 3"),(.f_ "all 1"),(.f_ "number 12"),(.f_ "letter 0"),(.f_ "figures 1 2 3 4 5 6 1 2 3 4 5")])),(.mut .app 7 [(.f_ "form z wbme 1 2 3 4 5")]),(.ret (.bin .add (.bin .add (.sl (.v 2) b_ (a_ (.v 4))) (.lst [(.ix (.v 7) (.call 20 [(.v 0),(.bin .add (.v 1) (.e_ 2)),(.e_ 9)]))])) (.sl (.v 2) (a_ (.v 4)) b_)))]
def ZD:List Sx:=[(.ifs (.or (.cmp .lt (.blt .len [(.v 0)]) (.e_ 1)) (.or (.cmp .gt (.blt .len [(.v 0)]) (.v 1)) (.blt .any [(.comp 1 c_ [2] (.itv (.v 0)) [] (.cmp .nin (.v 0) (.v 1)))]))) [(.ret (.con .non))] []),(.ret (.blt .tuple [(.comp 1 c_ [2] (.itv (.v 0)) [] (.ix (.v 1) (.v 0)))]))]
def ZC:List Sx:=[(.set 1 (.comp 1 c_ [] (.itv (.v 0)) [] (.eD .find (.f_ "wbme") [(.v 0)]))),(.ret (.and (.cmp .gt (.blt .len [(.v 1)]) (.e_ 0)) (.and (.cmp .nin (.neg (.e_ 1)) (.v 1)) (.cmp .eq (.v 1) (.blt .sset [(.v 1)])))))]
def XB:List Sx:=[(.set 2 (.eD .split (.v 0) [(.f_ " ")])),(.ifs (.cmp .isin (.ix (.v 2) (.e_ 0)) (.lst [(.f_ "great"),(.f_ "all"),(.f_ "number"),(.f_ "letter"),(.con (.str (aa "figures")))])) [(.set 3 (.bin .add (.e_ 1) (.vX (.lst [(.f_ "great"),(.f_ "all"),(.f_ "number"),(.f_ "letter"),(.con (.str (aa "figures")))]) (.ix (.v 2) (.e_ 0))))),(.set 4 (.call 31 [(.sl (.v 2) (a_ (.e_ 1)) b_),(.bin .add (.e_ 2) (.bin .mul (.e_ 8) (.blt .int [(.cmp .eq (.v 3) (.e_ 5))]))),(.v 1)])),(.ret (.tup [(.v 3),(.v 4)]))] []),(.ifs (.or (.cmp .ne (.ix (.v 2) (.e_ 0)) (.con (.str (aa "form")))) (.cmp .lt (.blt .len [(.v 2)]) (.e_ 4))) [(.ret (.tup [(.e_ 0),(.con .non)]))] []),(.set 4 (.call 31 [(.sl (.v 2) (a_ (.e_ 3)) b_),(.e_ 4),(.v 1)])),(.set 5 (.ix (.v 2) (.e_ 1))),(.ifs (.or (.cmp .isn (.v 4) (.con .non)) (.or (.not (.Pd .le .le (.e_ 1) (.blt .len [(.v 5)]) (.e_ 6))) (.not (.call 32 [(.ix (.v 2) (.e_ 2))])))) [(.ret (.tup [(.e_ 0),(.con .non)]))] []),(.ifs (.blt .any [(.comp 1 c_ [] (.itv (.v 5)) [] (.cmp .lt (.eD .find (.f_ "abcdefghijklmnopqrstuvwxyz") [(.v 0)]) (.e_ 0)))]) [(.ret (.tup [(.e_ 0),(.con .non)]))] []),(.ret (.tup [(.e_ 0),(.tup [(.v 5),(.v 4),(.ix (.v 2) (.e_ 2))])]))]
def Hg:List Sx:=[(.ifs (.or (.cmp .eq (.blt .len [(.v 0)]) (.e_ 0)) (.cmp .gt (.blt .len [(.v 0)]) (.e_ 24))) [(.ret (.tup [(.con (.str (aa "form"))),(.ix (.lst [(.e_ 0),(.e_ 24)]) (.blt .int [(.cmp .gt (.blt .len [(.v 0)]) (.e_ 0))]))]))] []),(.loop c_ [2] (.rng [(.blt .len [(.v 0)])]) [(.ifs (.cmp .isin (.sl (.ix (.v 0) (.v 2)) b_ (a_ (.e_ 2))) (.comp 1 c_ [] (.itv (.sl (.v 0) b_ (a_ (.v 2)))) [] (.sl (.v 0) b_ (a_ (.e_ 2))))) [(.ret (.tup [(.f_ "twice"),(.v 2)]))] [])]),(.ifs (.and (.cmp .gt (.blt .len [(.ix (.v 1) (.e_ 1))]) (.e_ 0)) (.cmp .eq (.blt .len [(.ix (.v 1) (.e_ 0))]) (.e_ 0))) [(.ret (.tup [(.f_ "mark"),(.e_ 1)]))] []),(.loop c_ [2] (.itv (.lst [(.e_ 2),(.e_ 3)])) [(.ifs (.cmp .ne (.cmp .gt (.blt .len [(.ix (.v 1) (.v 2))]) (.e_ 0)) (.cmp .gt (.blt .len [(.ix (.v 1) (.e_ 4))]) (.e_ 0))) [(.ret (.tup [(.f_ "mark"),(.v 2)]))] [])]),(.set 3 (.comp 1 c_ [] (.itv (.v 0)) [(.cmp .eq (.ix (.v 0) (.e_ 2)) (.f_ "wbme"))] (.ix (.v 0) (.e_ 0)))),(.loop c_ [4] (.itv (.blt .sset [(.eD .join (.f_ "") [(.comp 1 c_ [] (.itv (.v 0)) [] (.ix (.v 0) (.e_ 0)))])])) [(.ifs (.cmp .nin (.v 4) (.v 3)) [(.ret (.tup [(.f_ "letter"),(.v 4)]))] [])]),(.ret (.tup [(.f_ "made"),(.tup [(.blt .tuple [(.v 0)]),(.blt .tuple [(.sl (.v 1) b_ (a_ (.e_ 4)))]),(.ix (.v 1) (.e_ 4))])]))]
def X9:List Sx:=[(.set 1 .zb),(.loop c_ [2] (.rng [(.e_ 1),(.e_ 64)]) [(.mut .seti 1 [(.v 2),(.call 27 [(.v 2)])])]),(.set 3 (.lst [])),(.set 4 (.lst [(.tup []),(.tup []),(.tup []),(.tup []),(.tup [])])),(.set 5 (.e_ 0)),(.loop c_ [6] (.rng [(.blt .len [(.v 0)])]) [(.Qe [7,8] (.call 33 [(.ix (.v 0) (.v 6)),(.v 1)])),(.ifs (.or (.cmp .isn (.v 8) (.con .non)) (.or (.cmp .lt (.v 7) (.v 5)) (.and (.cmp .eq (.v 7) (.v 5)) (.cmp .gt (.v 7) (.e_ 0))))) [(.ret (.tup [(.f_ "table"),(.v 6)]))] []),(.set 5 (.v 7)),(.ifs (.cmp .eq (.v 7) (.e_ 0)) [(.mut .app 3 [(.v 8)])] [(.mut .seti 4 [(.v 8),(.bin .sub (.v 7) (.e_ 1))])])]),(.Hu 34 [(.v 3),(.v 4)])]
def Vv:List Sx:=[(.set 1 (.con .non)),(.set 2 (.con .non)),(.Qg 2 19 [(.v 0)] 1 3 cE),(.ifs (.cmp .isn (.v 1) (.con .non)) [(.ret (.tup [(.f_ "made"),(.v 2)]))] []),(.set 4 (.lst [(.Dd (tb cF) (.v 1)),(.Dd (tb cT) (.v 1)),(.Dd (tb cM) (.v 1))])),(.set 4 (.bin .add (.v 4) (.lst [(.Dd (tb cL) (.v 1)),(.Dd (tb cB) (.v 1))]))),(.set 5 (.Dd (tb 0) (.v 1))),(.ifs (.or (.v 5) (.or (.not (.Dd tV (.v 1))) (.cmp .ne (.To (.v 4) (.con (.bl c_))) (.e_ 1)))) [(.ret (.tup [(.f_ "other"),(.con .non)]))] []),(.ifs (.ix (.v 4) (.e_ 3)) [(.ret (.tup [(.f_ "letter"),(.Bx [cL] "letter" (.v 1))]))] []),(.ifs (.ix (.v 4) (.e_ 4)) [(.ret (.tup [(.f_ "table"),(.Bx [cB] "place" (.v 1))]))] []),(.ret (.tup [(.ix (.lst [(.con (.str (aa "form"))),(.f_ "twice"),(.f_ "mark")]) (.vX (.v 4) (.con (.bl c_)))),(.Bx [cF,cT,cM] "number" (.v 1))]))]
def ZA:List Sx:=[(.set 1 (.call 30 [(.v 0),(.e_ 200),(.call 28 [(.call 26 [(.v 0),(.e_ 0)])])])),(.ifs (.cmp .eq (.call 20 [(.v 0),(.e_ 198),(.e_ 8)]) (.e_ 1)) [(.set 1 (.bin .add (.comp 1 c_ [] (.rng [(.e_ 24)]) [] (.bin .add (.f_ "form z w 1 2 ") (.call 27 [(.bin .add (.e_ 1) (.v 0))]))) (.v 1)))] []),(.ifs (.cmp .eq (.call 20 [(.v 0),(.e_ 199),(.e_ 2)]) (.e_ 0)) [(.set 1 (.call 30 [(.v 0),(.e_ 220),(.v 1)]))] []),(.set 2 (.blt .list [(.v 1)])),(.ifs (.or (.not (.call 21 [(.call 36 [(.v 2)]),(.call 35 [(.v 1)])])) (.not (.call 21 [(.v 2),(.v 1)]))) [(.ret (.con (.bl d_)))] []),(.ret (.and (.call 21 [(.call 36 [(.lst [])]),(.tup [(.con (.str (aa "form"))),(.e_ 0)])]) (.call 21 [(.call 36 [(.v 2)]),(.call 35 [(.v 1)])])))]
def d0:Df:=⟨top 2,1,1,b0⟩
def d1:Df:=⟨top 3,1,3,b1⟩
def d2:Df:=⟨top 4,1,1,b2⟩
def d3:Df:=⟨top 5,1,1,b3⟩
def d4:Df:=⟨top 6,1,2,b4⟩
def d5:Df:=⟨top 7,1,2,b5⟩
def d6:Df:=⟨top 29,3,3,b6⟩
def d7:Df:=⟨top 30,1,1,b7⟩
def d8:Df:=⟨top 31,1,1,b8⟩
def d9:Df:=⟨top 32,1,1,b9⟩
def d10:Df:=⟨top 33,1,1,ZP⟩
def Xn:Df:=⟨top 34,1,3,LY⟩
def Zw:Df:=⟨top 35,1,5,ZO⟩
def Zv:Df:=⟨top 36,2,4,U2⟩
def Zu:Df:=⟨top 37,1,3,ZN⟩
def Zt:Df:=⟨top 38,3,4,Yc⟩
def d16:Df:=⟨top 41,1,3,ZM⟩
def d17:Df:=⟨top 42,2,3,ZL⟩
def d18:Df:=⟨top 43,1,3,Yb⟩
def Zs:Df:=⟨top 44,1,7,Vx⟩
def d20:Df:=⟨top 46,3,4,ZK⟩
def Xm:Df:=⟨top 47,2,2,PD⟩
def d22:Df:=⟨top 48,4,4,ZJ⟩
def d23:Df:=⟨top 49,1,1,b23⟩
def d24:Df:=⟨top 50,3,14,ZI⟩
def d25:Df:=⟨top 51,3,5,ZH⟩
def d26:Df:=⟨top 52,2,6,ZG⟩
def d27:Df:=⟨top 53,1,1,b27⟩
def d28:Df:=⟨top 54,1,8,ZF⟩
def d29:Df:=⟨top 55,3,7,ZE⟩
def d30:Df:=⟨top 56,3,8,Ya⟩
def d31:Df:=⟨top 57,3,3,ZD⟩
def d32:Df:=⟨top 58,1,2,ZC⟩
def d33:Df:=⟨top 59,2,6,XB⟩
def d34:Df:=⟨top 60,2,5,Hg⟩
def d35:Df:=⟨top 61,1,9,X9⟩
def d36:Df:=⟨top 62,1,6,Vv⟩
def d37:Df:=⟨top 63,1,3,ZA⟩
def D:List Df:=[d0,d1,d2,d3,d4,d5,d6,d7,d8,d9,d10,Xn,Zw,Zv,Zu,Zt,d16,d17,d18,Zs,d20,Xm,d22,d23,d24,d25,d26,d27,d28,d29,d30,d31,d32,d33,d34,d35,d36,d37]
noncomputable def con:List (a8×Dat):=[(aa "DOT_FIGURES",(.str (aa "123456"))),(aa "SMALL_LETTERS",(.str (aa "abcdefghijklmnopqrstuvwxyz"))),(aa "FIGURES",(.str (aa "0123456789"))),(aa "ALL_PLACES",(.str (aa "wbme"))),(aa "MOST_FORMS",(.int (24))),(aa "MOST_MARK_CELLS",(.int (2))),(aa "NUMBER_OF_FIGURES",(.int (4))),(aa "LINE_WORDS",(.tup [(.str (aa "form")),(.str (aa "great")),(.str (aa "all")),(.str (aa "number")),(.str (aa "letter")),(.str (aa "figures"))]))]
def xg:Xg where
 exc:=[("NoForm",cF,"number"),("Twice",cT,"number"),("NoMark",cM,"number"),("NoLetter",cL,"letter"),("NoTable",cB,"place")]
 cls:=[("NoForm",tb cF),("Twice",tb cT),("NoMark",tb cM),("NoLetter",tb cL),("NoTable",tb cB),("ValueError",tV)]
 tcl:=[(["NoSign","NoReading","TooMany","Two","NoLines","NoEntry","NoLine"],tb 0)]
 Bx:=[("number",[cF,cT,cM]),("letter",[cL]),("place",[cB])]
 hnd:=[("DotError",cE)]
 kf:=λ_ _=>True
def G:Sg:=MQ D con xg
def WB:∀d∈D,PQ G d:=SQ (L:=[]) (by kernel_rfl) (λ_ h=>nomatch h) λd hd=>.inr (fY.mp (show D.map (Zq G)=D.map Df.body by kernel_rfl) d hd)
end K07
namespace M
open PySem L2
@[simp] def vo:full []=[]:=rfl
@[simp] def sj:full (a_ (d,b)::ρ)=a_ d::full ρ:=rfl
@[simp] def so:full (b_::ρ)=b_::full ρ:=rfl
section
@[simp] def DF:g9 .add (.int i) (.int j)=a_ (.int (i+j),d_):=rfl
@[simp] def DB:g9 .sub (.int i) (.int j)=a_ (.int (i - j),d_):=rfl
def vD(h:0<j):g9 .mod (.int i) (.int j)=a_ (.int (i % j),d_):=if_pos h
@[simp] def QQ:g9 .band (.int i) (.int j)=a_ (.int (uv i j),d_):=rfl
@[simp] def DE:g9 .bor (.int i) (.int j)=a_ (.int (j6 i j),d_):=rfl
@[simp] def O8:cx .lt (.int i) (.int j)=a_ (decide (i<j)):=rfl
@[simp] def O9:cx .le (.int i) (.int j)=a_ (decide (i<=j)):=rfl
@[simp] def Pa:cx .gt (.int i) (.int j)=a_ (decide (j<i)):=rfl
@[simp] def X8:cx .ge (.int i) (.int j)=a_ (decide (j<=i)):=rfl
@[simp] def G3:cx .eq (.int i) (.int j)=a_ (i == j):=rfl
@[simp] def Vs:cx .ne (.int i) (.int j)=a_ (!(i == j)):=rfl
@[simp] def Vt:cx .eq (.bl x) (.bl y)=a_ (x == y):=rfl
@[simp] def G1:cx .ne (.bl x) (.bl y)=a_ (!(x == y)):=rfl
@[simp] def Ig:iU (.bl x)=a_ x:=rfl
@[simp] def iN:dG .len [.lst xs]=a_ (.int xs.length,d_):=rfl
@[simp] def nj:dG .len [.tup xs]=a_ (.int xs.length,d_):=rfl
@[simp] def QP:dG .list [.lst xs]=a_ (.lst xs,jT xs):=rfl
@[simp] def QO:dG .list [.tup xs]=a_ (.lst xs,jT xs):=rfl
@[simp] def rk:dG .tuple [.lst xs]=a_ (.tup xs,d_):=rfl
@[simp] def PB:dG .tuple [.tup xs]=a_ (.tup xs,d_):=rfl
@[simp] def XA:dG .listrev [.lst xs]=a_ (.lst xs.reverse,jT xs.reverse):=rfl
@[simp] def Dz:dG (.isi t) [.int i]=a_ (.bl (kU t (.int i)),d_):=rfl
@[simp] def UY{t:Ty}{b:Bool}:dG (.isi t) [.bl b]=a_ (.bl (kU t (.bl b)),d_):=rfl
@[simp] def Dx:dG (.isi t) [.str x]=a_ (.bl (kU t (.str x)),d_):=rfl
@[simp] def Dv:dG (.isi t) [.tup l]=a_ (.bl (kU t (.tup l)),d_):=rfl
@[simp] def Dy:dG (.isi t) [.lst l]=a_ (.bl (kU t (.lst l)),d_):=rfl
@[simp] def UX:dG (.isi t) [.non]=a_ (.bl (kU t (.non)),d_):=rfl
@[simp] def Qt:mG (.lst xs) (.int i)=nJ xs i:=rfl
@[simp] def EN:mG (.tup xs) (.int i)=nJ xs i:=rfl
@[simp] def IM{lo:Option Int}:zD (.lst xs) lo hi=a_ (.lst (cutD xs lo hi),jT (cutD xs lo hi)):=rfl
@[simp] def Kn:im (.int i)=c_:=rfl
@[simp] def W1:im (.bl x)=c_:=rfl
@[simp] def yP:im (.str x)=c_:=rfl
@[simp] def T8:im .non=c_:=rfl
@[simp] def T9:im (.lst xs)=d_:=rfl
@[simp] def df(ns:List Int):jT (ns.map Dat.int)=c_:=by
 induction ns with
 |nil=>rfl
 |cons n r ih=>show(c_ && jT (r.map Dat.int))=c_;rw[ih];rfl
@[simp] def W8{ρ:cX}{i:Nat}{d:Dat}{b:Bool}:full (ρ.set i (a_ (d,b)))=(full ρ).set i (a_ d):=by
 unfold full;rw[sO];rfl
end
section
def dz{ds:List Dat}(h:ds.length=np)(hx:bH C body (ds.map (λd=>a_ (d,d_))++be (nl - np) b_)=a_ (.rt d fr)):GU C np nl body ds=a_ (d,fr):=by
 unfold GU;rw[if_pos h,hx];rfl
def bK(h:gJ C s ρ=a_ (.nx ρ1)):bH C (s::ss) ρ=bH C ss ρ1:=by show(gJ C s ρ).bind _=_;rw[h];rfl
def ji(h:gJ C s ρ=a_ (.rt d fr)):bH C (s::ss) ρ=a_ (.rt d fr):=by show(gJ C s ρ).bind _=_;rw[h];rfl
def mZ(h:bg C e (full ρ)=a_ (d,fr)):gJ C (.ret e) ρ=a_ (.rt d fr):=by show(bg C e (full ρ)).map _=_;rw[h];rfl
def gf(h:bg C e (full ρ)=a_ (d,fr))(ht:iU d=a_ c_):gJ C (.ifs e a b) ρ=bH C a ρ:=by show(bg C e (full ρ)).bind _=_;rw[h];show(iU d).bind _=_;rw[ht];rfl
def gh(h:bg C e (full ρ)=a_ (d,fr))(ht:iU d=a_ d_):gJ C (.ifs e a b) ρ=bH C b ρ:=by show(bg C e (full ρ)).bind _=_;rw[h];show(iU d).bind _=_;rw[ht];rfl
end
section
def vC(h1:-18446744073709551616<i)(h2:i<18446744073709551616):g9 .mul (.int i) (.int j)=a_ (.int (i * j),d_):=if_pos (.inl ⟨h1,h2⟩)
def DD(h1:-18446744073709551616<j)(h2:j<18446744073709551616):g9 .mul (.int i) (.int j)=a_ (.int (i * j),d_):=if_pos (.inr ⟨h1,h2⟩)
def tj(h1:0<j)(h2:j<1073741824):g9 .fdiv (.int i) (.int j)=a_ (.int (i / j),d_):=if_pos ⟨h1,h2⟩
def DC(h1:0<=j)(h2:j<=1000000)(h3:-18446744073709551616<i)(h4:i<18446744073709551616):g9 .shl (.int i) (.int j)=a_ (.int (i * 2 ^ j.toNat),d_):=if_pos ⟨h1,h2,by omega⟩
def Xj{p:Prop}[Decidable p](h:p):decide p=c_:=decide_eq_true h
def Xk{p:Prop}[Decidable p](h:¬p):decide p=d_:=decide_eq_false h
def Dq(h:bg C e (full ρ)=a_ (d,f))(hi:(im d || f)=c_):pY C e ρ=a_ (d,f,ρ):=by
 unfold pY;rw[h];exact if_pos hi
def OT{C:Fs}{i:Nat}{e:Ex}{ρ:cX}:gJ C (.set i e) ρ=(bg C e (full ρ)).bind λx=>if(im x.1 || x.2)=c_ then a_ (.nx (ρ.set i (a_ (x.1,x.2 && !im x.1))))else(bg C e (sQ (kL e.fv ρ))).map λy=>.nx ((kL e.fv ρ).set i (a_ (y.1,y.2 && !im y.1))):=by
 show(pY C e ρ).map _=_;unfold pY
 cases bg C e (full ρ)with
 |none=>rfl
 |some x=>
   show nB _ (if(im x.1 || x.2)=c_ then _ else _)=if(im x.1 || x.2)=c_ then _ else _
   cases im x.1 || x.2 with
   |true=>rfl
   |false=>exact Option.map_map ..
def OU:gJ C (.ret e) ρ=(bg C e (full ρ)).map λx=>.rt x.1 x.2:=rfl
def KR{C:Fs}{i:Nat}{ρ:cX}:gJ C (.rO i) ρ=((ρ[i]?).join).map λx=>.rt x.1 x.2:=rfl
def OW:gJ C (.ifs e a b) ρ=(bg C e (full ρ)).bind λx=>(iU x.1).bind λz=>if z=c_ then bH C a ρ else bH C b ρ:=rfl
def Uq:bH C (s::ss) ρ=(gJ C s ρ).bind (IP (bH C ss)):=rfl
def Up:bH C [] ρ=a_ (.nx ρ):=rfl
section
def MY:IP k (.nx ρ)=k ρ:=rfl
def MX:IP k (.rt d fr)=a_ (.rt d fr):=rfl
end
def Tc{op:QW}{i:Nat}{ρ:cX}{ds:List Dat}{d:Dat}:JX op i ρ ds (a_ (d,c_))=(lz op d ds).map λd'=>.nx (ρ.set i (a_ (d',c_))):=rfl
def OV{C:Fs}{op:QW}{i:Nat}{es:List Ex}{ρ:cX}:gJ C (.mut op i es) ρ=(ni C es (full ρ)).bind λx=>if x.2=c_ then JX op i ρ x.1 ((ρ[i]?).join)else b_:=rfl
def Gy{ds:List Dat}(h:ds.length<1000000):lz .app (.lst ds) [d]=a_ (.lst (ds++[d])):=if_pos (by rw[bu];exact ae h bG)
def KU:gJ C (.loop one ts (.rng es) body) ρ=(sv C (.rng es) (full ρ)).bind λds=>eE (dW one ts) (bH C body) ds ρ:=by
 show((sv C (.rng es) (full ρ)).map _).bind _=_;cases sv C (.rng es) (full ρ)<;>rfl
def lj:gJ C (.loop one ts (.itv e) body) ρ=(bg C e (full ρ)).bind λx=>if(im x.1 || x.2)=c_ then(iV x.1).bind λds=>eE (dW one ts) (bH C body) ds ρ
  else(bg C e (sQ (kL e.fv ρ))).bind λy=>(iV y.1).bind λds=>eE (dW one ts) (bH C body) ds (kL e.fv ρ):=by
 show((pY C e ρ).bind λx=>(iV x.1).map λds=>(ds,x.2.2)).bind _=_;unfold pY
 cases bg C e (full ρ)with
 |none=>rfl
 |some x=>
   show oG (oG (if(im x.1 || x.2)=c_ then _ else _) _) _=if(im x.1 || x.2)=c_ then _ else _
   cases im x.1 || x.2 with
   |true=>show((iV x.1).map _).bind _=(iV x.1).bind _;cases iV x.1<;>rfl
   |false=>
     show oG (oG (nB _ (bg C e (sQ (kL e.fv ρ)))) _) _=oG (bg C e (sQ (kL e.fv ρ))) _
     cases bg C e (sQ (kL e.fv ρ))with
     |none=>rfl
     |some y=>show((iV y.1).map _).bind _=(iV y.1).bind _;cases iV y.1<;>rfl
section
def OC:kU .int (.int i)=c_:=rfl
def OB:kU .int (.str x)=d_:=rfl
def OE:kU .bool (.int i)=d_:=rfl
def OD:kU .bool (.str x)=d_:=rfl
def Ov:kU .str (.str x)=c_:=rfl
def Ou:kU .tuple (.int i)=d_:=rfl
def Oq:kU .tuple (.str x)=d_:=rfl
def Oo:kU .tuple (.tup ds)=c_:=rfl
def Ot:kU .tuple (.lst ds)=d_:=rfl
def OA:kU .list (.int i)=d_:=rfl
def Oy:kU .list (.str x)=d_:=rfl
def Ox:kU .list (.tup ds)=d_:=rfl
def Oz:kU .list (.lst ds)=c_:=rfl
def WX:cx .isn (.int i) .non=a_ d_:=rfl
def WV:cx .isn (.str x) .non=a_ d_:=rfl
def WW:cx .isn .non .non=a_ c_:=rfl
def S6:cx .nisn .non .non=a_ d_:=rfl
def Zk:cx .eq (.str x) (.str y)=a_ (x == y):=rfl
def Zj(h1:dI 19 ds=c_)(h2:dI 19 ys=c_):cx .eq (.tup ds) (.tup ys)=a_ (l5 ds ys):=by simp only[cx,BO,Hd,sA,Fl,eO,h1,h2,qw,if_true,kM]
def YV(h1:dI 19 ds=c_)(h2:dI 19 ys=c_):cx .ne (.tup ds) (.tup ys)=a_ (!l5 ds ys):=by simp only[cx,BO,Hd,sA,Fl,eO,h1,h2,qw,if_true,kM]
end
end
section
def iX:bg C (.con d) ρ=a_ (d,d_):=rfl
def jJ:bg C (.v i) ρ=((ρ[i]?).join).map λd=>(d,d_):=rfl
def kG:bg C (.bin o a b) ρ=(bg C a ρ).bind λx=>(bg C b ρ).bind λy=>g9 o x.1 y.1:=rfl
def S9:Ta (.int i)=a_ (.int (-i),d_):=rfl
def Ur:bg C (.neg a) ρ=(bg C a ρ).bind λx=>Ta x.1:=rfl
def pW:bg C (.cmp o a b) ρ=(bg C a ρ).bind λx=>(bg C b ρ).bind λy=>(cx o x.1 y.1).map λr=>(.bl r,d_):=rfl
def Uv:bg C (.Pd o o' a b c) ρ=(bg C a ρ).bind λx=>(bg C b ρ).bind λy=>(cx o x.1 y.1).bind λr=>if r=c_ then(bg C c ρ).bind λz=>(cx o' y.1 z.1).map λr=>(.bl r,d_)else a_ (.bl d_,d_):=rfl
def U4:U5 k (.bl x)=if x=c_ then k else a_ (.bl d_,d_):=rfl
def K0:bg C (.and a b) ρ=(bg C a ρ).bind λx=>U5 (bg C b ρ) x.1:=rfl
def Wt:YR k (.bl x)=if x=c_ then a_ (.bl c_,d_)else k:=rfl
def QB:bg C (.or a b) ρ=(bg C a ρ).bind λx=>YR (bg C b ρ) x.1:=rfl
def Dm:bg C (.not a) ρ=(bg C a ρ).bind λx=>(iU x.1).map λb=>(.bl (!b),d_):=rfl
def Ut:bg C (.ite c a b) ρ=(bg C c ρ).bind λx=>(iU x.1).bind λz=>if z=c_ then bg C a ρ else bg C b ρ:=rfl
def su:bg C (.tup es) ρ=(ni C es ρ).bind λx=>if x.1.length<=1000000 then a_ (.tup x.1,x.2)else b_:=rfl
def Us:bg C (.lst es) ρ=(ni C es ρ).bind λx=>if x.1.length<=1000000 then a_ (.lst x.1,x.2)else b_:=rfl
def nH:bg C (.ix a b) ρ=(bg C a ρ).bind λx=>(bg C b ρ).bind λy=>(mG x.1 y.1).map λd=>(d,d_):=rfl
def PC:U0 C ρ b_=a_ b_:=rfl
def Lq:U0 C ρ (a_ a)=Al (bg C a ρ):=rfl
def NG:Al (a_ (.int i,f))=a_ (a_ i):=rfl
def QA:bg C (.sl a b c) ρ=(bg C a ρ).bind λx=>(U0 C ρ b).bind λl=>(U0 C ρ c).bind λh=>zD x.1 l h:=rfl
def cN:bg C (.call f es) ρ=(iB C es ρ).bind λds=>C f ds:=rfl
def pX:bg C (.blt f es) ρ=(iB C es ρ).bind λds=>dG f ds:=rfl
def qY:iB C [] ρ=a_ []:=rfl
def bC:iB C (e::es) ρ=(bg C e ρ).bind λx=>(iB C es ρ).map λr=>x.1::r:=rfl
def uc:ni C [] ρ=a_ ([],c_):=rfl
def fH:ni C (e::es) ρ=(bg C e ρ).bind λx=>(ni C es ρ).map λr=>(x.1::r.1,(x.2 || im x.1) && r.2):=rfl
def qZ:bg C (.eD m o es) ρ=(bg C o ρ).bind λx=>(iB C es ρ).bind λds=>gZ m x.1 ds:=rfl
def OY:bg C .zb ρ=a_ (.dct [] [],c_):=rfl
def yV:sv C (.itv a) ρ=(bg C a ρ).bind λx=>iV x.1:=rfl
def EZ:sv C (.rng es) ρ=(iB C es ρ).bind yr:=rfl
def Kg:iV (.lst xs)=a_ xs:=rfl
def AU:iV (.tup xs)=a_ xs:=rfl
def jK{ifs:List Ex}(hi:sv C it ρ=a_ items)(hl:items.length<=1000000)(hm:mF (kN C nt one (fS nt caps ρ) ifs elt) items=a_ (ys,fr)) :
  bg C (.comp nt one caps it ifs elt) ρ=a_ (.lst ys,fr):=by
 show(sv C it ρ).bind _=_;rw[hi];show(if items.length<=1000000 then _ else b_)=_;rw[if_pos hl];exact congrArg (nB λys:List Dat×Bool=>(Dat.lst ys.1,ys.2)) hm
def mK:kN C 1 c_ ρ0 [] elt d=(bg C elt (ρ0.set 0 (a_ d))).map a_:=rfl
def rg{ρ0:fP}(h:bg C i (ρ0.set 0 (a_ d))=a_ (x,f))(ht:iU x=a_ t):kN C 1 c_ ρ0 [i] elt d=if t=c_ then(bg C elt (ρ0.set 0 (a_ d))).map a_ else a_ b_:=by
 unfold kN;simp only[Fo,au,xw,h,ht];cases t<;>rfl
def xD:kN C 2 d_ ρ0 [] elt (.tup [x,y])=(bg C elt ((ρ0.set 0 (a_ x)).set 1 (a_ y))).map a_:=rfl
def t6(h:∀d∈ds,∃b,f d=a_ (a_ (g d,b)))(hi:∀d∈ds,im (g d)=c_):mF f ds=a_ (ds.map g,c_):=by
 induction ds with
 |nil=>rfl
 |cons d ds ih=>
   obtain⟨b,hb⟩:=h d iw;simp only[mF,hb,au,ih (λe he=>h e (jd _ he)) λe he=>hi e (jd _ he),aH,ah,hi d iw,dQ,eY]
def AD(h:∀d∈ds,∃b,f d=a_ (if p d=c_ then a_ (g d,b)else b_))(hi:∀d∈ds,p d=c_->im (g d)=c_):mF f ds=a_ ((ds.filter p).map g,c_):=by
 induction ds with
 |nil=>rfl
 |cons d ds ih=>
   obtain⟨b,hb⟩:=h d iw;simp only[mF,hb,au,ih (λe he=>h e (jd _ he)) λe he=>hi e (jd _ he),aH,i5]
   cases hp:p d with
   |false=>rfl
   |true=>simp[hi d iw hp]
def AE(hy:im y=c_)(h:∀d∈ds,∃b,f d=a_ (a_ (y,b))):mF f ds=a_ (be ds.length y,c_):=by
 have:=t6 (f:=f) (g:=λ_=>y) h λ_ _=>hy;rw[this,List.map_const']
theorem qa:∀k:Nat,jZ (be k (.bl c_))=a_ (be k c_)
 |0=>rfl
 |k+1=>by simp only[qf,jZ,qa k,aH]
theorem vB{α:Type}{g:α->Bool}:∀xs:List α,jZ (xs.map λx=>Dat.bl (g x))=a_ (xs.map g)
 |[]=>rfl
 |x::xs=>by simp only[ah,jZ,vB xs,aH]
theorem uX:∀{xs:List Dat}{d:Dat},d∈kR xs xs->∃x∈xs,d=.tup [x,x]
 |[],d,h=>by simp[kR]at h
 |x::xs,d,h=>by
   simp only[kR,aq]at h
   rcases h with rfl|h
   ·exact⟨x,iw,rfl⟩
   ·obtain⟨y,h1,h2⟩:=uX h;exact⟨y,jd _ h1,h2⟩
end
mutual
noncomputable def same:Dat->Dat->Bool
 | .non,y9=>match y9 with
   |.non=>c_
   |_=>d_
 | .bl a,y9=>match y9 with
   |.bl b=>a == b
   |_=>d_
 | .int i,y9=>match y9 with
   |.int j=>i == j
   |_=>d_
 | .str x,y9=>match y9 with
   |.str y=>x == y
   |_=>d_
 | .tup xs,y9=>match y9 with
   |.tup ys=>uP xs ys
   |_=>d_
 | .lst xs,y9=>match y9 with
   |.lst ys=>uP xs ys
   |_=>d_
 |_,_=>d_
noncomputable def uP:List Dat->List Dat->Bool
 |[],[]=>c_
 |x::xs,y::ys=>same x y && uP xs ys
 |_,_=>d_
end
mutual
theorem D6:∀(x y:Dat),same x y=c_->x=y
 |.non,y,h=>by cases y<;>first|rfl|(simp[same]at h)
 |.bl a,y,h=>by cases y<;>first|(simp[same]at h;rw[h])|(simp[same]at h)
 |.int a,y,h=>by cases y<;>first|(simp[same]at h;rw[h])|(simp[same]at h)
 |.str a,y,h=>by cases y<;>first|(simp[same]at h;rw[h])|(simp[same]at h)
 |.tup a,y,h=>by cases y<;>first|(simp[same]at h;rw[uO _ _ h])|(simp[same]at h)
 |.lst a,y,h=>by cases y<;>first|(simp[same]at h;rw[uO _ _ h])|(simp[same]at h)
theorem uO:∀(x y:List Dat),uP x y=c_->x=y
 |[],y,h=>by cases y<;>first|rfl|(simp[uP]at h)
 |x::xs,y,h=>by
   cases y with
   |nil=>simp[uP]at h
   |cons y ys=>
     simp[uP]at h;rw[D6 _ _ h.1,uO _ _ h.2]
end
def mz:g_->g_->Bool
 |some (d,b),a_ (e,c)=>same d e && b == c
 |none,b_=>c_
 |_,_=>d_
def jG(h:mz x y=c_):x=y:=by
 cases x with
 |none=>cases y<;>first|rfl|(simp[mz]at h)
 |some x=>
   cases y with
   |none=>simp[mz]at h
   |some y=>
     obtain⟨d,b⟩:=x;obtain⟨e,c⟩:=y;simp[mz]at h;rw[D6 _ _ h.1,h.2]
def Ls{ns:List Int}(h:0<ns.length):nJ (ns.map Dat.int) (k % ns.length)=a_ (.int (ns.getD (k % ns.length).toNat 0)):=by
 have h1:0<=k % (ns.length:Int):=oH _ (λz=>(nN (eQ.mpr h) (nZ z)));have h2:k % (ns.length:Int)<ns.length:=lW _ (eQ.mpr h);generalize k % (ns.length:Int)=j at h1 h2 ⊢;obtain⟨n,rfl⟩:=jN h1;have h3:n<ns.length:=by omega
 refine gu ?_;rw[aY,ao h3];simp[h3]
def zW{n dflt:Nat}{i:Int}(h0:0<=i)(h1:i<=n):HT.ic n dflt (a_ i)=i.toNat:=by
 obtain⟨k,rfl⟩:=jN h0;rw[HT.Nc];show min k n=k;exact P8 (dR.mp h1)
def Fb{α:Type}{xs:List α}{i:Int}(h0:0<=i)(h1:i<=xs.length):cutD xs (a_ i) b_=xs.drop i.toNat:=by
 unfold cutD;rw[zW h0 h1,HT.zX];rw[BH (by simp)]
def O3{α:Type}{xs:List α}{i:Int}(h0:0<=i)(h1:i<=xs.length):cutD xs b_ (a_ i)=xs.take i.toNat:=by
 unfold cutD;rw[zW h0 h1,HT.zX,Qb];rfl
noncomputable def xF(ns:List Int)(k:Int):Int:=if 0<ns.length then(ns.getD (k % ns.length).toNat 0) % 2147483629 else 0
def Vq(ns:List Int)(k m:Int):Int:=(xF ns k+1) * (31 * k * k+7919) % 2147483647 * 48271 % 2147483629 % m
def Le(ns:List Int)(k:Int):0<=xF ns k/\xF ns k<2147483629:=by
 unfold xF;split
 ·exact⟨oH _ bG,lW _ (by simp)⟩
 ·decide
def UB(ns:List Int)(k m:Int)(hm:0<m):0<=Vq ns k m/\Vq ns k m<m:=⟨oH _ (by omega),lW _ hm⟩
noncomputable def inter(c:Nat):List (List Nat)->List Nat
 |[]=>[]
 |[x]=>x
 |x::y::r=>x++c::inter c (y::r)
theorem join_list:∀ws:List a8,(tB ⟨#[c]⟩ ws).cps.toList=inter c (ws.map (·.cps.toList))
 |[]=>rfl
 |[x]=>rfl
 |x::y::r=>by
   have ih:=join_list (c:=c) (y::r);show((x++(⟨#[c]⟩:a8)++tB ⟨#[c]⟩ (y::r)).cps.toList)=_;simp only[Str.cps_append,Array.toList_append,ih,ah,inter];simp
theorem xA:∀{x y s t:List Nat},c∉x->c∉y->x++c::s=y++c::t->x=y/\s=t
 |[],[],s,t,_,_,h=>by simpa using h
 |[],b::y,s,t,_,h2,h=>by
   simp only[dq,bV,i6]at h;exact absurd (h.1▸iw) h2
 |a::x,[],s,t,h1,_,h=>by
   simp only[dq,bV,i6]at h;exact absurd (h.1▸iw) h1
 |a::x,b::y,s,t,h1,h2,h=>by
   simp only[bV,i6]at h;obtain⟨e1,e2⟩:=xA (λm=>h1 (jd _ m)) (λm=>h2 (jd _ m)) h.2;exact⟨by rw[h.1,e1],e2⟩
def se:∀{x y:List Nat}{r:List (List Nat)},c∈inter c (x::y::r):=λ{x y r}=>by simp[inter]
theorem xp:∀{xs ys:List (List Nat)},xs≠[]->ys≠[]->(∀x∈xs,c∉x)->(∀y∈ys,c∉y)->inter c xs=inter c ys->xs=ys
 |[],_,h,_,_,_,_=>absurd rfl h
 |_::_,[],_,h,_,_,_=>absurd rfl h
 |[x],[y],_,_,_,_,h=>by rw[show x=y from h]
 |[x],y::z::r,_,_,h1,_,h=>absurd (show c∈x by rw[show x=inter c (y::z::r)from h];exact se) (h1 x iw)
 |x::z::r,[y],_,_,_,h2,h=>absurd (show c∈y by rw[show y=inter c (x::z::r)from h.symm];exact se) (h2 y iw)
 |x::z::r,y::w::q,_,_,h1,h2,h=>by
   obtain⟨e1,e2⟩:=xA (h1 x iw) (h2 y iw) (show x++c::inter c (z::r)=y++c::inter c (w::q)from h);rw[e1,xp (by simp) (by simp) (λa m=>h1 a (jd _ m)) (λa m=>h2 a (jd _ m)) e2]
def qz{x y:a8}(h:x.cps.toList=y.cps.toList):x=y:=by
 cases x;cases y
 congr
 exact Array.toList_inj.mp h
theorem qL:∀{xs ys:List a8},xs.map (·.cps.toList)=ys.map (·.cps.toList)->xs=ys
 |[],[],_=>rfl
 |[],_::_,h=>by simp at h
 |_::_,[],h=>by simp at h
 |x::xs,y::ys,h=>by
   simp only[ah,i6]at h;rw[qz h.1,qL h.2]
def Cp(hn:ws≠[])(hf:∀w∈ws,c∉w.cps.toList):eZ (eT ⟨#[c]⟩ ws) ⟨#[c]⟩=ws:=by
 have e1:=StrLaws.join_split (eT ⟨#[c]⟩ ws) ⟨#[c]⟩;have e2:eT ⟨#[c]⟩ ws=tB ⟨#[c]⟩ ws:=nK _ ws;have e3:=congrArg (λz:a8=>z.cps.toList) e1;rw[join_list]at e3
 conv at e3=>rhs;rw[e2,join_list]
 refine qL (xp ?_ (by simpa using hn) ?_ ?_ e3)
 ·have:=PyProof.Rows.split_pos (eT ⟨#[c]⟩ ws) ⟨#[c]⟩;intro z;rw[List.map_eq_nil_iff]at z;rw[z]at this;simp at this
 ·intro x hx;obtain⟨p,hp,rfl⟩:=bb.mp hx;exact StrLaws.split_free _ c p hp
 ·intro x hx;obtain⟨p,hp,rfl⟩:=bb.mp hx;exact hf p hp
noncomputable abbrev T(l:List Nat):a8:=⟨l.toArray⟩
def LD(a b:List Nat):T a++T b=T (a++b):=by
 show Str.mk _=_;simp[T]
def Fw(h:T a=T b):a=b:=by
 have:=congrArg (λx:a8=>x.cps.toList) h;simpa using this
def Bz(a b:List Nat):(T a == T b)=decide (a=b):=by
 by_cases h:a=b
 ·subst h;simp
 ·rw[decide_eq_false h];exact beq_false_of_ne λe=>h (Fw e)
def pE(a:List Nat):(T a).length=a.length:=by show(a.toArray).size=_;simp
def De:cx .isin (.str (T [c])) (.str (T l))=a_ (decide (c∈l)):=by
 show a_ _=_;rw[show(!(cQ (T l) (T [c]) 0 (T l).length 1).isEmpty)=_ from qm (T l) c]
def KL:decide (fB (T l) (T [c])<0)=!decide (c∈l):=by
 have h:=qm (T l) c;unfold fB
 cases q:cQ (T l) (T [c]) 0 (T l).length 1 with
 |nil=>
   rw[show(⟨#[c]⟩:a8)=T [c]from rfl,q]at h;simp at h;simp[h]
 |cons i r=>
   rw[show(⟨#[c]⟩:a8)=T [c]from rfl,q]at h;simp at h;simp[h]
def OQ(h':c∉l):fB (T l) (T [c])=-1:=by
 have h:=qm (T l) c;unfold fB
 cases q:cQ (T l) (T [c]) 0 (T l).length 1 with
 |nil=>rfl
 |cons i r=>
   rw[show(⟨#[c]⟩:a8)=T [c]from rfl,q]at h;simp at h;exact absurd h h'
def oV:iV (.str (T l))=a_ (l.map λc=>Dat.str (T [c])):=by
 show a_ _=_;simp[T]
def MN:lY (T l)=l.map λc=>T [c]:=by
 unfold lY;simp[T]
def len_T{l:List Nat}(h:l.length<=1000000):dG .len [.str (T l)]=a_ (.int l.length,d_):=by
 show(if(T l).length<=aD then a_ (Dat.int (T l).length,d_)else b_)=_;rw[pE,if_pos (by rw[bu];exact ae h bG)]
def Lz{a b:List Nat}(h:a.length+b.length<=1000000):g9 .add (.str (T a)) (.str (T b))=a_ (.str (T (a++b)),d_):=by
 show(if(T a).length+(T b).length<=aD then a_ (Dat.str (T a++T b),d_)else b_)=_;rw[pE,pE,if_pos (by rw[bu];exact ae h bG),LD]
def Y3{l:List Nat}(hl:l.length<=1000000)(h:i<l.length):mG (.str (T l)) (.int (i:Nat))=a_ (.str (T [l[i]])):=by
 show(if(T l).length<=aD then(nJ (T l).cps.toList (i:Int)).map λc=>Dat.str ⟨#[c]⟩else b_)=_;rw[pE,if_pos (by rw[bu];exact ae hl bG)];rw[show nJ (T l).cps.toList (i:Int)=a_ l[i]from gu (by simp[h])];rfl
theorem x9:∀ws:List (List Nat),pq (ws.map λl=>Dat.str (T l))=a_ (ws.map T)
 |[]=>rfl
 |x::r=>by simp only[ah,pq,x9 r,aH]
def TL:∀ws:List (List Nat),eT (T []) (ws.map T)=T ws.flatten:=by
 intro ws;rw[show eT (T []) (ws.map T)=tB (T []) (ws.map T)from nK _ _]
 induction ws with
 |nil=>rfl
 |cons x r ih=>
   cases r with
   |nil=>show T x=_;simp
   |cons y r=>
     show(T x++T []++tB (T []) ((y::r).map T))=_;rw[ih,LD,LD];simp
def tZ{ws:List (List Nat)}(h:(ws.map (·.length)).sum<=1000000):gZ .join (.str (T [])) [.lst (ws.map λl=>Dat.str (T l))]=a_ (.str (T ws.flatten),d_):=by
 simp only[gZ,Tf,Of,WJ,GH,J1,x9,au];rw[if_pos,TL];rw[pE,br];have e:(P9 ((λx:a8=>x.length) ∘ T) ws)=ws.map (·.length):=jg λl _=>pE l;rw[e];simpa using h
def ne_T(a b:List Nat):cx .ne (.str (T a)) (.str (T b))=a_ (!decide (a=b)):=by
 show a_ (!(T a == T b))=_;rw[Bz]
def K5(a b:List Nat):cx .eq (.str (T a)) (.str (T b))=a_ (decide (a=b)):=by
 show a_ (T a == T b)=_;rw[Bz]
theorem sx:∀(a b:List Int),l5 (a.map Dat.int) (b.map Dat.int)=decide (a=b)
 |[],[]=>rfl
 |[],b::bs=>by simp[l5]
 |a::as,[]=>by simp[l5]
 |a::as,b::bs=>by
   simp only[ah,l5,kM,sx as bs];by_cases h:a=b
   ·subst h;by_cases h2:as=bs<;>simp[h2]
   ·simp[h]
theorem pM(k:Nat):∀a:List Int,dI k (a.map Dat.int)=c_
 |[]=>by simp[dI]
 |a::as=>by simp[dI,eO,pM k as]
theorem anyI(v:Int):∀a:List Int,((a.map Dat.int).any λy=>kM y (.int v))=a.contains v
 |[]=>rfl
 |a::as=>by
   simp only[ah,eF,kM,anyI v as,rq];rw[Bool.beq_comm]
theorem A3{α:Type}{lt:α->α->Bool}{x:α}:∀{l:List α},(qR lt x l).length<=l.length+1
 |[]=>by simp[qR]
 |y::ys=>by
   unfold qR;split
   ·simp
   ·split
    ·have:=A3 (lt:=lt) (x:=x) (l:=ys);simp;omega
    ·simp
theorem wG{α:Type}{lt:α->α->Bool}:∀{l:List α},(eN lt l).length<=l.length
 |[]=>aI _
 |x::l=>by
   have a:=A3 (lt:=lt) (x:=x) (l:=eN lt l);have b:=wG (lt:=lt) (l:=l);simp only[eN,aS];exact ae a (dF b)
def F7{is:List Int}(h:is.length<64):dG .sset [.lst (is.map Dat.int)]=a_ (.lst ((eN ltI is).map Dat.int),c_):=by
 have e:∀is:List Int,qQ (is.map Dat.int)=a_ is:=λis=>by
  induction is with
  |nil=>rfl
  |cons a r ih=>simp only[ah,qQ,ih,aH]
 simp only[dG,b1,sG,mO,sE,sC,bL,Hf,sH,sD,e,IH];rw[if_pos ⟨ae h bG,aN wG h⟩]
def Ug:full (z::ρ)=z.map (·.1)::full ρ:=rfl
def DA:dG .int [.bl b]=a_ (.int (if b then 1 else 0),d_):=rfl
end M
local macro_rules | `(tactic| walk_at "py") => do let xs ← ("M.Uq M.Up M.MY M.MX M.OT M.OU M.KR M.OW M.OV M.Tc M.uc M.fH M.qZ M.OY M.iX M.jJ M.kG M.Ur M.S9 M.pW M.Uv M.K0 M.QB M.U4 M.Wt M.Dm M.Ut M.su M.Us M.nH M.QA M.PC M.Lq M.NG M.cN M.pX M.qY M.bC M.yV M.EZ M.Kg M.AU List.length_cons List.length_nil Nat.reduceAdd Nat.reduceLeDiff M.Ug Option.map_none M.sj M.so M.vo List.getElem?_cons_succ List.getElem?_cons_zero List.set_cons_succ List.set_cons_zero Option.join_some Option.map_some Option.bind_some M.DF M.DB M.vC M.DD M.vD M.tj M.DC M.DE M.O8 M.O9 M.Pa M.G3 M.G1 M.Ig M.iN M.nj M.rk M.Dz M.Dx M.Dv M.Dy M.Qt M.EN M.Kn M.W1 M.yP M.T8 M.T9 Bool.true_or Bool.false_or Bool.or_true Bool.or_false Bool.true_and Bool.and_true Bool.false_and Bool.and_false Bool.not_true Bool.not_false if_true if_false Bool.false_eq_true M.Xj M.Xk List.length_map List.map_cons List.map_nil List.cons_append List.nil_append List.replicate_succ List.replicate_zero Nat.reduceSub reduceIte reduceCtorEq beq_self_eq_true Option.some.injEq M.Out.nx.injEq M.Out.rt.injEq exists_eq_left' M.OC M.OB M.OE M.OD M.Ov M.Ou M.Oq M.Oo M.Ot M.OA M.Oy M.Ox M.Oz M.WX M.WV M.WW M.S6 M.Zk M.DA".splitOn " ").toArray.mapM (fun n => `(Lean.Parser.Tactic.simpLemma| $(Lean.mkIdent n.toName):term)); `(tactic| simp (disch := omega) only [$xs,*, *])
namespace M
open PySem L2
noncomputable def iP:List Nat:=[97,98,99,100,101,102,103,104,105,106,107,108,109,110,111,112,113,114,115,116,117,118,119,120,121,122]
def ZV:aa "abcdefghijklmnopqrstuvwxyz"=T iP:=by decide +kernel
noncomputable def BB:List Nat:=[119,98,109,101]
def ZR:aa "wbme"=T BB:=by decide +kernel
def Z7:aa ""=T []:=by decide +kernel
abbrev Fm:=List Nat×List Int×List Nat
abbrev cU(t:Fm):Dat:=.tup [.str (T t.1),.tup (t.2.1.map Dat.int),.str (T t.2.2)]
def Zo(hm:0<m):∃d:Nat,Vq ns k m=d/\(d:Int)<m:=by
 obtain⟨h1,h2⟩:=UB ns k m hm;obtain⟨d,e⟩:=jN h1;exact⟨d,e,dX (nZ e.symm) h2⟩
def Nm(h:m<=1000000):yr [.int (m:Nat)]=a_ ((aP m).map λk:Nat=>Dat.int k):=by
 show(if _ then _ else b_)=_;rw[if_pos (by omega)];simp
def Qz(xs:List Nat):(xs.map λc=>[c]).flatten=xs:=by
 induction xs with
 |nil=>rfl
 |cons a r ih=>rw[ah,sP,ih];rfl
def VV(xs:List Nat):((xs.map λc=>[c]).map (·.length)).sum=xs.length:=by
 induction xs with
 |nil=>rfl
 |cons a r ih=>rw[ah,ah,qu,ih];simp;exact tF _ _
def Lx{α:Type}(g:α->Bool)(xs:List α):dG .all [.lst (xs.map λx=>Dat.bl (g x))]=a_ (.bl (xs.all g),d_):=by
 simp only[dG,b1,sG,mO,sE,sC,bL,Hf,sH,sD,vB,aH];rw[List.all_map];rfl
def Vg(C:Fs)(i:Nat)(ns:List Int):Prop:=∀k m:Int,-(2 ^ 60)<k/\k<2 ^ 60->0<m->C i [.lst (ns.map Dat.int),.int k,.int m]=a_ (.int (Vq ns k m),d_)
def Qn(k:Nat):List Nat:=(aP 4).filterMap λi=>if k / 2 ^ i % 2=1 then BB[i]? else b_
def El:List Sx:=[(.ret (.eD .join (.f_ "") [(.comp 1 c_ [0] (.rng [(.e_ 4)]) [(.cmp .eq (.bin .band (.bin .shr (.v 1) (.v 0)) (.e_ 1)) (.e_ 1))] (.ix (.f_ "wbme") (.v 0)))]))]
def Wn(C:Fs):((aP 16).all λk=>mz (GU C 1 1 El [.int (k:Nat)]) (a_ (.str (T (Qn k)),d_)) && decide ((Qn k).length<=4))=c_:=by kernel_rfl
def rl(C:Fs)(i:Nat):Prop:=∀k:Nat,k<16->C i [.int (k:Nat)]=a_ (.str (T (Qn k)),d_)
def CQ(h:k<16):GU C 1 1 El [.int (k:Nat)]=a_ (.str (T (Qn k)),d_):=by
 have:=aC.mp (Wn C) k (aR.mpr h);rw[af]at this;exact jG this.1
def Sa(h:k<16):(Qn k).length<=4:=by
 have:=aC.mp (Wn (λ_ _=>b_)) k (aR.mpr h);rw[af]at this;exact of_decide_eq_true this.2
structure okF(f:Fm):Prop where
 ne:f.1≠[]
 low:∀c∈f.1,c∈iP
 ll:f.1.length<=6
 cl:f.2.1.length<=4
 pl:f.2.2.length<=4
 c1:0<f.2.1.length
 c3:f.2.1.length≠3
 cr:∀c∈f.2.1,1<=c/\c<=63
 pp:∃k,1<=k/\k<16/\f.2.2=Qn k
noncomputable abbrev ent(f:Fm):List Nat×List Int:=(f.1,f.2.1)
structure okL(ls:List Nat)(fs:List Fm):Prop where
 nd:(fs.map ent).Nodup
 sub:∀f∈fs,∀c∈f.1,c∈ls
 own:∀c∈ls,∃g∈fs,g.1=[c]/\g.2.2=BB
def X7(dr ce:Nat):List Sx:=[(.set 9 (.bin .add (.e_ 1) (.bin .fdiv (.call dr [(.v 0),(.bin .add (.bin .add (.v 1) (.e_ 10)) (.v 6)),(.e_ 5)]) (.e_ 4)))),(.mut .app 8 [(.tup [(.ix (.v 7) (.v 6)),(.call ce [(.v 0),(.bin .add (.bin .add (.v 1) (.e_ 20)) (.bin .mul (.e_ 5) (.v 6))),(.v 9),(.v 2)]),(.f_ "wbme")])])]
def X6(dr ce pl:Nat):List Sx:=[(.set 10 (.bin .add (.bin .add (.v 1) (.e_ 60)) (.bin .mul (.e_ 15) (.v 6)))),(.set 11 (.eD .join (.f_ "") [(.comp 1 c_ [10,7,5,0] (.rng [(.bin .add (.e_ 1) (.call dr [(.v 0),(.bin .add (.v 10) (.e_ 4)),(.e_ 3)]))]) [] (.ix (.v 2) (.call dr [(.v 4),(.bin .add (.v 1) (.v 0)),(.v 3)])))])),(.set 12 (.call ce [(.v 0),(.bin .add (.v 10) (.e_ 5)),(.ix (.lst [(.e_ 1),(.e_ 1),(.e_ 2),(.e_ 4)]) (.call dr [(.v 0),(.bin .add (.v 10) (.e_ 9)),(.e_ 4)])),(.v 2)])),(.set 13 (.tup [(.v 11),(.v 12),(.call pl [(.bin .add (.e_ 1) (.call dr [(.v 0),(.bin .add (.v 10) (.e_ 10)),(.e_ 15)]))])])),(.ifs (.cmp .nin (.sl (.v 13) b_ (a_ (.e_ 2))) (.comp 1 c_ [] (.itv (.v 8)) [] (.sl (.v 0) b_ (a_ (.e_ 2))))) [(.mut .ins 8 [(.call dr [(.v 0),(.bin .add (.v 10) (.e_ 11)),(.bin .add (.blt .len [(.v 8)]) (.e_ 1))]),(.v 13)])] [])]
def qS(f:Fm):im (cU f)=c_:=by
 show(c_ && (jT (f.2.1.map Dat.int) && (c_ && c_)))=c_;rw[df];rfl
theorem yO:∀fs:List Fm,jT (fs.map cU)=c_
 |[]=>rfl
 |f::fs=>by rw[ah];show(im (cU f) && jT (fs.map cU))=c_;rw[qS,yO fs];rfl
def Kk{α β:Type}(g:α->β)(x:α)(i:Int)(xs:List α):insI (g x) i (xs.map g)=(insI x i xs).map g:=by
 unfold insI;rw[ag,fk,ah,zz,zA]
def AB (h:y∈insI x i xs):y=x\/y∈xs:=by
 unfold insI at h
 rcases aL.mp h with h|h
 ·exact .inr (dY h)
 ·rcases aq.mp h with h|h
  ·exact .inl h
  ·exact .inr (dZ h)
def vb : (insI x i xs).length=xs.length+1:=by
 unfold insI;rw[cg,aS,iZ,nD];omega
def Qj(a b c:Dat):zD (.tup [a,b,c]) b_ (a_ 2)=a_ (.tup [a,b],d_):=rfl
def qB(f:Fm):eO 20 (.tup [.str (T f.1),.tup (f.2.1.map Dat.int)])=c_:=by
 show(c_ && (dI 18 (f.2.1.map Dat.int) && c_))=c_;rw[pM];rfl
noncomputable abbrev tI(l:List Int):Dat:=.tup (l.map Dat.int)
def Km(l:List Int):im (.tup (l.map Dat.int))=c_:=df l
structure okM(m0 m1 m2 m3 fg:List Int):Prop where
 l0:m0.length<=2
 l1:m1.length<=2
 l2:m2.length<=2
 l3:m3.length<=2
 lf:fg.length<=10
 r0:∀c∈m0,1<=c/\c<=63
 r1:∀c∈m1,1<=c/\c<=63
 r2:∀c∈m2,1<=c/\c<=63
 r3:∀c∈m3,1<=c/\c<=63
 rf:∀c∈fg,1<=c/\c<=63
 k1:m1≠[]->m0≠[]
 k2:m2=[]↔fg=[]
 k3:m3=[]↔fg=[]
def tR(h:bg C e (full ρ)=a_ (.tup [a,b],f))(hi:im (.tup [a,b])=c_):gJ C (.Qe [i,j] e) ρ=a_ (.nx ((ρ.set i (a_ (a,d_))).set j (a_ (b,d_)))):=by
 show(pY C e ρ).bind _=_;rw[Dq h (by rw[hi];rfl)];rfl
def AO(ws:List (List Nat)):eT (T [32]) (ws.map T)=T (inter 32 ws):=by
 rw[show eT (T [32]) (ws.map T)=tB ⟨#[32]⟩ (ws.map T)from nK _ _];refine qz ?_;rw[join_list,br]
 congr 1
 induction ws with
 |nil=>rfl
 |cons a r ih=>rw[ah,ih];rfl
def CZ{ws:List (List Nat)}(h:(ws.map (·.length)).sum+ws.length<=1000000):gZ .join (.str (T [32])) [.lst (ws.map λl=>Dat.str (T l))]=a_ (.str (T (inter 32 ws)),d_):=by
 simp only[gZ,Tf,Of,WJ,GH,J1,x9,au];rw[if_pos,AO];rw[pE,br,ag];have e:(P9 ((λx:a8=>x.length) ∘ T) ws)=ws.map (·.length):=jg λl _=>pE l;rw[e];simpa using h
theorem oW(c:Nat):∀ws:List (List Nat),(inter c ws).length<=(ws.map (·.length)).sum+ws.length
 |[]=>by simp[inter]
 |[x]=>by simp[inter]
 |x::y::r=>by
   have ih:=oW c (y::r);simp only[inter,cg,aS,ah,qu]at ih ⊢;omega
def tY(hn:ws≠[])(hf:∀w∈ws,32∉w)(hl:(ws.map (·.length)).sum+ws.length<=1000000):gZ .split (.str (T (inter 32 ws))) [.str (T [32])]=a_ (.lst (ws.map λl=>Dat.str (T l)),c_):=by
 have h2:=oW 32 ws;show(if 0<(T [32]).length/\(T (inter 32 ws)).length<=1000000 then a_ (Dat.lst ((eZ (T (inter 32 ws)) (T [32])).map Dat.str),c_)else b_)=_;rw[if_pos ⟨by rw[pE];simp,by rw[pE];exact ae h2 hl⟩,<-AO];rw[show eZ (eT (T [32]) (ws.map T)) (T [32])=ws.map T from Cp (by simpa using hn) (λw hw=>by obtain⟨l,hl',rfl⟩:=bb.mp hw;simpa using hf l hl'),br];rfl
def ct(c:Int):List Nat:=((aP 6).filter λi=>c.toNat / 2 ^ i % 2=1).map (·+ 49)
end M
namespace K07
open PySem L2 M
def cn(hj:D[j]?=a_ d)(h:GU (Cn D n) d.p d.n d.body ds=r)(hx:j<o8:=by decide):Cn D (n+1) j ds=r:=by
 rw[<-h];simp only[Cn,hj,if_pos hx]
def Jc:Vg (Cn D (n+1)) 20 ns:=by
 intro k m hk hm;refine cn (d:=d20) rfl (dz (C:=Cn D n) (np:=3) (nl:=4) (body:=ZK) rfl ?_);unfold ZK;have hb:=Le ns k;by_cases h:0<ns.length
 ·have hc:xF ns k=ns.getD (k % ns.length).toNat 0 % 2147483629:=if_pos h;have ha:=Ls (k:=k) h;unfold Vq;rw[hc]at hb ⊢;walk_at "py"
 ·have hc:xF ns k=0:=if_neg h;unfold Vq;rw[hc]at hb ⊢;walk_at "py"
def CC:rl (Cn D (n+1)) 23:=λk h=>cn (d:=d23) rfl (CQ (C:=Cn D n) h)
noncomputable def v5(c:Int):Bool:=decide (1<=c) && decide (c<=63)
def CB:Cn D (n+1) 2 [.int c]=a_ (.bl (v5 c),d_):=by
 refine cn (d:=d2) rfl (dz (C:=Cn D n) (np:=1) (nl:=1) (body:=b2) rfl ?_);unfold b2 v5;generalize e1:decide (1<=c)=p;generalize e2:decide (c<=63)=q;cases p<;>cases q<;>walk_at "py"
def jc(cs:List Int)(lo hi:Int):Bool:=decide (lo<=cs.length) && (decide ((cs.length:Int)<=hi) && cs.all v5)
def qC{cs:List Int}{lo:Int}(hl:cs.length<=1000):Cn D (n+2) 6 [tI cs,.int lo,.int hi]=a_ (.bl (jc cs lo hi),d_):=by
 refine cn (d:=d6) rfl (dz (C:=Cn D (n+1)) (np:=3) (nl:=3) (body:=b6) rfl ?_);unfold b6 jc
 have h3:bg (Cn D (n+1)) (.comp 1 c_ [] (.itv (.v 0)) [] (.call 2 [.v 0])) [a_ (tI cs),a_ (.int lo),a_ (.int hi)]=a_ (.lst (cs.map λc=>.bl (v5 c)),c_):=by
  refine jK (items:=cs.map Dat.int) rfl (by rw[ag];exact ae hl bG) ?_;have:=t6 (f:=kN (Cn D (n+1)) 1 c_ (fS 1 [] [a_ (tI cs),a_ (.int lo),a_ (.int hi)]) [] (.call 2 [.v 0])) (g:=λd=>match d with | .int x=>.bl (v5 x)|_=>.non) (ds:=cs.map Dat.int) ?_ ?_
  ·rw[this,br];rfl
  ·intro d hd;obtain⟨c,_,rfl⟩:=bb.mp hd;refine⟨d_,?_⟩;rw[mK];simp only[fS,jA,ip,bV,dq,bZ,cN,bC,qY,jJ,cz,eR,aH,au,CB]
  ·intro d hd;obtain⟨c,_,rfl⟩:=bb.mp hd;rfl
 have h4:=Lx v5 cs;have el:dG .len [tI cs]=a_ (.int (cs.length:Nat),d_):=by unfold tI;rw[nj,ag]
 generalize cs.all v5=r at h4 ⊢;generalize e1:decide (lo<=(cs.length:Int))=p;generalize e2:decide ((cs.length:Int)<=hi)=q;generalize (cs.map λc=>Dat.bl (v5 c))=W at h3 h4;generalize tI cs=tc at h3 el ⊢;clear hl;cases p<;>cases q<;>walk_at "py"
def tH(l:List Nat):Bool:=decide ((1:Int)<=l.length) && (decide ((l.length:Int)<=6) && l.all λc=>decide (c∈iP))
def zZ{l:List Nat}(hl:l.length<=1000):Cn D (n+1) 7 [.str (T l)]=a_ (.bl (tH l),d_):=by
 refine cn (d:=d7) rfl (dz (C:=Cn D n) (np:=1) (nl:=1) (body:=b7) rfl ?_);unfold b7 tH;rw[ZV]
 have h1:bg (Cn D n) (.comp 1 c_ [] (.itv (.v 0)) [] (.cmp .isin (.v 0) (.con (.str (T iP))))) [a_ (.str (T l))]=a_ (.lst (l.map λc=>.bl (decide (c∈iP))),c_):=by
  refine jK (items:=l.map λc=>Dat.str (T [c])) oV (by rw[ag];exact ae hl bG) ?_;have:=t6 (f:=kN (Cn D n) 1 c_ (fS 1 [] [a_ (.str (T l))]) [] (.cmp .isin (.v 0) (.con (.str (T iP))))) (g:=λd=>match d with | .str x=>.bl (decide (x.cps.toList.headD 0∈iP))|_=>.non) (ds:=l.map λc=>Dat.str (T [c])) ?_ ?_
  ·rw[this,br];rfl
  ·intro d hd;obtain⟨c,_,rfl⟩:=bb.mp hd;refine⟨d_,?_⟩;rw[mK];simp only[fS,jA,ip,bV,dq,bZ,pW,jJ,iX,cz,eR,aH,au,De];rfl
  ·intro d hd;obtain⟨c,_,rfl⟩:=bb.mp hd;rfl
 have h2:=Lx (λc=>decide (c∈iP)) l;have h3:=len_T (l:=l) (ae hl bG);generalize (l.all λc=>decide (c∈iP))=r at h2 ⊢;generalize e1:decide ((1:Int)<=(l.length:Int))=p;generalize e2:decide ((l.length:Int)<=6)=q;generalize (l.map λc=>Dat.bl (decide (c∈iP)))=W at h1 h2;clear hl;cases p<;>cases q<;>walk_at "py"
noncomputable def P4:List Nat:=[119,98,109,101]
def SP4:aa "wbme"=T P4:=by decide +kernel
def SE0:aa ""=T []:=by decide +kernel
def oj(p:List Nat):Bool:=!decide (p=[]) && decide (p=P4.filter λc=>decide (c∈p))
def K9(q:Nat->Bool)(xs:List Nat)(hi:sv C it ρ=a_ (xs.map λc=>Dat.str (T [c])))(hl:xs.length<=1000)(h:∀c∈xs,bg C i ((fS 1 caps ρ).set 0 (a_ (.str (T [c]))))=a_ (.bl (q c),d_)):bg C (.comp 1 c_ caps it [i] (.v 0)) ρ=a_ (.lst ((xs.filter q).map λc=>Dat.str (T [c])),c_):=by
 refine jK hi (by rw[ag];exact ae hl bG) ?_;clear hi hl
 induction xs with
 |nil=>rfl
 |cons c xs ih=>
   rw[ah,mF,rg (h c iw) rfl,ih λy hy=>h y (jd _ hy),i5];cases q c<;>rfl
def Jf{p:List Nat}(hl:p.length<=1000):Cn D (n+1) 8 [.str (T p)]=a_ (.bl (oj p),d_):=by
 refine cn (d:=d8) rfl (dz (C:=Cn D n) (np:=1) (nl:=1) (body:=b8) rfl ?_);unfold b8 oj;rw[SP4,SE0]
 have h1:bg (Cn D n) (.comp 1 c_ [0] (.itv (.con (.str (T P4)))) [(.cmp .isin (.v 0) (.v 1))] (.v 0)) [a_ (.str (T p))]=a_ (.lst ((P4.filter λc=>decide (c∈p)).map λc=>Dat.str (T [c])),c_):=by
  refine K9 (λc=>decide (c∈p)) P4 oV bG λc _=>?_;show((cx .isin (.str (T [c])) (.str (T p))).map λr=>(Dat.bl r,d_))=_;rw[De];rfl
 have h2:gZ .join (.str (T [])) [.lst ((P4.filter λc=>decide (c∈p)).map λc=>Dat.str (T [c]))]=a_ (.str (T (P4.filter λc=>decide (c∈p))),d_):=by
  have e:∀l:List Nat,(l.map λc=>[c]).flatten=l:=λl=>by induction l with|nil=>rfl|cons a l ih=>rw[ah,sP,ih];rfl
  have e2:∀l:List Nat,((l.map λc=>[c]).map (·.length)).sum=l.length:=λl=>by induction l with|nil=>rfl|cons a l ih=>rw[ah,ah,qu,ih,aS,tF];rfl
  have:=tZ (ws:=(P4.filter λc=>decide (c∈p)).map λc=>[c]) (by rw[e2];have:=BX (λc=>decide (c∈p)) P4;rw[show P4.length=4 from rfl]at this;exact ae this bG);rw[e,br]at this;exact this
 have h3:=ne_T p [];have h4:=K5 p (P4.filter λc=>decide (c∈p));generalize (P4.filter λc=>decide (c∈p))=Q at h1 h2 h4 ⊢;generalize (Q.map λc=>Dat.str (T [c]))=W at h1 h2;generalize (Ex.comp 1 c_ [0] (.itv (.con (.str (T P4)))) [(.cmp .isin (.v 0) (.v 1))] (.v 0))=x at h1 ⊢;generalize decide (p=[])=a at h3 ⊢;generalize decide (p=Q)=b at h4 ⊢;generalize Dat.str (T p)=t at h1 h3 h4 ⊢;generalize Dat.str (T Q)=t2 at h2 h4;clear hl;cases a<;>walk_at "py"
def AX(f:Fm):Bool:=tH f.1 && (jc f.2.1 1 4 && oj f.2.2)
structure wF(f:Fm):Prop where
 l:f.1.length<=100
 c:f.2.1.length<=100
 p:f.2.2.length<=100
def uQ(h:wF f):Cn D (n+3) 9 [cU f]=a_ (.bl (AX f),d_):=by
 refine cn (d:=d9) rfl (dz (C:=Cn D (n+2)) (np:=1) (nl:=1) (body:=b9) rfl ?_);unfold b9 AX;obtain⟨l,cs,pl⟩:=f;obtain⟨h1,h2,h3⟩:=h;have e1:=zZ (n:=n+1) (l:=l) (by have:l.length<=100:=h1;exact ae this bG);have e2:=qC (n:=n) (cs:=cs) (lo:=1) (hi:=4) (by have:cs.length<=100:=h2;exact ae this bG);have e3:=Jf (n:=n+1) (p:=pl) (by have:pl.length<=100:=h3;exact ae this bG);dsimp only;generalize Cn D (n+2)=C at e1 e2 e3 ⊢;generalize tH l=a at e1 ⊢;generalize jc cs 1 4=b at e2 ⊢;generalize oj pl=c at e3 ⊢;unfold cU;dsimp only;unfold tI at e2;clear h1 h2 h3;have i0:∀a b c:Dat,nJ [a,b,c] 0=a_ a:=λ_ _ _=>rfl;have i1:∀a b c:Dat,nJ [a,b,c] 1=a_ b:=λ_ _ _=>rfl;have i2:∀a b c:Dat,nJ [a,b,c] 2=a_ c:=λ_ _ _=>rfl;cases a<;>cases b<;>walk_at "py"
inductive Pl:Nat->Dat->Prop
 |int {k:Nat} (i:Int):Pl k (.int i)
 |str {k:Nat} (x:a8):Pl k (.str x)
 |tup {k:Nat} {ds:List Dat} (h:∀d∈ds,Pl k d) (hl:ds.length<=1000):Pl (k+1) (.tup ds)
 |lst {k:Nat} {ds:List Dat} (h:∀d∈ds,Pl k d) (hl:ds.length<=1000):Pl (k+1) (.lst ds)
def tO(ds:List Dat):(kR ds ds).length=ds.length:=by rw[uB];exact P8 (aI _)
theorem mB:∀(k:Nat)(d:Dat),Pl k d->Cn D (n+k+1) 21 [d,d]=a_ (.bl c_,d_)
 |k,_,.int i=>by
   refine cn (d:=Xm) rfl (dz (C:=Cn D (n+k)) (np:=2) (nl:=2) (body:=PD) rfl ?_);unfold PD;walk_at "py"
 |k,_,.str x=>by
   refine cn (d:=Xm) rfl (dz (C:=Cn D (n+k)) (np:=2) (nl:=2) (body:=PD) rfl ?_);unfold PD;walk_at "py"
 |k+1,_,.tup (ds:=ds) h hl=>by
   refine cn (d:=Xm) rfl (dz (C:=Cn D (n+k+1)) (np:=2) (nl:=2) (body:=PD) rfl ?_)
   have h1:bg (Cn D (n+k+1)) (.comp 2 d_ [] (.zip [.v 0,.v 1]) [] (.call 21 [.v 0,.v 1])) [a_ (.tup ds),a_ (.tup ds)]=a_ (.lst (be ds.length (.bl c_)),c_):=by
    refine jK (items:=kR ds ds) rfl (by rw[tO];exact ae hl bG) ?_
    have:=AE (f:=kN (Cn D (n+k+1)) 2 d_ (fS 2 [] [a_ (.tup ds),a_ (.tup ds)]) [] (.call 21 [.v 0,.v 1])) (y:=.bl c_) (ds:=kR ds ds) rfl (λd hd=>by
     obtain⟨x,hx,rfl⟩:=uX hd;refine⟨d_,?_⟩;have r:=mB (n:=n) k x (h x hx);rw[xD]
     simp only[fS,qf,FP,ip,bV,dq,bZ,fL,cN,bC,qY,jJ,cz,cA,eR,aH,au,r])
    rw[this,tO]
   have h2:dG .all [.lst (be ds.length (.bl c_))]=a_ (.bl c_,d_):=by
    simp only[dG,M.b1,sG,mO,sE,sC,bL,Hf,sH,sD,qa,aH]
    congr 3
    simp
   unfold PD;clear h hl;generalize be ds.length (Dat.bl c_)=W at h1 h2;walk_at "py"
 |k+1,_,.lst (ds:=ds) h hl=>by
   refine cn (d:=Xm) rfl (dz (C:=Cn D (n+k+1)) (np:=2) (nl:=2) (body:=PD) rfl ?_)
   have h1:bg (Cn D (n+k+1)) (.comp 2 d_ [] (.zip [.v 0,.v 1]) [] (.call 21 [.v 0,.v 1])) [a_ (.lst ds),a_ (.lst ds)]=a_ (.lst (be ds.length (.bl c_)),c_):=by
    refine jK (items:=kR ds ds) rfl (by rw[tO];omega) ?_
    have:=AE (f:=kN (Cn D (n+k+1)) 2 d_ (fS 2 [] [a_ (.lst ds),a_ (.lst ds)]) [] (.call 21 [.v 0,.v 1])) (y:=.bl c_) (ds:=kR ds ds) rfl (λd hd=>by
     obtain⟨x,hx,rfl⟩:=uX hd;refine⟨d_,?_⟩;have r:=mB (n:=n) k x (h x hx);rw[xD]
     simp only[fS,qf,FP,ip,bV,dq,bZ,fL,cN,bC,qY,jJ,cz,cA,eR,aH,au,r])
    rw[this,tO]
   have h2:dG .all [.lst (be ds.length (.bl c_))]=a_ (.bl c_,d_):=by
    simp only[dG,M.b1,sG,mO,sE,sC,bL,Hf,sH,sD,qa,aH]
    congr 3
    simp
   unfold PD;clear h hl;generalize be ds.length (Dat.bl c_)=W at h1 h2;walk_at "py"
def Rs(C:Fs)(j:Nat)(ds:List Dat):Option (Nat×a8×Dat)->Prop
 |none=>∃fr,C j ds=a_ (.non,fr)
 |some (c,f,d)=>C j ds=b_/\C (j+o8) ds=a_ (.tup [.int c,.str f,d],d_)
def Ab{ds:List Dat}(hj:D[j]?=a_ d)(hl:ds.length=d.p)(h:bH (Cn D n) d.body (ds.map (λd=>a_ (d,d_))++be (d.n - d.p) b_)=a_ (.xc c f x))(hx:j<o8:=by decide):Rs (Cn D (n+1)) j ds (a_ (c,f,x)):=by
 refine⟨?_,?_⟩
 ·simp only[Cn,hj,if_pos hx];unfold GU;rw[if_pos hl,h];rfl
 ·simp only[Cn,HN,hj,if_neg (show¬j+o8<o8 by simp)];unfold KY;rw[if_pos hl,h];rfl
def Nl{ds:List Dat}(hj:D[j]?=a_ d)(hl:ds.length=d.p)(h:bH (Cn D n) d.body (ds.map (λd=>a_ (d,d_))++be (d.n - d.p) b_)=a_ (.nx ρ))(hx:j<o8:=by decide):Rs (Cn D (n+1)) j ds b_:=by
 refine⟨d_,?_⟩;simp only[Cn,hj,if_pos hx];unfold GU;rw[if_pos hl,h];rfl
def u7(hv:bg C (.v i) (sQ (kL [i] ρ))=a_ (.tup xs,d_)):gJ C (.loop d_ ts (.enu (.v i)) body) ρ=eE (dW d_ ts) (bH C body) (l6 0 xs) (kL [i] ρ):=by
 have h:sv C (.enu (.v i)) (sQ (kL [i] ρ))=a_ (l6 0 xs):=by
  show(bg C (.v i) (sQ (kL [i] ρ))).bind _=_;rw[hv];rfl
 show((sv C (.enu (.v i)) (sQ (kL [i] ρ))).map _).bind _=_;rw[h];rfl
def GK:List Sx:=[(.ifs (.not (.call 9 [(.v 2)])) [(.wL cF "number" (.v 1))] [])]
def UW(h:C 9 [cU f]=a_ (.bl (AX f),d_)):bH C GK [a_ (x,d_),a_ (.int (k:Nat),d_),a_ (cU f,d_)]=a_ (if AX f=c_ then .nx [a_ (x,d_),a_ (.int (k:Nat),d_),a_ (cU f,d_)]else .xc cF "number" (.int (k:Nat))):=by
 unfold GK;generalize cU f=d at h ⊢;cases e:AX f
 ·rw[e]at h;rw[if_neg (by simp)];show(gJ C (.ifs _ _ _) _).bind _=_;rw[gf (d:=.bl c_) (fr:=d_) (by walk_at "py") rfl];rfl
 ·rw[e]at h;rw[if_pos rfl];show(gJ C (.ifs _ _ _) _).bind _=_;rw[gh (d:=.bl d_) (fr:=d_) (by walk_at "py") rfl];rfl
def qb(f:Fm):Bool:=!AX f
noncomputable def xq(c:Nat)(f:a8)(ρ:cX)(k:Nat):Option Nat->Out
 |some j=>.xc c f (.int ((k+j:Nat)))
 |none=>.nx ρ
theorem J4(x:Dat):∀(fs:List Fm)(k:Nat)(z1 z2:g_),(∀f∈fs,C 9 [cU f]=a_ (.bl (AX f),d_))->∃z1' z2',eE (dW d_ [1,2]) (bH C GK) (l6 k (fs.map cU)) [a_ (x,d_),z1,z2]=a_ (xq cF "number" [a_ (x,d_),z1',z2'] k (fs.findIdx? qb))
 |[],k,z1,z2,_=>⟨z1,z2,rfl⟩
 |f::fs,k,z1,z2,h=>by
   obtain⟨y1,y2,hl⟩:=J4 x fs (k+1) (a_ (.int (k:Nat),d_)) (a_ (cU f,d_)) λg hg=>h g (jd _ hg);refine⟨y1,y2,?_⟩;have hbd:dW d_ [1,2] (.tup [.int (k:Nat),cU f]) [a_ (x,d_),z1,z2]=a_ [a_ (x,d_),a_ (.int (k:Nat),d_),a_ (cU f,d_)]:=rfl;have hb:=UW (x:=x) (k:=k) (h f iw);rw[ah];simp only[l6,eE,hbd,au,hb];cases e:AX f
   ·have e':qb f=c_:=by unfold qb;rw[e];rfl
    rw[jB,e'];rfl
   ·have e':qb f=d_:=by unfold qb;rw[e];rfl
    rw[jB,e'];simp only[if_true,wH,hl]
    cases q:fs.findIdx? qb with
    |none=>simp[xq]
    |some j=>simp[xq];omega
def lB(fs:List Fm):Option (Nat×a8×Dat):=if fs.length=0 then a_ (cF,"number",.int 0)else if 24<fs.length then a_ (cF,"number",.int 24)else(fs.findIdx? qb).map λj=>(cF,"number",.int (j:Nat))
def RV(h:∀f∈fs,wF f):Rs (Cn D (n+4)) 11 [.tup (fs.map cU)] (lB fs):=by
 obtain⟨z1,z2,hz⟩:=J4 (C:=Cn D (n+3)) (.tup (fs.map cU)) fs 0 b_ b_ λf hf=>uQ (h f hf)
 have hl':gJ (Cn D (n+3)) (.loop d_ [1,2] (.enu (.v 0)) GK) [a_ (.tup (fs.map cU),d_),b_,b_]=a_ (xq cF "number" [a_ (.tup (fs.map cU),d_),z1,z2] 0 (fs.findIdx? qb)):=by
  rw[u7 (xs:=fs.map cU) (by rw[jJ];rfl)];exact hz
 have el:dG .len [.tup (fs.map cU)]=a_ (.int (fs.length:Nat),d_):=by rw[nj,ag]
 have hb:LY=[LY[0],LY[1],.loop d_ [1,2] (.enu (.v 0)) GK]:=rfl;unfold lB;by_cases h0:fs.length=0
 ·rw[if_pos h0];refine Ab (d:=Xn) rfl rfl ?_;have e1:((fs.length:Int) == 0)=c_:=by rw[h0];rfl
  show bH _ LY [a_ (.tup (fs.map cU),d_),b_,b_]=_;unfold LY;generalize fs.map cU=FS at el ⊢;clear hz hl' hb h h0;refine(by show(gJ _ (.ifs _ _ _) _).bind _=_;rw[gf (d:=.bl c_) (fr:=d_) (by walk_at "py") rfl];rfl)
 ·rw[if_neg h0];have e1:((fs.length:Int) == 0)=d_:=beq_false_of_ne (by omega);by_cases h1:24<fs.length
  ·rw[if_pos h1];refine Ab (d:=Xn) rfl rfl ?_;have e2:decide ((24:Int)<(fs.length:Int))=c_:=decide_eq_true (jb.mpr h1);show bH _ LY [a_ (.tup (fs.map cU),d_),b_,b_]=_;unfold LY;generalize fs.map cU=FS at el ⊢;clear hz hl' hb h h0 h1;rw[bK (by rw[gh (d:=.bl d_) (fr:=d_) (by walk_at "py") rfl];rfl)];refine(by show(gJ _ (.ifs _ _ _) _).bind _=_;rw[gf (d:=.bl c_) (fr:=d_) (by walk_at "py") rfl];rfl)
  ·rw[if_neg h1];have e2:decide ((24:Int)<(fs.length:Int))=d_:=decide_eq_false (by omega)
   have run:bH (Cn D (n+3)) LY [a_ (.tup (fs.map cU),d_),b_,b_]=a_ (xq cF "number" [a_ (.tup (fs.map cU),d_),z1,z2] 0 (fs.findIdx? qb)):=by
    rw[hb];simp only[LY,List.getElem_cons_zero,BK];generalize fs.findIdx? qb=q at hl' ⊢;generalize GK=body at hl' ⊢;generalize fs.map cU=FS at hl' el ⊢;clear hb hz h h0 h1;rw[bK (by rw[gh (d:=.bl d_) (fr:=d_) (by walk_at "py") rfl];rfl),bK (by rw[gh (d:=.bl d_) (fr:=d_) (by walk_at "py") rfl];rfl)];show(gJ _ (.loop _ _ _ _) _).bind _=_;rw[hl'];cases q<;>rfl
   cases q:fs.findIdx? qb with
   |none=>rw[q]at run;exact Nl (d:=Xn) rfl rfl run
   |some j=>
     rw[q]at run;have:=Ab (j:=11) (ds:=[.tup (fs.map cU)]) (d:=Xn) rfl rfl run;rw[jV]at this;exact this
abbrev sT(l:List Nat):Dat:=.str (T l)
abbrev X3(i:Int):N2:=.inl (.inl i)
def nk(f:Fm):List NK:=[.inl (.inr (T f.1)),.inr (f.2.1.map X3)]
theorem uW:∀cs:List Int,Vn (cs.map Dat.int)=a_ (cs.map X3)
 |[]=>rfl
 |c::r=>by simp only[ah,Vn,YW,uW r,au,aH]
def As(f:Fm):Au (.tup [sT f.1,tI f.2.1])=a_ (nk f):=by
 simp only[Au,WE,YU,uW,aH,au,nk]
def OI{a b:List Int}(e:a.map X3=b.map X3):a=b:=(List.map_inj_right (λx y z=>sL (sL z))).mp e
def JU(h:nk f=nk g):ent f=ent g:=by
 simp only[nk,i6,Sum.inl.injEq,Sum.inr.injEq,and_true]at h;exact P6 (Fw h.1) (OI h.2)
def kd(pre:List Fm):Dat:=match pre with
 |[]=>.dct [] []
 |_=>.dcn (pre.map nk)
def M0{pre:List Fm}(h:ent f∉pre.map ent):cx .isin (.tup [sT f.1,tI f.2.1]) (kd pre)=a_ d_:=by
 cases pre with
 |nil=>
   show(if c_=c_ then(Au (.tup [sT f.1,tI f.2.1])).map λ_=>d_ else b_)=_;rw[As];rfl
 |cons a r=>
   show(Au (.tup [sT f.1,tI f.2.1])).map (λk=>decide (k∈(a::r).map nk))=_;rw[As];refine congrArg a_ (decide_eq_false λm=>?_);obtain⟨g,hg,e⟩:=bb.mp m;exact h (bb.mpr ⟨g,hg,JU e⟩)
def IS{pre:List Fm}(h:ent f∉pre.map ent)(hl:pre.length<1000):lz .dput (kd pre) [.bl c_,.tup [sT f.1,tI f.2.1]]=a_ (kd (pre++[f])):=by
 cases pre with
 |nil=>
   show(if c_=c_ then(Au (.tup [sT f.1,tI f.2.1])).map λk=>Dat.dcn [k]else b_)=_;rw[As];rfl
 |cons a r=>
   show(Au (.tup [sT f.1,tI f.2.1])).bind (λk=>if((a::r).map nk).length<aD/\k∉(a::r).map nk then a_ (Dat.dcn ((a::r).map nk++[k]))else b_)=_
   have hk:nk f∉(a::r).map nk:=λm=>by
    obtain⟨g,hg,e⟩:=bb.mp m;exact h (bb.mpr ⟨g,hg,JU e⟩)
   rw[As,au,if_pos ⟨by rw[ag,bu];exact ae hl bG,hk⟩];simp[kd]
def IQ{pre:List Fm}(h:ent f∈pre.map ent):cx .isin (.tup [sT f.1,tI f.2.1]) (kd pre)=a_ c_:=by
 cases pre with
 |nil=>cases h
 |cons a r=>
   show(Au (.tup [sT f.1,tI f.2.1])).map (λk=>decide (k∈(a::r).map nk))=_;rw[As];refine congrArg a_ (decide_eq_true ?_);obtain⟨g,hg,e⟩:=bb.mp h;refine bb.mpr ⟨g,hg,?_⟩;have e1:=congrArg Prod.fst e;have e2:=congrArg Prod.snd e;unfold ent at e1 e2;dsimp only at e1 e2;unfold nk;rw[e1,e2]
def FT:List Fm->List Fm->Option Nat
 |_,[]=>b_
 |pre,f::r=>if ent f∈pre.map ent then a_ 0 else(FT (pre++[f]) r).map (·+ 1)
def vd:List Sx:=[(.set 4 (.tup [(.ix (.v 3) (.e_ 0)),(.ix (.v 3) (.e_ 1))])),(.ifs (.cmp .isin (.v 4) (.v 1)) [(.wL cT "number" (.v 2))] []),(.mut .dput 1 [(.con (.bl c_)),(.v 4)])]
theorem J3(s0:Dat):∀(fs pre:List Fm)(k:Nat)(z2 z3 z4:g_),(pre++fs).length<1000->∃ρ,eE (dW d_ [2,3]) (bH C vd) (l6 k (fs.map cU)) [a_ (s0,d_),a_ (kd pre,c_),z2,z3,z4]=a_ (xq cT "number" ρ k (FT pre fs))
 |[],pre,k,z2,z3,z4,_=>⟨_,rfl⟩
 |f::fs,pre,k,z2,z3,z4,hl=>by
   have e1:pre++f::fs=(pre++[f])++fs:=by simp
   obtain⟨ρ,hr⟩:=J3 (C:=C) s0 fs (pre++[f]) (k+1) (a_ (.int (k:Nat),d_)) (a_ (cU f,d_)) (a_ (.tup [sT f.1,tI f.2.1],d_)) (by rw[<-e1];exact hl);refine⟨ρ,?_⟩;have hbd:dW d_ [2,3] (.tup [.int (k:Nat),cU f]) [a_ (s0,d_),a_ (kd pre,c_),z2,z3,z4]=a_ [a_ (s0,d_),a_ (kd pre,c_),a_ (.int (k:Nat),d_),a_ (cU f,d_),z4]:=rfl;have i0:nJ [Dat.str (T f.1),tI f.2.1,.str (T f.2.2)] 0=a_ (.str (T f.1)):=rfl;have i1:nJ [Dat.str (T f.1),tI f.2.1,.str (T f.2.2)] 1=a_ (tI f.2.1):=rfl
   have him:im (.tup [sT f.1,tI f.2.1])=c_:=by
    show(c_ && (jT (f.2.1.map Dat.int) && c_))=c_;rw[df];rfl
   rw[ah];simp only[l6,eE,hbd,au];by_cases hno:ent f∈pre.map ent
   ·have q1:=IQ hno
    have hb:bH C vd [a_ (s0,d_),a_ (kd pre,c_),a_ (.int (k:Nat),d_),a_ (.tup [Dat.str (T f.1),tI f.2.1,.str (T f.2.2)],d_),z4]=a_ (.xc cT "number" (.int (k:Nat))):=by
     unfold vd;generalize kd pre=S1 at q1 ⊢;generalize tI f.2.1=tc at q1 i0 i1 him ⊢;clear hr hbd hno e1 hl;rw[bK (ρ1:=[a_ (s0,d_),a_ (S1,c_),a_ (.int (k:Nat),d_),a_ (.tup [Dat.str (T f.1),tc,.str (T f.2.2)],d_),a_ (.tup [sT f.1,tc],d_)]) (by walk_at "py")];show(gJ _ (.ifs _ _ _) _).bind _=_;rw[gf (d:=.bl c_) (fr:=d_) (by walk_at "py") rfl];rfl
    rw[show bH C vd [a_ (s0,d_),a_ (kd pre,c_),a_ (.int (k:Nat),d_),a_ (cU f,d_),z4]=_ from hb];simp only[FT,if_pos hno];rfl
   ·have q1:=M0 hno;have q2:=IS hno (by rw[cg]at hl;exact aN (bO _ _) hl)
    have hb:bH C vd [a_ (s0,d_),a_ (kd pre,c_),a_ (.int (k:Nat),d_),a_ (.tup [Dat.str (T f.1),tI f.2.1,.str (T f.2.2)],d_),z4]=a_ (.nx [a_ (s0,d_),a_ (kd (pre++[f]),c_),a_ (.int (k:Nat),d_),a_ (.tup [Dat.str (T f.1),tI f.2.1,.str (T f.2.2)],d_),a_ (.tup [sT f.1,tI f.2.1],d_)]):=by
     unfold vd;generalize kd (pre++[f])=S2 at q2 ⊢;generalize kd pre=S1 at q1 q2 ⊢;generalize tI f.2.1=tc at q1 q2 i0 i1 him ⊢;clear hr hbd hno e1 hl;walk_at "py"
    rw[show bH C vd [a_ (s0,d_),a_ (kd pre,c_),a_ (.int (k:Nat),d_),a_ (cU f,d_),z4]=_ from hb];simp only[au,wH,FT,if_neg hno];rw[show eE (dW d_ [2,3]) (bH C vd) (l6 (k+1) (fs.map cU)) [a_ (s0,d_),a_ (kd (pre++[f]),c_),a_ (.int (k:Nat),d_),a_ (.tup [Dat.str (T f.1),tI f.2.1,.str (T f.2.2)],d_),a_ (.tup [sT f.1,tI f.2.1],d_)]=_ from hr]
    cases q:FT (pre++[f]) fs with
    |none=>simp[xq]
    |some j=>simp[xq];omega
def p8(fs:List Fm):Option (Nat×a8×Dat):=(FT [] fs).map λj=>(cT,"number",.int (j:Nat))
def RQ{fs:List Fm}(hl:fs.length<=100):Rs (Cn D (n+1)) 12 [.tup (fs.map cU)] (p8 fs):=by
 obtain⟨ρ,hz⟩:=J3 (C:=Cn D n) (.tup (fs.map cU)) fs [] 0 b_ b_ b_ (by simp;exact aN hl bG);have hb:ZO=[.set 1 .zb,.loop d_ [2,3] (.enu (.v 0)) vd]:=rfl
 have hl':gJ (Cn D n) (.loop d_ [2,3] (.enu (.v 0)) vd) [a_ (.tup (fs.map cU),d_),a_ (.dct [] [],c_),b_,b_,b_]=a_ (xq cT "number" ρ 0 (FT [] fs)):=by
  rw[u7 (xs:=fs.map cU) (by rw[jJ];rfl)];exact hz
 have him:im (.dct [] [])=d_:=rfl
 have run:bH (Cn D n) ZO [a_ (.tup (fs.map cU),d_),b_,b_,b_,b_]=a_ (xq cT "number" ρ 0 (FT [] fs)):=by
  rw[hb];generalize FT [] fs=q at hl' ⊢;generalize vd=body at hl' ⊢;generalize fs.map cU=FS at hl' ⊢;clear hb hz hl;rw[bK (ρ1:=[a_ (.tup FS,d_),a_ (.dct [] [],c_),b_,b_,b_]) (by walk_at "py")];show(gJ _ (.loop _ _ _ _) _).bind _=_;rw[hl'];cases q<;>rfl
 unfold p8
 cases q:FT [] fs with
 |none=>rw[q]at run;exact Nl (d:=Zw) rfl rfl run
 |some j=>
   rw[q]at run;have:=Ab (j:=12) (ds:=[.tup (fs.map cU)]) (d:=Zw) rfl rfl run;rw[jV]at this;exact this
def S10:aa "0123456789"=T [48,49,50,51,52,53,54,55,56,57]:=by decide +kernel
def ne_nil(cs:List Int):cx .ne (tI cs) (.tup [])=a_ (!decide (cs=[])):=by
 unfold tI;rw[YV (pM 19 _) rfl];cases cs<;>simp[l5]
def eq_nil(cs:List Int):cx .eq (tI cs) (.tup [])=a_ (decide (cs=[])):=by
 unfold tI;rw[Zj (pM 19 _) rfl];cases cs<;>simp[l5]
def xo(ρ:cX):Option Nat->Out
 |some j=>.xc cM "number" (.int (j:Nat))
 |none=>.nx ρ
def pb(m:List Int):Bool:=!jc m 0 2
def AN:List Sx:=[(.ifs (.not (.call 6 [(.v 3),(.e_ 0),(.e_ 2)])) [(.wL cM "number" (.v 2))] [])]
theorem EG(s0 s1:Dat):∀(ms:List (List Int))(k:Nat)(z2 z3:g_),(∀m∈ms,C 6 [tI m,.int 0,.int 2]=a_ (.bl (jc m 0 2),d_))->∃z2' z3',eE (dW d_ [2,3]) (bH C AN) (l6 k (ms.map tI)) [a_ (s0,d_),a_ (s1,d_),z2,z3]=a_ (xo [a_ (s0,d_),a_ (s1,d_),z2',z3'] ((ms.findIdx? pb).map (k + ·)))
 |[],k,z2,z3,_=>⟨z2,z3,rfl⟩
 |m::ms,k,z2,z3,h=>by
   obtain⟨y2,y3,hl⟩:=EG s0 s1 ms (k+1) (a_ (.int (k:Nat),d_)) (a_ (tI m,d_)) λg hg=>h g (jd _ hg);refine⟨y2,y3,?_⟩;have hbd:dW d_ [2,3] (.tup [.int (k:Nat),tI m]) [a_ (s0,d_),a_ (s1,d_),z2,z3]=a_ [a_ (s0,d_),a_ (s1,d_),a_ (.int (k:Nat),d_),a_ (tI m,d_)]:=rfl;have r:=h m iw
   have hb:bH C AN [a_ (s0,d_),a_ (s1,d_),a_ (.int (k:Nat),d_),a_ (tI m,d_)]=a_ (if jc m 0 2=c_ then .nx [a_ (s0,d_),a_ (s1,d_),a_ (.int (k:Nat),d_),a_ (tI m,d_)]else .xc cM "number" (.int (k:Nat))):=by
    unfold AN;generalize tI m=tm at r ⊢;clear hl hbd h;cases e:jc m 0 2
    ·rw[e]at r;rw[if_neg (by simp)];show(gJ C (.ifs _ _ _) _).bind _=_;rw[gf (d:=.bl c_) (fr:=d_) (by walk_at "py") rfl];rfl
    ·rw[e]at r;rw[if_pos rfl];show(gJ C (.ifs _ _ _) _).bind _=_;rw[gh (d:=.bl d_) (fr:=d_) (by walk_at "py") rfl];rfl
   rw[ah];simp only[l6,eE,hbd,au,hb];cases e:jc m 0 2
   ·have e':pb m=c_:=by unfold pb;rw[e];rfl
    rw[jB,e'];rfl
   ·have e':pb m=d_:=by unfold pb;rw[e];rfl
    rw[jB,e'];simp only[if_true,wH,hl]
    cases q:ms.findIdx? pb with
    |none=>simp[xo]
    |some j=>simp[xo];omega
def EK:List Sx:=[(.ifs (.cmp .ne (.cmp .eq (.ix (.v 0) (.v 2)) (.tup [])) (.cmp .eq (.v 1) (.tup []))) [(.wL cM "number" (.v 2))] [])]
noncomputable def qJ(m fg:List Int):Bool:=decide (m=[]) != decide (fg=[])
def Fn(z3:g_)(hk:([m0,m1,m2,m3]:List (List Int))[k]?=a_ m) :
  bH C EK [a_ (.tup [tI m0,tI m1,tI m2,tI m3],d_),a_ (tI fg,d_),a_ (.int (k:Nat),d_),z3]=a_ (xo [a_ (.tup [tI m0,tI m1,tI m2,tI m3],d_),a_ (tI fg,d_),a_ (.int (k:Nat),d_),z3] (if qJ m fg=c_ then a_ k else b_)):=by
 have i1:nJ [tI m0,tI m1,tI m2,tI m3] (k:Int)=a_ (tI m):=by
  refine gu ?_;show(([m0,m1,m2,m3]:List (List Int)).map tI)[k]?=_;rw[aY,hk];rfl
 have e1:=eq_nil m;have e2:=eq_nil fg;unfold EK qJ;generalize decide (fg=[])=b at e2 ⊢;generalize decide (m=[])=a at e1 ⊢;generalize tI m=tm at i1 e1;generalize tI fg=tf at e2 ⊢;generalize [tI m0,tI m1,tI m2,tI m3]=MS at i1 ⊢;clear hk;show(gJ C (.ifs _ _ _) _).bind _=_;cases a<;>cases b
 ·rw[gh (d:=.bl d_) (fr:=d_) (by walk_at "py"<;>rfl) rfl];rfl
 ·rw[gf (d:=.bl c_) (fr:=d_) (by walk_at "py"<;>rfl) rfl];rfl
 ·rw[gf (d:=.bl c_) (fr:=d_) (by walk_at "py"<;>rfl) rfl];rfl
 ·rw[gh (d:=.bl d_) (fr:=d_) (by walk_at "py"<;>rfl) rfl];rfl
def Vu(m0 m1 m2 m3 fg:List Int):Option Nat:=match [m0,m1,m2,m3].findIdx? pb with
 |some j=>a_ j
 |none=>if jc fg 0 10=d_ then a_ 4 else if(decide (m1=[])=d_/\decide (m0=[])=c_)then a_ 1 else if qJ m2 fg=c_ then a_ 2 else if qJ m3 fg=c_ then a_ 3 else b_
def p9(m0 m1 m2 m3 fg:List Int):Option (Nat×a8×Dat):=(Vu m0 m1 m2 m3 fg).map λj=>(cM,"number",.int (j:Nat))
def sq(C:Fs)(ss:List Sx)(ρ:cX):Option Nat->Option Out
 |some j=>a_ (.xc cM "number" (.int (j:Nat)))
 |none=>bH C ss ρ
def ym(h:gJ C s ρ=a_ (xo ρ1 q)):bH C (s::ss) ρ=sq C ss ρ1 q:=by
 show(gJ C s ρ).bind _=_;rw[h];cases q<;>rfl
def RO(h:∀m∈[m0,m1,m2,m3,fg],m.length<=1000):∃ρ,bH (Cn D (n+2)) U2 [a_ (.tup [tI m0,tI m1,tI m2,tI m3],d_),a_ (tI fg,d_),b_,b_]=a_ (xo ρ (Vu m0 m1 m2 m3 fg)):=by
 obtain⟨z2,z3,hz⟩:=EG (C:=Cn D (n+2)) (.tup [tI m0,tI m1,tI m2,tI m3]) (tI fg) [m0,m1,m2,m3] 0 b_ b_ (λm hm=>qC (h m (by simp only[aq,aX,or_false]at hm ⊢;rcases hm with rfl|rfl|rfl|rfl<;>simp)));have hb:U2=[.loop d_ [2,3] (.enu (.v 0)) AN,U2[1],U2[2],.loop c_ [2] (.itv (.tup [.e_ 2,.e_ 3])) EK]:=rfl;rw[hb]
 have l1:gJ (Cn D (n+2)) (.loop d_ [2,3] (.enu (.v 0)) AN) [a_ (.tup [tI m0,tI m1,tI m2,tI m3],d_),a_ (tI fg,d_),b_,b_]=a_ (xo [a_ (.tup [tI m0,tI m1,tI m2,tI m3],d_),a_ (tI fg,d_),z2,z3] (([m0,m1,m2,m3].findIdx? pb).map (0 + ·))):=by
  rw[u7 (xs:=[tI m0,tI m1,tI m2,tI m3]) (by rw[jJ];rfl)];exact hz
 have r:=qC (n:=n) (cs:=fg) (lo:=0) (hi:=10) (h fg (by simp));have h10:dG .len [.str (T [48,49,50,51,52,53,54,55,56,57])]=a_ (.int 10,d_):=len_T (l:=[48,49,50,51,52,53,54,55,56,57]) (by simp)
 have l2:gJ (Cn D (n+2)) U2[1] [a_ (.tup [tI m0,tI m1,tI m2,tI m3],d_),a_ (tI fg,d_),z2,z3]=a_ (xo [a_ (.tup [tI m0,tI m1,tI m2,tI m3],d_),a_ (tI fg,d_),z2,z3] (if jc fg 0 10=d_ then a_ 4 else b_)):=by
  show gJ (Cn D (n+2)) (.ifs (.not (.call 6 [.v 1,.e_ 0,.blt .len [.f_ "0123456789"]])) [(.wL cM "number" (.e_ 4))] []) _=_;rw[S10];generalize Cn D (n+2)=C at r ⊢;generalize jc fg 0 10=a at r ⊢;generalize tI fg=tf at r ⊢;clear hb hz l1 h;cases a
  ·rw[gf (d:=.bl c_) (fr:=d_) (by walk_at "py") rfl];rfl
  ·rw[gh (d:=.bl d_) (fr:=d_) (by walk_at "py") rfl];rfl
 have l3:gJ (Cn D (n+2)) U2[2] [a_ (.tup [tI m0,tI m1,tI m2,tI m3],d_),a_ (tI fg,d_),z2,z3]=a_ (xo [a_ (.tup [tI m0,tI m1,tI m2,tI m3],d_),a_ (tI fg,d_),z2,z3] (if(decide (m1=[])=d_/\decide (m0=[])=c_)then a_ 1 else b_)):=by
  show gJ (Cn D (n+2)) (.ifs (.and (.cmp .ne (.ix (.v 0) (.e_ 1)) (.tup [])) (.cmp .eq (.ix (.v 0) (.e_ 0)) (.tup []))) [(.wL cM "number" (.e_ 1))] []) _=_;have e1:=ne_nil m1;have e2:=eq_nil m0;have i0:nJ [tI m0,tI m1,tI m2,tI m3] 0=a_ (tI m0):=rfl;have i1:nJ [tI m0,tI m1,tI m2,tI m3] 1=a_ (tI m1):=rfl;generalize decide (m1=[])=a at e1 ⊢;generalize decide (m0=[])=b at e2 ⊢;generalize [tI m0,tI m1,tI m2,tI m3]=MS at i0 i1 ⊢;generalize tI m1=t1 at e1 i1 ⊢;generalize tI m0=t0 at e2 i0 ⊢;generalize Cn D (n+2)=C;clear hb hz l1 l2 h r;cases a<;>cases b
  ·rw[gh (d:=.bl d_) (fr:=d_) (by walk_at "py") rfl];rfl
  ·rw[gf (d:=.bl c_) (fr:=d_) (by walk_at "py") rfl];rfl
  ·rw[gh (d:=.bl d_) (fr:=d_) (by walk_at "py") rfl];rfl
  ·rw[gh (d:=.bl d_) (fr:=d_) (by walk_at "py") rfl];rfl
 have c2:=Fn (C:=Cn D (n+2)) (m0:=m0) (m1:=m1) (m2:=m2) (m3:=m3) (fg:=fg) (k:=2) (m:=m2) z3 rfl;have c3:=Fn (C:=Cn D (n+2)) (m0:=m0) (m1:=m1) (m2:=m2) (m3:=m3) (fg:=fg) (k:=3) (m:=m3) z3 rfl
 have l4:∃ρ,gJ (Cn D (n+2)) (.loop c_ [2] (.itv (.tup [.e_ 2,.e_ 3])) EK) [a_ (.tup [tI m0,tI m1,tI m2,tI m3],d_),a_ (tI fg,d_),z2,z3]=a_ (xo ρ (if qJ m2 fg=c_ then a_ 2 else if qJ m3 fg=c_ then a_ 3 else b_)):=by
  rw[lj]
  have he:bg (Cn D (n+2)) (.tup [.e_ 2,.e_ 3]) (full [a_ (.tup [tI m0,tI m1,tI m2,tI m3],d_),a_ (tI fg,d_),z2,z3])=a_ (.tup [.int (2:Nat),.int (3:Nat)],c_):=by
   simp only[su,fH,uc,iX,au,aH,Kn,dQ,eY,aS,kY,zJ,uw,if_true];rfl
  rw[he];simp only[au,AU,dQ,if_true,eE,dW,fL,bZ,c2];cases e2:qJ m2 fg
  ·simp only[bf,if_false,xo,wH,au,fL,bZ,c3];cases e3:qJ m3 fg
   ·exact⟨_,rfl⟩
   ·exact⟨[],rfl⟩
  ·exact⟨[],rfl⟩
 obtain⟨ρ,l4⟩:=l4;refine⟨ρ,?_⟩;unfold Vu;rw[ym l1]
 cases [m0,m1,m2,m3].findIdx? pb with
 |some j=>simp[xo,sq]
 |none=>
   simp only[Option.map_none,sq];rw[ym l2];by_cases a:jc fg 0 10=d_
   ·rw[if_pos a,if_pos a];rfl
   ·rw[if_neg a,if_neg a];simp only[sq];rw[ym l3];by_cases b:(decide (m1=[])=d_/\decide (m0=[])=c_)
    ·rw[if_pos b,if_pos b];rfl
    ·rw[if_neg b,if_neg b];simp only[sq];rw[ym l4];cases(if qJ m2 fg=c_ then a_ 2 else if qJ m3 fg=c_ then a_ 3 else b_:Option Nat)<;>rfl
def RT(h:∀m∈[m0,m1,m2,m3,fg],m.length<=1000):Rs (Cn D (n+3)) 13 [.tup [tI m0,tI m1,tI m2,tI m3],tI fg] (p9 m0 m1 m2 m3 fg):=by
 obtain⟨ρ,run⟩:=RO (n:=n) h;unfold p9
 cases q:Vu m0 m1 m2 m3 fg with
 |none=>rw[q]at run;exact Nl (d:=Zv) rfl rfl run
 |some j=>rw[q]at run;exact Ab (d:=Zv) rfl rfl run
structure Ky(f:Fm):Prop where
 low:∀c∈f.1,c∈iP
 ll:f.1.length<=6
def Kx(h:AX f=c_):Ky f:=by
 unfold AX at h;obtain⟨h1,_⟩:=bY.mp h;unfold tH at h1;simp only[af,decide_eq_true_eq,aC]at h1;exact⟨h1.2.2,by omega⟩
def ltN(a b:Nat):Bool:=decide (a<b)
def WM:M.LO ltN:=⟨λx=>by simp[ltN],λx y z h h'=>by simp[ltN]at *;exact iu h h',λx y h h'=>by simp[ltN]at *;exact fV h' h⟩
def lt1(a b:Nat):t7 (T [a]) (T [b])=ltN a b:=by
 show decide ([a] < [b])=decide (a<b);refine decide_eq_decide.mpr ⟨λh=>?_,λh=>?_⟩
 ·cases h with
  |rel h=>exact h
  |cons h=>cases h
 ·exact List.Lex.rel h
theorem A2{α β:Type}{lt:α->α->Bool}{lt':β->β->Bool}{g:α->β}(h:∀a b,lt' (g a) (g b)=lt a b)(x:α):∀l:List α,qR lt' (g x) (l.map g)=(qR lt x l).map g
 |[]=>rfl
 |y::ys=>by
   simp only[ah,qR,h];split
   ·rfl
   ·split
    ·rw[A2 h x ys];rfl
    ·rfl
theorem wD{α β:Type}{lt:α->α->Bool}{lt':β->β->Bool}{g:α->β}(h:∀a b,lt' (g a) (g b)=lt a b):∀l:List α,eN lt' (l.map g)=(eN lt l).map g
 |[]=>rfl
 |x::l=>by simp only[ah,eN,wD h l,A2 h]
abbrev c1(l:List Nat):List Dat:=l.map λc=>Dat.str (T [c])
def IG{l:List Nat}(h:l.length<4000)(hu:(eN ltN l).length<64):dG .sset [.str (T l)]=a_ (.lst (c1 (eN ltN l)),c_):=by
 show wK (lY (T l))=_;rw[MN];unfold wK;rw[wD (lt:=ltN) lt1,if_pos ⟨by rw[ag];omega,by rw[ag];exact hu⟩,br];rfl
def Xz(l:List Nat):c1 l=(l.map λc=>[c]).map λl=>Dat.str (T l):=by rw[br];rfl
def join_1{l:List Nat}(h:l.length<=1000):gZ .join (.str (T [])) [.lst (c1 l)]=a_ (.str (T l),d_):=by
 have:=tZ (ws:=l.map λc=>[c]) (by rw[VV];exact ae h bG);rw[Qz,<-Xz]at this;exact this
def lets(fs:List Fm):List Nat:=(fs.map (·.1)).flatten
def U(fs:List Fm):List Nat:=eN ltN (lets fs)
def va{fs:List Fm}(h:fs.length<=100)(ho:∀f∈fs,Ky f):(lets fs).length<=6 * fs.length:=by
 clear h
 induction fs with
 |nil=>simp[lets]
 |cons f r ih=>
   have a:=ih λg m=>ho g (jd _ m);have b:=(ho f iw).ll;simp only[lets,ah,sP,cg,aS]at a ⊢;omega
def QS(ho:∀f∈fs,Ky f):∀c∈U fs,c∈iP:=λc hc=>by
 rw[U,lh WM]at hc;obtain⟨l,h1,h2⟩:=List.mem_flatten.mp hc;obtain⟨f,h3,rfl⟩:=bb.mp h1;exact(ho f h3).low c h2
def QT(ho:∀f∈fs,Ky f):(U fs).length<=26:=by
 have hn:(U fs).Nodup:=mE WM (jH WM _);have hl:(iP.filter λc=>decide (c∈U fs)).Nodup:=zB qg bG
 have hp:(U fs).Perm (iP.filter λc=>decide (c∈U fs)):=by
  rw[fM hn hl];intro c;rw[jw];simp only[decide_eq_true_eq];exact⟨λh=>⟨QS ho c h,h⟩,λh=>h.2⟩
 rw[hp.length_eq];exact ae (BX _ _) bG
def xC{fs:List Fm}(hi:sv C it ρ=a_ (fs.map cU))(h:fs.length<=100):bg C (.comp 1 c_ [] it [] (.ix (.v 0) (.e_ 0))) ρ=a_ (.lst ((fs.map (·.1)).map λl=>.str (T l)),c_):=by
 refine jK (items:=fs.map cU) hi (by rw[ag];exact ae h bG) ?_;have:=t6 (f:=kN C 1 c_ (fS 1 [] ρ) [] (.ix (.v 0) (.e_ 0))) (g:=λd=>match d with | .tup (a::_)=>a|_=>.non) (ds:=fs.map cU) ?_ ?_
 ·rw[this,br,br];rfl
 ·intro d hd';obtain⟨g,hg,rfl⟩:=bb.mp hd';refine⟨d_,?_⟩;rw[mK];simp only[fS,jA,ip,bV,dq,bZ,nH,iX,jJ,cz,eR,aH,au,EN];rfl
 ·intro d hd';obtain⟨g,hg,rfl⟩:=bb.mp hd';rfl
def w6{fs:List Fm}(h:fs.length<=100)(ho:∀f∈fs,Ky f):gZ .join (.str (T [])) [.lst ((fs.map (·.1)).map λl=>.str (T l))]=a_ (.str (T (lets fs)),d_):=by
 refine tZ (ws:=fs.map (·.1)) ?_
 have e:((fs.map (·.1)).map (·.length)).sum=(lets fs).length:=by
  unfold lets;rw[List.length_flatten]
 rw[e];have:=va h ho;omega
def Gg{fs:List Fm}(h:fs.length<=100)(ho:∀f∈fs,Ky f):Cn D (n+1) 10 [.tup (fs.map cU)]=a_ (.str (T (U fs)),d_):=by
 refine cn (d:=d10) rfl (dz (C:=Cn D n) (np:=1) (nl:=1) (body:=ZP) rfl ?_);unfold ZP;rw[Z7];have h1:=xC (C:=Cn D n) (fs:=fs) (ρ:=[a_ (.tup (fs.map cU))]) (it:=.itv (.v 0)) rfl h;have h2:=w6 h ho;have hul:=QT ho;unfold U at hul;have h3:=IG (l:=lets fs) (by have:=va h ho;omega) (aN hul bG);have h4:=join_1 (l:=eN ltN (lets fs)) (ae hul bG);show _=a_ (Out.rt (.str (T (eN ltN (lets fs)))) d_);walk_at "py"
def alone(fs:List Fm):List (List Nat):=(fs.filter λf=>decide (f.2.2=BB)).map (·.1)
theorem qA(k:Nat):∀ws:List (List Nat),dI k (ws.map sT)=c_
 |[]=>by simp[dI]
 |a::r=>by rw[ah];simp only[dI,eO,qA k r,qw]
def JV(c:List Nat)(ws:List (List Nat)):cx .nin (sT c) (.lst (ws.map sT))=a_ (!decide (c∈ws)):=by
 refine(if_pos (by rw[qA];rfl)).trans ?_
 congr 2
 induction ws with
 |nil=>rfl
 |cons a r ih=>
   rw[ah,eF,ih];show((T a == T c) || _)=_;rw[Bz];by_cases h:a=c
   ·simp[h]
   ·have h':¬c=a:=λz=>h z.symm;simp[h,h']
def XF(ho:∀f∈fs,Ky f):U fs=iP.filter λc=>decide (c∈lets fs):=by
 refine(HY WM (zB qg bG) ?_ λz=>?_).symm
 ·refine List.Pairwise.sublist qg ?_;decide
 ·rw[jw];simp only[decide_eq_true_eq];refine⟨λh=>h.2,λh=>⟨?_,h⟩⟩;exact QS ho z (by rw[U,lh WM];exact h)
def xl(ρ:cX):Option Nat->Out
 |some c=>.xc cL "letter" (sT [c])
 |none=>.nx ρ
def GJ:List Sx:=[(.ifs (.cmp .nin (.v 2) (.v 1)) [(.wL cL "letter" (.v 2))] [])]
theorem J2(s0:Dat)(A:List (List Nat)):∀(us:List Nat)(z2:g_),∃z2',eE (dW c_ [2]) (bH C GJ) (us.map λc=>Dat.str (T [c])) [a_ (s0,d_),a_ (.lst (A.map sT),c_),z2]=a_ (xl [a_ (s0,d_),a_ (.lst (A.map sT),c_),z2'] (us.find? λc=>!decide ([c]∈A)))
 |[],z2=>⟨z2,rfl⟩
 |c::us,z2=>by
   have q:=JV [c] A;obtain⟨y2,hr⟩:=J2 (C:=C) s0 A us (a_ (sT [c],d_));refine⟨y2,?_⟩
   have hb:bH C GJ [a_ (s0,d_),a_ (.lst (A.map sT),c_),a_ (sT [c],d_)]=a_ (if(!decide ([c]∈A))=c_ then .xc cL "letter" (sT [c])else .nx [a_ (s0,d_),a_ (.lst (A.map sT),c_),a_ (sT [c],d_)]):=by
    unfold GJ;generalize (!decide ([c]∈A))=b at q ⊢;generalize A.map sT=AA at q ⊢;clear hr;show(gJ C (.ifs _ _ _) _).bind _=_;cases b
    ·rw[gh (d:=.bl d_) (fr:=d_) (by walk_at "py") rfl];rfl
    ·rw[gf (d:=.bl c_) (fr:=d_) (by walk_at "py") rfl];rfl
   rw[ah];simp only[eE,dW,fL,bZ,au,hb];rw[du];cases e:(!decide ([c]∈A))
   ·simp only[bf,if_false,au,wH,hr]
   ·rfl
def JT(fs:List Fm)(c:Nat):Bool:=decide (c∈lets fs) && !decide ([c]∈alone fs)
def xG(fs:List Fm):Option (Nat×a8×Dat):=(iP.find? (JT fs)).map λc=>(cL,"letter",sT [c])
def RU{fs:List Fm}(h:fs.length<=100)(ho:∀f∈fs,Ky f):Rs (Cn D (n+2)) 14 [.tup (fs.map cU)] (xG fs):=by
 have hc:bg (Cn D (n+1)) (.comp 1 c_ [] (.itv (.v 0)) [.cmp .eq (.ix (.v 0) (.e_ 2)) (.con (.str (T BB)))] (.ix (.v 0) (.e_ 0))) [a_ (.tup (fs.map cU)),b_,b_]=a_ (.lst ((alone fs).map sT),c_):=by
  refine jK (items:=fs.map cU) rfl (by rw[ag];omega) ?_;have:=AD (f:=kN (Cn D (n+1)) 1 c_ (fS 1 [] [a_ (.tup (fs.map cU)),b_,b_]) [.cmp .eq (.ix (.v 0) (.e_ 2)) (.con (.str (T BB)))] (.ix (.v 0) (.e_ 0))) (g:=λd=>match d with | .tup (a::_)=>a|_=>.non) (p:=λd=>match d with | .tup [_,_,.str x]=>decide (x.cps.toList=BB)|_=>d_) (ds:=fs.map cU) ?_ ?_
  ·rw[this,List.filter_map,br];unfold alone;rw[br];rfl
  ·intro d hd;obtain⟨f,_,rfl⟩:=bb.mp hd;refine⟨d_,?_⟩;have i2:nJ [Dat.str (T f.1),.tup (f.2.1.map Dat.int),.str (T f.2.2)] 2=a_ (.str (T f.2.2)):=rfl;have i0:nJ [Dat.str (T f.1),.tup (f.2.1.map Dat.int),.str (T f.2.2)] 0=a_ (.str (T f.1)):=rfl;have he:=K5 f.2.2 BB
   have hq:bg (Cn D (n+1)) (.cmp .eq (.ix (.v 0) (.e_ 2)) (.con (.str (T BB)))) ((fS 1 [] [a_ (Dat.tup (fs.map cU)),b_,b_]).set 0 (a_ (cU f)))=a_ (.bl (decide (f.2.2=BB)),d_):=by
    simp only[fS,jA,ip,bV,dq,bZ,pW,nH,iX,jJ,cz,eR,aH,au,EN,i2,he]
   rw[rg hq rfl];simp only[fS,jA,ip,bV,dq,bZ,nH,iX,jJ,cz,eR,aH,au,EN,i0];show _=a_ (if decide ((T f.2.2).cps.toList=BB)=c_ then a_ (Dat.str (T f.1),d_)else b_);rw[show(T f.2.2).cps.toList=f.2.2 by simp[T]];cases decide (f.2.2=BB)<;>rfl
  ·intro d hd _;obtain⟨f,_,rfl⟩:=bb.mp hd;rfl
 obtain⟨z2,hz⟩:=J2 (C:=Cn D (n+1)) (.tup (fs.map cU)) (alone fs) (U fs) b_;have r:=Gg (n:=n) h ho;have hb:ZN=[.set 1 (.comp 1 c_ [] (.itv (.v 0)) [.cmp .eq (.ix (.v 0) (.e_ 2)) (.f_ "wbme")] (.ix (.v 0) (.e_ 0))),.loop c_ [2] (.itv (.call 10 [.v 0])) GJ]:=rfl
 have hl':gJ (Cn D (n+1)) (.loop c_ [2] (.itv (.call 10 [.v 0])) GJ) [a_ (.tup (fs.map cU),d_),a_ (.lst ((alone fs).map sT),c_),b_]=a_ (xl [a_ (.tup (fs.map cU),d_),a_ (.lst ((alone fs).map sT),c_),z2] (iP.find? (JT fs))):=by
  rw[lj];simp only[cN,bC,qY,jJ,sj,so,vo,cz,eR,aH,au,r,oV,yP,BL,if_true];rw[hz,XF ho,HR,show(λa=>decide (decide (a∈lets fs)=c_/\(!decide ([a]∈alone fs))=c_))=JT fs from funext λa=>by unfold JT;cases decide (a∈lets fs)<;>cases decide ([a]∈alone fs)<;>rfl]
 have run:bH (Cn D (n+1)) ZN [a_ (.tup (fs.map cU),d_),b_,b_]=a_ (xl [a_ (.tup (fs.map cU),d_),a_ (.lst ((alone fs).map sT),c_),z2] (iP.find? (JT fs))):=by
  rw[hb,ZR];generalize iP.find? (JT fs)=q at hl' ⊢;generalize GJ=body at hl' ⊢;generalize (alone fs).map sT=AA at hc hl' ⊢;generalize fs.map cU=FS at hc hl' ⊢;clear hb hz r h ho;rw[bK (ρ1:=[a_ (.tup FS,d_),a_ (.lst AA,c_),b_]) (by walk_at "py")];show(gJ _ (.loop _ _ _ _) _).bind _=_;rw[hl'];cases q<;>rfl
 unfold xG
 cases q:iP.find? (JT fs)with
 |none=>rw[q]at run;exact Nl (d:=Zu) rfl rfl run
 |some j=>rw[q]at run;exact Ab (d:=Zu) rfl rfl run
abbrev qy(fs:List Fm)(m0 m1 m2 m3 fg:List Int):Dat:=.tup [.tup (fs.map cU),.tup [tI m0,tI m1,tI m2,tI m3],tI fg]
noncomputable def xr(ρ:cX):Option (Nat×a8×Dat)->Out
 |some (c,f,d)=>.xc c f d
 |none=>.nx ρ
def yU(ha:iB C es (full ρ)=a_ ds)(h:Rs C j ds q):gJ C (.OR j es) ρ=a_ (xr ρ q):=by
 have e1:∀j,bg C (.call j es) (full ρ)=C j ds:=λj=>by
  rw[cN,ha];rfl
 show(match bg C (.call j es) (full ρ)with
  |some _=>a_ (Out.nx ρ)
  |none=>(bg C (.call (j+o8) es) (full ρ)).bind λx=>qX x.1)=_
 rw[e1,e1]
 cases q with
 |none=>
   obtain⟨fr,h⟩:=h;rw[h];rfl
 |some q=>
   obtain⟨c,f,d⟩:=q;obtain⟨h1,h2⟩:=h;rw[h1,h2];show a_ (Out.xc ((c:Int).toNat) f d)=a_ (Out.xc c f d);rw[cZ]
def sr(C:Fs)(ss:List Sx)(ρ:cX):Option (Nat×a8×Dat)->Option Out
 |some (c,f,d)=>a_ (.xc c f d)
 |none=>bH C ss ρ
def yk(h:gJ C s ρ=a_ (xr ρ1 q)):bH C (s::ss) ρ=sr C ss ρ1 q:=by
 show(gJ C s ρ).bind _=_;rw[h];cases q<;>rfl
def ED(fs:List Fm)(m0 m1 m2 m3 fg:List Int):Option (Nat×a8×Dat):=match lB fs with
 |some x=>a_ x
 | none=>match p8 fs with
   |some x=>a_ x
   | none=>match p9 m0 m1 m2 m3 fg with
     |some x=>a_ x
     |none=>xG fs
def Rm(C:Fs)(ds:List Dat)(r:Dat):Option (Nat×a8×Dat)->Prop
 |none=>C 15 ds=a_ (r,d_)
 |some (c,f,d)=>C 15 ds=b_/\C (15+o8) ds=a_ (.tup [.int c,.str f,d],d_)
def KE(h:lB fs=b_):∀f∈fs,Ky f:=λf hf=>by
 unfold lB at h;split at h
 ·cases h
 split at h
 ·cases h
 have q:fs.findIdx? qb=b_:=by simpa using h
 have:=fT.mp q f hf;exact Kx (by unfold qb at this;simpa using this)
def IZ{fs:List Fm}(h0:dG .tuple [X0]=a_ (.tup (fs.map cU),f0))(hc:bg (Cn D (n+4)) (.comp 1 c_ [] (.itv (.v 1)) [] (.blt .tuple [.v 0])) [a_ X0,a_ X1,a_ X2,b_]=a_ (.lst [tI m0,tI m1,tI m2,tI m3],c_))(h2:dG .tuple [X2]=a_ (tI fg,f2))
  (hw:∀f∈fs,wF f)(hl:fs.length<=100)(hm:∀m∈[m0,m1,m2,m3,fg],m.length<=1000):Rm (Cn D (n+5)) [X0,X1,X2] (qy fs m0 m1 m2 m3 fg) (ED fs m0 m1 m2 m3 fg):=by
 have r1:=RV (n:=n) hw;have r2:=RQ (n:=n+3) hl;have r3:=RT (n:=n+1) hm;have r4:=λho=>RU (n:=n+2) hl ho;have i0:nJ [Dat.tup (fs.map cU),.tup [tI m0,tI m1,tI m2,tI m3],tI fg] 0=a_ (.tup (fs.map cU)):=rfl;have i1:nJ [Dat.tup (fs.map cU),.tup [tI m0,tI m1,tI m2,tI m3],tI fg] 1=a_ (.tup [tI m0,tI m1,tI m2,tI m3]):=rfl;have i2:nJ [Dat.tup (fs.map cU),.tup [tI m0,tI m1,tI m2,tI m3],tI fg] 2=a_ (tI fg):=rfl;have j0:im (.tup (fs.map cU))=c_:=yO fs
 have j1:im (.tup [tI m0,tI m1,tI m2,tI m3])=c_:=by
  show(jT (m0.map Dat.int) && (jT (m1.map Dat.int) && (jT (m2.map Dat.int) && (jT (m3.map Dat.int) && c_))))=c_;rw[df,df,df,df];rfl
 have j2:im (tI fg)=c_:=df fg
 have j3:im (qy fs m0 m1 m2 m3 fg)=c_:=by
  show(im (.tup (fs.map cU)) && (im (.tup [tI m0,tI m1,tI m2,tI m3]) && (im (tI fg) && c_)))=c_;rw[j0,j1,j2];rfl
 have run:bH (Cn D (n+4)) Yc [a_ (X0,d_),a_ (X1,d_),a_ (X2,d_),b_]=(match ED fs m0 m1 m2 m3 fg with
   |some (c,f,d)=>a_ (.xc c f d)
   |none=>a_ (.rt (qy fs m0 m1 m2 m3 fg) d_)):=by
  unfold Yc
  rw[bK (ρ1:=[a_ (X0,d_),a_ (X1,d_),a_ (X2,d_),a_ (qy fs m0 m1 m2 m3 fg,d_)]) (by
   unfold qy at j3 ⊢;generalize [tI m0,tI m1,tI m2,tI m3]=MS at hc i0 i1 i2 j1 j3 ⊢;generalize tI fg=tf at hc h2 i0 i1 i2 j2 j3 ⊢;generalize fs.map cU=FS at h0 hc i0 i1 i2 j0 j3 ⊢;clear r1 r2 r3 r4 hw hl hm
   walk_at "py")]
  rw[yk (yU (ds:=[.tup (fs.map cU)]) (by unfold qy;generalize [tI m0,tI m1,tI m2,tI m3]=MS at i0 ⊢;generalize tI fg=tf at i0 ⊢;generalize fs.map cU=FS at i0 ⊢;clear r1 r2 r3 r4 hw hl hm hc;walk_at "py") r1)];unfold ED
  cases q1:lB fs with
  |some x=>rfl
  |none=>
    simp only[sr];rw[yk (yU (ds:=[.tup (fs.map cU)]) (by unfold qy;generalize [tI m0,tI m1,tI m2,tI m3]=MS at i0 ⊢;generalize tI fg=tf at i0 ⊢;generalize fs.map cU=FS at i0 ⊢;clear r1 r2 r3 r4 hw hl hm hc q1;walk_at "py") r2)]
    cases q2:p8 fs with
    |some x=>rfl
    |none=>
      simp only[sr];rw[yk (yU (ds:=[.tup [tI m0,tI m1,tI m2,tI m3],tI fg]) (by unfold qy;generalize [tI m0,tI m1,tI m2,tI m3]=MS at i1 i2 ⊢;generalize tI fg=tf at i1 i2 ⊢;generalize fs.map cU=FS at i1 i2 ⊢;clear r1 r2 r3 r4 hw hl hm hc q1 q2;walk_at "py") r3)]
      cases q3:p9 m0 m1 m2 m3 fg with
      |some x=>rfl
      |none=>
        simp only[sr];rw[yk (yU (ds:=[.tup (fs.map cU)]) (by unfold qy;generalize [tI m0,tI m1,tI m2,tI m3]=MS at i0 ⊢;generalize tI fg=tf at i0 ⊢;generalize fs.map cU=FS at i0 ⊢;clear r1 r2 r3 r4 hw hl hm hc q1 q2 q3;walk_at "py") (r4 (KE q1)))]
        cases q4:xG fs with
        |some x=>rfl
        |none=>
          simp only[sr];generalize qy fs m0 m1 m2 m3 fg=R at j3 ⊢;clear r1 r2 r3 r4 hw hl hm hc q1 q2 q3 q4 i0 i1 i2 j0 j1 j2 h0 h2;walk_at "py"
 cases q:ED fs m0 m1 m2 m3 fg with
 |none=>rw[q]at run;exact cn (d:=Zt) rfl (dz (C:=Cn D (n+4)) (np:=3) (nl:=4) (body:=Yc) rfl run)
 |some x=>rw[q]at run;exact Ab (j:=15) (d:=Zt) rfl rfl run
noncomputable def iK(c:Nat):List Nat:=if c=0 then [48]else((aP 6).filter λd=>c / 2 ^ d % 2 == 1).map (·+ 49)
def Rv(n:Nat):((aP 64).all λc=>mz (GU (Cn D (n+1)) 1 1 b3 [.int (c:Nat)]) (a_ (sT (iK c),d_)))=c_:=by kernel_rfl
def Ga(h:c<64):Cn D (n+2) 3 [.int (c:Nat)]=a_ (sT (iK c),d_):=cn (d:=d3) rfl (jG (aC.mp (Rv n) c (aR.mpr h)))
def UE(C:Fs):((aP 64).all λc=>c == 0 || mz (GU C 1 1 b27 [.int (c:Nat)]) (a_ (sT (iK c),d_)))=c_:=by kernel_rfl
def rM(h:c<64)(h0:0<c):Cn D (n+1) 27 [.int (c:Nat)]=a_ (sT (iK c),d_):=cn (d:=d27) rfl (by
 have:=aC.mp (UE (Cn D n)) c (aR.mpr h)
 rcases Bool.or_eq_true_iff.mp this with q|q
 ·simp at q;exact((eh h0 (aM q))).elim
 ·exact jG q)
noncomputable def LU(a d:Nat):Nat:=(j6 (a:Int) (2 ^ (d - 1):Nat)).toNat
def Yw:((aP 64).all λa=>(aP 7).all λd=>decide (j6 (a:Int) (1 * 2 ^ ((d:Int) - 1).toNat)=(LU a d:Int)/\LU a d<64))=c_:=by kernel_rfl
def IE{a d:Nat}(h:a<64)(hd:d<7):j6 (a:Int) (1 * 2 ^ ((d:Int) - 1).toNat)=(LU a d:Int)/\LU a d<64:=
 of_decide_eq_true (aC.mp (aC.mp Yw a (aR.mpr h)) d (aR.mpr hd))
def cl(ds:List Nat):Nat:=ds.foldl LU 0
theorem Ld:∀{ds:List Nat}{a:Nat},a<64->(∀d∈ds,1<=d/\d<7)->ds.foldl LU a<64
 |[],a,h,_=>h
 |d::ds,a,h,hd=>by
   rw[Mf];exact Ld (ds:=ds) (a:=LU a d) (IE h (hd d iw).2).2 λe m=>hd e (jd _ m)
def Vo:List Sx:=[(.set 1 (.bin .bor (.v 1) (.bin .shl (.e_ 1) (.bin .sub (.v 2) (.e_ 1)))))]
theorem Fh(C:Fs)(S:Dat):∀(ds:List Nat) (a:Nat) (z:g_),a<64->(∀d∈ds,1<=d/\d<7)->
  ∃z',eE (dW c_ [2]) (bH C Vo) (ds.map λd:Nat=>Dat.int d) [a_ (S,d_),a_ (.int (a:Int),d_),z]=a_ (.nx [a_ (S,d_),a_ (.int ((ds.foldl LU a:Nat):Int),d_),z'])
 |[],a,z,_,_=>⟨z,rfl⟩
 |d::ds,a,z,h,hd=>by
   obtain⟨h1,h2⟩:=hd d iw;obtain⟨e1,e2⟩:=IE h h2;obtain⟨z',hz⟩:=Fh C S ds (LU a d) (a_ (.int (d:Int),d_)) e2 λe m=>hd e (jd _ m);refine⟨z',?_⟩
   have hb:bH C Vo [a_ (S,d_),a_ (.int (a:Int),d_),a_ (.int (d:Int),d_)]=a_ (.nx [a_ (S,d_),a_ (.int ((LU a d:Nat):Int),d_),a_ (.int (d:Int),d_)]):=by
    unfold Vo;have g1:(0:Int)<=(d:Int) - 1:=pL (dR.mpr h1);have g2:(d:Int) - 1<=1000000:=by omega
    clear hz hd h h2 e2;walk_at "py"
   simp only[ah,eE,dW,fL,bZ,au,hb,Mf];exact hz
def RR(hd:∀d∈ds,1<=d/\d<7):Cn D (n+1) 1 [.lst (ds.map λd:Nat=>Dat.int d)]=a_ (.int (cl ds:Nat),d_):=by
 refine cn (d:=d1) rfl (dz (C:=Cn D n) (np:=1) (nl:=3) (body:=b1) rfl ?_);have hb:b1=[.set 1 (.e_ 0),.loop c_ [2] (.itv (.v 0)) Vo,.rO 1]:=rfl;rw[hb];generalize hS:Dat.lst (ds.map λd:Nat=>Dat.int d)=S;obtain⟨z',hz⟩:=Fh (Cn D n) S ds 0 b_ (by simp) hd;have hi:iV S=a_ (ds.map λd:Nat=>Dat.int d):=by rw[<-hS];rfl
 have hl:gJ (Cn D n) (.loop c_ [2] (.itv (.v 0)) Vo) [a_ (S,d_),a_ (.int 0,d_),b_]=a_ (.nx [a_ (S,d_),a_ (.int ((cl ds:Nat):Int),d_),z']):=by
  have hm:im S=d_:=by rw[<-hS];rfl
  rw[lj,show bg (Cn D n) (.v 0) (full [a_ (S,d_),a_ (.int 0,d_),b_])=a_ (S,d_)from rfl,au];simp only[hm,zC];rw[if_neg (by simp),show bg (Cn D n) (.v 0) (sQ (kL (Ex.v 0).fv [a_ (S,d_),a_ (.int 0,d_),b_]))=a_ (S,d_)from rfl,au,hi,au];exact hz
 generalize Vo=body at hl ⊢;generalize cl ds=k at hl ⊢;clear hz hd hi hS;walk_at "py"
def comp_map{α:Type}(xs:List α)(e g:α->Dat)(hi:sv C it ρ=a_ (xs.map e))(hl:xs.length<=1000)(h:∀x∈xs,∃b,bg C elt ((fS 1 caps ρ).set 0 (a_ (e x)))=a_ (g x,b))(hm:∀x∈xs,im (g x)=c_):bg C (.comp 1 c_ caps it [] elt) ρ=a_ (.lst (xs.map g),c_):=by
 refine jK hi (by rw[ag];exact ae hl bG) ?_;clear hi hl
 induction xs with
 |nil=>rfl
 |cons x xs ih=>
   obtain⟨b,hb⟩:=h x iw;rw[ah,mF,mK,hb,aH,au,ih (λy hy=>h y (jd _ hy)) λy hy=>hm y (jd _ hy),aH];simp[hm x iw]
def Lw{α:Type}(g:α->Bool)(xs:List α):dG .any [.lst (xs.map λx=>Dat.bl (g x))]=a_ (.bl (xs.any g),d_):=by
 have:∀xs:List α,jZ (xs.map λx=>Dat.bl (g x))=a_ (xs.map g):=λxs=>by
  induction xs with
  |nil=>rfl
  |cons x xs ih=>simp only[ah,jZ,ih,aH]
 simp only[dG,M.b1,bL,this,aH,List.any_map];rfl
noncomputable def p6:List Nat:=[49,50,51,52,53,54]
def SDg:aa "123456"=T p6:=by decide +kernel
def vx(w:List Nat):List Nat:=(w.filter λc=>decide (c∈p6)).map (·- 48)
def Zp:(p6.all λc=>decide (1<=c - 48/\c - 48<7))=c_:=bG
def zc:∀d∈vx w,1<=d/\d<7:=λd hd=>by
 obtain⟨c,hc,rfl⟩:=bb.mp hd;exact of_decide_eq_true (aC.mp Zp c (of_decide_eq_true (jw.mp hc).2))
def Nt:Ex:=.cmp .isin (.v 0) (.con (.str (T p6)))
def Y9(C:Fs):(p6.all λc=>mz (bg C (.blt .int [.v 0]) [a_ (sT [c])]) (a_ (.int ((c - 48:Nat):Int),d_)))=c_:=by kernel_rfl
def RZ:kN C 1 c_ [b_] [Nt] (.blt .int [.v 0]) (sT [c])=a_ (if decide (c∈p6)=c_ then a_ (.int ((c - 48:Nat):Int),d_)else b_):=by
 have q1:bg C Nt [a_ (sT [c])]=a_ (.bl (decide (c∈p6)),d_):=by
  unfold Nt;show((cx .isin (.str (T [c])) (.str (T p6))).map λr=>(Dat.bl r,d_))=_;rw[De];rfl
 rw[rg (f:=d_) (x:=.bl (decide (c∈p6))) (t:=decide (c∈p6)) q1 rfl];by_cases h:c∈p6
 ·have q2:=jG (aC.mp (Y9 C) c h);rw[if_pos (decide_eq_true h),if_pos (decide_eq_true h)];exact congrArg (nB a_) q2
 ·rw[if_neg (by simpa using h),if_neg (by simpa using h)]
theorem Jl:∀{w:List Nat},mF (kN C 1 c_ [b_] [Nt] (.blt .int [.v 0])) (w.map λc=>sT [c])=a_ ((vx w).map λd:Nat=>Dat.int d,c_)
 |[]=>rfl
 |c::w=>by
   rw[ah,mF,RZ,au,Jl (w:=w),aH];unfold vx;rw[i5];cases decide (c∈p6)<;>rfl
def fG(w:List Nat):Option Nat:=if iK (cl (vx w))=w then a_ (cl (vx w))else b_
noncomputable def oN:Option Nat->Dat
 |some c=>.int (c:Nat)
 |none=>.non
def W0(o:Option Nat):im (oN o)=c_:=by cases o<;>rfl
def RN{w:List Nat}(hl:w.length<=1000):Cn D (n+3) 4 [sT w]=a_ (oN (fG w),d_):=by
 refine cn (d:=d4) rfl (dz (C:=Cn D (n+2)) (np:=1) (nl:=2) (body:=b4) rfl ?_);unfold b4;rw[SDg]
 have h1:bg (Cn D (n+2)) (.comp 1 c_ [] (.itv (.v 0)) [(.cmp .isin (.v 0) (.con (.str (T p6))))] (.blt .int [(.v 0)])) [a_ (sT w),b_]=a_ (.lst ((vx w).map λd:Nat=>Dat.int d),c_):=
  jK (items:=w.map λc=>sT [c]) oV (by rw[ag];exact ae hl bG) Jl
 have h2:=RR (n:=n+1) (zc (w:=w));have h3:cl (vx w)<64:=Ld (by simp) zc;have h4:=Ga (n:=n) h3;have h5:cx .eq (sT (iK (cl (vx w)))) (sT w)=a_ (decide (iK (cl (vx w))=w)):=K5 _ _
 have h6:bg (Cn D (n+2)) (.call 1 [(.comp 1 c_ [] (.itv (.v 0)) [(.cmp .isin (.v 0) (.con (.str (T p6))))] (.blt .int [(.v 0)]))]) [a_ (sT w),b_]=a_ (.int (cl (vx w):Nat),d_):=by
  rw[cN,bC,h1];exact h2
 unfold fG;generalize cl (vx w)=k at h4 h5 h6 ⊢;generalize (Ex.call 1 [(.comp 1 c_ [] (.itv (.v 0)) [(.cmp .isin (.v 0) (.con (.str (T p6))))] (.blt .int [(.v 0)]))])=e at h6 ⊢;clear h1 h2 h3 hl;by_cases q:iK k=w
 ·rw[decide_eq_true q]at h5;rw[if_pos q];generalize sT (iK k)=t at h4 h5;generalize hw:sT w=t2 at h5 h6 ⊢;clear q hw;unfold oN;walk_at "py"
 ·rw[decide_eq_false q]at h5;rw[if_neg q];generalize sT (iK k)=t at h4 h5;generalize hw:sT w=t2 at h5 h6 ⊢;clear q hw;unfold oN;walk_at "py"
def B1:aa " "=T [32]:=by decide +kernel
def B0:aa ""=T []:=by decide +kernel
structure gW(ws:List (List Nat)):Prop where
 l:ws.length<=300
 w:∀w∈ws,w.length<=60/\32∉w
def gW.tail{w:List Nat}{ws:List (List Nat)}(h:gW (w::ws)):gW ws:=⟨by have:=h.l;simp at this;exact bF this,λx hx=>h.w x (jd _ hx)⟩
theorem uF:∀{ws:List (List Nat)},(∀w∈ws,w.length<=m)->(ws.map (·.length)).sum<=m * ws.length
 |[],_=>by simp
 |w::ws,h=>by
   have h1:=h w iw;have h2:=uF (ws:=ws) λx hx=>h x (jd _ hx);simp only[ah,qu,aS,Nat.mul_add];omega
def gW.sum(h:gW ws):(ws.map (·.length)).sum+ws.length<=1000000:=by
 have h1:=uF (m:=60) λw hw=>(h.w w hw).1;have h2:=h.l;omega
def GO(h:inter 32 ws=[]):ws=[]\/ws=[[]]:=by
 match ws,h with
 |[],_=>exact .inl rfl
 |[w],h=>exact .inr (by have h:w=[]:=h;rw[h])
 |a::b::r,h=>exact absurd (se (c:=32) (x:=a) (y:=b) (r:=r)) (by rw[h];simp)
def vW(w:List Nat):Int:=((fG w).getD 0:Nat)
def qD(ws:List (List Nat)):Option (List Int):=if inter 32 ws=[]then a_ []else if ws.all (λw=>(fG w).isSome)=c_ then a_ (ws.map vW)else b_
def oI:Option (List Int)->Dat
 |some cs=>tI cs
 |none=>.non
theorem zT(k:Nat):∀ws:List (List Nat),dI k (ws.map λw=>oN (fG w))=c_
 |[]=>by simp[dI]
 |w::ws=>by
   rw[ah,dI,zT k ws,eY];cases fG w<;>cases k<;>rfl
theorem Lv:∀ws:List (List Nat),((ws.map λw=>oN (fG w)).any λy=>kM y .non)=!ws.all λw=>(fG w).isSome
 |[]=>rfl
 |w::ws=>by
   rw[ah,eF,Lv ws,dv];cases fG w<;>rfl
theorem J0:∀{ws:List (List Nat)},ws.all (λw=>(fG w).isSome)=c_->(ws.map λw=>oN (fG w))=(ws.map vW).map Dat.int
 |[],_=>rfl
 |w::ws,h=>by
   rw[dv,af]at h;rw[ah,ah,ah,J0 h.2];unfold vW
   cases q:fG w with
   |none=>rw[q]at h;cases h.1
   |some c=>rfl
def D7(h:gW ws):∃fr,Cn D (n+4) 5 [sT (inter 32 ws)]=a_ (oI (qD ws),fr):=by
 by_cases e:inter 32 ws=[]
 ·refine⟨c_,cn (d:=d5) rfl (dz (C:=Cn D (n+3)) (np:=1) (nl:=2) (body:=b5) rfl ?_)⟩;unfold b5 qD;rw[e,B1,B0,if_pos rfl];rfl
 ·refine⟨d_,cn (d:=d5) rfl (dz (C:=Cn D (n+3)) (np:=1) (nl:=2) (body:=b5) rfl ?_)⟩;unfold b5 qD;rw[B1,B0,if_neg e];have hn:ws≠[]:=λz=>e (by rw[z];rfl);have h1:gZ .split (sT (inter 32 ws)) [sT [32]]=a_ (.lst (ws.map sT),c_):=tY hn (λw hw=>(h.w w hw).2) h.sum;have h2:cx .eq (sT (inter 32 ws)) (sT [])=a_ d_:=by rw[show cx .eq (sT (inter 32 ws)) (sT [])=a_ (decide (inter 32 ws=[]))from K5 _ _,decide_eq_false e]
  have h3:bg (Cn D (n+3)) (.comp 1 c_ [] (.itv (.eD .split (.v 0) [(.con (sT [32]))])) [] (.call 4 [(.v 0)])) [a_ (sT (inter 32 ws)),b_]=a_ (.lst (ws.map λw=>oN (fG w)),c_):=by
   refine comp_map ws sT _ ?_ (by have:=h.l;exact ae this bG) (λw hw=>⟨d_,?_⟩) λw _=>W0 _
   ·show(bg _ (.eD .split (.v 0) [.con (sT [32])]) _).bind _=_;rw[show bg (Cn D (n+3)) (.eD .split (.v 0) [.con (sT [32])]) [a_ (sT (inter 32 ws)),b_]=gZ .split (sT (inter 32 ws)) [sT [32]]from rfl,h1];rfl
   ·exact RN (by have:=(h.w w hw).1;exact ae this bG)
  have h4:cx .isin .non (.lst (ws.map λw=>oN (fG w)))=a_ (!ws.all λw=>(fG w).isSome):=by
   show(if(eO 20 .non && dI 20 _)=c_ then a_ _ else b_)=_;rw[zT,show(eO 20 .non && c_)=c_ from rfl,if_pos rfl,Lv]
  have h5:dG .tuple [.lst (ws.map λw=>oN (fG w))]=a_ (.tup (ws.map λw=>oN (fG w)),d_):=rfl;have h6:=λq=>J0 (ws:=ws) q;have h7:im (.lst (ws.map λw=>oN (fG w)))=d_:=rfl;generalize (ws.map λw=>oN (fG w))=L at h3 h4 h5 h6 h7;generalize sT (inter 32 ws)=t at h2 h3 ⊢;generalize (Ex.comp 1 c_ [] (.itv (.eD .split (.v 0) [(.con (sT [32]))])) [] (.call 4 [(.v 0)]))=x at h3 ⊢;generalize hV:ws.map vW=V at h6 ⊢;clear h hn e hV h1;cases q:ws.all λw=>(fG w).isSome
  ·rw[q]at h4;clear h6 q;unfold oI;walk_at "py"
  ·rw[q]at h4;have h8:=h6 q;subst h8;clear q h6;generalize Dat.lst (V.map Dat.int)=LL at h3 h4 h5 h7;unfold oI tI;walk_at "py"
set_option tactic.hygienic true in
def uS(h:fG w=a_ c):c<64/\w=iK c:=by
 unfold fG at h;split at h
 ·rename_i q;cases h;exact⟨Ld (by omega) zc,q.symm⟩
 ·cases h
def CG:((aP 64).all λc=>decide (fG (iK c)=a_ c))=c_:=by kernel_rfl
def rQ(h:c<64):fG (iK c)=a_ c:=of_decide_eq_true (aC.mp CG c (aR.mpr h))
def yA(w:List Nat):Bool:=match fG w with
 |some (_+1)=>c_
 |_=>d_
def Aq(h:yA w=c_):∃c,fG w=a_ (c+1):=by
 unfold yA at h;split at h
 ·exact⟨_,by assumption⟩
 ·cases h
def SU(h:fG w=a_ (c+1)):yA w=c_:=by unfold yA;rw[h]
def iM(m:Nat)(ws:List (List Nat)):Option (List Int):=if(decide (1<=ws.length) && (decide (ws.length<=m) && ws.all yA))=c_ then a_ (ws.map vW)else b_
theorem Fd:∀{ws:List (List Nat)},ws.all (λw=>(fG w).isSome)=c_->(ws.map vW).all v5=ws.all yA
 |[],_=>rfl
 |w::ws,h=>by
   rw[dv,af]at h;rw[ah,dv,dv,Fd h.2]
   congr 1
   unfold vW yA
   cases q:fG w with
   |none=>rw[q]at h;cases h.1
   |some c=>
     obtain⟨h1,_⟩:=uS q
     cases c with
     |zero=>rfl
     |succ c=>
       unfold v5;simp;omega
def rN(m:Nat)(ws:List (List Nat)):(match qD ws with|some cs=>if jc cs 1 m=c_ then a_ cs else b_|none=>b_)=iM m ws:=by
 unfold qD;by_cases e:inter 32 ws=[]
 ·rw[if_pos e]
  rcases GO e with rfl|rfl
  ·rfl
  ·unfold iM;rw[show [([]:List Nat)].all yA=d_ from by decide +kernel,fN,fN];rfl
 ·rw[if_neg e];cases q:ws.all λw=>(fG w).isSome
  ·rw[if_neg (by simp)];unfold iM
   have:ws.all yA=d_:=by
    rw[ml];intro z;rw[ml]at q;refine q (aC.mpr λw hw=>?_);obtain⟨c,hc⟩:=Aq (aC.mp z w hw);rw[hc];rfl
   rw[this,fN,fN];rfl
  ·rw[if_pos rfl];show(if jc (ws.map vW) 1 m=c_ then a_ (ws.map vW)else b_)=_;unfold jc iM;rw[Fd q,ag];have e1:decide ((1:Int)<=((ws.length:Nat):Int))=decide (1<=ws.length):=decide_eq_decide.mpr (by omega);have e2:decide (((ws.length:Nat):Int)<=(m:Int))=decide (ws.length<=m):=decide_eq_decide.mpr (by simp);rw[e1,e2]
def Ng(h:gW ws):∃fr,Cn D (n+5) 17 [.lst (ws.map sT),.int (m:Nat)]=a_ (oI (iM m ws),fr):=by
 obtain⟨f0,h0⟩:=D7 (n:=n) h;refine⟨d_,cn (d:=d17) rfl (dz (C:=Cn D (n+4)) (np:=2) (nl:=3) (body:=ZL) rfl ?_)⟩;unfold ZL;rw[B1,<-rN];have h1:gZ .join (sT [32]) [.lst (ws.map sT)]=a_ (sT (inter 32 ws),d_):=CZ h.sum
 have h2:∀cs,qD ws=a_ cs->Cn D (n+4) 6 [tI cs,.int 1,.int (m:Nat)]=a_ (.bl (jc cs 1 m),d_):=λcs q=>qC (n:=n+2) (by
  have:=h.l;unfold qD at q;split at q
  ·cases q;simp
  split at q
  ·cases q;simp;exact ae this bG
  ·cases q)
 have h3:∀cs,im (tI cs)=c_:=λcs=>df cs;have h4:∀cs,cx .nisn (tI cs) .non=a_ c_:=λcs=>rfl;generalize ws.map sT=L at h1 ⊢;generalize sT (inter 32 ws)=t at h0 h1
 cases q:qD ws with
 |none=>
   rw[q]at h0;clear h h2 h3 h4 q;unfold oI at *;walk_at "py"
 |some cs=>
   rw[q]at h0;replace h2:=h2 cs q;replace h3:=h3 cs;replace h4:=h4 cs;replace h0:Cn D (n+4) 5 [t]=a_ (tI cs,f0):=h0;show _=a_ (Out.rt (oI (if jc cs 1 m=c_ then a_ cs else b_)) d_);clear h q;cases r:jc cs 1 m
   ·rw[r]at h2;generalize tI cs=tc at h0 h2 h3 h4;clear r;unfold oI;walk_at "py"
   ·rw[r]at h2;rw[if_pos rfl];show _=a_ (Out.rt (tI cs) d_);generalize tI cs=tc at h0 h2 h3 h4 ⊢;clear r;walk_at "py"
def KS:List Key:=(aP 63).map λc=>ej (T (iK (c+1)))
def VS:List Dat:=(aP 63).map λc:Nat=>Dat.int ((c+1:Nat))
theorem AF:∀L:List Nat,iR k (L.map f) (L.map g)=(L.find? λc=>decide (f c=k)).map g
 |[]=>rfl
 |c::L=>by
   rw[ah,ah,iR,du];by_cases h:f c=k
   ·rw[if_pos h,decide_eq_true h];rfl
   ·rw[if_neg h,decide_eq_false h];exact AF L
def J7(w:List Nat):iR (ej (T w)) KS VS=if yA w=c_ then a_ (.int (vW w))else b_:=by
 unfold KS VS;rw[AF]
 cases q:(aP 63).find? λc=>decide ((ej (T (iK (c+1))):Key)=ej (T w))with
 |none=>
   rw[if_neg]
   ·rfl
   ·intro h;obtain⟨c,hc⟩:=Aq h;obtain⟨h1,h2⟩:=uS hc;have:=List.find?_eq_none.mp q c (aR.mpr (cK h1));rw[h2]at this;simp at this
 |some c=>
   have h0:=List.find?_some q;have h1:=of_decide_eq_true h0;have h2:=aR.mp (List.mem_of_find?_eq_some q);have h3:iK (c+1)=w:=Fw (sJ h1);have h4:fG w=a_ (c+1):=by rw[<-h3];exact rQ (dF h2)
   rw[if_pos (SU h4)];unfold vW;rw[h4];rfl
def D8(h:gW ws):∃fr,Cn D (n+1) 31 [.lst (ws.map sT),.int (m:Nat),.dct KS VS]=a_ (oI (iM m ws),fr):=by
 refine⟨d_,cn (d:=d31) rfl (dz (C:=Cn D n) (np:=3) (nl:=3) (body:=ZD) rfl ?_)⟩;unfold ZD;have hl:=h.l
 have h1:bg (Cn D n) (.comp 1 c_ [2] (.itv (.v 0)) [] (.cmp .nin (.v 0) (.v 1))) [a_ (.lst (ws.map sT)),a_ (.int (m:Nat)),a_ (.dct KS VS)]=a_ (.lst (ws.map λw=>Dat.bl (!yA w)),c_):=by
  refine comp_map ws sT _ rfl (by omega) (λw hw=>⟨d_,?_⟩) λw _=>rfl;show((cx .nin (sT w) (.dct KS VS)).map λr=>(Dat.bl r,d_))=_
  have:cx .nin (sT w) (.dct KS VS)=a_ (!yA w):=by
   show a_ (!(iR (ej (T w)) KS VS).isSome)=_;rw[J7];cases yA w<;>rfl
  rw[this];rfl
 have h2:=Lw (λw=>!yA w) ws
 have h3:ws.all yA=c_->bg (Cn D n) (.comp 1 c_ [2] (.itv (.v 0)) [] (.ix (.v 1) (.v 0))) [a_ (.lst (ws.map sT)),a_ (.int (m:Nat)),a_ (.dct KS VS)]=a_ (.lst (ws.map λw=>Dat.int (vW w)),c_):=λq=>by
  refine comp_map ws sT _ rfl (by omega) (λw hw=>⟨d_,?_⟩) λw _=>rfl;show((mG (.dct KS VS) (sT w)).map λd=>(d,d_))=_
  have:mG (.dct KS VS) (sT w)=a_ (.int (vW w)):=by
   show iR (ej (T w)) KS VS=_;rw[J7,if_pos (aC.mp q w hw)]
  rw[this];rfl
 have h4:dG .len [.lst (ws.map sT)]=a_ (.int (ws.length:Nat),d_):=by rw[iN,ag]
 have h5:dG .tuple [.lst (ws.map λw=>Dat.int (vW w))]=a_ (tI (ws.map vW),d_):=by
  rw[rk];unfold tI;rw[br];rfl
 have h6:(ws.any λw=>!yA w)=!ws.all yA:=by rw[zK];simp
 rw[h6]at h2;unfold iM;have e1:decide ((ws.length:Int)<1)=!decide (1<=ws.length):=by rw[<-decide_not];exact decide_eq_decide.mpr (by omega)
 have e2:decide ((m:Int)<(ws.length:Int))=!decide (ws.length<=m):=by rw[<-decide_not];exact decide_eq_decide.mpr (by simp)
 have e3:im (.lst (ws.map sT))=d_:=rfl;generalize (ws.map λw=>Dat.int (vW w))=W at h3 h5;generalize ws.map vW=V at h5 ⊢;generalize (ws.map λw=>Dat.bl (!yA w))=W2 at h1 h2;generalize ws.map sT=L at h1 h3 h4 e3 ⊢;generalize decide (1<=ws.length)=p1 at e1 ⊢;generalize decide (ws.length<=m)=p2 at e2 ⊢;generalize ws.all yA=p3 at h2 h3 ⊢;generalize ws.length=k at h4 e1 e2;generalize (Dat.dct KS VS)=dd at h1 h3 ⊢;generalize (Ex.comp 1 c_ [2] (.itv (.v 0)) [] (.cmp .nin (.v 0) (.v 1)))=x1 at h1 ⊢;generalize (Ex.comp 1 c_ [2] (.itv (.v 0)) [] (.ix (.v 1) (.v 0)))=x2 at h3 ⊢;clear h hl h6;cases p3
 ·clear h3;cases p1<;>cases p2<;>(show _=a_ (Out.rt Dat.non d_);walk_at "py")
 ·replace h3:=h3 rfl
  cases p1<;>cases p2<;>first|(show _=a_ (Out.rt Dat.non d_);walk_at "py";done)|(show _=a_ (Out.rt (tI V) d_);generalize tI V=tv at h5 ⊢;walk_at "py";done)
noncomputable def fI(c:Nat):Int:=if c=119 then 0 else if c=98 then 1 else if c=109 then 2 else if c=101 then 3 else -1
def findB:(P4.all λc=>decide (fB (T P4) (T [c])=fI c))=c_:=by kernel_rfl
def Uo(c:Nat):fB (T P4) (T [c])=fI c:=by
 by_cases h:c∈P4
 ·exact of_decide_eq_true (aC.mp findB c h)
 ·rw[OQ h];unfold P4 at h;simp only[aq,aX,or_false,not_or]at h;unfold fI;rw[if_neg h.1,if_neg h.2.1,if_neg h.2.2.1,if_neg h.2.2.2]
def fF(p:List Nat):List Int:=p.map fI
def Gi(p:List Nat):Bool:=decide ((0:Int)<(p.length:Int)) && (!(fF p).contains (-1) && decide (fF p=eN ltI (fF p)))
def XH:List (List Nat):=(aP 16).map λk=>(aP 4).filterMap λi=>if k / 2 ^ i % 2=1 then P4[i]? else b_
def Z4:List (List Int):=(aP 16).map λk=>(aP 4).filterMap λi:Nat=>if k / 2 ^ i % 2=1 then a_ ((i:Nat):Int)else b_
def f16(q:Nat->Bool):P4.filter q∈XH:=by
 unfold P4;cases h1:q 119<;>cases h2:q 98<;>cases h3:q 109<;>cases h4:q 101<;>simp only[i5,h1,h2,h3,h4,Mg]<;>decide
def g16(q:Int->Bool):[(0:Int),1,2,3].filter q∈Z4:=by
 cases h1:q 0<;>cases h2:q 1<;>cases h3:q 2<;>cases h4:q 3<;>simp only[i5,h1,h2,h3,h4,Mg]<;>decide
def YB:(XH.all λp=>decide (oj p=Gi p))=c_:=by kernel_rfl
noncomputable def uI(i:Int):Nat:=if i=0 then 119 else if i=1 then 98 else if i=2 then 109 else 101
def Ze:(Z4.all λs=>decide (s.map uI∈XH))=c_:=by kernel_rfl
set_option tactic.hygienic true in
def KQ(c:Nat):fI c=-1\/(fI c∈[(0:Int),1,2,3]/\uI (fI c)=c):=by
 unfold fI;split
 ·rename_i h;exact .inr (by rw[h];decide)
 split
 ·rename_i h;exact .inr (by rw[h];decide)
 split
 ·rename_i h;exact .inr (by rw[h];decide)
 split
 ·rename_i h;exact .inr (by rw[h];decide)
 ·exact .inl rfl
def Nq(h:Gi p=c_):p∈XH:=by
 unfold Gi at h;simp only[af,decide_eq_true_eq,fj]at h;obtain⟨_,h1,h2⟩:=h
 have hc:∀c∈p,fI c∈[(0:Int),1,2,3]/\uI (fI c)=c:=λc hc=>by
  rcases KQ c with q|q
  ·exfalso;have:(-1:Int)∈fF p:=by rw[<-q];exact List.mem_map_of_mem hc
   rw[List.contains_eq_mem,decide_eq_false_iff_not]at h1;exact h1 this
  ·exact q
 have pw:=jH Hw (fF p);rw[<-h2]at pw;have pf:([(0:Int),1,2,3].filter λi=>decide (i∈fF p)).Pairwise (λa b=>ltI a b=c_):=List.Pairwise.filter _ bG
 have pm:(fF p).Perm ([(0:Int),1,2,3].filter λi=>decide (i∈fF p)):=by
  rw[fM (mE Hw pw) (mE Hw pf)];intro z;rw[jw,decide_eq_true_eq];constructor
  ·intro hz;obtain⟨c,m,rfl⟩:=bb.mp hz;exact⟨(hc c m).1,hz⟩
  ·exact λhz=>hz.2
 have es:fF p=[(0:Int),1,2,3].filter λi=>decide (i∈fF p):=iS (le:=λa b=>ltI b a=d_) (λa b _ _ h h'=>Hw.tot _ _ h' h) (pw.imp λq=>Hw.Lu q) (pf.imp λq=>Hw.Lu q) pm;have ei:fF p∈Z4:=by rw[es];exact g16 _
 have eu:=of_decide_eq_true (aC.mp Ze _ ei)
 have:(fF p).map uI=p:=by
  unfold fF;rw[br]
  conv=>rhs;rw[<-List.map_id p]
  exact jg λc m=>(hc c m).2
 rw[this]at eu;exact eu
def Nn(p:List Nat):Gi p=oj p:=by
 by_cases h:p∈XH
 ·exact(of_decide_eq_true (aC.mp YB p h)).symm
 ·have h1:Gi p=d_:=by
   rw[ml];exact λz=>h (Nq z)
  have h2:oj p=d_:=by
   unfold oj;rw[Bool.and_eq_false_iff];right;rw[decide_eq_false_iff_not];intro z;rw[z]at h;exact h (f16 _)
  rw[h1,h2]
def Nf{p:List Nat}(hl:p.length<=60):Cn D (n+1) 32 [sT p]=a_ (.bl (oj p),d_):=by
 rw[<-Nn];refine cn (d:=d32) rfl (dz (C:=Cn D n) (np:=1) (nl:=2) (body:=ZC) rfl ?_);unfold ZC Gi;rw[SP4]
 have h1:bg (Cn D n) (.comp 1 c_ [] (.itv (.v 0)) [] (.eD .find (.con (.str (T P4))) [(.v 0)])) [a_ (sT p),b_]=a_ (.lst ((fF p).map Dat.int),c_):=by
  have:=comp_map (C:=Cn D n) (ρ:=[a_ (sT p),b_]) (caps:=[]) (it:=.itv (.v 0)) (elt:=.eD .find (.con (.str (T P4))) [(.v 0)]) p (λc=>sT [c]) (λc=>.int (fI c)) oV (ae hl bG) (λc _=>⟨d_,by
   show a_ (Dat.int (fB (T P4) (T [c])),d_)=_
   rw[Uo]⟩) λ_ _=>rfl
  rw[this];unfold fF;rw[br];rfl
 have hs:(fF p).length=p.length:=ag _;have h2:dG .len [.lst ((fF p).map Dat.int)]=a_ (.int (p.length:Nat),d_):=by rw[iN,ag,hs]
 have h3:cx .nin (.int (-1)) (.lst ((fF p).map Dat.int))=a_ (!(fF p).contains (-1)):=by
  show(if(eO 20 (.int (-1)) && dI 20 _)=c_ then a_ (!_)else b_)=_;rw[pM,show(eO 20 (.int (-1)) && c_)=c_ from rfl,if_pos rfl,anyI]
 have h4:dG .sset [.lst ((fF p).map Dat.int)]=a_ (.lst ((eN ltI (fF p)).map Dat.int),c_):=F7 (aN (aM hs) (aN hl bG))
 have h5:cx .eq (.lst ((fF p).map Dat.int)) (.lst ((eN ltI (fF p)).map Dat.int))=a_ (decide (fF p=eN ltI (fF p))):=by
  show(if(eO 20 (.lst _) && eO 20 (.lst _))=c_ then a_ _ else b_)=_;rw[show ∀a:List Int,eO 20 (.lst (a.map Dat.int))=c_ from λa=>pM 19 a,show ∀a:List Int,eO 20 (.lst (a.map Dat.int))=c_ from λa=>pM 19 a];exact congrArg a_ (sx _ _)
 have h6:im (.lst ((fF p).map Dat.int))=d_:=rfl;generalize (Ex.comp 1 c_ [] (.itv (.v 0)) [] (.eD .find (.con (.str (T P4))) [(.v 0)]))=x at h1 ⊢;generalize (fF p).contains (-1)=c2 at h3 ⊢;generalize decide (fF p=eN ltI (fF p))=c3 at h5 ⊢;generalize Dat.lst ((eN ltI (fF p)).map Dat.int)=L2 at h4 h5;generalize Dat.lst ((fF p).map Dat.int)=L1 at h1 h2 h3 h4 h5 h6;generalize e1:decide ((0:Int)<(p.length:Int))=a;generalize sT p=t at h1 ⊢;clear hl hs;cases a<;>cases c2<;>walk_at "py"
theorem nc:∀ws:List (List Nat),jT (ws.map sT)=c_
 |[]=>rfl
 |w::ws=>by rw[ah,jT,nc ws];rfl
def D3{ws:List (List Nat)}(h:k<=ws.length):zD (.lst (ws.map sT)) (a_ (k:Int)) b_=a_ (.lst ((ws.drop k).map sT),c_):=by
 rw[IM,Fb (fu _) (by rw[ag];exact dR.mpr h),cZ,<-zA,nc]
def gu{α:Type}{xs:List α}{k:Nat}(h:k<xs.length):nJ xs (k:Int)=xs[k]? :=by
 unfold nJ EM;rw[if_pos (by omega),if_pos (by omega)];rfl
def nG(ws:List (List Nat)):Option Fm:=if ws.length<3 then b_ else match iM 4 (ws.drop 2)with
 |none=>b_
 |some cs=>if(tH (ws.getD 0 []) && oj (ws.getD 1 []))=c_ then a_ (ws.getD 0 [],cs,ws.getD 1 [])else b_
def oF:Option Fm->Dat
 |some f=>cU f
 |none=>.non
def KG(a b:List Nat)(r:List (List Nat))(h:r≠[]):(match qD r with|some cs=>if AX (a,cs,b)=c_ then a_ (a,cs,b)else b_|none=>b_)=nG (a::b::r):=by
 unfold nG;rw[if_neg (by have:=gY.mpr h;simp;exact this)]
 show _=(match iM 4 r with
  |none=>b_
  |some cs=>if(tH a && oj b)=c_ then a_ (a,cs,b)else b_)
 rw[<-rN]
 cases qD r with
 |none=>rfl
 |some cs=>
   show(if(tH a && (jc cs 1 4 && oj b))=c_ then a_ (a,cs,b)else b_)=(match(if jc cs 1 4=c_ then a_ cs else b_)with
    |none=>b_
    |some cs=>if(tH a && oj b)=c_ then a_ (a,cs,b)else b_)
   cases tH a<;>cases jc cs 1 4<;>cases oj b<;>rfl
def Jg(h:qD ws=a_ cs):cs.length<=ws.length:=by
 unfold qD at h;split at h
 ·cases h;simp
 split at h
 ·cases h;simp
 ·cases h
def RM(h:gW ws)(hl:ws.length<=100):∃fr,Cn D (n+5) 16 [.lst (ws.map sT)]=a_ (oF (nG ws),fr):=by
 refine⟨d_,cn (d:=d16) rfl (dz (C:=Cn D (n+4)) (np:=1) (nl:=3) (body:=ZM) rfl ?_)⟩;unfold ZM;rw[B1];have h1:dG .len [.lst (ws.map sT)]=a_ (.int (ws.length:Nat),d_):=by rw[iN,ag]
 by_cases h3:ws.length<3
 ·have e:decide ((ws.length:Int)<3)=c_:=decide_eq_true (jb.mpr h3);have ef:nG ws=b_:=if_pos h3;rw[ef];show _=a_ (Out.rt .non d_);generalize Dat.lst (ws.map sT)=L at h1 ⊢;clear h h3 ef hl;walk_at "py"
 ·have e:decide ((ws.length:Int)<3)=d_:=decide_eq_false (by omega);have hs:=D3 (ws:=ws) (k:=2) (bo (eU h3))
  obtain⟨a,b,r,rfl⟩:∃a b r,ws=a::b::r:=by
   match ws,h3 with
   |a::b::r,_=>exact⟨a,b,r,rfl⟩
   |[],h=>exact absurd (by simp) h
   |[_],h=>exact absurd (by simp) h
  have hr:r≠[]:=λz=>h3 (by rw[z];simp);have gr:gW r:=h.tail.tail;obtain⟨f0,h0⟩:=D7 (n:=n) gr;have hj:gZ .join (sT [32]) [.lst (r.map sT)]=a_ (sT (inter 32 r),d_):=CZ gr.sum;have i0:mG (.lst ((a::b::r).map sT)) (.int 0)=a_ (sT a):=gu (k:=0) (by simp);have i1:mG (.lst ((a::b::r).map sT)) (.int 1)=a_ (sT b):=gu (k:=1) (by simp);have la:=(h.w a iw).1;have lb:=(h.w b (jd _ iw)).1;have hf:∀cs,qD r=a_ cs->Cn D (n+4) 9 [cU (a,cs,b)]=a_ (.bl (AX (a,cs,b)),d_):=λcs q=>uQ (n:=n+1) ⟨by show a.length<=100;exact ae la bG,by show cs.length<=100;have:=Jg q;simp at hl;exact ae this (ae hl bG),by show b.length<=100;exact ae lb bG⟩;rw[<-KG a b r hr];have hs:zD (.lst ((a::b::r).map sT)) (a_ 2) b_=a_ (.lst (r.map sT),c_):=hs;have hm:im (.lst ((a::b::r).map sT))=d_:=rfl;generalize sT (inter 32 r)=t at h0 hj;generalize Dat.lst (r.map sT)=Lr at hj hs;generalize (a::b::r).length=k at h1 e;generalize Dat.lst ((a::b::r).map sT)=L at h1 hs i0 i1 hm ⊢;clear h h3 hr gr la lb hl
  cases q:qD r with
  |none=>
    rw[q]at h0;replace h0:Cn D (n+4) 5 [t]=a_ (.non,f0):=h0;show _=a_ (Out.rt .non d_);clear hf q;walk_at "py"
  |some cs=>
    rw[q]at h0;replace h0:Cn D (n+4) 5 [t]=a_ (tI cs,f0):=h0;replace hf:=hf cs q;have hi:im (tI cs)=c_:=df cs;have hn:cx .isn (tI cs) .non=a_ d_:=rfl
    have hfi:im (cU (a,cs,b))=c_:=by
     show(im (sT a) && (im (tI cs) && (im (sT b) && c_)))=c_;rw[hi];rfl
    show _=a_ (Out.rt (oF (if AX (a,cs,b)=c_ then a_ (a,cs,b)else b_)) d_);have hfd:cU (a,cs,b)=.tup [sT a,tI cs,sT b]:=rfl;clear q;cases r2:AX (a,cs,b)
    ·rw[r2]at hf;show _=a_ (Out.rt .non d_);rw[hfd]at hf hfi;generalize tI cs=tc at h0 hf hi hn hfi;generalize sT a=ta at i0 hf hfi;generalize sT b=tb at i1 hf hfi;clear r2 hfd;walk_at "py"
    ·rw[r2]at hf;show _=a_ (Out.rt (cU (a,cs,b)) d_);rw[hfd]at hf hfi ⊢;generalize tI cs=tc at h0 hf hi hn hfi ⊢;generalize sT a=ta at i0 hf hfi ⊢;generalize sT b=tb at i1 hf hfi ⊢;clear r2 hfd;walk_at "py"
noncomputable def KW:List (List Nat):=[[102,111,114,109],[103,114,101,97,116],[97,108,108],[110,117,109,98,101,114],[108,101,116,116,101,114],[102,105,103,117,114,101,115]]
def SKW:[aa "form",aa "great",aa "all",aa "number",aa "letter",aa "figures"]=KW.map T:=by decide +kernel
def ZW:Dat.str (aa "form")=sT (KW.getD 0 []):=congrArg Dat.str (by decide +kernel)
def SK5:Dat.str (aa "figures")=sT (KW.getD 5 []):=congrArg Dat.str (by decide +kernel)
noncomputable def LX:Dat:=.tup [(.str (aa "form")),(.str (aa "great")),(.str (aa "all")),(.str (aa "number")),(.str (aa "letter")),(.str (aa "figures"))]
def Tt:LX=.tup (KW.map sT):=by unfold LX;rw[show KW.map sT=(KW.map T).map Dat.str from(br ..).symm,<-SKW];rfl
theorem DI(w:List Nat):∀ws:List (List Nat),((ws.map sT).any λy=>kM y (sT w))=decide (w∈ws)
 |[]=>by simp
 |x::ws=>by
   rw[ah,eF,DI w ws];have:kM (sT x) (sT w)=decide (x=w):=Bz x w;rw[this];by_cases h1:x=w
   ·subst h1;simp
   ·have h2:¬w=x:=λz=>h1 z.symm;simp[h1,h2]
def S7(w:List Nat):cx .nin (sT w) LX=a_ (!decide (w∈KW)):=by
 rw[Tt];show(if(eO 20 (sT w) && dI 20 (KW.map sT))=c_ then a_ (!((KW.map sT).any λy=>kM y (sT w)))else b_)=_;rw[qA,show(eO 20 (sT w) && c_)=c_ from rfl,if_pos rfl,DI]
def Om(w:List Nat)(ws:List (List Nat)):cx .isin (sT w) (.lst (ws.map sT))=a_ (decide (w∈ws)):=by
 show(if(eO 20 (sT w) && dI 20 (ws.map sT))=c_ then a_ ((ws.map sT).any λy=>kM y (sT w))else b_)=_;rw[qA,show(eO 20 (sT w) && c_)=c_ from rfl,if_pos rfl,DI]
def Ts:((aP 6).all λk=>decide ((gZ .tindex LX [sT (KW.getD k [])]).map (·.2)=a_ d_) && mz (gZ .tindex LX [sT (KW.getD k [])]) (a_ (.int (k:Nat),d_)) && decide (cx .eq (sT (KW.getD k [])) (sT (KW.getD 0 []))=a_ (k == 0)) && decide (cx .eq (sT (KW.getD k [])) (sT (KW.getD 5 []))=a_ (k == 5)) && decide (KW.getD k []∈KW))=c_:=by kernel_rfl
structure KwF(k:Nat)(w:List Nat):Prop where
 ix:gZ .tindex LX [sT w]=a_ (.int (k:Nat),d_)
 e0:cx .eq (sT w) (sT (KW.getD 0 []))=a_ (k == 0)
 e5:cx .eq (sT w) (sT (KW.getD 5 []))=a_ (k == 5)
 m:w∈KW
def Y1(h:k<6):KwF k (KW.getD k []):=by
 have:=aC.mp Ts k (aR.mpr h);simp only[af,decide_eq_true_eq]at this;obtain⟨⟨⟨⟨_,h1⟩,h2⟩,h3⟩,h4⟩:=this;exact⟨jG h1,h2,h3,h4⟩
def ve(h:w∈KW):∃k,k<6/\w=KW.getD k []:=by
 obtain⟨k,hk,e⟩:=fX.mp h;exact⟨k,hk,by rw[<-e];simp[lM,hk]⟩
abbrev U9:=Fm ⊕ (Nat×List Int)
def vV(k:Nat):Nat:=if k=5 then 10 else 2
def fZ(ws:List (List Nat)):Option U9:=match KW.findIdx? λx=>decide (x=ws.headD [])with
 |none=>b_
 |some 0=>(nG ws.tail).map .inl
 |some (k+1)=>(iM (vV (k+1)) ws.tail).map λcs=>.inr (k+1,cs)
def LS:U9->Dat
 |.inl f=>.tup [.int 0,cU f]
 |.inr p=>.tup [.int (p.1:Nat),tI p.2]
def oT:Option U9->Dat
 |some t=>LS t
 |none=>.non
def OH:((aP 6).all λk=>decide ((KW.findIdx? λx=>decide (x=KW.getD k []))=a_ k))=c_:=by kernel_rfl
def Ko(h:k<6):(KW.findIdx? λx=>decide (x=KW.getD k []))=a_ k:=of_decide_eq_true (aC.mp OH k (aR.mpr h))
def wW(h:w∉KW):fZ (w::ws)=b_:=by
 unfold fZ;rw[show(KW.findIdx? λx=>decide (x=(w::ws).headD []))=b_ from fT.mpr λx hx=>decide_eq_false λz=>h (by rw[<-show x=w from z];exact hx)]
def C6:fZ (KW.getD 0 []::ws)=(nG ws).map .inl:=by
 unfold fZ;rw[show(KW.findIdx? λx=>decide (x=(KW.getD 0 []::ws).headD []))=a_ 0 from Ko (k:=0) (by simp)];rfl
def J8(h:k+1<6):fZ (KW.getD (k+1) []::ws)=(iM (vV (k+1)) ws).map λcs=>.inr (k+1,cs):=by
 unfold fZ;rw[show(KW.findIdx? λx=>decide (x=(KW.getD (k+1) []::ws).headD []))=a_ (k+1)from Ko h];rfl
def qS(f:Fm):im (cU f)=c_:=by
 have:=yO [f];simpa [jT]using this
def Ja(h:gW (w::ws))(hl:ws.length<=100):∃fr,Cn D (n+6) 18 [sT (inter 32 (w::ws))]=a_ (oT (fZ (w::ws)),fr):=by
 suffices ∃fr,bH (Cn D (n+5)) Yb [a_ (sT (inter 32 (w::ws)),d_),b_,b_]=a_ (.rt (oT (fZ (w::ws))) fr) by
  obtain⟨fr,this⟩:=this;exact⟨fr,cn (d:=d18) rfl (dz (C:=Cn D (n+5)) (np:=1) (nl:=3) (body:=Yb) rfl this)⟩
 unfold Yb;rw[B1,show(Dat.tup [(.str (aa "form")),(.str (aa "great")),(.str (aa "all")),(.str (aa "number")),(.str (aa "letter")),(.str (aa "figures"))])=LX from rfl,ZW,SK5];have h1:gZ .split (sT (inter 32 (w::ws))) [sT [32]]=a_ (.lst ((w::ws).map sT),c_):=tY (by simp) (λw hw=>(h.w w hw).2) h.sum;have h2:=S7 w;have i0:mG (.lst ((w::ws).map sT)) (.int 0)=a_ (sT w):=gu (k:=0) (by simp);have hs:zD (.lst ((w::ws).map sT)) (a_ 1) b_=a_ (.lst (ws.map sT),c_):=D3 (ws:=w::ws) (k:=1) (by simp);have hm:im (.lst ((w::ws).map sT))=d_:=rfl;have ht:=h.tail;by_cases hw:w∈KW
 ·obtain⟨k,hk,rfl⟩:=ve hw;obtain⟨f1,f2,f3,_⟩:=Y1 hk;rw[decide_eq_true hw]at h2
  cases k with
  |zero=>
    obtain⟨f0,hr⟩:=RM (n:=n) ht hl;rw[C6];replace f1:gZ .tindex LX [sT (KW.getD 0 [])]=a_ (.int 0,d_):=f1;replace f2:cx .eq (sT (KW.getD 0 [])) (sT (KW.getD 0 []))=a_ c_:=f2;generalize sT (KW.getD 0 [])=tw at f1 f2 f3 h2 i0 ⊢;generalize sT (inter 32 (KW.getD 0 []::ws))=t at h1 ⊢;generalize Dat.lst ((KW.getD 0 []::ws).map sT)=L at h1 i0 hs hm;generalize Dat.lst (ws.map sT)=Lr at hs hr;generalize LX=kt at f1 h2 ⊢;clear h ht hw f3;generalize nG ws=r at hr ⊢
    cases r with
    |none=>
      refine⟨d_,?_⟩;replace hr:Cn D (n+5) 16 [Lr]=a_ (.non,f0):=hr;show _=a_ (Out.rt .non d_);walk_at "py"
    |some f=>
      have j1:=qS f;have j2:cx .isn (cU f) .non=a_ d_:=rfl;replace hr:Cn D (n+5) 16 [Lr]=a_ (cU f,f0):=hr;show ∃fr,_=a_ (Out.rt (.tup [.int 0,cU f]) fr);generalize cU f=d at hr j1 j2 ⊢;refine⟨c_,?_⟩;walk_at "py"
  |succ k=>
    obtain⟨f0,hr⟩:=Ng (n:=n) (m:=vV (k+1)) ht;rw[J8 hk];replace f2:cx .eq (sT (KW.getD (k+1) [])) (sT (KW.getD 0 []))=a_ d_:=f2
    have hx:bg (Cn D (n+5)) (.ite (.cmp .eq (.ix (.v 1) (.e_ 0)) (.con (sT (KW.getD 5 [])))) (.blt .len [(.f_ "0123456789")]) (.e_ 2)) [a_ (sT (inter 32 (KW.getD (k+1) []::ws))),a_ (.lst ((KW.getD (k+1) []::ws).map sT)),b_]=a_ (.int (vV (k+1):Nat),d_):=by
     have hd:dG .len [.str (aa "0123456789")]=a_ (.int 10,d_):=by kernel_rfl
     unfold vV;generalize sT (KW.getD (k+1) [])=tw at f3 i0;generalize sT (KW.getD 5 [])=t5 at f3 ⊢;by_cases e:k+1=5
     ·rw[if_pos e];replace f3:cx .eq tw t5=a_ c_:=by rw[f3,e];rfl
      generalize Dat.lst ((KW.getD (k+1) []::ws).map sT)=L at i0 ⊢;generalize sT (inter 32 (KW.getD (k+1) []::ws))=t;show _=a_ (Dat.int 10,d_);clear h1 h2 hs hm ht hw f1 f2 hr h e;walk_at "py"
     ·rw[if_neg e];replace f3:cx .eq tw t5=a_ d_:=by rw[f3];exact congrArg a_ (beq_false_of_ne e)
      generalize Dat.lst ((KW.getD (k+1) []::ws).map sT)=L at i0 ⊢;generalize sT (inter 32 (KW.getD (k+1) []::ws))=t;show _=a_ (Dat.int 2,d_);clear h1 h2 hs hm ht hw f1 f2 hr h e;walk_at "py"
    generalize (Ex.ite (.cmp .eq (.ix (.v 1) (.e_ 0)) (.con (sT (KW.getD 5 [])))) (.blt .len [(.f_ "0123456789")]) (.e_ 2))=xm at hx ⊢;generalize Dat.int (vV (k+1):Nat)=dm at hr hx;generalize hcs:iM (vV (k+1)) ws=r at hr ⊢;generalize sT (KW.getD (k+1) [])=tw at f1 f2 f3 h2 i0;generalize sT (KW.getD 0 [])=t0 at f2 ⊢;generalize sT (inter 32 (KW.getD (k+1) []::ws))=t at h1 hx ⊢;generalize Dat.lst ((KW.getD (k+1) []::ws).map sT)=L at h1 i0 hs hm hx;generalize Dat.lst (ws.map sT)=Lr at hs hr;generalize LX=kt at f1 h2 ⊢;clear h ht hw f3 hcs
    cases r with
    |none=>
      refine⟨d_,?_⟩;replace hr:Cn D (n+5) 17 [Lr,dm]=a_ (.non,f0):=hr;show _=a_ (Out.rt .non d_);walk_at "py"
    |some cs=>
      have j1:im (tI cs)=c_:=df cs;have j2:cx .isn (tI cs) .non=a_ d_:=rfl;replace hr:Cn D (n+5) 17 [Lr,dm]=a_ (tI cs,f0):=hr;show ∃fr,_=a_ (Out.rt (.tup [.int ((k+1:Nat):Int),tI cs]) fr);generalize tI cs=d at hr j1 j2 ⊢;generalize ((k+1:Nat):Int)=ki at f1 ⊢;refine⟨c_,?_⟩;walk_at "py"
 ·rw[wW hw];rw[decide_eq_false hw]at h2;refine⟨d_,?_⟩;show _=a_ (Out.rt .non d_);generalize sT (inter 32 (w::ws))=t at h1 ⊢;generalize Dat.lst ((w::ws).map sT)=L at h1 i0 hs hm;generalize sT w=tw at h2 i0;clear h ht hw;walk_at "py"
def kl:Ex:=.lst [(.f_ "great"),(.f_ "all"),(.f_ "number"),(.f_ "letter"),(.con (.str (aa "figures")))]
def Qs:bg C kl ρ=a_ (.lst (KW.tail.map sT),c_):=by
 have:KW.tail.map sT=[(.str (aa "great")),(.str (aa "all")),(.str (aa "number")),(.str (aa "letter")),(.str (aa "figures"))]:=by
  rw[show KW.tail.map sT=(KW.map T).tail.map Dat.str from rfl,<-SKW];rfl
 rw[this];rfl
def Ka:((aP 5).all λk=>mz (AH (.lst (KW.tail.map sT)) (sT (KW.getD (k+1) []))) (a_ (.int (k:Nat),d_)) && decide (KW.getD (k+1) []∈KW.tail))=c_:=by kernel_rfl
def EI(h:k+1<6):AH (.lst (KW.tail.map sT)) (sT (KW.getD (k+1) []))=a_ (.int (k:Nat),d_)/\KW.getD (k+1) []∈KW.tail:=by
 have:=aC.mp Ka k (aR.mpr (cK h));rw[af]at this;exact⟨jG this.1,of_decide_eq_true this.2⟩
def oJ(j:Int):Option U9->Dat
 |some t=>LS t
 |none=>.tup [.int j,.non]
def xm:Ex:=.bin .add (.e_ 2) (.bin .mul (.e_ 8) (.blt .int [(.cmp .eq (.v 3) (.e_ 5))]))
def VE:bg C xm [a,b,c,a_ (.int ((k+1:Nat):Int)),d,e]=a_ (.int (vV (k+1):Nat),d_):=by
 unfold xm vV;by_cases h:k+1=5
 ·rw[if_pos h,h];rfl
 ·rw[if_neg h];have e5:((((k+1:Nat):Int)) == 5)=d_:=beq_false_of_ne (by omega);generalize ((k+1:Nat):Int)=i at e5 ⊢;show _=a_ (Dat.int 2,d_);walk_at "py";rfl
def N3(h:w∉KW\/w=KW.getD 0 []):w∉KW.tail:=by
 rcases h with h|h
 ·exact λz=>h (pj z)
 ·rw[h];decide
def xa:Ex:=.blt .any [(.comp 1 c_ [] (.itv (.v 5)) [] (.cmp .lt (.eD .find (.f_ "abcdefghijklmnopqrstuvwxyz") [(.v 0)]) (.e_ 0)))]
def VF{l:List Nat}(hl:l.length<=60):bg C xa [a,b,c,d,e,a_ (sT l)]=a_ (.bl (!l.all λc=>decide (c∈iP)),d_):=by
 unfold xa;rw[ZV]
 have h1:bg C (.comp 1 c_ [] (.itv (.v 5)) [] (.cmp .lt (.eD .find (.con (.str (T iP))) [(.v 0)]) (.e_ 0))) [a,b,c,d,e,a_ (sT l)]=a_ (.lst (l.map λc=>.bl (!decide (c∈iP))),c_):=by
  refine comp_map l (λc=>sT [c]) _ oV (ae hl bG) (λc _=>⟨d_,?_⟩) λc _=>rfl;show a_ (Dat.bl (decide (fB (T iP) (T [c])<0)),d_)=_;rw[KL]
 rw[pX,bC,h1];show dG .any [.lst (l.map λc=>.bl (!decide (c∈iP)))]=_;rw[Lw,zK];simp
def Vl:List Sx:=XB.drop 3
def Gf(h:gW (a::b::r))(hr:r≠[])(i1:mG L (.int 1)=a_ (sT a))(i2:mG L (.int 2)=a_ (sT b))(hs:zD L (a_ 3) b_=a_ (.lst (r.map sT),c_))(hm:im L=d_) :
  ∃fr,bH (Cn D (n+2)) Vl [a_ (t0,d_),a_ (.dct KS VS,d_),a_ (L,c_),b_,b_,b_]=a_ (.rt (oJ 0 ((nG (a::b::r)).map .inl)) fr):=by
 obtain⟨f0,h0⟩:=D8 (n:=n+1) (m:=4) h.tail.tail;have la:=(h.w a iw).1;have lb:=(h.w b (jd _ iw)).1;have h1:Cn D (n+2) 32 [sT b]=a_ (.bl (oj b),d_):=Nf (n:=n+1) lb;have h2:dG .len [sT a]=a_ (.int (a.length:Nat),d_):=len_T (ae la bG);have h3:=λx y z w v=>VF (C:=Cn D (n+2)) (a:=x) (b:=y) (c:=z) (d:=w) (e:=v) la
 have hf:nG (a::b::r)=(match iM 4 r with|none=>b_|some cs=>if(tH a && oj b)=c_ then a_ (a,cs,b)else b_):=by
  unfold nG;rw[if_neg (by have:=gY.mpr hr;simp;exact this)];rfl
 rw[hf];unfold tH;show ∃fr,bH (Cn D (n+2)) [(.set 4 (.call 31 [(.sl (.v 2) (a_ (.e_ 3)) b_),(.e_ 4),(.v 1)])),(.set 5 (.ix (.v 2) (.e_ 1))),(.ifs (.or (.cmp .isn (.v 4) (.con .non)) (.or (.not (.Pd .le .le (.e_ 1) (.blt .len [(.v 5)]) (.e_ 6))) (.not (.call 32 [(.ix (.v 2) (.e_ 2))])))) [(.ret (.tup [(.e_ 0),(.con .non)]))] []),(.ifs xa [(.ret (.tup [(.e_ 0),(.con .non)]))] []),(.ret (.tup [(.e_ 0),(.tup [(.v 5),(.v 4),(.ix (.v 2) (.e_ 2))])]))] _=_;generalize xa=xx at h3 ⊢;generalize Dat.dct KS VS=dd at h0 ⊢;generalize Dat.lst (r.map sT)=Lr at h0 hs;clear hf hr h la lb
 cases hc:iM 4 r with
 |none=>
   rw[hc]at h0;replace h0:Cn D (n+2) 31 [Lr,.int 4,dd]=a_ (.non,f0):=h0;refine⟨c_,?_⟩;show _=a_ (Out.rt (.tup [.int 0,.non]) c_);clear h1 h2 h3 hc;walk_at "py"
 |some cs=>
   rw[hc]at h0;replace h0:Cn D (n+2) 31 [Lr,.int 4,dd]=a_ (tI cs,f0):=h0;have j1:im (tI cs)=c_:=df cs;have j2:cx .isn (tI cs) .non=a_ d_:=rfl;have j3:im (cU (a,cs,b))=c_:=qS _;have hfd:cU (a,cs,b)=.tup [sT a,tI cs,sT b]:=rfl;have k1:im (sT a)=c_:=rfl;have k2:im (sT b)=c_:=rfl;refine⟨c_,?_⟩;clear hc;generalize e1:decide ((1:Int)<=(a.length:Int))=p1;generalize e2:decide ((a.length:Int)<=6)=p2;generalize (a.all λc=>decide (c∈iP))=p3 at h3 ⊢;generalize oj b=p4 at h1 ⊢;rw[hfd]at j3
   cases p1<;>cases p2<;>cases p3<;>cases p4<;>first
    |(show _=a_ (Out.rt (.tup [.int 0,.non]) c_);generalize tI cs=tc at h0 j1 j2 j3;generalize sT a=ta at i1 h2 h3 j3 k1;generalize sT b=tb at i2 h1 j3 k2;clear hfd;walk_at "py";done)
    |(show _=a_ (Out.rt (.tup [.int 0,.tup [sT a,tI cs,sT b]]) c_);generalize tI cs=tc at h0 j1 j2 j3 ⊢;generalize sT a=ta at i1 h2 h3 j3 k1 ⊢;generalize sT b=tb at i2 h1 j3 k2 ⊢;clear hfd;walk_at "py";done)
def Gc(h:gW (w::ws))(hl:ws.length<=100):∃fr j,Cn D (n+3) 33 [sT (inter 32 (w::ws)),.dct KS VS]=a_ (oJ j (fZ (w::ws)),fr):=by
 suffices ∃fr j,bH (Cn D (n+2)) XB [a_ (sT (inter 32 (w::ws)),d_),a_ (.dct KS VS,d_),b_,b_,b_,b_]=a_ (.rt (oJ j (fZ (w::ws))) fr) by
  obtain⟨fr,j,this⟩:=this;exact⟨fr,j,cn (d:=d33) rfl (dz (C:=Cn D (n+2)) (np:=2) (nl:=6) (body:=XB) rfl this)⟩
 have hb:XB=[(.set 2 (.eD .split (.v 0) [(.f_ " ")])),(.ifs (.cmp .isin (.ix (.v 2) (.e_ 0)) kl) [(.set 3 (.bin .add (.e_ 1) (.vX kl (.ix (.v 2) (.e_ 0))))),(.set 4 (.call 31 [(.sl (.v 2) (a_ (.e_ 1)) b_),xm,(.v 1)])),(.ret (.tup [(.v 3),(.v 4)]))] []),(.ifs (.or (.cmp .ne (.ix (.v 2) (.e_ 0)) (.con (.str (aa "form")))) (.cmp .lt (.blt .len [(.v 2)]) (.e_ 4))) [(.ret (.tup [(.e_ 0),(.con .non)]))] [])]++Vl:=rfl;rw[hb,B1,ZW];have h1:gZ .split (sT (inter 32 (w::ws))) [sT [32]]=a_ (.lst ((w::ws).map sT),c_):=tY (by simp) (λw hw=>(h.w w hw).2) h.sum;have i0:mG (.lst ((w::ws).map sT)) (.int 0)=a_ (sT w):=gu (k:=0) (by simp);have hs:zD (.lst ((w::ws).map sT)) (a_ 1) b_=a_ (.lst (ws.map sT),c_):=D3 (ws:=w::ws) (k:=1) (by simp);have hm:im (.lst ((w::ws).map sT))=d_:=rfl;have h2:=Om w KW.tail;have hk:=λρ=>Qs (C:=Cn D (n+2)) (ρ:=ρ);have h3:cx .ne (sT w) (sT (KW.getD 0 []))=a_ (!decide (w=KW.getD 0 [])):=ne_T _ _;have h4:dG .len [.lst ((w::ws).map sT)]=a_ (.int ((w::ws).length:Nat),d_):=by rw[iN,ag]
 have ht:=h.tail;have hm2:im (.lst (KW.tail.map sT))=d_:=rfl;by_cases hw:w∈KW.tail
 ·obtain⟨k,hk',rfl⟩:∃k,k+1<6/\w=KW.getD (k+1) []:=by
   obtain⟨k,hk,e⟩:=ve (pj hw)
   cases k with
   |zero=>exact absurd hw (N3 (.inr e))
   |succ k=>exact⟨k,hk,e⟩
  obtain⟨l1,_⟩:=EI hk';rw[decide_eq_true hw]at h2;obtain⟨f0,hr⟩:=D8 (n:=n+1) (m:=vV (k+1)) ht;have hx:=λa b c d e=>VE (C:=Cn D (n+2)) (a:=a) (b:=b) (c:=c) (d:=d) (e:=e) (k:=k);rw[J8 hk'];have ek:(1:Int)+(k:Nat)=((k+1:Nat):Int):=by omega
  generalize Dat.int (vV (k+1):Nat)=dm at hr hx;generalize hcs:iM (vV (k+1)) ws=r at hr ⊢;generalize xm=x at hx ⊢;generalize kl=y at hk ⊢;generalize Vl=rest;generalize sT (KW.getD (k+1) [])=tw at h2 h3 i0 l1;generalize sT (inter 32 (KW.getD (k+1) []::ws))=t at h1 ⊢;generalize Dat.lst ((KW.getD (k+1) []::ws).map sT)=L at h1 i0 hs hm h4;generalize Dat.lst (ws.map sT)=Lr at hs hr;generalize Dat.lst (KW.tail.map sT)=KT at h2 hk l1 hm2;generalize Dat.dct KS VS=dd at hr ⊢;clear h ht hw hcs h3 h4 hk'
  have hlx:∀ρ:fP,bg (Cn D (n+2)) (.ix (.v 2) (.e_ 0)) ρ=a_ (tw,d_)->bg (Cn D (n+2)) (.vX y (.ix (.v 2) (.e_ 0))) ρ=a_ (.int (k:Nat),d_):=λρ q=>by
   show(bg _ y ρ).bind _=_;rw[hk ρ,au,q];exact l1
  have hl2:=hlx [a_ t,a_ dd,a_ L,b_,b_,b_] (by walk_at "py");generalize Ex.vX y (.ix (.v 2) (.e_ 0))=z at hl2 ⊢;clear hlx l1
  cases r with
  |none=>
    replace hr:Cn D (n+2) 31 [Lr,dm,dd]=a_ (.non,f0):=hr;refine⟨c_,((k+1:Nat):Int),?_⟩;show _=a_ (Out.rt (.tup [.int ((k+1:Nat):Int),.non]) c_);generalize ((k+1:Nat):Int)=ki at ek hx ⊢;walk_at "py"
  |some cs=>
    have j1:im (tI cs)=c_:=df cs;replace hr:Cn D (n+2) 31 [Lr,dm,dd]=a_ (tI cs,f0):=hr;refine⟨c_,0,?_⟩;show _=a_ (Out.rt (.tup [.int ((k+1:Nat):Int),tI cs]) c_);generalize tI cs=d at hr j1 ⊢;generalize ((k+1:Nat):Int)=ki at ek hx ⊢;walk_at "py"
 ·rw[decide_eq_false hw]at h2
  have go:∀(R:List Sx),bH (Cn D (n+2)) ([(.set 2 (.eD .split (.v 0) [(.con (.str (T [32])))])),(.ifs (.cmp .isin (.ix (.v 2) (.e_ 0)) kl) [(.set 3 (.bin .add (.e_ 1) (.vX kl (.ix (.v 2) (.e_ 0))))),(.set 4 (.call 31 [(.sl (.v 2) (a_ (.e_ 1)) b_),xm,(.v 1)])),(.ret (.tup [(.v 3),(.v 4)]))] [])]++R) [a_ (sT (inter 32 (w::ws)),d_),a_ (.dct KS VS,d_),b_,b_,b_,b_]=bH (Cn D (n+2)) R [a_ (sT (inter 32 (w::ws)),d_),a_ (.dct KS VS,d_),a_ (.lst ((w::ws).map sT),c_),b_,b_,b_]:=λR=>by
   generalize sT (inter 32 (w::ws))=t at h1 ⊢;generalize Dat.lst ((w::ws).map sT)=L at h1 i0 hs hm h4 ⊢;generalize sT w=tw at h2 h3 i0;generalize Dat.lst (KW.tail.map sT)=KT at h2 hk hm2;generalize kl=y at hk ⊢;generalize Dat.dct KS VS=dd;clear h ht hw h3 h4 hs;rw[bV,bV,dq,bK (ρ1:=[a_ (t,d_),a_ (dd,d_),a_ (L,c_),b_,b_,b_]) (by walk_at "py")];exact bK (by rw[gh (d:=.bl d_) (fr:=d_) (by walk_at "py") rfl];rfl)
  rw[show [(.set 2 (.eD .split (.v 0) [(.con (.str (T [32])))])),(.ifs (.cmp .isin (.ix (.v 2) (.e_ 0)) kl) [(.set 3 (.bin .add (.e_ 1) (.vX kl (.ix (.v 2) (.e_ 0))))),(.set 4 (.call 31 [(.sl (.v 2) (a_ (.e_ 1)) b_),xm,(.v 1)])),(.ret (.tup [(.v 3),(.v 4)]))] []),(.ifs (.or (.cmp .ne (.ix (.v 2) (.e_ 0)) (.con (sT (KW.getD 0 [])))) (.cmp .lt (.blt .len [(.v 2)]) (.e_ 4))) [(.ret (.tup [(.e_ 0),(.con .non)]))] [])]++Vl=[(.set 2 (.eD .split (.v 0) [(.con (.str (T [32])))])),(.ifs (.cmp .isin (.ix (.v 2) (.e_ 0)) kl) [(.set 3 (.bin .add (.e_ 1) (.vX kl (.ix (.v 2) (.e_ 0))))),(.set 4 (.call 31 [(.sl (.v 2) (a_ (.e_ 1)) b_),xm,(.v 1)])),(.ret (.tup [(.v 3),(.v 4)]))] [])]++(.ifs (.or (.cmp .ne (.ix (.v 2) (.e_ 0)) (.con (sT (KW.getD 0 [])))) (.cmp .lt (.blt .len [(.v 2)]) (.e_ 4))) [(.ret (.tup [(.e_ 0),(.con .non)]))] []::Vl)from rfl,go]
  have bad:(w=KW.getD 0 []/\¬(w::ws).length<4)\/(fZ (w::ws)=b_/\(w≠KW.getD 0 []\/(w=KW.getD 0 []/\(w::ws).length<4))):=by
   by_cases e:w=KW.getD 0 []
   ·by_cases e2:(w::ws).length<4
    ·refine .inr ⟨?_,.inr ⟨e,e2⟩⟩;rw[e,C6,show nG ws=b_ from if_pos (by simp at e2;exact cK e2)];rfl
    ·exact .inl ⟨e,e2⟩
   ·refine .inr ⟨wW λz=>?_,.inl e⟩;obtain⟨k,hk',e'⟩:=ve z
    cases k with
    |zero=>exact e e'
    |succ k=>exact hw (by rw[e'];exact(EI hk').2)
  rcases bad with⟨e,e2⟩|⟨e,e2⟩
  ·subst e
   obtain⟨a,b,r,rfl⟩:∃a b r,ws=a::b::r:=by
    match ws,e2 with
    |a::b::r,_=>exact⟨a,b,r,rfl⟩
    |[],h=>exact absurd (by simp) h
    |[_],h=>exact absurd (by simp) h
   have hr:r≠[]:=λz=>e2 (by rw[z];simp);have i1:mG (.lst ((KW.getD 0 []::a::b::r).map sT)) (.int 1)=a_ (sT a):=gu (k:=1) (by simp);have i2:mG (.lst ((KW.getD 0 []::a::b::r).map sT)) (.int 2)=a_ (sT b):=gu (k:=2) (by simp);have s3:zD (.lst ((KW.getD 0 []::a::b::r).map sT)) (a_ 3) b_=a_ (.lst (r.map sT),c_):=D3 (ws:=KW.getD 0 []::a::b::r) (k:=3) (by simp);obtain⟨fr,rf⟩:=Gf (n:=n) (t0:=sT (inter 32 (KW.getD 0 []::a::b::r))) ht hr i1 i2 s3 rfl;refine⟨fr,0,?_⟩;rw[C6,<-rf];have h3:cx .ne (sT (KW.getD 0 [])) (sT (KW.getD 0 []))=a_ d_:=by rw[h3,decide_eq_true rfl];rfl
   have e4:decide (((KW.getD 0 []::a::b::r).length:Int)<4)=d_:=decide_eq_false (by omega);refine bK ?_;generalize Vl=R at rf;generalize (KW.getD 0 []::a::b::r).length=len at h4 e4;generalize Dat.lst ((KW.getD 0 []::a::b::r).map sT)=L at i0 h4 ⊢;generalize sT (KW.getD 0 [])=tw at i0 h3 ⊢;generalize sT (inter 32 (KW.getD 0 []::a::b::r))=t;generalize Dat.dct KS VS=dd;clear rf go h ht hw h1 h2 hs hm hk hm2 e2 hr i1 i2 s3;rw[gh (d:=.bl d_) (fr:=d_) (by walk_at "py") rfl];rfl
  ·rw[e];refine⟨c_,0,?_⟩;show(gJ _ (.ifs _ _ _) _).bind _=a_ (Out.rt (.tup [.int 0,.non]) c_)
   have hor:bg (Cn D (n+2)) (.or (.cmp .ne (.ix (.v 2) (.e_ 0)) (.con (sT (KW.getD 0 [])))) (.cmp .lt (.blt .len [(.v 2)]) (.e_ 4))) (full [a_ (sT (inter 32 (w::ws)),d_),a_ (.dct KS VS,d_),a_ (.lst ((w::ws).map sT),c_),b_,b_,b_])=a_ (.bl c_,d_):=by
    generalize Dat.dct KS VS=dd;generalize sT (inter 32 (w::ws))=t;generalize sT (KW.getD 0 [])=t0 at h3 ⊢
    rcases e2 with e2|⟨e2,e3⟩
    ·rw[decide_eq_false e2]at h3;generalize Dat.lst ((w::ws).map sT)=L at i0 ⊢;generalize sT w=tw at h3 i0;clear go h ht hw h1 h2 hs hm hk hm2 e2 e h4;walk_at "py"
    ·rw[decide_eq_true e2]at h3;have e4:decide (((w::ws).length:Int)<4)=c_:=decide_eq_true (jb.mpr e3);generalize (w::ws).length=len at h4 e4;generalize Dat.lst ((w::ws).map sT)=L at i0 h4 ⊢;generalize sT w=tw at h3 i0;clear go h ht hw h1 h2 hs hm hk hm2 e2 e e3;walk_at "py"
   rw[gf hor rfl];rfl
def oO:Nat->List (List (List Nat))->List Fm->List (List Int)->Nat->Nat ⊕ (List Fm×List (List Int))
 |_,[],fs,ps,_=>.inr (fs,ps)
 | k,ws::r,fs,ps,le=>match fZ ws with
   |none=>.inl k
   |some (.inl f)=>if 0<le then .inl k else oO (k+1) r (fs++[f]) ps le
   |some (.inr p)=>if p.1<le then .inl k else oO (k+1) r fs (ps.set (p.1 - 1) p.2) (p.1+1)
abbrev eL(ws:List (List Nat)):Dat:=sT (inter 32 ws)
structure gL(LW:List (List (List Nat))):Prop where
 l:LW.length<=100
 g:∀ws∈LW,gW ws/\ws≠[]/\ws.length<=100
def Ge(h:gW ws/\ws≠[]/\ws.length<=100):∃fr,Cn D (n+6) 18 [eL ws]=a_ (oT (fZ ws),fr):=by
 obtain⟨h1,h2,h3⟩:=h
 cases ws with
 |nil=>exact absurd rfl h2
 |cons w ws=>exact Ja h1 (by simp at h3;exact bF h3)
set_option tactic.hygienic true
def xE(h:iM m ws=a_ cs):1<=cs.length/\cs.length<=m/\jc cs 1 m=c_:=by
 have h0:=rN m ws;rw[h]at h0;unfold iM at h;split at h
 ·rename_i q;simp only[af,decide_eq_true_eq]at q;cases h;refine⟨by rw[ag];exact q.1,by rw[ag];exact q.2.1,?_⟩;split at h0
  ·split at h0
   ·cases h0;assumption
   ·cases h0
  ·cases h0
 ·cases h
def getD_mem{α:Type}{xs:List α}{d:α}(k:Nat):xs.getD k d=d\/xs.getD k d∈xs:=by
 by_cases hk:k<xs.length
 ·right;have:xs.getD k d=xs[k]:=by simp[lM,hk]
  rw[this];exact bA hk
 ·left;simp[lM,hk]
def gT:U9->Prop
 |.inl f=>wF f/\AX f=c_
 |.inr p=>1<=p.1/\p.1<=5/\p.2≠[]/\p.2.length<=10/\jc p.2 1 (vV p.1)=c_
def qP(g:gW ws)(h:fZ ws=a_ t):gT t:=by
 unfold fZ at h;split at h
 ·cases h
 ·obtain⟨f,h1,rfl⟩:=er h;unfold nG at h1;split at h1
  ·cases h1
  ·rename_i hl;split at h1
   ·cases h1
   ·rename_i cs hc;split at h1
    ·rename_i hb;cases h1;rw[af]at hb;obtain⟨c1,c2,c3⟩:=xE hc
     have hw:∀k,(ws.tail.getD k []).length<=60:=λk=>by
      rcases getD_mem (xs:=ws.tail) (d:=[]) k with q|q
      ·rw[q];simp
      ·exact(g.w _ (pj q)).1
     have h0:=hw 0;have h1:=hw 1;refine⟨⟨by show(ws.tail.getD 0 []).length<=100;exact ae h0 bG,by show cs.length<=100;exact ae c2 bG,by show(ws.tail.getD 1 []).length<=100;exact ae h1 bG⟩,?_⟩;unfold AX;dsimp only;rw[hb.1,hb.2,show jc cs 1 4=c_ from c3];rfl
    ·cases h1
 ·rename_i k hk;obtain⟨cs,h1,rfl⟩:=er h;obtain⟨c1,c2,c3⟩:=xE h1
  have hk6:k+1<6:=by
   obtain⟨q,_⟩:=jM.mp hk;exact q
  have:vV (k+1)<=10:=by unfold vV;split<;>simp
  exact⟨by show 1<=k+1;simp,by show k+1<=5;exact cK hk6,λz=>by rw[show cs=[]from z]at c1;simp at c1,by show cs.length<=10;exact ae c2 this,c3⟩
def Oh:List Sx:=[(.set 6 (.call 18 [(.v 5)])),(.ifs (.or (.cmp .isn (.v 6) (.con .non)) (.cmp .lt (.ix (.v 6) (.e_ 0)) (.v 3))) [(.wL cB "place" (.v 4))] []),(.ifs (.cmp .eq (.ix (.v 6) (.e_ 0)) (.e_ 0)) [(.mut .app 1 [(.ix (.v 6) (.e_ 1))])] [(.mut .seti 2 [(.ix (.v 6) (.e_ 1)),(.bin .sub (.ix (.v 6) (.e_ 0)) (.e_ 1))]),(.set 3 (.bin .add (.ix (.v 6) (.e_ 0)) (.e_ 1)))])]
abbrev DP(X:Dat)(fs:List Fm)(ps:List (List Int))(le:Nat)(z4 z5 z6:g_):cX:=[a_ (X,d_),a_ (.lst (fs.map cU),c_),a_ (.lst (ps.map tI),c_),a_ (.int (le:Nat),d_),z4,z5,z6]
def tu(X:Dat)(fs:List Fm)(ps:List (List Int))(le k:Nat)(ws:List (List Nat)):Option U9->Out
 |none=>.xc cB "place" (.int (k:Nat))
 | some t=>match t with
   |.inl f=>if 0<le then .xc cB "place" (.int (k:Nat))else .nx (DP X (fs++[f]) ps le (a_ (.int (k:Nat),d_)) (a_ (eL ws,d_)) (a_ (LS t,d_)))
   |.inr p=>if p.1<le then .xc cB "place" (.int (k:Nat))else .nx (DP X fs (ps.set (p.1 - 1) p.2) (p.1+1) (a_ (.int (k:Nat),d_)) (a_ (eL ws,d_)) (a_ (LS t,d_)))
def UU{fs:List Fm}{ps:List (List Int)}(h:C 18 [eL ws]=a_ (oT (fZ ws),fr))(hg:∀t,fZ ws=a_ t->gT t)(hf:fs.length<=1000)(hp:ps.length=5):bH C Oh (DP X fs ps le (a_ (.int (k:Nat),d_)) (a_ (eL ws,d_)) z6)=a_ (tu X fs ps le k ws (fZ ws)):=by
 unfold Oh DP
 cases q:fZ ws with
 |none=>
   rw[q]at h;replace h:C 18 [eL ws]=a_ (.non,fr):=h;show _=a_ (Out.xc cB "place" (.int (k:Nat)));generalize eL ws=t at h ⊢;generalize Dat.lst (fs.map cU)=F;generalize Dat.lst (ps.map tI)=P;clear hg q hf hp;rw[bK (ρ1:=[a_ (X,d_),a_ (F,c_),a_ (P,c_),a_ (.int (le:Nat),d_),a_ (.int (k:Nat),d_),a_ (t,d_),a_ (.non,d_)]) (by walk_at "py")];show(gJ C (.ifs _ _ _) _).bind _=_;rw[gf (d:=.bl c_) (fr:=d_) (by walk_at "py") rfl];rfl
 |some t=>
   have gt:=hg t q;rw[q]at h;replace h:C 18 [eL ws]=a_ (LS t,fr):=h;clear hg q
   cases t with
   |inl f=>
     have j1:=qS f;have e1:LS (.inl f)=.tup [.int 0,cU f]:=rfl;have j2:im (.tup [.int 0,cU f])=c_:=by show(c_ && (im (cU f) && c_))=c_;rw[j1];rfl
     have j3:cx .isn (.tup [.int 0,cU f]) .non=a_ d_:=rfl;have i0:mG (.tup [.int 0,cU f]) (.int 0)=a_ (.int 0):=rfl;have i1:mG (.tup [.int 0,cU f]) (.int 1)=a_ (cU f):=rfl
     have ha:lz .app (.lst (fs.map cU)) [cU f]=a_ (.lst ((fs++[f]).map cU)):=by
      rw[fk];exact if_pos (by rw[ag,bu];exact aN hf bG)
     show _=a_ (if 0<le then Out.xc cB "place" (.int (k:Nat))else .nx (DP X (fs++[f]) ps le (a_ (.int (k:Nat),d_)) (a_ (eL ws,d_)) (a_ (LS (.inl f),d_))));unfold DP;rw[e1]at h ⊢;generalize eL ws=tl at h ⊢;generalize Dat.lst ((fs++[f]).map cU)=F2 at ha ⊢;generalize Dat.lst (fs.map cU)=F at ha ⊢;generalize Dat.lst (ps.map tI)=P;generalize cU f=d at h j1 j2 j3 i0 i1 ha ⊢;generalize Dat.tup [.int 0,d]=T0 at h j2 j3 i0 i1 ⊢;clear hf hp gt e1;rw[bK (ρ1:=[a_ (X,d_),a_ (F,c_),a_ (P,c_),a_ (.int (le:Nat),d_),a_ (.int (k:Nat),d_),a_ (tl,d_),a_ (T0,d_)]) (by walk_at "py")];by_cases hl:0<le
     ·rw[if_pos hl];have e:decide ((0:Int)<(le:Int))=c_:=decide_eq_true (eQ.mpr hl);show(gJ C (.ifs _ _ _) _).bind _=_;rw[gf (d:=.bl c_) (fr:=d_) (by clear hl;walk_at "py") rfl];rfl
     ·rw[if_neg hl];have e:decide ((0:Int)<(le:Int))=d_:=decide_eq_false (by omega);rw[bK (by rw[gh (d:=.bl d_) (fr:=d_) (by clear hl;walk_at "py") rfl];rfl)];show(gJ C (.ifs _ _ _) _).bind _=_;rw[gf (d:=.bl c_) (fr:=d_) (by clear hl;walk_at "py") rfl];clear hl e;walk_at "py"
   |inr p=>
     obtain⟨kk,cs⟩:=p;obtain⟨g1,g2,g3,g4,_⟩:=gt;replace g1:1<=kk:=g1;replace g2:kk<=5:=g2;have j1:im (tI cs)=c_:=df cs;have e1:LS (.inr (kk,cs))=.tup [.int (kk:Nat),tI cs]:=rfl;have j2:im (.tup [.int (kk:Nat),tI cs])=c_:=by show(c_ && (im (tI cs) && c_))=c_;rw[j1];rfl
     have j3:cx .isn (.tup [.int (kk:Nat),tI cs]) .non=a_ d_:=rfl;have i0:mG (.tup [.int (kk:Nat),tI cs]) (.int 0)=a_ (.int (kk:Nat)):=rfl;have i1:mG (.tup [.int (kk:Nat),tI cs]) (.int 1)=a_ (tI cs):=rfl
     have ha:lz .seti (.lst (ps.map tI)) [tI cs,.int ((kk:Nat) - 1:Int)]=a_ (.lst ((ps.set (kk - 1) cs).map tI)):=by
      show(if -1000000<=((kk:Nat) - 1:Int)/\((kk:Nat) - 1:Int)<=1000000 then(uM (tI cs) ((kk:Nat) - 1:Int) (ps.map tI)).map Dat.lst else b_)=_;rw[if_pos (by omega)];unfold uM EM;rw[ag,if_pos (by exact pL (dR.mpr g1)),if_pos (by omega),aH,aH,sO];rw[show(((kk:Nat) - 1:Int)).toNat=kk - 1 by simp]
     have hk0:(((kk:Nat):Int) == 0)=d_:=beq_false_of_ne (by omega);show _=a_ (if kk<le then Out.xc cB "place" (.int (k:Nat))else .nx (DP X fs (ps.set (kk - 1) cs) (kk+1) (a_ (.int (k:Nat),d_)) (a_ (eL ws,d_)) (a_ (LS (.inr (kk,cs)),d_))));unfold DP;rw[e1]at h ⊢;have ek:((kk:Nat):Int)+1=((kk+1:Nat):Int):=by rfl
     generalize eL ws=tl at h ⊢;generalize Dat.lst ((ps.set (kk - 1) cs).map tI)=P2 at ha ⊢;generalize Dat.lst (ps.map tI)=P at ha ⊢;generalize Dat.lst (fs.map cU)=F;generalize tI cs=d at h j1 j2 j3 i0 i1 ha ⊢;generalize Dat.tup [.int (kk:Nat),d]=T0 at h j2 j3 i0 i1 ⊢;clear hf hp e1 g1 g2 g3 g4;rw[bK (ρ1:=[a_ (X,d_),a_ (F,c_),a_ (P,c_),a_ (.int (le:Nat),d_),a_ (.int (k:Nat),d_),a_ (tl,d_),a_ (T0,d_)]) (by walk_at "py")];by_cases hl:kk<le
     ·rw[if_pos hl];have e:decide (((kk:Nat):Int)<(le:Int))=c_:=decide_eq_true (jb.mpr hl);show(gJ C (.ifs _ _ _) _).bind _=_;rw[gf (d:=.bl c_) (fr:=d_) (by clear hl ek;walk_at "py") rfl];rfl
     ·rw[if_neg hl];have e:decide (((kk:Nat):Int)<(le:Int))=d_:=decide_eq_false (by omega);rw[bK (by rw[gh (d:=.bl d_) (fr:=d_) (by clear hl ek;walk_at "py") rfl];rfl)];show(gJ C (.ifs _ _ _) _).bind _=_;rw[gh (d:=.bl d_) (fr:=d_) (by clear hl ek;walk_at "py") rfl,<-ek];generalize ((kk:Nat):Int)=ki at *;clear hl e ek;walk_at "py"
def YZ(X:Dat)(z4 z5 z6:g_)(le:Nat):Nat ⊕ (List Fm×List (List Int))->Out
 |.inl k=>.xc cB "place" (.int (k:Nat))
 |.inr q=>.nx (DP X q.1 q.2 le z4 z5 z6)
theorem C4:∀(LW:List (List (List Nat))) (k:Nat) (fs:List Fm) (ps:List (List Int)) (le:Nat) (z4 z5 z6:g_),(∀ws∈LW,gW ws/\∃fr,C 18 [eL ws]=a_ (oT (fZ ws),fr))->fs.length+LW.length<=1000->ps.length=5->
  ∃y4 y5 y6 le',eE (dW d_ [4,5]) (bH C Oh) (l6 k (LW.map eL)) (DP X fs ps le z4 z5 z6)=a_ (YZ X y4 y5 y6 le' (oO k LW fs ps le))
 |[],k,fs,ps,le,z4,z5,z6,_,_,_=>⟨z4,z5,z6,le,rfl⟩
 |ws::LW,k,fs,ps,le,z4,z5,z6,h,hl,hp=>by
   obtain⟨gw,fr,hc⟩:=h ws iw;have hb:=UU (X:=X) (fs:=fs) (ps:=ps) (le:=le) (k:=k) (z6:=z6) hc (λt q=>qP gw q) (by simp at hl;exact ae (bO _ _) hl) hp;have hbd:dW d_ [4,5] (.tup [.int (k:Nat),eL ws]) (DP X fs ps le z4 z5 z6)=a_ (DP X fs ps le (a_ (.int (k:Nat),d_)) (a_ (eL ws,d_)) z6):=rfl;have hr:=λw hw=>h w (jd _ hw);rw[ah];simp only[l6,eE,hbd,au,hb,oO]
   cases q:fZ ws with
   |none=>exact⟨b_,b_,b_,0,rfl⟩
   |some t=>
     cases t with
     |inl f=>
       simp only[tu];by_cases hle:0<le
       ·rw[if_pos hle,if_pos hle];exact⟨b_,b_,b_,0,rfl⟩
       ·rw[if_neg hle,if_neg hle];exact C4 LW (k+1) (fs++[f]) ps le _ _ _ hr (by simp at hl ⊢;omega) hp
     |inr p=>
       simp only[tu];by_cases hle:p.1<le
       ·rw[if_pos hle,if_pos hle];exact⟨b_,b_,b_,0,rfl⟩
       ·rw[if_neg hle,if_neg hle];exact C4 LW (k+1) fs (ps.set (p.1 - 1) p.2) (p.1+1) _ _ _ hr (by simp at hl;omega) (by rw[iF];exact hp)
structure gS(fs:List Fm)(ps:List (List Int))(m:Nat):Prop where
 f:∀f∈fs,wF f/\AX f=c_
 l:fs.length<=m
 p:ps.length=5
 c:∀p∈ps,p.length<=10
 r:∀i,i<5->ps.getD i []=[]\/jc (ps.getD i []) 1 (vV (i+1))=c_
theorem zS:∀(LW:List (List (List Nat)))(k:Nat)(fs:List Fm)(ps:List (List Int))(le m:Nat)(q:List Fm×List (List Int)),(∀ws∈LW,gW ws)->gS fs ps m->oO k LW fs ps le=.inr q->gS q.1 q.2 (m+LW.length)
 |[],k,fs,ps,le,m,q,_,g,h=>by cases h;exact g
 |ws::LW,k,fs,ps,le,m,q,hw,g,h=>by
   have hr:=λw hw'=>hw w (jd _ hw');unfold oO at h;split at h
   ·cases h
   ·rename_i f hf;split at h
    ·cases h
    ·have gt:=qP (hw ws iw) hf
     have:=zS LW (k+1) (fs++[f]) ps le (m+1) q hr ⟨λx hx=>by
      rcases aL.mp hx with hx|hx
      ·exact g.f x hx
      ·rw[aQ.mp hx];exact gt,by have:=g.l;simp;omega,g.p,g.c,g.r⟩ h
     rw[aS,show m+(LW.length+1)=m+1+LW.length by omega];exact this
   ·rename_i p hp;obtain⟨kk,cs⟩:=p;split at h
    ·cases h
    ·obtain⟨g1,g2,g3,g4,g5⟩:=qP (hw ws iw) hp;replace g1:1<=kk:=g1;replace g2:kk<=5:=g2
     have:=zS LW (k+1) fs (ps.set (kk - 1) cs) (kk+1) (m+1) q hr ⟨g.f,by have:=g.l;omega,by rw[iF];exact g.p,λx hx=>by
      rcases ja hx with hx|hx
      ·exact g.c x hx
      ·rw[hx];exact g4,λi hi=>by
      have hp5:=g.p;by_cases e:kk - 1=i
      ·right;have:(ps.set (kk - 1) cs).getD i []=cs:=by simp[lM,e,hp5,hi]
       rw[this,show i+1=kk by omega];exact g5
      ·have:(ps.set (kk - 1) cs).getD i []=ps.getD i []:=by simp[lM,e]
       rw[this]
       exact g.r i hi⟩ h
     rw[aS,show m+(LW.length+1)=m+1+LW.length by omega];exact this
set_option tactic.hygienic false
def Aa(ha:iB C es (full ρ)=a_ ds)(h:C j ds=a_ (d,fr)):gJ C (.Hu j es) ρ=a_ (.rt d fr):=by
 show(match bg C (.call j es) (full ρ)with
  |some x=>a_ (Out.rt x.1 x.2)
  |none=>(bg C (.call (j+o8) es) (full ρ)).bind λx=>qX x.1)=_
 rw[cN,ha,au,h]
def Nk{C:Fs}{j:Nat}{es:List Ex}{ρ:cX}{ds:List Dat}{c:Nat}{f:a8}{d:Dat}(ha:iB C es (full ρ)=a_ ds)(h:C j ds=b_)(h2:C (j+o8) ds=a_ (.tup [.int c,.str f,d],d_)):gJ C (.Hu j es) ρ=a_ (.xc c f d):=by
 show(match bg C (.call j es) (full ρ)with
  |some x=>a_ (Out.rt x.1 x.2)
  |none=>(bg C (.call (j+o8) es) (full ρ)).bind λx=>qX x.1)=_
 rw[cN,cN,ha,au,au,h,h2];show a_ (Out.xc ((c:Int).toNat) f d)=a_ (Out.xc c f d);rw[cZ]
def oi(LW:List (List (List Nat))):(Nat×a8×Dat) ⊕ Dat:=match oO 0 LW [] [[],[],[],[],[]] 0 with
 |.inl k=>.inl (cB,"place",.int (k:Nat))
 | .inr q=>match ED q.1 (q.2.getD 0 []) (q.2.getD 1 []) (q.2.getD 2 []) (q.2.getD 3 []) (q.2.getD 4 [])with
   |some x=>.inl x
   |none=>.inr (qy q.1 (q.2.getD 0 []) (q.2.getD 1 []) (q.2.getD 2 []) (q.2.getD 3 []) (q.2.getD 4 []))
def RtR(C:Fs)(j:Nat)(ds:List Dat):(Nat×a8×Dat) ⊕ Dat->Prop
 |.inr d=>∃fr,C j ds=a_ (d,fr)
 |.inl x=>C j ds=b_/\C (j+o8) ds=a_ (.tup [.int x.1,.str x.2.1,x.2.2],d_)
def Zh:gS [] [[],[],[],[],[]] 0:=⟨λ_ h=>by simp at h,by simp,rfl,λp hp=>by simp at hp;rw[hp];simp,λi hi=>.inl (by match i,hi with|0,_=>rfl|1,_=>rfl|2,_=>rfl|3,_=>rfl|4,_=>rfl)⟩
def Ul{ps:List (List Int)}(h:ps.length=5):ps=[ps.getD 0 [],ps.getD 1 [],ps.getD 2 [],ps.getD 3 [],ps.getD 4 []]:=by
 match ps,h with
 |[a,b,c,d,e],_=>rfl
def Gb(hf:∀f∈fs,wF f)(hl:fs.length<=100)(hp:∀m∈[p0,p1,p2,p3,p4],m.length<=10):Rm (Cn D (n+5)) [.lst (fs.map cU),.lst [tI p0,tI p1,tI p2,tI p3],tI p4] (qy fs p0 p1 p2 p3 p4) (ED fs p0 p1 p2 p3 p4):=by
 refine IZ (n:=n) (f0:=d_) (f2:=d_) rfl ?_ rfl hf hl λm hm=>by have:=hp m hm;exact ae this bG
 exact comp_map [p0,p1,p2,p3] tI tI rfl (by simp) (λm _=>⟨d_,rfl⟩) λm _=>df m
def IY(g:gL LW):RtR (Cn D (n+7)) 19 [.lst (LW.map eL)] (oi LW):=by
 obtain⟨y4,y5,y6,le,hl⟩:=C4 (C:=Cn D (n+6)) (X:=.lst (LW.map eL)) LW 0 [] [[],[],[],[],[]] 0 b_ b_ b_ (λws hw=>⟨(g.g ws hw).1,Ge (g.g ws hw)⟩) (by have:=g.l;simp;exact ae this bG) rfl;have h1:∀R,bH (Cn D (n+6)) (Vx.take 4++R) [a_ (.lst (LW.map eL),d_),b_,b_,b_,b_,b_,b_]=(eE (dW d_ [4,5]) (bH (Cn D (n+6)) Oh) (l6 0 (LW.map eL)) (DP (.lst (LW.map eL)) [] [[],[],[],[],[]] 0 b_ b_ b_)).bind (IP (bH (Cn D (n+6)) R)):=λR=>rfl;rw[hl]at h1;have hb:Vx=Vx.take 4++[.Hu 15 [(.v 1),(.sl (.v 2) b_ (a_ (.e_ 4))),(.ix (.v 2) (.e_ 4))]]:=rfl
 have run:bH (Cn D (n+6)) Vx [a_ (.lst (LW.map eL),d_),b_,b_,b_,b_,b_,b_]=(match oi LW with
   |.inr d=>a_ (.rt d d_)
   |.inl x=>a_ (.xc x.1 x.2.1 x.2.2)):=by
  rw[hb,h1];unfold oi
  cases q:oO 0 LW [] [[],[],[],[],[]] 0 with
  |inl k=>rfl
  |inr q'=>
    obtain⟨fs,ps⟩:=q';have gs:=zS LW 0 [] _ 0 0 _ (λws hw=>(g.g ws hw).1) Zh q;obtain⟨g1,g2,g3,g4,_⟩:=gs;dsimp only at g1 g2 g3 g4 ⊢;have e5:=Ul g3;generalize ps.getD 0 []=p0 at *;generalize ps.getD 1 []=p1 at *;generalize ps.getD 2 []=p2 at *;generalize ps.getD 3 []=p3 at *;generalize ps.getD 4 []=p4 at *;subst e5;have hm:=Gb (n:=n+1) (fs:=fs) (p0:=p0) (p1:=p1) (p2:=p2) (p3:=p3) (p4:=p4) (λf hf=>(g1 f hf).1) (by have:=g.l;exact ae g2 (kQ this (bQ _))) g4;have ha:iB (Cn D (n+6)) [(.v 1),(.sl (.v 2) b_ (a_ (.e_ 4))),(.ix (.v 2) (.e_ 4))] (full (DP (.lst (LW.map eL)) fs [p0,p1,p2,p3,p4] le y4 y5 y6))=a_ [.lst (fs.map cU),.lst [tI p0,tI p1,tI p2,tI p3],tI p4]:=rfl;show bH (Cn D (n+6)) [.Hu 15 _] (DP (.lst (LW.map eL)) fs [p0,p1,p2,p3,p4] le y4 y5 y6)=_;show(gJ (Cn D (n+6)) (.Hu 15 _) _).bind _=_
    cases q2:ED fs p0 p1 p2 p3 p4 with
    |none=>
      rw[q2]at hm;rw[Aa ha hm];rfl
    |some x=>
      rw[q2]at hm;obtain⟨c,f,d⟩:=x;rw[Nk ha hm.1 hm.2];rfl
 cases q:oi LW with
 |inr d=>
   rw[q]at run;exact⟨d_,cn (d:=Zs) rfl (dz (C:=Cn D (n+6)) (np:=1) (nl:=7) (body:=Vx) rfl run)⟩
 |inl x=>
   rw[q]at run;exact Ab (j:=19) (d:=Zs) rfl rfl run
def nmC(c:Nat):a8:=if c=cF then "form" else if c=cT then "twice" else if c=cM then "mark" else if c=cB then "table" else "letter"
def wI:(Nat×a8×Dat) ⊕ Dat->Dat
 |.inr r=>.tup [.str "made",r]
 |.inl x=>.tup [.str (nmC x.1),x.2.2]
def YS(x:Nat×a8×Dat):Prop:=((x.1=cF\/x.1=cT\/x.1=cM)/\x.2.1="number"/\∃j:Nat,x.2.2=.int (j:Nat))\/(x.1=cB/\x.2.1="place"/\∃j:Nat,x.2.2=.int (j:Nat))\/(x.1=cL/\x.2.1="letter"/\∃a:Nat,x.2.2=sT [a])
def zm:List Sx:=Vv.drop 3
noncomputable abbrev zt(X:Dat)(a b:g_):cX:=[a_ (X,d_),a,b,b_,b_,b_]
def Wb(C:Fs)(X:Dat)(k:Int):bH C zm (zt X (a_ (.exc cF "number" (.inl k),c_)) (a_ (.non,d_)))=a_ (.rt (.tup [.str "form",.int k]) c_):=by kernel_rfl
def V8(C:Fs)(X:Dat)(k:Int):bH C zm (zt X (a_ (.exc cT "number" (.inl k),c_)) (a_ (.non,d_)))=a_ (.rt (.tup [.str "twice",.int k]) c_):=by kernel_rfl
def V9(C:Fs)(X:Dat)(k:Int):bH C zm (zt X (a_ (.exc cM "number" (.inl k),c_)) (a_ (.non,d_)))=a_ (.rt (.tup [.str "mark",.int k]) c_):=by kernel_rfl
def Wc(C:Fs)(X:Dat)(k:Int):bH C zm (zt X (a_ (.exc cB "place" (.inl k),c_)) (a_ (.non,d_)))=a_ (.rt (.tup [.str "table",.int k]) c_):=by kernel_rfl
def Wa(C:Fs)(X:Dat)(k:a8):bH C zm (zt X (a_ (.exc cL "letter" (.inr k),c_)) (a_ (.non,d_)))=a_ (.rt (.tup [.str "letter",.str k]) c_):=by kernel_rfl
def Il(hi:im r=c_)(h:C 19 [X]=a_ (r,fr)):gJ C (.Qg 2 19 [.v 0] 1 3 cE) (zt X (a_ (.non,d_)) (a_ (.non,d_)))=a_ (.nx (zt X (a_ (.non,d_)) (a_ (r,d_)))):=by
 have e:pY C (.call 19 [.v 0]) (zt X (a_ (.non,d_)) (a_ (.non,d_)))=a_ (r,fr,zt X (a_ (.non,d_)) (a_ (.non,d_))):=by
  unfold pY
  have e1:bg C (.call 19 [.v 0]) (full (zt X (a_ (.non,d_)) (a_ (.non,d_))))=a_ (r,fr):=by
   rw[cN];exact h
  rw[e1];show(if(im r || fr)=c_ then _ else _)=_;rw[hi];rfl
 show(match pY C (.call 19 [.v 0]) _ with
  |some x=>a_ (Out.nx (x.2.2.set 2 (a_ (x.1,x.2.1 && !im x.1))))
  |none=>_)=_
 rw[e];dsimp only;rw[hi,gp,fN];rfl
def n9(hk:oz d=a_ k)(hc:c∈cE)(h1:C 19 [X]=b_)(h2:C (19+o8) [X]=a_ (.tup [.int c,.str f,d],d_)):gJ C (.Qg 2 19 [.v 0] 1 3 cE) (zt X (a_ (.non,d_)) (a_ (.non,d_)))=a_ (.nx (zt X (a_ (.exc c f k,c_)) (a_ (.non,d_)))):=by
 have e:pY C (.call 19 [.v 0]) (zt X (a_ (.non,d_)) (a_ (.non,d_)))=b_:=by
  unfold pY
  have e1:bg C (.call 19 [.v 0]) (full (zt X (a_ (.non,d_)) (a_ (.non,d_))))=b_:=by
   rw[cN];exact h1
  rw[e1];rfl
 have e2:pY C (.zN 19 [.v 0]) (zt X (a_ (.non,d_)) (a_ (.non,d_)))=a_ (.exc c f k,c_,zt X (a_ (.non,d_)) (a_ (.non,d_))):=by
  unfold pY
  have e1:bg C (.zN 19 [.v 0]) (full (zt X (a_ (.non,d_)) (a_ (.non,d_))))=a_ (.exc c f k,c_):=by
   show(bg C (.call (19+o8) [.v 0]) _).bind _=_;rw[cN];show(C (19+o8) [X]).bind _=_;rw[h2];show(oz d).map _=_;rw[hk];rfl
  rw[e1];rfl
 show(match pY C (.call 19 [.v 0]) _ with
  |some x=>a_ (Out.nx (x.2.2.set 2 (a_ (x.1,x.2.1 && !im x.1))))
  |none=>(pY C (.zN 19 [.v 0]) _).bind λx=>Q3 1 3 cE x.2.2 x.2.1 x.1)=_
 rw[e];dsimp only;rw[e2];show(if c∈cE then _ else b_)=_;rw[if_pos hc];rfl
def Zg:Vv=.set 1 (.con .non)::.set 2 (.con .non)::.Qg 2 19 [.v 0] 1 3 cE::zm:=rfl
def zY(h:RtR (Cn D (n+7)) 19 [X] q)(hq:∀x,q=.inl x->YS x)(hi:∀r,q=.inr r->im r=c_):∃fr,Cn D (n+8) 36 [X]=a_ (wI q,fr):=by
 have start:∀C,bH C Vv [a_ (X,d_),b_,b_,b_,b_,b_]=bH C (.Qg 2 19 [.v 0] 1 3 cE::zm) (zt X (a_ (.non,d_)) (a_ (.non,d_))):=λC=>by
  rw[Zg];rfl
 have fin:∀{d:Dat}{fr:Bool},bH (Cn D (n+7)) Vv [a_ (X,d_),b_,b_,b_,b_,b_]=a_ (.rt d fr)->Cn D (n+8) 36 [X]=a_ (d,fr):=λe=>cn (d:=d36) rfl (dz (C:=Cn D (n+7)) (np:=1) (nl:=6) (body:=Vv) rfl e);generalize Cn D (n+7)=C at h fin
 cases q with
 |inr r=>
   have hi:=hi r rfl;obtain⟨fr0,h⟩:=h
   have he:∃fr,bg C (.tup [.con (.str "made"),.v 2]) (full (zt X (a_ (.non,d_)) (a_ (r,d_))))=a_ (.tup [.str "made",r],fr):=by
    refine⟨c_,?_⟩;simp only[su,fH,uc,iX,jJ,sj,so,vo,cz,cA,eR,au,aH,yP,hi,dQ,eY,aS,kY,zJ,uw,if_true]
    try rfl
   obtain⟨fr,he⟩:=he;refine⟨fr,fin ?_⟩;rw[start,bK (Il hi h)];have hr:zm=.ifs (.cmp .isn (.v 1) (.con .non)) [.ret (.tup [.con (.str "made"),.v 2])] []::zm.drop 1:=rfl;rw[hr];refine ji ?_;rw[gf (d:=.bl c_) (fr:=d_) rfl rfl];exact ji (mZ he)
 |inl x=>
   obtain⟨c,f,d⟩:=x;obtain⟨h1,h2⟩:=h
   rcases hq _ rfl with⟨hc,hf,j,hd⟩|⟨hc,hf,j,hd⟩|⟨hc,hf,a,hd⟩
   ·obtain rfl:f="number":=hf;obtain rfl:d=.int (j:Nat):=hd
    rcases hc with hc|hc|hc
    ·obtain rfl:c=cF:=hc;exact⟨c_,fin (by rw[start,bK (n9 (k:=.inl (j:Int)) rfl (by show _∈cE;dsimp only;decide) h1 h2),Wb];rfl)⟩
    ·obtain rfl:c=cT:=hc;exact⟨c_,fin (by rw[start,bK (n9 (k:=.inl (j:Int)) rfl (by show _∈cE;dsimp only;decide) h1 h2),V8];rfl)⟩
    ·obtain rfl:c=cM:=hc;exact⟨c_,fin (by rw[start,bK (n9 (k:=.inl (j:Int)) rfl (by show _∈cE;dsimp only;decide) h1 h2),V9];rfl)⟩
   ·obtain rfl:f="place":=hf;obtain rfl:d=.int (j:Nat):=hd;obtain rfl:c=cB:=hc;exact⟨c_,fin (by rw[start,bK (n9 (k:=.inl (j:Int)) rfl (by show _∈cE;dsimp only;decide) h1 h2),Wc];rfl)⟩
   ·obtain rfl:f="letter":=hf;obtain rfl:d=sT [a]:=hd;obtain rfl:c=cL:=hc;exact⟨c_,fin (by rw[start,bK (n9 (k:=.inr (T [a])) rfl (by show _∈cE;dsimp only;decide) h1 h2),Wa];rfl)⟩
abbrev vt(f:Fm):Dat:=.tup [.str (T f.1),.tup (f.2.1.map Dat.int)]
def Ki(f:Fm)(acc:List Fm):cx .isin (vt f) (.lst (acc.map vt))=a_ (decide (ent f∈acc.map ent)):=by
 have hs:dI 20 (acc.map vt)=c_:=by
  induction acc with
  |nil=>rfl
  |cons g r ih=>rw[ah];show(eO 20 _ && dI 20 _)=c_;rw[qB,ih];rfl
 refine(if_pos (by rw[show eO 20 (vt f)=c_ from qB f,hs];rfl)).trans ?_
 congr 1
 clear hs
 induction acc with
 |nil=>rfl
 |cons g r ih=>
   rw[ah,eF,ih]
   have e1:kM (vt g) (vt f)=decide (ent g=ent f):=by
    show((T g.1 == T f.1) && (l5 (g.2.1.map Dat.int) (f.2.1.map Dat.int) && c_))=_;rw[Bz,sx,eY];by_cases h1:g.1=f.1
    ·by_cases h2:g.2.1=f.2.1
     ·rw[decide_eq_true h1,decide_eq_true h2,decide_eq_true (show ent g=ent f from P6 h1 h2)];rfl
     ·rw[decide_eq_false h2,fN,decide_eq_false (λz:ent g=ent f=>h2 (ka (show(g.1,g.2.1)=(f.1,f.2.1)from z)).2)]
    ·rw[decide_eq_false h1,pk,decide_eq_false (λz:ent g=ent f=>h1 (ka (show(g.1,g.2.1)=(f.1,f.2.1)from z)).1)]
   rw[e1];by_cases h:ent g=ent f
   ·simp[h]
   ·have h':¬ent f=ent g:=λz=>h z.symm;simp[h,h']
def xk(R:Nat->Dat)(ρ:cX):Option Nat->Out
 |some k=>.rt (R k) c_
 |none=>.nx ρ
noncomputable def XY(R:Nat->Dat)(ρ:cX)(k:Nat):Bool->Out
 |true=>.rt (R k) c_
 |false=>.nx ρ
theorem t8{C:Fs}{body:List Sx}{t:Nat}{E:g_->cX}{V:Nat->Dat}(hset:∀z k,dW c_ [t] (V k) (E z)=a_ (E (a_ (V k,d_)))){P:Nat->Bool}{R:Nat->Dat}:∀(ks:List Nat)(z:g_),(∀k∈ks,bH C body (E (a_ (V k,d_)))=a_ (XY R (E (a_ (V k,d_))) k (P k)))->∃z',eE (dW c_ [t]) (bH C body) (ks.map V) (E z)=a_ (xk R (E z') (ks.find? P))
 |[],z,_=>⟨z,rfl⟩
 |k::ks,z,h=>by
   obtain⟨z',hr⟩:=t8 hset (P:=P) (R:=R) ks (a_ (V k,d_)) λj hj=>h j (jd _ hj);refine⟨z',?_⟩;rw[ah,du];simp only[eE,hset,au,h k iw];cases P k
   ·exact hr
   ·rfl
theorem EY:∀(fs pre:List Fm),(aP fs.length).find? (λk=>decide (ent (fs.getD k ([],[],[]))∈(pre++fs.take k).map ent))=FT pre fs
 |[],pre=>rfl
 |f::fs,pre=>by
   rw[aS,BI,du,FT];simp only[List.getD_cons_zero,List.take_zero,bJ];by_cases h:ent f∈pre.map ent
   ·rw[if_pos h,decide_eq_true h]
   ·rw[if_neg h,decide_eq_false h];simp only;rw[List.find?_map,<-EY fs (pre++[f])]
    congr 2
    funext k;rw[mj];rfl
def RW(C:Fs)(ρ:cX)(w:a8)(i:Nat)(hi:im d=c_)(h:bg C (.v i) (full ρ)=a_ (d,d_)):bH C [(.ret (.tup [(.con (.str w)),(.v i)]))] ρ=a_ (.rt (.tup [.str w,d]) c_):=by
 refine ji (mZ ?_);simp only[su,fH,uc,iX,h,au,aH,yP,hi,dQ,BL,eY,aS,kY,zJ,uw,if_true]
 try rfl
def E9{α:Type}{xs:List α}(h:k<=xs.length):cutD xs b_ (a_ (k:Int))=xs.take k:=by
 rw[O3 (by omega) (dR.mpr h),cZ]
def O5{α:Type}(xs:List α)(e g:α->Dat)(q:α->Bool)(hi:sv C it ρ=a_ (xs.map e))(hl:xs.length<=1000)(hc:∀x,bg C i ((fS 1 caps ρ).set 0 (a_ (e x)))=a_ (.bl (q x),d_))(he:∀x,∃b,bg C elt ((fS 1 caps ρ).set 0 (a_ (e x)))=a_ (g x,b))(hm:∀x,im (g x)=c_):bg C (.comp 1 c_ caps it [i] elt) ρ=a_ (.lst ((xs.filter q).map g),c_):=by
 refine jK hi (by rw[ag];omega) ?_;clear hi hl
 induction xs with
 |nil=>rfl
 |cons x xs ih=>
   obtain⟨b,hb⟩:=he x;rw[ah,mF,rg (hc x) rfl,ih,i5,hb];cases q x
   ·rfl
   ·simp[hm x]
def O7{fs:List Fm}(hi:sv C it ρ=a_ (fs.map cU))(hl:fs.length<=1000):bg C (.comp 1 c_ [] it [.cmp .eq (.ix (.v 0) (.e_ 2)) (.con (.str (T BB)))] (.ix (.v 0) (.e_ 0))) ρ=a_ (.lst ((alone fs).map sT),c_):=by
 have:=O5 (C:=C) (caps:=[]) fs cU (λf=>sT f.1) (λf=>decide (f.2.2=BB)) hi hl (i:=.cmp .eq (.ix (.v 0) (.e_ 2)) (.con (.str (T BB)))) (elt:=.ix (.v 0) (.e_ 0)) (λf=>by
  show((cx .eq (.str (T f.2.2)) (.str (T BB))).map λr=>(Dat.bl r,d_))=_
  rw[K5];rfl) (λf=>⟨d_,rfl⟩) λ_=>rfl
 rw[this];unfold alone;rw[br];rfl
def O6{fs:List Fm}(hv:bg C it ρ=a_ (.lst (fs.map cU),fr))(hl:fs.length<=1000):bg C (.comp 1 c_ [] (.itv it) [] (.sl (.v 0) b_ (a_ (.e_ 2)))) ρ=a_ (.lst (fs.map vt),c_):=
 comp_map fs cU vt (by show(bg C it ρ).bind _=_;rw[hv];rfl) hl (λf _=>⟨d_,rfl⟩) λf _=>by
  show(c_ && (jT (f.2.1.map Dat.int) && c_))=c_;rw[df];rfl
abbrev tL(fs:List Fm)(P:Dat)(z3 z4 z2:g_):cX:=[a_ (.lst (fs.map cU),d_),a_ (P,d_),z2,z3,z4]
def AM:List Sx:=[(.ifs (.cmp .isin (.sl (.ix (.v 0) (.v 2)) b_ (a_ (.e_ 2))) (.comp 1 c_ [] (.itv (.sl (.v 0) b_ (a_ (.v 2)))) [] (.sl (.v 0) b_ (a_ (.e_ 2))))) [(.ret (.tup [(.f_ "twice"),(.v 2)]))] [])]
def Py{fs:List Fm}(hk:k<fs.length)(hl:fs.length<=1000):bH C AM (tL fs P z3 z4 (a_ (.int (k:Nat),d_)))=a_ (XY (λk=>.tup [.str "twice",.int (k:Nat)]) (tL fs P z3 z4 (a_ (.int (k:Nat),d_))) k (decide (ent (fs.getD k ([],[],[]))∈([]++fs.take k).map ent))):=by
 have hg:fs[k]?=a_ fs[k]:=ao hk;have e:fs.getD k ([],[],[])=fs[k]:=by rw[eG,hg];rfl
 rw[e,dq];have i1:nJ (fs.map cU) (k:Int)=a_ (cU fs[k]):=L2.gu (by rw[aY,hg];rfl)
 have hs:bg C (.sl (.v 0) b_ (a_ (.v 2))) (full (tL fs P z3 z4 (a_ (.int (k:Nat),d_))))=a_ (.lst ((fs.take k).map cU),jT (cutD (fs.map cU) b_ (a_ (k:Int)))):=by
  show a_ (Dat.lst (cutD (fs.map cU) b_ (a_ (k:Int))),_)=_;rw[E9 (by rw[ag];exact bo hk),zz]
 have hc:=O6 (C:=C) hs (by rw[iZ];exact ae (i9 _ _) hl)
 have hf:bg C (.sl (.ix (.v 0) (.v 2)) b_ (a_ (.e_ 2))) (full (tL fs P z3 z4 (a_ (.int (k:Nat),d_))))=a_ (vt fs[k],d_):=by
  show((mG (.lst (fs.map cU)) (.int (k:Nat))).map λd=>(d,d_)).bind (λx=>zD x.1 b_ (a_ 2))=_;rw[Qt,i1];rfl
 have hi:=Ki fs[k] (fs.take k)
 have hv:bg C (.cmp .isin (.sl (.ix (.v 0) (.v 2)) b_ (a_ (.e_ 2))) (.comp 1 c_ [] (.itv (.sl (.v 0) b_ (a_ (.v 2)))) [] (.sl (.v 0) b_ (a_ (.e_ 2))))) (full (tL fs P z3 z4 (a_ (.int (k:Nat),d_))))=a_ (.bl (decide (ent fs[k]∈(fs.take k).map ent)),d_):=by
  rw[pW,hf];show(bg C (.comp _ _ _ _ _ _) _).bind _=_;rw[hc];show(cx .isin (vt fs[k]) (.lst ((fs.take k).map vt))).map _=_;rw[hi];rfl
 unfold AM;show(gJ C (.ifs _ _ _) _).bind _=_;cases q:decide (ent fs[k]∈(fs.take k).map ent)
 ·rw[q]at hv;rw[gh (d:=.bl d_) (fr:=d_) hv rfl];rfl
 ·rw[q]at hv;rw[gf (d:=.bl c_) (fr:=d_) hv rfl,RW C _ _ 2 (d:=.int (k:Nat)) rfl rfl];rfl
def KP(fs:List Fm)(p0 p1 p2 p3 p4:List Int):(Nat×a8×Dat) ⊕ Dat:=match ED fs p0 p1 p2 p3 p4 with
 |some x=>.inl x
 |none=>.inr (qy fs p0 p1 p2 p3 p4)
def sk(C:Fs)(ss:List Sx)(R:Nat->Dat)(ρ:cX):Option Nat->Option Out
 |some k=>a_ (.rt (R k) c_)
 |none=>bH C ss ρ
def yo(h:gJ C s ρ=a_ (xk R ρ1 q)):bH C (s::ss) ρ=sk C ss R ρ1 q:=by
 show(gJ C s ρ).bind _=_;rw[h];cases q<;>rfl
def yL(cs:List Int):dG .len [tI cs]=a_ (.int (cs.length:Nat),d_):=by unfold tI;rw[nj,ag]
def yv(cs:List Int):decide ((0:Int)<(cs.length:Int))=!decide (cs=[]):=by cases cs<;>simp
def HV(cs:List Int):(((cs.length:Nat):Int) == 0)=decide (cs=[]):=by
 cases cs with
 |nil=>rfl
 |cons a r=>simp;exact λz=>(nN (nZ z) (fu _))
abbrev P5(p0 p1 p2 p3 p4:List Int):Dat:=.lst [tI p0,tI p1,tI p2,tI p3,tI p4]
noncomputable def WI(p0 p1:List Int):Option Nat:=if(!decide (p1=[]) && decide (p0=[]))=c_ then a_ 1 else b_
abbrev ZX(k:Nat):Dat:=.tup [.str "mark",.int (k:Nat)]
def VY:gJ C (.ifs (.and (.cmp .gt (.blt .len [(.ix (.v 1) (.e_ 1))]) (.e_ 0)) (.cmp .eq (.blt .len [(.ix (.v 1) (.e_ 0))]) (.e_ 0))) [(.ret (.tup [(.f_ "mark"),(.e_ 1)]))] []) (tL fs (P5 p0 p1 p2 p3 p4) b_ b_ z2)=a_ (xk ZX (tL fs (P5 p0 p1 p2 p3 p4) b_ b_ z2) (WI p0 p1)):=by
 have i0:mG (P5 p0 p1 p2 p3 p4) (.int 0)=a_ (tI p0):=rfl;have i1:mG (P5 p0 p1 p2 p3 p4) (.int 1)=a_ (tI p1):=rfl;have l0:=yL p0;have l1:=yL p1;have e0:=HV p0;have e1:=yv p1;unfold WI tL;generalize decide (p0=[])=a at e0 ⊢;generalize decide (p1=[])=b at e1 ⊢;generalize P5 p0 p1 p2 p3 p4=P at i0 i1 ⊢;generalize tI p0=t0 at i0 l0;generalize tI p1=t1 at i1 l1;generalize Dat.lst (fs.map cU)=F
 have hv:bg C (.and (.cmp .gt (.blt .len [(.ix (.v 1) (.e_ 1))]) (.e_ 0)) (.cmp .eq (.blt .len [(.ix (.v 1) (.e_ 0))]) (.e_ 0))) (full [a_ (F,d_),a_ (P,d_),z2,b_,b_])=a_ (.bl (!b && a),d_):=by
  cases a<;>cases b<;>walk_at "py"
 cases q:(!b && a)
 ·rw[q]at hv;rw[gh hv rfl];rfl
 ·rw[q]at hv;rw[gf hv rfl];rfl
def Gw(p4:List Int)(ps:List (List Int))(k:Nat):Bool:=qJ (ps.getD k []) p4
def wX:List Sx:=[(.ifs (.cmp .ne (.cmp .gt (.blt .len [(.ix (.v 1) (.v 2))]) (.e_ 0)) (.cmp .gt (.blt .len [(.ix (.v 1) (.e_ 4))]) (.e_ 0))) [(.ret (.tup [(.f_ "mark"),(.v 2)]))] [])]
def Px(hk:k∈[2,3]):bH C wX (tL fs (P5 p0 p1 p2 p3 p4) b_ b_ (a_ (.int (k:Nat),d_)))=a_ (XY ZX (tL fs (P5 p0 p1 p2 p3 p4) b_ b_ (a_ (.int (k:Nat),d_))) k (Gw p4 [p0,p1,p2,p3,p4] k)):=by
 have hm:∃m,mG (P5 p0 p1 p2 p3 p4) (.int (k:Nat))=a_ (tI m)/\[p0,p1,p2,p3,p4].getD k []=m:=by
  simp only[aq,aX,or_false]at hk
  rcases hk with rfl|rfl
  ·exact⟨p2,rfl,rfl⟩
  ·exact⟨p3,rfl,rfl⟩
 obtain⟨m,im',em⟩:=hm;unfold Gw qJ;rw[em];have i4:mG (P5 p0 p1 p2 p3 p4) (.int 4)=a_ (tI p4):=rfl;have l0:=yL m;have l4:=yL p4;have e0:=yv m;have e4:=yv p4;generalize decide (m=[])=a at e0 ⊢;generalize decide (p4=[])=b at e4 ⊢;unfold tL wX;generalize P5 p0 p1 p2 p3 p4=P at im' i4 ⊢;generalize tI m=t0 at im' l0;generalize tI p4=t4 at i4 l4;generalize Dat.lst (fs.map cU)=F
 have hv:bg C (.cmp .ne (.cmp .gt (.blt .len [(.ix (.v 1) (.v 2))]) (.e_ 0)) (.cmp .gt (.blt .len [(.ix (.v 1) (.e_ 4))]) (.e_ 0))) (full [a_ (F,d_),a_ (P,d_),a_ (.int (k:Nat),d_),b_,b_])=a_ (.bl (a != b),d_):=by
  clear hk em;cases a<;>cases b<;>(walk_at "py";try rfl)
 show(gJ C (.ifs _ _ _) _).bind _=_;cases q:(a != b)
 ·rw[q]at hv;rw[gh (d:=.bl d_) (fr:=d_) hv rfl];rfl
 ·rw[q]at hv;rw[gf (d:=.bl c_) (fr:=d_) hv rfl,RW C _ _ 2 (d:=.int (k:Nat)) rfl rfl];rfl
def AL:List Sx:=[(.ifs (.cmp .nin (.v 4) (.v 3)) [(.ret (.tup [(.f_ "letter"),(.v 4)]))] [])]
abbrev wb(fs:List Fm)(P:Dat)(z2 z4:g_):cX:=[a_ (.lst (fs.map cU),d_),a_ (P,d_),z2,a_ (.lst ((alone fs).map sT),c_),z4]
def Pw:bH C AL (wb fs P z2 (a_ (sT [c],d_)))=a_ (XY (λc=>.tup [.str "letter",sT [c]]) (wb fs P z2 (a_ (sT [c],d_))) c (!decide ([c]∈alone fs))):=by
 have h:=JV [c] (alone fs);unfold AL
 have hv:bg C (.cmp .nin (.v 4) (.v 3)) (full (wb fs P z2 (a_ (sT [c],d_))))=a_ (.bl (!decide ([c]∈alone fs)),d_):=by
  show((cx .nin (sT [c]) (.lst ((alone fs).map sT))).map λr=>(Dat.bl r,d_))=_;rw[h];rfl
 show(gJ C (.ifs _ _ _) _).bind _=_;cases q:(!decide ([c]∈alone fs))
 ·rw[q]at hv;rw[gh (d:=.bl d_) (fr:=d_) hv rfl];rfl
 ·rw[q]at hv;rw[gf (d:=.bl c_) (fr:=d_) hv rfl,RW C _ _ 4 (d:=sT [c]) rfl rfl];rfl
def UO(h:gS fs [p0,p1,p2,p3,p4] m):Vu p0 p1 p2 p3 p4=(match WI p0 p1 with|some k=>a_ k|none=>[2,3].find? (Gw p4 [p0,p1,p2,p3,p4])):=by
 have hr:∀(p:List Int)(k:Nat),(p=[]\/jc p 1 (vV k)=c_)->jc p 0 (vV k)=c_:=λp k q=>by
  rcases q with q|q
  ·rw[q];unfold jc vV;split<;>rfl
  ·unfold jc at q ⊢;simp only[af,decide_eq_true_eq]at q ⊢;exact⟨fu _,q.2⟩
 have b:∀i,i<4->pb ([p0,p1,p2,p3,p4].getD i [])=d_:=λi hi=>by
  have:=hr _ _ (h.r i (bF hi));rw[show vV (i+1)=2 by unfold vV;rw[if_neg (λz=>(eh (aM z.symm) hi))]]at this;unfold pb;rw[show jc ([p0,p1,p2,p3,p4].getD i []) 0 2=c_ from this];rfl
 have hf:[p0,p1,p2,p3].findIdx? pb=b_:=by
  have b0:pb p0=d_:=b 0 (by simp);have b1:pb p1=d_:=b 1 (by simp);have b2:pb p2=d_:=b 2 (by simp);have b3:pb p3=d_:=b 3 (by simp);rw[fT];intro x hx;simp only[aq,aX,or_false]at hx
  rcases hx with rfl|rfl|rfl|rfl<;>assumption
 have h4:jc p4 0 10=c_:=hr p4 5 (h.r 4 (by simp));unfold Vu;rw[hf];dsimp only;rw[h4,if_neg (by simp)];unfold WI Gw;cases e0:decide (p0=[])<;>cases e1:decide (p1=[])<;>(simp only[du,List.find?_nil];cases q2:qJ p2 p4<;>cases q3:qJ p3 p4<;>simp[q2,q3])
def Jh{fs:List Fm}(hl:fs.length<=1000)(h:bg C (.v 0) (full ρ)=a_ (.lst (fs.map cU),d_)):gJ C (.loop c_ [2] (.rng [.blt .len [.v 0]]) body) ρ=eE (dW c_ [2]) (bH C body) ((aP fs.length).map λk:Nat=>Dat.int (k:Nat)) ρ:=by
 have e1:bg C (.blt .len [.v 0]) (full ρ)=a_ (.int (fs.length:Nat),d_):=by
  rw[pX,bC,h];show dG .len [.lst (fs.map cU)]=_;rw[iN,ag]
 have e2:sv C (.rng [.blt .len [.v 0]]) (full ρ)=a_ ((aP fs.length).map λk:Nat=>Dat.int (k:Nat)):=by
  show(iB C [.blt .len [.v 0]] (full ρ)).bind yr=_;rw[bC,e1];show yr [.int (fs.length:Nat)]=_;obtain⟨N,hN⟩:∃N,N=fs.length:=⟨_,rfl⟩
  rw[<-hN]at hl ⊢;refine(if_pos (by omega)).trans ?_;rw[cZ]
 show((sv C (.rng [.blt .len [.v 0]]) (full ρ)).map _).bind _=_;rw[e2];rfl
def Um(ho:∀f∈fs,Ky f):(U fs).find? (λc=>!decide ([c]∈alone fs))=iP.find? (JT fs):=by
 rw[XF ho,HR]
 congr 1
 funext a;unfold JT;cases decide (a∈lets fs)<;>cases decide ([a]∈alone fs)<;>rfl
def RP(g:gS fs [p0,p1,p2,p3,p4] m)(hm:m<=100):∃fr,Cn D (n+1) 34 [.lst (fs.map cU),P5 p0 p1 p2 p3 p4]=a_ (wI (KP fs p0 p1 p2 p3 p4),fr):=by
 suffices ∃fr,bH (Cn D n) Hg (tL fs (P5 p0 p1 p2 p3 p4) b_ b_ b_)=a_ (.rt (wI (KP fs p0 p1 p2 p3 p4)) fr) by
  obtain⟨fr,this⟩:=this;exact⟨fr,cn (d:=d34) rfl (dz (C:=Cn D n) (np:=2) (nl:=5) (body:=Hg) rfl this)⟩
 generalize Cn D n=C;have hl:fs.length<=100:=by have:=g.l;exact ae this hm
 have ho:∀f∈fs,Ky f:=λf hf=>Kx (g.f f hf).2;have hbF:fs.findIdx? qb=b_:=fT.mpr λf hf=>by unfold qb;rw[(g.f f hf).2];rfl
 have el:dG .len [.lst (fs.map cU)]=a_ (.int (fs.length:Nat),d_):=by rw[iN,ag]
 have hb:Hg=(.ifs (.or (.cmp .eq (.blt .len [(.v 0)]) (.e_ 0)) (.cmp .gt (.blt .len [(.v 0)]) (.e_ 24))) [(.ret (.tup [(.con (.str (aa "form"))),(.ix (.lst [(.e_ 0),(.e_ 24)]) (.blt .int [(.cmp .gt (.blt .len [(.v 0)]) (.e_ 0))]))]))] [])::.loop c_ [2] (.rng [.blt .len [.v 0]]) AM::Hg.drop 2:=rfl;rw[hb];by_cases h0:fs.length=0
 ·have hfs:fs=[]:=nC.mp h0;subst hfs;exact⟨c_,rfl⟩
 have p0':decide ((0:Int)<(fs.length:Int))=c_:=decide_eq_true (eQ.mpr (HM h0));have p1':((fs.length:Int) == 0)=d_:=beq_false_of_ne (by omega);by_cases h24:24<fs.length
 ·have e:KP fs p0 p1 p2 p3 p4=.inl (cF,"number",.int 24):=by
   unfold KP ED lB;rw[if_neg h0,if_pos h24]
  rw[e];have p2':decide ((24:Int)<(fs.length:Int))=c_:=decide_eq_true (jb.mpr h24);refine⟨c_,ji ?_⟩;show _=a_ (Out.rt (.tup [.str "form",.int 24]) c_);unfold tL;generalize P5 p0 p1 p2 p3 p4=P;generalize Dat.lst (fs.map cU)=F at el ⊢;clear hb g ho hbF hl e hm h0 h24;rw[gf (d:=.bl c_) (fr:=d_) (by walk_at "py") rfl];have i1:mG (.lst [.int 0,.int 24]) (.int 1)=a_ (.int 24):=rfl
  have hv:bg C (.ix (.lst [(.e_ 0),(.e_ 24)]) (.blt .int [(.cmp .gt (.blt .len [(.v 0)]) (.e_ 0))])) (full [a_ (F,d_),a_ (P,d_),b_,b_,b_])=a_ (.int 24,d_):=by
   have:bg C (.blt .int [(.cmp .gt (.blt .len [(.v 0)]) (.e_ 0))]) (full [a_ (F,d_),a_ (P,d_),b_,b_,b_])=a_ (.int 1,d_):=by walk_at "py"
   rw[nH,this];rfl
  refine ji (mZ ?_);rw[su,fH,iX,fH,hv];rfl
 have p2':decide ((24:Int)<(fs.length:Int))=d_:=decide_eq_false (by omega)
 have hcf:lB fs=b_:=by
  unfold lB;rw[if_neg h0,if_neg h24,hbF];rfl
 obtain⟨y1,l1⟩:=t8 (C:=C) (body:=AM) (t:=2) (E:=tL fs (P5 p0 p1 p2 p3 p4) b_ b_) (V:=λk:Nat=>Dat.int (k:Nat)) (λ_ _=>rfl) (aP fs.length) b_ λk hk=>Py (aR.mp hk) (ae (eU h24) bG);rw[EY fs []]at l1;have l1':=(Jh (C:=C) (ρ:=tL fs (P5 p0 p1 p2 p3 p4) b_ b_ b_) (body:=AM) (by omega) rfl).trans l1
 rw[bK (ρ1:=tL fs (P5 p0 p1 p2 p3 p4) b_ b_ b_) (by
  unfold tL;generalize P5 p0 p1 p2 p3 p4=P;generalize Dat.lst (fs.map cU)=F at el ⊢;clear hb g ho hbF hl hm h0 h24 l1 l1' hcf p0'
  rw[gh (d:=.bl d_) (fr:=d_) (by walk_at "py") rfl];rfl),yo l1']
 have hT:ED fs p0 p1 p2 p3 p4=(match p8 fs with
  |some x=>a_ x
  | none=>match p9 p0 p1 p2 p3 p4 with
    |some x=>a_ x
    |none=>xG fs):=by unfold ED;rw[hcf]<;>rfl
 unfold KP;rw[hT];unfold p8
 cases q1:FT [] fs with
 |some k=>exact⟨c_,rfl⟩
 |none=>
   show ∃fr,bH C (Hg.drop 2) (tL fs (P5 p0 p1 p2 p3 p4) b_ b_ y1)=_;have hb2:Hg.drop 2=(.ifs (.and (.cmp .gt (.blt .len [(.ix (.v 1) (.e_ 1))]) (.e_ 0)) (.cmp .eq (.blt .len [(.ix (.v 1) (.e_ 0))]) (.e_ 0))) [(.ret (.tup [(.f_ "mark"),(.e_ 1)]))] [])::.loop c_ [2] (.itv (.lst [(.e_ 2),(.e_ 3)])) wX::Hg.drop 4:=rfl;rw[hb2,yo VY];unfold p9;rw[UO g]
   cases q2:WI p0 p1 with
   |some k=>exact⟨c_,rfl⟩
   |none=>
     show ∃fr,bH C (.loop c_ [2] (.itv (.lst [(.e_ 2),(.e_ 3)])) wX::Hg.drop 4) (tL fs (P5 p0 p1 p2 p3 p4) b_ b_ y1)=_;obtain⟨y2,l2⟩:=t8 (C:=C) (body:=wX) (t:=2) (E:=tL fs (P5 p0 p1 p2 p3 p4) b_ b_) (V:=λk:Nat=>Dat.int (k:Nat)) (λ_ _=>rfl) [2,3] y1 λk hk=>Px hk
     have l2':gJ C (.loop c_ [2] (.itv (.lst [(.e_ 2),(.e_ 3)])) wX) (tL fs (P5 p0 p1 p2 p3 p4) b_ b_ y1)=a_ (xk ZX (tL fs (P5 p0 p1 p2 p3 p4) b_ b_ y2) ([2,3].find? (Gw p4 [p0,p1,p2,p3,p4]))):=by
      rw[lj];exact l2
     rw[yo l2']
     cases q3:[2,3].find? (Gw p4 [p0,p1,p2,p3,p4])with
     |some k=>exact⟨c_,rfl⟩
     |none=>
       show ∃fr,bH C (Hg.drop 4) (tL fs (P5 p0 p1 p2 p3 p4) b_ b_ y2)=_;have hb4:Hg.drop 4=(.set 3 (.comp 1 c_ [] (.itv (.v 0)) [(.cmp .eq (.ix (.v 0) (.e_ 2)) (.f_ "wbme"))] (.ix (.v 0) (.e_ 0))))::.loop c_ [4] (.itv (.blt .sset [(.eD .join (.f_ "") [(.comp 1 c_ [] (.itv (.v 0)) [] (.ix (.v 0) (.e_ 0)))])])) AL::Hg.drop 6:=rfl;rw[hb4];have hal:=O7 (C:=C) (fs:=fs) (ρ:=full (tL fs (P5 p0 p1 p2 p3 p4) b_ b_ y2)) (it:=.itv (.v 0)) rfl (by omega)
       have s3:gJ C (.set 3 (.comp 1 c_ [] (.itv (.v 0)) [(.cmp .eq (.ix (.v 0) (.e_ 2)) (.f_ "wbme"))] (.ix (.v 0) (.e_ 0)))) (tL fs (P5 p0 p1 p2 p3 p4) b_ b_ y2)=a_ (.nx (wb fs (P5 p0 p1 p2 p3 p4) y2 b_)):=by
        rw[ZR];show(pY C _ _).map _=_;unfold pY;rw[hal];rfl
       rw[bK s3];have hlt:=va hl ho;have hss:dG .sset [.str (T (lets fs))]=a_ (.lst (c1 (U fs)),c_):=IG (by omega) (by have:=QT ho;unfold U at this;exact aN this bG);have hj:=w6 hl ho;have hcl:=xC (C:=C) (fs:=fs) (ρ:=full (wb fs (P5 p0 p1 p2 p3 p4) y2 b_)) (it:=.itv (.v 0)) rfl hl
       have hss':bg C (.blt .sset [(.eD .join (.f_ "") [(.comp 1 c_ [] (.itv (.v 0)) [] (.ix (.v 0) (.e_ 0)))])]) (full (wb fs (P5 p0 p1 p2 p3 p4) y2 b_))=a_ (.lst (c1 (U fs)),c_):=by
        rw[B0,pX,bC,qZ,iX,au,bC,hcl];show((gZ .join (.str (T [])) [.lst ((fs.map (·.1)).map λl=>.str (T l))]).bind _).bind _=_;rw[hj];exact hss
       obtain⟨y3,l3⟩:=t8 (C:=C) (body:=AL) (t:=4) (E:=wb fs (P5 p0 p1 p2 p3 p4) y2) (V:=λc:Nat=>sT [c]) (λ_ _=>rfl) (U fs) b_ λc _=>Pw;rw[Um ho]at l3
       have l3':gJ C (.loop c_ [4] (.itv (.blt .sset [(.eD .join (.f_ "") [(.comp 1 c_ [] (.itv (.v 0)) [] (.ix (.v 0) (.e_ 0)))])])) AL) (wb fs (P5 p0 p1 p2 p3 p4) y2 b_)=a_ (xk (λc=>.tup [.str "letter",sT [c]]) (wb fs (P5 p0 p1 p2 p3 p4) y2 y3) (iP.find? (JT fs))):=by
        rw[lj,hss',au];exact l3
       rw[yo l3'];unfold xG
       cases q4:iP.find? (JT fs)with
       |some c=>exact⟨c_,rfl⟩
       |none=>
         show ∃fr,bH C (Hg.drop 6) (wb fs (P5 p0 p1 p2 p3 p4) y2 y3)=_;exact⟨_,rfl⟩
def DN(k:Nat):List Key:=(aP k).map λc=>ej (T (iK (c+1)))
def LB(k:Nat):List Dat:=(aP k).map λc:Nat=>Dat.int ((c+1:Nat))
theorem Ai:∀{ks:List Key}{vs:List Dat},ks.length=vs.length->(∀j∈ks,j≠k)->putD k d ks vs=(ks++[k],vs++[d])
 |[],[],_,_=>rfl
 |j::ks,v::vs,h,hj=>by
   simp only[putD];rw[if_neg (hj j iw),Ai (by simpa using h) λi m=>hj i (jd _ m)];rfl
theorem Ao:∀{ks:List Key},(∀j∈ks,j≠k)->Ap k ks=c_
 |[],_=>rfl
 |j::ks,hj=>by
   simp only[Ap];rw[if_neg (hj j iw),Ao λi m=>hj i (jd _ m)]
def R6(h:k<63):lz .seti (.dct (DN k) (LB k)) [.int ((k+1:Nat)),sT (iK (k+1))]=a_ (.dct (DN (k+1)) (LB (k+1))):=by
 have hn:∀j∈DN k,j≠(ej (T (iK (k+1))):Key):=λj hj e=>by
  obtain⟨c,hc,rfl⟩:=bb.mp hj;have hc:=aR.mp hc;have e1:iK (c+1)=iK (k+1):=Fw (sJ e);have e2:=rQ (c:=c+1) (bF (aN hc h));rw[e1,rQ (dF h)]at e2;have:=aO e2;exact eh (aM this) hc
 show(if(DN k).length<aD/\Ap (ej (T (iK (k+1)))) (DN k)=c_ then a_ (Dat.dct (putD (ej (T (iK (k+1)))) (.int ((k+1:Nat))) (DN k) (LB k)).1 (putD (ej (T (iK (k+1)))) (.int ((k+1:Nat))) (DN k) (LB k)).2)else b_)=_;rw[if_pos ⟨by unfold DN;rw[ag,bX,bu];exact ae h bG,Ao hn⟩,Ai (by simp[DN,LB]) hn];unfold DN LB;rw[List.range_succ,fk,fk];rfl
def AK:List Sx:=[(.mut .seti 1 [(.v 2),(.call 27 [(.v 2)])])]
theorem EF:∀(m k:Nat)(z:g_),k+m=63->∃z',eE (dW c_ [2]) (bH (Cn D (n+1)) AK) ((mh k m).map λc:Nat=>Dat.int (1+(c:Nat):Int)) [a_ (X,d_),a_ (.dct (DN k) (LB k),c_),z,b_,b_,b_,b_,b_,b_]=a_ (.nx [a_ (X,d_),a_ (.dct KS VS,c_),z',b_,b_,b_,b_,b_,b_])
 | 0,k,z,h=>⟨z,by obtain rfl:k=63:=by omega
                  rfl⟩
 |m+1,k,z,h=>by
   obtain⟨z',hz⟩:=EF (n:=n) (X:=X) m (k+1) (a_ (.int (1+(k:Nat):Int),d_)) (by omega);refine⟨z',?_⟩;rw[tN,ah];have hc:=rM (n:=n) (c:=k+1) (by omega) (by simp);have hp:=R6 (k:=k) (aN (bO _ _) (aM h));have ek:(1+(k:Nat):Int)=((k+1:Nat):Int):=by omega
   have hb:bH (Cn D (n+1)) AK [a_ (X,d_),a_ (.dct (DN k) (LB k),c_),a_ (.int (1+(k:Nat):Int),d_),b_,b_,b_,b_,b_,b_]=a_ (.nx [a_ (X,d_),a_ (.dct (DN (k+1)) (LB (k+1)),c_),a_ (.int (1+(k:Nat):Int),d_),b_,b_,b_,b_,b_,b_]):=by
    rw[ek];unfold AK;generalize Dat.dct (DN (k+1)) (LB (k+1))=d2 at hp ⊢;generalize Dat.dct (DN k) (LB k)=d1 at hp ⊢;generalize ((k+1:Nat):Int)=i at hc hp ⊢;have hti:im (sT (iK (k+1)))=c_:=rfl;generalize sT (iK (k+1))=t at hc hp hti;clear hz h ek;walk_at "py"
   simp only[eE,dW,fL,bZ,au,hb];exact hz
def AJ:List Sx:=[(.Qe [7,8] (.call 33 [(.ix (.v 0) (.v 6)),(.v 1)])),(.ifs (.or (.cmp .isn (.v 8) (.con .non)) (.or (.cmp .lt (.v 7) (.v 5)) (.and (.cmp .eq (.v 7) (.v 5)) (.cmp .gt (.v 7) (.e_ 0))))) [(.ret (.tup [(.f_ "table"),(.v 6)]))] []),(.set 5 (.v 7)),(.ifs (.cmp .eq (.v 7) (.e_ 0)) [(.mut .app 3 [(.v 8)])] [(.mut .seti 4 [(.v 8),(.bin .sub (.v 7) (.e_ 1))])])]
abbrev DO(X:Dat)(fs:List Fm)(ps:List (List Int))(la:Nat)(z2 z6 z7 z8:g_):cX:=[a_ (X,d_),a_ (.dct KS VS,c_),z2,a_ (.lst (fs.map cU),c_),a_ (.lst (ps.map tI),c_),a_ (.int (la:Nat),d_),z6,z7,z8]
def t9(la:Nat):Nat:=if la=0 then 0 else la+1
abbrev Tb(k:Nat):Dat:=.tup [.str "table",.int (k:Nat)]
def MT{ps:List (List Int)}(g1:1<=kk)(g2:kk<=5)(hp:ps.length=5):lz .seti (.lst (ps.map tI)) [tI cs,.int ((kk:Nat) - 1:Int)]=a_ (.lst ((ps.set (kk - 1) cs).map tI)):=by
 show(if -1000000<=((kk:Nat) - 1:Int)/\((kk:Nat) - 1:Int)<=1000000 then(uM (tI cs) ((kk:Nat) - 1:Int) (ps.map tI)).map Dat.lst else b_)=_;rw[if_pos (by omega)];unfold uM EM;rw[ag,if_pos (by exact pL (dR.mpr g1)),if_pos (by omega),aH,aH,sO];rw[show(((kk:Nat) - 1:Int)).toNat=kk - 1 by simp]
def tv(X:Dat)(fs:List Fm)(ps:List (List Int))(la k:Nat)(z2:g_):Option U9->Out
 |none=>.rt (Tb k) c_
 | some t=>match t with
   |.inl f=>if 0<t9 la then .rt (Tb k) c_ else .nx (DO X (fs++[f]) ps 0 z2 (a_ (.int (k:Nat),d_)) (a_ (.int 0,d_)) (a_ (cU f,d_)))
   |.inr p=>if p.1<t9 la then .rt (Tb k) c_ else .nx (DO X fs (ps.set (p.1 - 1) p.2) p.1 z2 (a_ (.int (k:Nat),d_)) (a_ (.int (p.1:Nat),d_)) (a_ (tI p.2,d_)))
def UT{fs:List Fm}{ps:List (List Int)}(hx:mG X (.int (k:Nat))=a_ (eL ws))(h:C 33 [eL ws,.dct KS VS]=a_ (oJ j (fZ ws),fr))(hg:∀t,fZ ws=a_ t->gT t)(hf:fs.length<=1000)(hp:ps.length=5):bH C AJ (DO X fs ps la z2 (a_ (.int (k:Nat),d_)) z7 z8)=a_ (tv X fs ps la k z2 (fZ ws)):=by
 unfold AJ DO
 cases q:fZ ws with
 |none=>
   rw[q]at h;replace h:C 33 [eL ws,.dct KS VS]=a_ (.tup [.int j,.non],fr):=h;show _=a_ (Out.rt (Tb k) c_);generalize eL ws=t at h hx;generalize Dat.dct KS VS=dd at h ⊢;generalize Dat.lst (fs.map cU)=F;generalize Dat.lst (ps.map tI)=P;clear hg q hf hp
   have u:gJ C (.Qe [7,8] (.call 33 [(.ix (.v 0) (.v 6)),(.v 1)])) [a_ (X,d_),a_ (dd,c_),z2,a_ (F,c_),a_ (P,c_),a_ (.int (la:Nat),d_),a_ (.int (k:Nat),d_),z7,z8]=a_ (.nx [a_ (X,d_),a_ (dd,c_),z2,a_ (F,c_),a_ (P,c_),a_ (.int (la:Nat),d_),a_ (.int (k:Nat),d_),a_ (.int j,d_),a_ (.non,d_)]):=by
    exact tR (a:=.int j) (b:=.non) (f:=fr) (by walk_at "py") rfl
   rw[bK u];show(gJ C (.ifs _ _ _) _).bind _=_;rw[gf (d:=.bl c_) (fr:=d_) (by walk_at "py") rfl];rfl
 |some t=>
   have gt:=hg t q;rw[q]at h;replace h:C 33 [eL ws,.dct KS VS]=a_ (LS t,fr):=h;clear hg q
   cases t with
   |inl f=>
     have j1:=qS f;replace h:C 33 [eL ws,.dct KS VS]=a_ (.tup [.int 0,cU f],fr):=h;have j2:im (.tup [.int 0,cU f])=c_:=by show(c_ && (im (cU f) && c_))=c_;rw[j1];rfl
     have j3:cx .isn (cU f) .non=a_ d_:=rfl
     have ha:lz .app (.lst (fs.map cU)) [cU f]=a_ (.lst ((fs++[f]).map cU)):=by
      rw[fk];exact if_pos (by rw[ag,bu];omega)
     show _=a_ (if 0<t9 la then Out.rt (Tb k) c_ else .nx (DO X (fs++[f]) ps 0 z2 (a_ (.int (k:Nat),d_)) (a_ (.int 0,d_)) (a_ (cU f,d_))));unfold DO;generalize eL ws=t at h hx;generalize Dat.dct KS VS=dd at h ⊢;generalize Dat.lst ((fs++[f]).map cU)=F2 at ha ⊢;generalize Dat.lst (fs.map cU)=F at ha ⊢;generalize Dat.lst (ps.map tI)=P;generalize cU f=d at h j1 j2 j3 ha ⊢;clear hf hp gt;rw[bK (tR (a:=.int 0) (b:=d) (f:=fr) (by walk_at "py") j2)];show bH C _ [a_ (X,d_),a_ (dd,c_),z2,a_ (F,c_),a_ (P,c_),a_ (.int (la:Nat),d_),a_ (.int (k:Nat),d_),a_ (.int 0,d_),a_ (d,d_)]=_;by_cases hl:0<la
     ·rw[if_pos (show 0<t9 la by unfold t9;split<;>omega)];have e:decide ((0:Int)<(la:Int))=c_:=decide_eq_true (by omega);show(gJ C (.ifs _ _ _) _).bind _=_;rw[gf (d:=.bl c_) (fr:=d_) (by clear hl;walk_at "py") rfl];rfl
     ·obtain rfl:la=0:=fV (eU hl) (bQ _);rw[if_neg (show¬0<t9 0 by decide)];rw[bK (by rw[gh (d:=.bl d_) (fr:=d_) (by clear hl;walk_at "py";rfl) rfl];rfl)];rw[bK (ρ1:=[a_ (X,d_),a_ (dd,c_),z2,a_ (F,c_),a_ (P,c_),a_ (.int 0,d_),a_ (.int (k:Nat),d_),a_ (.int 0,d_),a_ (d,d_)]) (by clear hl;walk_at "py")];show(gJ C (.ifs _ _ _) _).bind _=_;rw[gf (d:=.bl c_) (fr:=d_) (by clear hl;walk_at "py") rfl];clear hl;walk_at "py";rfl
   |inr p=>
     obtain⟨kk,cs⟩:=p;obtain⟨g1,g2,g3,g4,_⟩:=gt;replace g1:1<=kk:=g1;replace g2:kk<=5:=g2;have j1:im (tI cs)=c_:=df cs;replace h:C 33 [eL ws,.dct KS VS]=a_ (.tup [.int (kk:Nat),tI cs],fr):=h;have j2:im (.tup [.int (kk:Nat),tI cs])=c_:=by show(c_ && (im (tI cs) && c_))=c_;rw[j1];rfl
     have j3:cx .isn (tI cs) .non=a_ d_:=rfl;have ha:lz .seti (.lst (ps.map tI)) [tI cs,.int ((kk:Nat) - 1:Int)]=a_ (.lst ((ps.set (kk - 1) cs).map tI)):=MT g1 g2 hp;have hk0:(((kk:Nat):Int) == 0)=d_:=beq_false_of_ne (by omega);have hk1:decide ((0:Int)<((kk:Nat):Int))=c_:=decide_eq_true (eQ.mpr g1);show _=a_ (if kk<t9 la then Out.rt (Tb k) c_ else .nx (DO X fs (ps.set (kk - 1) cs) kk z2 (a_ (.int (k:Nat),d_)) (a_ (.int (kk:Nat),d_)) (a_ (tI cs,d_))));unfold DO;generalize eL ws=t at h hx;generalize Dat.dct KS VS=dd at h ⊢;generalize Dat.lst ((ps.set (kk - 1) cs).map tI)=P2 at ha ⊢;generalize Dat.lst (ps.map tI)=P at ha ⊢;generalize Dat.lst (fs.map cU)=F;generalize tI cs=d at h j1 j2 j3 ha ⊢;clear hf hp g3 g4;rw[bK (tR (a:=.int (kk:Nat)) (b:=d) (f:=fr) (by clear hk0 hk1 ha;walk_at "py") j2)];show bH C _ [a_ (X,d_),a_ (dd,c_),z2,a_ (F,c_),a_ (P,c_),a_ (.int (la:Nat),d_),a_ (.int (k:Nat),d_),a_ (.int (kk:Nat),d_),a_ (d,d_)]=_
     have hcond:bg C (.or (.cmp .isn (.v 8) (.con .non)) (.or (.cmp .lt (.v 7) (.v 5)) (.and (.cmp .eq (.v 7) (.v 5)) (.cmp .gt (.v 7) (.e_ 0))))) (full [a_ (X,d_),a_ (dd,c_),z2,a_ (F,c_),a_ (P,c_),a_ (.int (la:Nat),d_),a_ (.int (k:Nat),d_),a_ (.int (kk:Nat),d_),a_ (d,d_)])=a_ (.bl (decide (kk<t9 la)),d_):=by
      have e1:decide (kk<t9 la)=(decide (((kk:Nat):Int)<((la:Nat):Int)) || (((kk:Nat):Int) == ((la:Nat):Int))):=by
       by_cases e2:kk<la
       ·rw[decide_eq_true (show((kk:Nat):Int)<((la:Nat):Int) by omega),decide_eq_true (show kk<t9 la by unfold t9;split<;>omega)];rfl
       ·rw[decide_eq_false (show¬((kk:Nat):Int)<((la:Nat):Int) by omega),qv];by_cases e3:kk=la
        ·rw[decide_eq_true (show kk<t9 la by unfold t9;split<;>omega),e3];exact(beq_self_eq_true _).symm
        ·rw[decide_eq_false (show¬kk<t9 la by unfold t9;split<;>omega)];exact(beq_false_of_ne (by omega)).symm
      rw[e1];generalize q1:decide (((kk:Nat):Int)<((la:Nat):Int))=a;generalize q2:(((kk:Nat):Int) == ((la:Nat):Int))=b;clear e1 g1 g2 ha hx h;cases a<;>cases b<;>walk_at "py"
     by_cases hl:kk<t9 la
     ·rw[if_pos hl];rw[decide_eq_true hl]at hcond;show(gJ C (.ifs _ _ _) _).bind _=_;rw[gf hcond rfl];rfl
     ·rw[if_neg hl];rw[decide_eq_false hl]at hcond;rw[bK (by rw[gh hcond rfl];rfl)];clear hcond hl;rw[bK (ρ1:=[a_ (X,d_),a_ (dd,c_),z2,a_ (F,c_),a_ (P,c_),a_ (.int (kk:Nat),d_),a_ (.int (k:Nat),d_),a_ (.int (kk:Nat),d_),a_ (d,d_)]) (by clear hk0 hk1 ha;walk_at "py")];show(gJ C (.ifs _ _ _) _).bind _=_;rw[gh (d:=.bl d_) (fr:=d_) (by clear ha;walk_at "py") rfl];generalize ((kk:Nat):Int)=ki at *;clear hk0 hk1;walk_at "py"
def WN(X:Dat)(z2 z6 z7 z8:g_)(la:Nat):Nat ⊕ (List Fm×List (List Int))->Out
 |.inl k=>.rt (Tb k) c_
 |.inr q=>.nx (DO X q.1 q.2 la z2 z6 z7 z8)
theorem yJ{all:List (List (List Nat))}:∀(LW:List (List (List Nat))) (k:Nat) (fs:List Fm) (ps:List (List Int)) (la:Nat) (z6 z7 z8:g_),all.drop k=LW->(∀ws∈LW,gW ws/\∃fr j,C 33 [eL ws,.dct KS VS]=a_ (oJ j (fZ ws),fr))->fs.length+LW.length<=1000->ps.length=5->
  ∃y6 y7 y8 la',eE (dW c_ [6]) (bH C AJ) ((mh k LW.length).map λi:Nat=>Dat.int (i:Nat)) (DO (.lst (all.map eL)) fs ps la z2 z6 z7 z8)=a_ (WN (.lst (all.map eL)) z2 y6 y7 y8 la' (oO k LW fs ps (t9 la)))
 |[],k,fs,ps,la,z6,z7,z8,_,_,_,_=>⟨z6,z7,z8,la,rfl⟩
 |ws::LW,k,fs,ps,la,z6,z7,z8,hd,h,hl,hp=>by
   obtain⟨gw,fr,j,hc⟩:=h ws iw
   have hk:all[k]?=a_ ws:=by
    have:=List.getElem?_drop (xs:=all) (i:=k) (j:=0);rw[hd]at this;simpa using this.symm
   have hx:mG (.lst (all.map eL)) (.int (k:Nat))=a_ (eL ws):=L2.gu (by rw[aY,hk];rfl);have hb:=UT (fs:=fs) (ps:=ps) (la:=la) (k:=k) (z2:=z2) (z7:=z7) (z8:=z8) hx hc (λt q=>qP gw q) (by simp at hl;omega) hp;have hbd:dW c_ [6] (.int (k:Nat)) (DO (.lst (all.map eL)) fs ps la z2 z6 z7 z8)=a_ (DO (.lst (all.map eL)) fs ps la z2 (a_ (.int (k:Nat),d_)) z7 z8):=rfl;have hr:=λw hw=>h w (jd _ hw);have hd':all.drop (k+1)=LW:=by rw[<-List.drop_drop,hd];rfl
   rw[aS,tN,ah];simp only[eE,hbd,au,hb,oO]
   cases q:fZ ws with
   |none=>exact⟨b_,b_,b_,0,rfl⟩
   |some t=>
     cases t with
     |inl f=>
       simp only[tv];by_cases hle:0<t9 la
       ·rw[if_pos hle,if_pos hle];exact⟨b_,b_,b_,0,rfl⟩
       ·rw[if_neg hle,if_neg hle];have e0:t9 la=t9 0:=by have:t9 0=0:=rfl;omega
        rw[e0];exact yJ LW (k+1) (fs++[f]) ps 0 _ _ _ hd' hr (by simp at hl ⊢;omega) hp
     |inr p=>
       simp only[tv];by_cases hle:p.1<t9 la
       ·rw[if_pos hle,if_pos hle];exact⟨b_,b_,b_,0,rfl⟩
       ·rw[if_neg hle,if_neg hle];have g1:1<=p.1:=(qP gw q).1;have e1:p.1+1=t9 p.1:=by unfold t9;rw[if_neg (by omega)]
        rw[e1];exact yJ LW (k+1) fs (ps.set (p.1 - 1) p.2) p.1 _ _ _ hd' hr (by simp at hl;omega) (by rw[iF];exact hp)
def CF(h:gW ws/\ws≠[]/\ws.length<=100):∃fr j,Cn D (n+3) 33 [eL ws,.dct KS VS]=a_ (oJ j (fZ ws),fr):=by
 obtain⟨h1,h2,h3⟩:=h
 cases ws with
 |nil=>exact absurd rfl h2
 |cons w ws=>exact Gc h1 (by simp at h3;omega)
def V7:gJ C (.loop c_ [2] (.rng [(.e_ 1),(.e_ 64)]) body) ρ=eE (dW c_ [2]) (bH C body) ((mh 0 63).map λc:Nat=>Dat.int (1+(c:Nat):Int)) ρ:=rfl
def V6{LW:List (List (List Nat))}(hl:LW.length<=1000)(h:bg C (.v 0) (full ρ)=a_ (.lst (LW.map eL),d_)):gJ C (.loop c_ [6] (.rng [.blt .len [.v 0]]) body) ρ=eE (dW c_ [6]) (bH C body) ((mh 0 LW.length).map λk:Nat=>Dat.int (k:Nat)) ρ:=by
 have e1:bg C (.blt .len [.v 0]) (full ρ)=a_ (.int (LW.length:Nat),d_):=by
  rw[pX,bC,h];show dG .len [.lst (LW.map eL)]=_;rw[iN,ag]
 have e2:sv C (.rng [.blt .len [.v 0]]) (full ρ)=a_ ((mh 0 LW.length).map λk:Nat=>Dat.int (k:Nat)):=by
  show(iB C [.blt .len [.v 0]] (full ρ)).bind yr=_;rw[bC,e1];show yr [.int (LW.length:Nat)]=_;obtain⟨N,hN⟩:∃N,N=LW.length:=⟨_,rfl⟩
  rw[<-hN]at hl ⊢;refine(if_pos (by omega)).trans ?_;rw[cZ,List.range_eq_range']
 show((sv C (.rng [.blt .len [.v 0]]) (full ρ)).map _).bind _=_;rw[e2];rfl
def Ni(g:gL LW):∃fr,Cn D (n+4) 35 [.lst (LW.map eL)]=a_ (wI (oi LW),fr):=by
 suffices ∃fr,bH (Cn D (n+3)) X9 [a_ (.lst (LW.map eL),d_),b_,b_,b_,b_,b_,b_,b_,b_]=a_ (.rt (wI (oi LW)) fr) by
  obtain⟨fr,this⟩:=this;exact⟨fr,cn (d:=d35) rfl (dz (C:=Cn D (n+3)) (np:=1) (nl:=9) (body:=X9) rfl this)⟩
 have hlen:=g.l;obtain⟨z2,h1⟩:=EF (n:=n+2) (X:=.lst (LW.map eL)) 63 0 b_ rfl;replace h1:gJ (Cn D (n+3)) (.loop c_ [2] (.rng [(.e_ 1),(.e_ 64)]) AK) [a_ (.lst (LW.map eL),d_),a_ (.dct [] [],c_),b_,b_,b_,b_,b_,b_,b_]=a_ (.nx [a_ (.lst (LW.map eL),d_),a_ (.dct KS VS,c_),z2,b_,b_,b_,b_,b_,b_]):=V7.trans h1;obtain⟨y6,y7,y8,la,h2⟩:=yJ (C:=Cn D (n+3)) (all:=LW) (z2:=z2) LW 0 [] [[],[],[],[],[]] 0 b_ b_ b_ rfl (λws hw=>⟨(g.g ws hw).1,CF (g.g ws hw)⟩) (by simp;omega) rfl;have hb:X9=.set 1 .zb::.loop c_ [2] (.rng [(.e_ 1),(.e_ 64)]) AK::.set 3 (.lst [])::.set 4 (.lst [(.tup []),(.tup []),(.tup []),(.tup []),(.tup [])])::.set 5 (.e_ 0)::.loop c_ [6] (.rng [.blt .len [.v 0]]) AJ::[.Hu 34 [(.v 3),(.v 4)]]:=rfl;rw[hb,bK (ρ1:=[a_ (.lst (LW.map eL),d_),a_ (.dct [] [],c_),b_,b_,b_,b_,b_,b_,b_]) rfl,bK h1,bK (ρ1:=[a_ (.lst (LW.map eL),d_),a_ (.dct KS VS,c_),z2,a_ (.lst [],c_),b_,b_,b_,b_,b_]) rfl,bK (ρ1:=[a_ (.lst (LW.map eL),d_),a_ (.dct KS VS,c_),z2,a_ (.lst [],c_),a_ (.lst [.tup [],.tup [],.tup [],.tup [],.tup []],c_),b_,b_,b_,b_]) rfl,bK (ρ1:=DO (.lst (LW.map eL)) [] [[],[],[],[],[]] 0 z2 b_ b_ b_) rfl];have h2':=(V6 (C:=Cn D (n+3)) (body:=AJ) (ρ:=DO (.lst (LW.map eL)) [] [[],[],[],[],[]] 0 z2 b_ b_ b_) (LW:=LW) (by omega) rfl).trans h2;show ∃fr,(gJ (Cn D (n+3)) (.loop c_ [6] _ _) _).bind _=_;rw[h2'];unfold oi;show ∃fr,(a_ (WN _ z2 y6 y7 y8 la (oO 0 LW [] [[],[],[],[],[]] 0))).bind _=_
 cases q:oO 0 LW [] [[],[],[],[],[]] 0 with
 |inl k=>exact⟨c_,rfl⟩
 |inr q'=>
   obtain⟨fs,ps⟩:=q';have gs:=zS LW 0 [] _ 0 0 _ (λws hw=>(g.g ws hw).1) Zh q;dsimp only at gs ⊢;have e5:=Ul gs.p;generalize ps.getD 0 []=p0 at *;generalize ps.getD 1 []=p1 at *;generalize ps.getD 2 []=p2 at *;generalize ps.getD 3 []=p3 at *;generalize ps.getD 4 []=p4 at *;subst e5;obtain⟨fr,hd⟩:=RP (n:=n+2) gs (kQ hlen (bQ _));refine⟨fr,?_⟩;show(gJ (Cn D (n+3)) (.Hu 34 [(.v 3),(.v 4)]) (DO (.lst (LW.map eL)) fs [p0,p1,p2,p3,p4] la z2 y6 y7 y8)).bind _=_;rw[Aa (ds:=[.lst (fs.map cU),P5 p0 p1 p2 p3 p4]) rfl hd];rfl
structure lw(w c:Nat)(ws:List (List Nat)):Prop where
 ne:ws≠[]
 l:ws.length<=c
 x:∀x∈ws,x.length<=w/\32∉x
def Cz(h:bg C e (full ρ)=a_ (d,f))(hd:im d=c_):gJ C (.set i e) ρ=a_ (.nx (ρ.set i (a_ (d,d_)))):=by
 show(pY C e ρ).map _=_;rw[Dq h (by rw[hd];rfl)];show a_ (Out.nx (ρ.set i (a_ (d,f && !im d))))=_;rw[hd,gp,fN]
def iL(h:bg C e (full ρ)=a_ (.lst ds,c_)):gJ C (.set i e) ρ=a_ (.nx (ρ.set i (a_ (.lst ds,c_)))):=by
 show(pY C e ρ).map _=_;rw[Dq h (dQ _)];rfl
def ud{ws:List (List Nat)}(h:bg C e ρ=a_ (.lst (ws.map sT),f))(hl:(ws.map (·.length)).sum+ws.length<=1000000):bg C (.eD .join (.f_ " ") [e]) ρ=a_ (eL ws,d_):=by
 rw[B1,qZ,iX,au,bC,h];show gZ .join (.str (T [32])) [.lst (ws.map sT)]=_;exact CZ hl
def yY{X Y:List (List Nat)}(hx:bg C x ρ=a_ (.lst (X.map sT),f))(hy:bg C y ρ=a_ (.lst (Y.map sT),g))(hl:X.length+Y.length<=1000000):bg C (.bin .add x y) ρ=a_ (.lst ((X++Y).map sT),c_):=by
 rw[kG,hx,hy];show(if(X.map sT).length+(Y.map sT).length<=aD then a_ (Dat.lst (X.map sT++Y.map sT),jT (X.map sT++Y.map sT))else b_)=_;rw[if_pos (by rw[ag,ag,bu];exact ae hl bG),<-fk,nc]
def ctx(c:Int):List Nat:=iK c.toNat
def Xo:((aP 64).all λc=>decide ((iK c).length<=6) && decide (32∉iK c))=c_:=by kernel_rfl
def UD(h:1<=c/\c<=63):(ctx c).length<=6/\32∉ctx c:=by
 have:=aC.mp Xo c.toNat (aR.mpr (by omega));simp only[af,decide_eq_true_eq]at this;exact this
def Nj(h:1<=c/\c<=63):Cn D (n+1) 27 [.int c]=a_ (sT (ctx c),d_):=by
 have:=rM (n:=n) (c:=c.toNat) (by omega) (by omega);rw[show((c.toNat:Nat):Int)=c from(Int.toNat_of_nonneg (eJ (fu _) h.1))]at this;exact this
def YX:(iP.all λc=>decide (c≠32))=c_:=bG
def YO:((aP 16).all λk=>decide (32∉Qn k))=c_:=by kernel_rfl
def lw.sum(h:lw w c ws)(hw:w<=100)(hc:c<=1000):(ws.map (·.length)).sum+ws.length<=1000000:=by
 have h1:=uF (m:=w) λx hx=>(h.x x hx).1;have h2:=h.l;have h3:w * ws.length<=100 * ws.length:=pK _ hw;omega
def KWB:((aP 6).all λk=>decide ((KW.getD k []).length<=7) && decide (32∉KW.getD k []))=c_:=by kernel_rfl
def Tu:((aP 5).all λk=>mz ((mG (.lst (KW.tail.map sT)) (.int (k:Nat))).map λd=>(d,d_)) (a_ (sT (KW.getD (k+1) []),d_)))=c_:=by kernel_rfl
def Og(hb:bnd d ρ=a_ ρ1)(h:body ρ1=a_ (.nx ρ2)):eE bnd body (d::ds) ρ=eE bnd body ds ρ2:=by
 simp only[eE,hb,au,h];rfl
def CY(hi:(ρ[i]?).join=a_ (d,c_))(he:ni C es (full ρ)=a_ (ds,c_))(hm:lz op d ds=a_ d'):gJ C (.mut op i es) ρ=a_ (.nx (ρ.set i (a_ (d',c_)))):=by
 show((ni C es (full ρ)).bind λx=>if x.2=c_ then JX op i ρ x.1 (ρ[i]?).join else b_)=_;rw[he,hi];show(lz op d ds).map _=_;rw[hm];rfl
def Dw(C:Fs)(N:Dat):Prop:=∀k m:Int,0<=k/\k<=1000000->0<m->∃q:Nat,C 20 [N,.int k,.int m]=a_ (.int (q:Nat),d_)/\(q:Int)<m
def dw{ns:List Int}:Dw (Cn D (n+1)) (.lst (ns.map Dat.int)):=λk m hk hm=>by
 obtain⟨q,e,b⟩:=Zo (ns:=ns) (k:=k) (m:=m) hm;exact⟨q,by rw[Jc k m (by omega) hm,e],b⟩
def Ev(C:Fs)(e:Ex)(ρ:fP)(P:Dat->Prop):Prop:=∃d f,bg C e ρ=a_ (d,f)/\im d=c_/\P d
def Ei(C:Fs)(e:Ex)(ρ:fP)(P:Nat->Prop):Prop:=∃q f,bg C e ρ=a_ (.int (q:Nat),f)/\P q
def Go(C:Fs)(ss:List Sx)(ρ:cX)(Q:Out->Prop):Prop:=∃o,bH C ss ρ=a_ o/\Q o
section
variable{C:Fs}{ρ:fP}{k m e x:Ex}{N:Dat}{f g h:Bool}{P:Nat->Prop}
def eW(hd:Dw C N)(h0:bg C a ρ=a_ (N,f))(h1:bg C k ρ=a_ (.int i,g))(h2:bg C m ρ=a_ (.int j,h))(hk:0<=i/\i<=1000000)(hm:0<j)(hp:∀q:Nat,(q:Int)<j->P q):Ei C (.call 20 [a,k,m]) ρ P:=by
 obtain⟨q,r,b⟩:=hd i j hk hm;exact⟨q,d_,by rw[cN,bC,h0,bC,h1,bC,h2];exact r,hp q b⟩
def vv(h:Ei C e ρ P)(hp:∀q,P q->P' (1+q)):Ei C (.bin .add (.e_ 1) e) ρ P':=by
 obtain⟨q,f,r,b⟩:=h;refine⟨1+q,d_,?_,hp q b⟩;rw[kG,r];show a_ (Dat.int (1+(q:Int)),d_)=_;rw[show(1:Int)+(q:Int)=((1+q:Nat):Int) by rfl]
def O1(h:Ei C e ρ P)(hp:∀q,P q->P' (q / 4)):Ei C (.bin .fdiv e (.e_ 4)) ρ P':=by
 obtain⟨q,f,r,b⟩:=h;refine⟨q / 4,d_,?_,hp q b⟩;rw[kG,r];exact tj (j:=4) bG bG
def rd{is:List Nat}(hx:bg C x ρ=a_ (.lst (is.map λi:Nat=>Dat.int i),f))(h:Ei C e ρ (·< is.length))(hp:∀q∈is,P q):Ei C (.ix x e) ρ P:=by
 obtain⟨q,g,r,hq⟩:=h;refine⟨is[q],d_,?_,hp _ (bA hq)⟩;rw[nH,hx,r];show((nJ _ (q:Int)).map λd=>(d,d_))=_;rw[gu (by rw[ag];exact hq),aY,ao hq];rfl
def ng(h:Ei C e ρ P):Ev C e ρ (λd=>∃q:Nat,d=.int (q:Nat)/\P q):=by
 obtain⟨q,f,r,b⟩:=h;exact⟨_,f,r,rfl,q,rfl,b⟩
def Dp(h:bg C a ρ=a_ (.int i,f))(h':bg C e ρ=a_ (.int j,g))(hi:0<=i/\i<=100):bg C (.bin .mul a e) ρ=a_ (.int (i * j),d_):=by
 rw[kG,h,h'];exact vC (by omega) (dX hi.2 bG)
def eV(h:bg C a ρ=a_ (.int i,f))(h':bg C e ρ=a_ (.int j,g)):bg C (.bin .add a e) ρ=a_ (.int (i+j),d_):=by
 rw[kG,h,h'];rfl
def E2{m:Nat}(h:bg C e ρ=a_ (.int (m:Nat),f))(hm:m<=1000):sv C (.rng [e]) ρ=a_ ((aP m).map λk:Nat=>Dat.int k):=by
 rw[EZ,bC,h];exact Nm (ae hm bG)
def KZ{ls:List Nat}(hx:bg C x ρ=a_ (.lst (ls.map λc=>sT [c]),f))(h:Ei C e ρ (·< ls.length))(hl:∀c∈ls,c≠32):∃c b,bg C (.ix x e) ρ=a_ (sT [c],b)/\c≠32:=by
 obtain⟨q,g,r,hq⟩:=h;refine⟨ls[q],d_,?_,hl _ (bA hq)⟩;rw[nH,hx,r];show((nJ _ (q:Int)).map λd=>(d,d_))=_;rw[gu (by rw[ag];exact hq),aY,ao hq];rfl
def ug{α β:Type}{caps:List Nat}{it:Iw}{elt:Ex}{xs:List α}{e:α->Dat}(g:β->Dat)(P:β->Prop)(hi:sv C it ρ=a_ (xs.map e))(hl:xs.length<=1000)(hg:∀y,im (g y)=c_)(h:∀x∈xs,∃y b,bg C elt ((fS 1 caps ρ).set 0 (a_ (e x)))=a_ (g y,b)/\P y):∃ys:List β,bg C (.comp 1 c_ caps it [] elt) ρ=a_ (.lst (ys.map g),c_)/\ys.length=xs.length/\∀y∈ys,P y:=by
 suffices ∃ys:List β,mF (kN C 1 c_ (fS 1 caps ρ) [] elt) (xs.map e)=a_ (ys.map g,c_)/\ys.length=xs.length/\∀y∈ys,P y by
  obtain⟨ys,a,b⟩:=this;exact⟨ys,jK hi (by rw[ag];exact ae hl bG) a,b⟩
 clear hi hl
 induction xs with
 |nil=>exact⟨[],rfl,rfl,λ_ h=>nomatch h⟩
 |cons x xs ih=>
   obtain⟨y,b,hb,hp⟩:=h x iw;obtain⟨ys,h1,h2,h3⟩:=ih λz hz=>h z (jd _ hz);refine⟨y::ys,?_,by rw[aS,h2];rfl,λz hz=>?_⟩
   ·rw[ah,mF,mK,hb,aH,au,h1,aH];simp[hg y]
   ·rcases aq.mp hz with rfl|hz
    ·exact hp
    ·exact h3 z hz
def cq(b:Nat)(cs:List Int):Prop:=cs.length<=b/\∀c∈cs,1<=c/\c<=63
def cW(b:Nat)(d:Dat):Prop:=∃cs,d=tI cs/\cq b cs
def Cw(C:Fs)(N:Dat):Prop:=∀(k few:Int)(m:Nat),0<=k/\k<=100000->m<=10->0<few/\few<=63->∃d,C 22 [N,.int k,.int (m:Nat),.int few]=a_ (d,d_)/\cW m d
def q9(hc:Cw C N)(h0:bg C a ρ=a_ (N,f))(h1:bg C k ρ=a_ (.int i,g))(hm:Ei C m ρ (·<=b))(h3:bg C s ρ=a_ (.int j,w))(hk:0<=i/\i<=100000)(hb:b<=10)(hf:0<j/\j<=63):Ev C (.call 22 [a,k,m,s]) ρ (cW b):=by
 obtain⟨q,w,r,l⟩:=hm;obtain⟨_,e,cs,rfl,h4,h5⟩:=hc i j q hk (ae l hb) hf;exact⟨_,d_,by rw[cN,bC,h0,bC,h1,bC,r,bC,h3];exact e,Km cs,cs,rfl,ae h4 l,h5⟩
end
def cw{ns:List Int}:Cw (Cn D (n+2)) (.lst (ns.map Dat.int)):=λk few m hk hm hf=>by
 have hd:Dw (Cn D (n+1)) (.lst (ns.map Dat.int)):=dw
 suffices ∃d,bH (Cn D (n+1)) ZJ [a_ (.lst (ns.map Dat.int),d_),a_ (.int k,d_),a_ (.int (m:Nat),d_),a_ (.int few,d_)]=a_ (.rt d d_)/\cW m d by
  obtain⟨d,e,h⟩:=this;exact⟨d,cn (d:=d22) rfl (dz (np:=4) (nl:=4) (body:=ZJ) rfl e),h⟩
 generalize Dat.lst (ns.map Dat.int)=N at hd ⊢;generalize Cn D (n+1)=C at hd ⊢
 obtain⟨cs,h1,h2,h3⟩:=ug (C:=C) (ρ:=full [a_ (N,d_),a_ (.int k,d_),a_ (.int (m:Nat),d_),a_ (.int few,d_)]) (caps:=[3,1,0]) (it:=.rng [.v 2]) (elt:=.bin .add (.e_ 1) (.call 20 [.v 3,.bin .add (.v 2) (.v 0),.v 1])) (λc:Nat=>.int (c:Nat)) (λc:Nat=>(1:Int)<=c/\(c:Int)<=63) (E2 (m:=m) rfl (ae hm bG)) (by rw[bX];omega) (λ_=>rfl) λj hj=>
  vv (P:=λq=>(q:Int)<few) (eW hd rfl rfl rfl (by have:=aR.mp hj;omega) hf.1 λ_ h=>h) λq h=>by omega
 rw[bX]at h2
 exact⟨_,ji (mZ (by rw[pX,bC,h1];rfl)),cs.map λc:Nat=>(c:Int),by rw[tI,br];rfl,by rw[ag];exact aM h2,λc hc=>by
  obtain⟨d,hd,rfl⟩:=bb.mp hc
  exact h3 d hd⟩
def wl(l:List Nat):Prop:=l.length<=7/\32∉l
def wd(d:Dat):Prop:=∃l:List Nat,d=sT l/\wl l
def fW(f:Fm):Prop:=wl f.1/\cq 4 f.2.1/\wl f.2.2
def fm(d:Dat):Prop:=∃f,d=cU f/\fW f
section
variable{C:Fs}{ρ:cX}{e:Ex}{ss:List Sx}{Q:Out->Prop}{P:Dat->Prop}{i:Nat}
def E3{ρ:fP}{x y z:Ex}(hx:Ev C x ρ wd)(hy:Ev C y ρ (cW 4))(hz:Ev C z ρ wd):Ev C (.tup [x,y,z]) ρ fm:=by
 obtain⟨_,f1,e1,_,l,rfl,h1⟩:=hx;obtain⟨_,f2,e2,_,c,rfl,h2⟩:=hy;obtain⟨_,f3,e3,_,p,rfl,h3⟩:=hz;exact⟨cU (l,c,p),_,by rw[su,fH,e1,fH,e2,fH,e3];rfl,qS _,(l,c,p),rfl,h1,h2,h3⟩
def gm(h:gJ C s ρ=a_ (.nx ρ1))(k:Go C ss ρ1 Q):Go C (s::ss) ρ Q:=by
 obtain⟨o,a,b⟩:=k;exact⟨o,by rw[bK h];exact a,b⟩
def jm(h:Ev C e (full ρ) P)(k:∀d,P d->Go C ss (ρ.set i (a_ (d,d_))) Q):Go C (.set i e::ss) ρ Q:=by
 obtain⟨d,f,h1,h2,h3⟩:=h;exact gm (Cz h1 h2) (k d h3)
def Di(h:Ev C e (full ρ) P)(hi:(ρ[i]?).join=a_ (.lst ds,c_))(hl:ds.length<1000000)(k:∀d,P d->Go C ss (ρ.set i (a_ (.lst (ds++[d]),c_))) Q):Go C (.mut .app i [e]::ss) ρ Q:=by
 obtain⟨d,f,h1,h2,h3⟩:=h;exact gm (CY hi (by rw[fH,h1];show a_ ([d],(f || im d) && c_)=_;rw[h2,dQ];rfl) (Gy hl)) (k d h3)
theorem u6{α:Type}{bnd:Dat->cX->Option cX}{body:List Sx}{V:α->Dat}{I:Nat->cX->Prop}:∀(xs:List α)(k:Nat)(ρ:cX),(∀x∈xs,∀i ρ,i<=100->k<=i->I i ρ->∃ρ1,bnd (V x) ρ=a_ ρ1/\Go C body ρ1 λo=>∃ρ2,o=.nx ρ2/\I (i+1) ρ2)->k+xs.length<=100->I k ρ->∃ρ',eE bnd (bH C body) (xs.map V) ρ=a_ (.nx ρ')/\I (k+xs.length) ρ'
 |[],k,ρ,_,_,h=>⟨ρ,rfl,h⟩
 |x::xs,k,ρ,hs,hl,h=>by
   rw[aS,tF xs.length,<-mX]at hl ⊢;obtain⟨ρ1,h1,_,h2,ρ2,rfl,h3⟩:=hs x iw k ρ (bo (ae (bO _ _) hl)) (aI _) h;obtain⟨ρ',h4,h5⟩:=u6 xs (k+1) ρ2 (λy hy i ρ a b=>hs y (jd _ hy) i ρ a (bo b)) hl h3;rw[ah,Og h1 h2];exact⟨ρ',h4,h5⟩
def yS{ts:List Nat}{body:List Sx}{I:Nat->cX->Prop}{k:Nat}{P:Nat->Prop}(he:Ei C e (full ρ) P)(hk:∀m,P m->k+m<=100)(hI:I k ρ)(hs:∀m,P m->∀j,j<m->∀i ρ,i<=100->k<=i->I i ρ->∃ρ1,dW c_ ts (.int (j:Nat)) ρ=a_ ρ1/\Go C body ρ1 λo=>∃ρ2,o=.nx ρ2/\I (i+1) ρ2)(K:∀m,P m->∀ρ',I (k+m) ρ'->Go C ss ρ' Q):Go C (.loop c_ ts (.rng [e]) body::ss) ρ Q:=by
 obtain⟨m,f,he,hm⟩:=he;have hk:=hk m hm;obtain⟨ρ',h1,h2⟩:=u6 (C:=C) (bnd:=dW c_ ts) (body:=body) (V:=λj:Nat=>.int (j:Nat)) (I:=I) (aP m) k ρ (λj hj=>hs m hm j (aR.mp hj)) (by rw[bX];exact hk) hI;rw[bX]at h2;exact gm (by rw[KU,E2 he (by omega)];exact h1) (K m hm ρ' h2)
def Uw{ρ:fP}{z:Int}{f:Bool}(h:bg C e ρ=a_ (.int z,f)):∃c b,bg C (.ix (.f_ "abcdefghijklmnopqrstuvwxyz") (.bin .mod e (.e_ 26))) ρ=a_ (sT [c],b)/\c≠32:=by
 have h1:0<=z % 26:=oH _ bG;have h2:z % 26<26:=lW _ (by simp);obtain⟨q,hq⟩:=jN h1;have hl:q<iP.length:=by show q<26;omega
 refine⟨iP[q],d_,?_,of_decide_eq_true (aC.mp YX _ (bA hl))⟩;rw[nH,kG,h,ZV];show((g9 .mod (.int z) (.int 26)).bind λy=>(mG (.str (T iP)) y.1).map λd=>(d,d_))=_;rw[vD bG,hq];show((mG (.str (T iP)) (.int (q:Nat))).map _)=_;rw[Y3 bG hl];rfl
def Xf{ρ:fP}{elt:Ex}{caps:List Nat}(h:Ei C e ρ (·<=3))(hs:∀i,i<3->∃c b,bg C elt ((fS 1 caps ρ).set 0 (a_ (.int ((i:Nat):Int))))=a_ (sT [c],b)/\c≠32):Ev C (.eD .join (.f_ "") [.comp 1 c_ caps (.rng [e]) [] elt]) ρ wd:=by
 obtain⟨m,f,r,hm⟩:=h;obtain⟨W,e,l,n⟩:=ug (C:=C) (ρ:=ρ) (caps:=caps) (elt:=elt) (λc=>sT [c]) (·≠32) (E2 r (ae hm bG)) (by rw[bX];omega) (λ_=>rfl) λi hi=>hs i (by have:=aR.mp hi;exact ae this hm);rw[bX]at l;have hj:=tZ (ws:=W.map λc=>[c]) (by rw[VV];exact ae (aM l) (ae hm bG));rw[Qz,br]at hj;exact⟨sT W,d_,by rw[Z7,qZ,iX,bC,e];exact hj,rfl,W,rfl,ae (aM l) (ae hm bG),λz=>n 32 z rfl⟩
def Xb{ρ:fP}(hp:rl C 23)(h:Ei C e ρ (·< 16)):Ev C (.call 23 [e]) ρ wd:=by
 obtain⟨m,f,r,hm⟩:=h;exact⟨_,d_,by rw[cN,bC,r];exact hp m hm,rfl,Qn m,rfl,by have:=Sa hm;exact ae this bG,of_decide_eq_true (aC.mp YO m (aR.mpr hm))⟩
def vk{J:cX->Prop}{A:List Sx}(h:∃t f,bg C e (full ρ)=a_ (.bl t,f))(hA:Go C A ρ λo=>∃ρ',o=.nx ρ'/\J ρ')(hB:J ρ)(k:∀ρ',J ρ'->Go C ss ρ' Q):Go C (.ifs e A []::ss) ρ Q:=by
 obtain⟨t,f,h⟩:=h;cases t
 ·exact gm (by rw[gh h rfl];rfl) (k ρ hB)
 ·obtain⟨_,h1,ρ',rfl,h2⟩:=hA;exact gm (by rw[gf h rfl];exact h1) (k ρ' h2)
def S8(hx:bg C x (full ρ)=a_ (.lst A,g))(hl:A.length<=1000)(hA:∀d∈A,fm d)(hy:bg C y (full ρ)=a_ (d,d_))(hd:fm d):∃t f,bg C (.cmp .nin (.sl y b_ (a_ (.e_ 2))) (.comp 1 c_ [] (.itv x) [] (.sl (.v 0) b_ (a_ (.e_ 2))))) (full ρ)=a_ (.bl t,f):=by
 obtain⟨fs,e,_,_⟩:=ug (C:=C) (ρ:=full ρ) (caps:=[]) (it:=.itv x) (elt:=.sl (.v 0) b_ (a_ (.e_ 2))) (xs:=A) (e:=λd=>d) (λf:Fm=>.tup [sT f.1,tI f.2.1]) (λ_=>True) (by rw[yV,hx,List.map_id'];rfl) hl (λf=>by
  show(c_ && (jT (f.2.1.map Dat.int) && c_))=c_
  rw[df];rfl) λd hd=>by
  obtain⟨f,rfl,_⟩:=hA d hd;exact⟨f,d_,rfl,trivial⟩
 obtain⟨f,rfl,_⟩:=hd
 have hs:∀fs:List Fm,dI 20 (fs.map λf=>Dat.tup [sT f.1,tI f.2.1])=c_:=λfs=>by
  induction fs with
  |nil=>rfl
  |cons g r ih=>rw[ah];show(eO 20 _ && dI 20 _)=c_;rw[qB,ih];rfl
 obtain⟨t,et⟩:∃t,cx .nin (.tup [sT f.1,tI f.2.1]) (.lst (fs.map λf=>.tup [sT f.1,tI f.2.1]))=a_ t:=⟨_,if_pos (by rw[qB,hs];rfl)⟩
 refine⟨t,d_,?_⟩;rw[pW,e,QA,hy];show((cx .nin (.tup [sT f.1,tI f.2.1]) _).map λr=>(Dat.bl r,d_))=_;rw[et];rfl
def Kv(hx:Ei C x (full ρ) (·<=1000))(hy:Ev C e (full ρ) P)(hi:(ρ[i]?).join=a_ (.lst A,c_))(hl:A.length<=1000)(k:∀(q:Nat)d,P d->Go C ss (ρ.set i (a_ (.lst (insI d (q:Int) A),c_))) Q):Go C (.mut .ins i [x,e]::ss) ρ Q:=by
 obtain⟨q,g,r,hq⟩:=hx;obtain⟨d,f,h1,h2,h3⟩:=hy
 exact gm (CY (ds:=[.int (q:Nat),d]) hi (by
  rw[fH,r,fH,h1];show a_ (_,(g || c_) && ((f || im d) && c_))=_
  rw[h2,dQ,dQ];rfl) (if_pos ⟨by rw[bu];exact aN hl bG,by simp,eJ (dR.mpr hq) bG⟩)) (k q d h3)
end
abbrev E24(N s3 s4:Dat)(m:Nat)(b f:Int)(ls:List Nat)(A:List Dat)(z6 z9 z10 z11 z12 z13:g_):cX:=[a_ (N,d_),a_ (.int b,d_),a_ (.int f,d_),a_ (s3,d_),a_ (s4,d_),a_ (.int (m:Nat),d_),z6,a_ (.lst (ls.map λc=>sT [c]),c_),a_ (.lst A,c_),z9,z10,z11,z12,z13]
def Vf(N s3 s4:Dat)(b f:Int)(ls:List Nat)(k:Nat)(ρ:cX):Prop:=∃(A:List Dat) (z6 z9 z10 z11 z12 z13:g_),ρ=E24 N s3 s4 ls.length b f ls A z6 z9 z10 z11 z12 z13/\A.length<=k/\(0<k->A≠[])/\∀d∈A,fm d
section
variable{C:Fs}{N:Dat}{b f:Int}{ls:List Nat}(hd:Dw C N)(hc:Cw C N)(hb:0<=b/\b<=10000)(hf:0<f/\f<=63)(hl:∀c∈ls,c≠32)(hn:0<ls.length/\ls.length<=6)
include hd hc hb hf hl hn
def VX(hj:j<ls.length)(hk:k<=100)(h:Vf N s3 s4 b f ls k ρ):∃ρ1,dW c_ [6] (.int (j:Nat)) ρ=a_ ρ1/\Go C X7 ρ1 λo=>∃ρ2,o=.nx ρ2/\Vf N s3 s4 b f ls (k+1) ρ2:=by
 obtain⟨A,z6,z9,z10,z11,z12,z13,rfl,h1,h2,h3⟩:=h;refine⟨_,rfl,?_⟩;show Go C (.set 9 (.bin .add _ (.bin .fdiv (.call 20 _) _))::.mut .app 8 [.tup [.ix _ _,.call 22 [_,.bin .add _ (.bin .mul _ _),_,_],.f_ "wbme"]]::[]) _ _;refine jm (ng (P:=(·<=2)) (vv (P:=(·<=1)) (O1 (P:=(·< 5)) (eW hd rfl rfl rfl (by omega) bG λq h=>by omega) λq h=>by omega) λq h=>(ae (eK h _) bG))) ?_;rintro _ ⟨m,rfl,hm⟩;obtain⟨c,_,ec,hc32⟩:=KZ (C:=C) (ρ:=full (E24 N s3 s4 ls.length b f ls A (a_ (.int (j:Nat),d_)) (a_ (.int (m:Nat),d_)) z10 z11 z12 z13)) (x:=.v 7) (e:=.v 6) rfl ⟨j,_,rfl,hj⟩ hl;refine Di (ds:=A) (E3 ⟨_,_,ec,rfl,[c],rfl,by simp,by simpa using λe=>hc32 e.symm⟩ (q9 hc rfl (eV rfl (Dp rfl rfl bG)) ⟨m,_,rfl,by omega⟩ rfl (by omega) bG hf) ⟨_,_,by rw[iX,ZR],rfl,BB,rfl,bG,bG⟩) rfl (by omega) λg ok=>?_;refine⟨_,rfl,_,rfl,A++[g],_,_,_,_,_,_,rfl,by simp;omega,λ_=>by simp,λy hy=>?_⟩
 rcases aL.mp hy with q|q
 ·exact h3 y q
 ·rw[aQ.mp q];exact ok
def VW(hp:rl C 23)(hj:j<5)(hk:k<=100)(h0:0<k)(h:Vf N s3 s4 b f ls k ρ):∃ρ1,dW c_ [6] (.int (j:Nat)) ρ=a_ ρ1/\Go C X6 ρ1 λo=>∃ρ2,o=.nx ρ2/\Vf N s3 s4 b f ls (k+1) ρ2:=by
 obtain⟨A,z6,z9,z10,z11,z12,z13,rfl,h1,h2,h3⟩:=h;refine⟨_,rfl,?_⟩;show Go C (.set 10 (.bin .add _ (.bin .mul _ _))::.set 11 (.eD .join (.f_ "") [.comp 1 c_ _ (.rng [.bin .add _ (.call 20 _)]) [] (.ix _ (.call 20 _))])::.set 12 (.call 22 [_,.bin .add _ _,.ix _ (.call 20 _),_])::.set 13 (.tup [.v 11,.v 12,.call 23 [.bin .add _ (.call 20 _)]])::.ifs _ [.mut .ins 8 [.call 20 [_,_,.bin .add _ _],.v 13]] []::[]) _ _;refine jm (P:=λd=>∃kk:Int,d=.int kk/\0<=kk/\kk<=20000) ⟨_,_,eV rfl (Dp rfl rfl bG),rfl,_,rfl,by omega,by omega⟩ ?_;rintro _ ⟨kk,rfl,k1,k2⟩;refine jm (Xf (vv (P:=(·< 3)) (eW hd rfl (eV rfl rfl) rfl (by omega) bG λq h=>by omega) λq h=>by omega) λi hi=>KZ rfl (eW hd rfl (eV rfl rfl) rfl (by omega) (eQ.mpr hn.1) λq h=>by omega) hl) ?_;rintro _ ⟨W,rfl,hW⟩;refine jm (q9 (b:=4) hc rfl (eV rfl rfl) (rd (is:=[1,1,2,4]) rfl (eW hd rfl (eV rfl rfl) rfl (by omega) bG λq h=>by show q<4;omega) bG) rfl (by omega) bG hf) ?_;rintro _ ⟨cs,rfl,hcs⟩;refine jm (E3 ⟨_,_,rfl,rfl,W,rfl,hW⟩ ⟨_,_,rfl,Km cs,cs,rfl,hcs⟩ (Xb hp (vv (P:=(·< 15)) (eW hd rfl (eV rfl rfl) rfl (by omega) bG λq h=>by omega) λq h=>by omega))) λd hd'=>?_;refine vk (J:=Vf N s3 s4 b f ls (k+1)) (S8 rfl (ae h1 (ae hk bG)) h3 rfl hd') ?_ ⟨A,_,_,_,_,_,_,rfl,bF h1,λ_=>h2 h0,h3⟩ λρ' h=>⟨_,rfl,_,rfl,h⟩
 refine Kv (P:=fm) (eW hd rfl (eV rfl rfl) (eV (i:=(A.length:Nat)) (j:=1) rfl rfl) (by omega) (by simp) λq h=>by omega) ⟨_,_,rfl,by obtain⟨f0,rfl,_⟩:=hd';exact qS f0,hd'⟩ rfl (by omega) λq d hd'=>⟨_,rfl,_,rfl,insI d (q:Int) A,_,_,_,_,_,_,rfl,by rw[vb];exact dF h1,λ_ e=>?_,λy hy=>?_⟩
 ·have:=vb (x:=d) (i:=(q:Int)) (xs:=A);rw[e]at this;cases this
 ·rcases AB hy with rfl|q
  ·exact hd'
  ·exact h3 y q
end
def Kw(hd:Dw C N)(hc:Cw C N)(hp:rl C 23)(hb:0<=b/\b<=10000)(hf:0<f/\f<=63):Go C ZI ([a_ (N,d_),a_ (.int b,d_),a_ (.int f,d_)]++be 11 b_) λo=>∃A,o=.rt (.lst A) c_/\A≠[]/\A.length<=10/\∀d∈A,fm d:=by
 show Go C (.set 3 (.call 20 _)::.set 4 (.ix _ (.call 20 _))::.set 5 (.ix _ (.call 20 _))::.set 7 (.comp 1 c_ _ (.rng [_]) [] (.ix _ (.bin .mod (.bin .add _ (.bin .mul _ _)) _)))::.set 8 (.lst [])::.loop c_ [6] (.rng [.v 5]) X7::.loop c_ [6] (.rng [.call 20 _]) X6::.rO 8::[]) _ _;refine jm (ng (P:=(·< 26)) (eW hd rfl (eV rfl rfl) rfl (⟨(x5 hb.1),(dX hb.2 bG)⟩) bG λq h=>by omega)) ?_;rintro _ ⟨q1,rfl,-⟩;refine jm (ng (P:=(·<=7)) (rd (is:=[1,3,5,7]) rfl (eW hd rfl (eV rfl rfl) rfl (by omega) bG λq h=>by show q<4;omega) bG)) ?_;rintro _ ⟨st,rfl,hst⟩;refine jm (ng (P:=λm=>0<m/\m<=6) (rd (is:=[1,2,2,3,3,6]) rfl (eW hd rfl (eV rfl rfl) rfl (by omega) bG λq h=>by show q<6;omega) bG)) ?_;rintro _ ⟨m,rfl,hm⟩;obtain⟨ls,e,l,hl⟩:=ug (C:=C) (ρ:=full [a_ (N,d_),a_ (.int b,d_),a_ (.int f,d_),a_ (.int (q1:Nat),d_),a_ (.int (st:Nat),d_),a_ (.int (m:Nat),d_),b_,b_,b_,b_,b_,b_,b_,b_]) (caps:=[3,4]) (elt:=.ix (.f_ "abcdefghijklmnopqrstuvwxyz") (.bin .mod (.bin .add (.v 1) (.bin .mul (.v 2) (.v 0))) (.e_ 26))) (λc=>sT [c]) (·≠32) (E2 (e:=.v 5) (m:=m) rfl (ae hm.2 bG)) (by rw[bX];omega) (λ_=>rfl) λi hi=>Uw (z:=(q1:Int)+(st:Int) * (i:Int)) (eV rfl (Dp rfl rfl (⟨(fu _),(eJ (dR.mpr hst) bG)⟩)));rw[bX]at l;subst l;refine gm (iL e) (gm (iL (ds:=[]) rfl) ?_);refine yS (I:=Vf N (.int (q1:Nat)) (.int (st:Nat)) b f ls) (k:=0) (P:=(·= ls.length)) ⟨_,_,rfl,rfl⟩ (λm h=>by omega) ⟨[],_,_,_,_,_,_,rfl,by simp,λh=>((eh h bG)).elim,λ_ h=>nomatch h⟩ (λm h j hj i ρ h1 _ h2=>VX hd hc hb hf hl hm (ae hj (aM h)) h1 h2) λm h ρ h1=>?_;subst h;obtain⟨A,z6,z9,z10,z11,z12,z13,rfl,a1,a2,a3⟩:=h1;refine yS (I:=Vf N (.int (q1:Nat)) (.int (st:Nat)) b f ls) (k:=0+ls.length) (P:=(·<=4)) (eW hd rfl (eV rfl rfl) rfl (by omega) bG λq h=>by omega) (λm h=>by omega) ⟨A,_,_,_,_,_,_,rfl,a1,a2,a3⟩ (λm h j hj i ρ h1 h3 h2=>VW hd hc hb hf hl hm hp (bF (ae hj h)) h1 (ae (eK hm.1 _) h3) h2) λm h ρ h1=>?_;obtain⟨A,z6,z9,z10,z11,z12,z13,rfl,a1,a2,a3⟩:=h1;exact⟨_,rfl,A,rfl,a2 (by omega),by omega,a3⟩
def VB(N:Dat)(b f:Int)(ρ:cX):Prop:=∃m0 m1 m2 m3 g,ρ=[a_ (N,d_),a_ (.int b,d_),a_ (.int f,d_),a_ (.lst [m0,m1,m2,m3],c_),a_ (g,d_)]/\cW 10 m0/\cW 10 m1/\cW 10 m2/\cW 10 m3/\cW 10 g
def yX(h:Ei C e ρ λ_=>True):∃t f,bg C (.cmp .eq e (.con (.int c))) ρ=a_ (.bl t,f):=by
 obtain⟨q,f,r,_⟩:=h;exact⟨_,_,by rw[pW,r];rfl⟩
def yR(h:Ev C x (full ρ) P)(hy:bg C y (full ρ)=a_ (.int k,g))(hi:(ρ[i]?).join=a_ (.lst ds,c_))(K:∀d,P d->∃ds',lz .seti (.lst ds) [d,.int k]=a_ (.lst ds')/\Go C ss (ρ.set i (a_ (.lst ds',c_))) Q):Go C (.mut .seti i [x,y]::ss) ρ Q:=by
 obtain⟨d,f,h1,h2,h3⟩:=h;obtain⟨ds',hm,h4⟩:=K d h3;exact gm (CY hi (by rw[fH,h1,fH,hy];show a_ ([d,.int k],(f || im d) && ((g || c_) && c_))=_;rw[h2,dQ,dQ];rfl) hm) h4
section
variable{C:Fs}{N:Dat}{b f:Int}{ρ:cX}{ss:List Sx}{Q:Out->Prop}(hd:Dw C N)(hc:Cw C N)(hb:0<=b/\b<=20000)(hf:0<f/\f<=63)(h:VB N b f ρ)(K:∀ρ',VB N b f ρ'->Go C ss ρ' Q)
include hd hb h
def QF(hc:0<=c/\c<=100)(hj:0<j):∃t f,bg C (.cmp .eq (.call 20 [(.v 0),(.bin .add (.v 1) (.con (.int c))),(.con (.int j))]) (.e_ 1)) (full ρ)=a_ (.bl t,f):=by
 obtain⟨m0,m1,m2,m3,g,rfl,_⟩:=h;exact yX (eW hd rfl (eV rfl rfl) rfl (by omega) hj λ_ _=>trivial)
include hc hf K
def Ej(ha:0<=a/\a<=100)(hc':0<=c/\c<=100)(hk:k=0\/k=1\/k=2\/k=3):Go C (.mut .seti 3 [(.call 22 [(.v 0),(.bin .add (.v 1) (.con (.int a))),(.bin .add (.e_ 1) (.call 20 [(.v 0),(.bin .add (.v 1) (.con (.int c))),(.e_ 2)])),(.v 2)]),(.con (.int k))]::ss) ρ Q:=by
 obtain⟨m0,m1,m2,m3,g,rfl,h0,h1,h2,h3,h4⟩:=h;refine yR (q9 (b:=10) hc rfl (eV rfl rfl) (vv (P:=(·< 2)) (eW hd rfl (eV rfl rfl) rfl (by omega) bG λq h=>by omega) λq h=>by omega) rfl (by omega) bG hf) rfl rfl λd hx=>?_
 rcases hk with rfl|rfl|rfl|rfl
 ·exact⟨[d,m1,m2,m3],rfl,K _ ⟨_,_,_,_,_,rfl,hx,h1,h2,h3,h4⟩⟩
 ·exact⟨[m0,d,m2,m3],rfl,K _ ⟨_,_,_,_,_,rfl,h0,hx,h2,h3,h4⟩⟩
 ·exact⟨[m0,m1,d,m3],rfl,K _ ⟨_,_,_,_,_,rfl,h0,h1,hx,h3,h4⟩⟩
 ·exact⟨[m0,m1,m2,d],rfl,K _ ⟨_,_,_,_,_,rfl,h0,h1,h2,hx,h4⟩⟩
end
def Xq:cW 10 (.tup []):=⟨[],rfl,by simp,λ_ h=>nomatch h⟩
def Kt(hd:Dw C N)(hc:Cw C N)(hb:0<=b/\b<=20000)(hf:0<f/\f<=63):Go C ZH ([a_ (N,d_),a_ (.int b,d_),a_ (.int f,d_)]++be 2 b_) λo=>∃m0 m1 m2 m3 g fr,o=.rt (.tup [.tup [m0,m1,m2,m3],g]) fr/\cW 10 m0/\cW 10 m1/\cW 10 m2/\cW 10 m3/\cW 10 g:=by
 show Go C (.set 3 (.lst _)::.set 4 (.tup [])::.ifs (.cmp .eq (.call 20 _) _) (.mut .seti 3 [.call 22 _,_]::.ifs (.cmp .eq (.call 20 _) _) [.mut .seti 3 [.call 22 _,_]] []::[]) []::.ifs (.cmp .eq (.call 20 _) _) (.mut .seti 3 [.call 22 _,_]::.mut .seti 3 [.call 22 _,_]::.set 4 (.call 22 [_,.bin .add _ _,.ix _ (.call 20 _),_])::[]) []::.ret (.tup [.blt .tuple [.v 3],.v 4])::[]) _ _;refine gm (iL rfl) (gm (Cz rfl rfl) ?_);have hJ:VB N b f [a_ (N,d_),a_ (.int b,d_),a_ (.int f,d_),a_ (.lst [.tup [],.tup [],.tup [],.tup []],c_),a_ (.tup [],d_)]:=⟨_,_,_,_,_,rfl,Xq,Xq,Xq,Xq,Xq⟩
 refine vk (J:=VB N b f) (yX (eW hd rfl rfl rfl (⟨hb.1,(eJ hb.2 bG)⟩) bG λ_ _=>trivial)) (Ej hd hc hb hf hJ (λρ hJ=>vk (J:=VB N b f) (QF hd hb hJ bG bG) (Ej hd hc hb hf hJ (λρ h=>⟨_,rfl,_,rfl,h⟩) bG bG bG) hJ λρ h=>⟨_,rfl,_,rfl,h⟩) bG bG bG) hJ λρ hJ=>?_;refine vk (J:=VB N b f) (QF hd hb hJ bG bG) (Ej hd hc hb hf hJ (λρ hJ=>Ej hd hc hb hf hJ (λρ hJ=>?_) bG bG bG) bG bG bG) hJ λρ hJ=>?_
 ·obtain⟨m0,m1,m2,m3,g,rfl,h0,h1,h2,h3,h4⟩:=hJ;exact jm (q9 (b:=10) hc rfl (eV rfl rfl) (rd (is:=[1,2,3,10]) rfl (eW hd rfl (eV rfl rfl) rfl (by omega) bG λq h=>by show q<4;omega) bG) rfl (by omega) bG hf) λd hx=>⟨_,rfl,_,rfl,_,_,_,_,_,rfl,h0,h1,h2,h3,hx⟩
 ·obtain⟨m0,m1,m2,m3,g,rfl,h⟩:=hJ;exact⟨_,ji (mZ rfl),_,_,_,_,_,_,rfl,h⟩
def cW.im(h:cW b d):im d=c_:=by
 obtain⟨c,rfl,_⟩:=h;exact Km c
def Nd{ns:List Int}:∃A m0 m1 m2 m3 g fr,Cn D (n+4) 26 [.lst (ns.map Dat.int),.int 0]=a_ (.tup [.tup A,.tup [m0,m1,m2,m3],g],fr)/\A≠[]/\A.length<=10/\(∀d∈A,fm d)/\cW 10 m0/\cW 10 m1/\cW 10 m2/\cW 10 m3/\cW 10 g:=by
 have hd:Dw (Cn D (n+3)) (.lst (ns.map Dat.int)):=dw (n:=n+2);obtain⟨q,w,r,hq⟩:=rd (C:=Cn D (n+3)) (ρ:=full [a_ (.lst (ns.map Dat.int),d_),a_ (.int 0,d_),b_,b_,b_,b_]) (is:=[4,4,12,63]) (x:=.lst [(.e_ 4),(.e_ 4),(.e_ 12),(.e_ 63)]) (P:=λq=>0<q/\q<=63) rfl (eW (a:=.v 0) (k:=.v 1) (m:=.e_ 4) hd rfl rfl rfl bG bG λq h=>by show q<4;omega) bG;obtain⟨_,hA,A,rfl,a1,a2,a3⟩:=Kw (C:=Cn D (n+2)) (b:=0) (f:=(q:Nat)) (dw (n:=n+1) (ns:=ns)) (cw (n:=n)) (CC (n:=n+1)) bG (⟨(eQ.mpr hq.1),(dR.mpr hq.2)⟩);obtain⟨_,hM,m0,m1,m2,m3,g,fr,rfl,h0,h1,h2,h3,h4⟩:=Kt (C:=Cn D (n+2)) (b:=150) (f:=(q:Nat)) (dw (n:=n+1) (ns:=ns)) (cw (n:=n)) bG (⟨(eQ.mpr hq.1),(dR.mpr hq.2)⟩);have eA:Cn D (n+3) 24 [.lst (ns.map Dat.int),.int 0,.int (q:Nat)]=a_ (.lst A,c_):=cn (d:=d24) rfl (dz (np:=3) (nl:=14) (body:=ZI) rfl hA);have eM:Cn D (n+3) 25 [.lst (ns.map Dat.int),.int 150,.int (q:Nat)]=a_ (.tup [.tup [m0,m1,m2,m3],g],fr):=cn (d:=d25) rfl (dz (np:=3) (nl:=5) (body:=ZH) rfl hM)
 suffices ∃fr,bH (Cn D (n+3)) ZG [a_ (.lst (ns.map Dat.int),d_),a_ (.int 0,d_),b_,b_,b_,b_]=a_ (.rt (.tup [.tup A,.tup [m0,m1,m2,m3],g]) fr) by
  obtain⟨fr,e⟩:=this;exact⟨A,m0,m1,m2,m3,g,fr,cn (d:=d26) rfl (dz (C:=Cn D (n+3)) (np:=2) (nl:=6) (body:=ZG) rfl e),a1,a2,a3,h0,h1,h2,h3,h4⟩
 generalize Cn D (n+3)=C at r eA eM ⊢;show ∃fr,bH C (.set 2 (.ix _ (.call 20 _))::.set 3 (.call 24 _)::.Qe [4,5] (.call 25 _)::.ret _::[]) _=_
 rw[bK (Cz r rfl),bK (iL (by rw[cN];exact eA)),bK (tR (by rw[cN];exact eM) (by
  show((im m0 && (im m1 && (im m2 && (im m3 && c_)))) && (im g && c_))=c_
  rw[h0.im,h1.im,h2.im,h3.im,h4.im];rfl))]
 exact⟨_,ji (mZ rfl)⟩
theorem Kl:∀{A:List Dat},(∀d∈A,im d=c_)->jT A=c_
 |[],_=>rfl
 |d::A,h=>by rw[jT,h d iw,Kl λd hd=>h d (jd _ hd)];rfl
def ld(w c:Nat)(d:Dat):Prop:=∃ws,d=eL ws/\lw w c ws
def Tw(C:Fs):Prop:=∀c:Int,1<=c/\c<=63->C 27 [.int c]=a_ (sT (ctx c),d_)
def QC{X:List (List Nat)}(ht:Tw C)(hx:bg C x ρ=a_ (.lst (X.map sT),f))(h0:X≠[])(hX:∀x∈X,wl x)(hi:bg C it ρ=a_ (tI cs,g))(hc:cq 10 cs)(hl:X.length+cs.length<=12):Ev C (.eD .join (.f_ " ") [(.bin .add x (.comp 1 c_ [] (.itv it) [] (.call 27 [(.v 0)])))]) ρ (ld 7 12):=by
 have hw:lw 7 12 (X++cs.map ctx):=⟨by simp[h0],by simp;omega,λy hy=>by
  rcases aL.mp hy with q|q
  ·exact hX y q
  ·obtain⟨c,hc',rfl⟩:=bb.mp q;have:=UD (hc.2 c hc')
   exact⟨bF this.1,this.2⟩⟩
 have e:=comp_map (C:=C) (ρ:=ρ) (caps:=[]) (it:=.itv it) (elt:=.call 27 [(.v 0)]) cs Dat.int (λc=>sT (ctx c)) (by rw[yV,hi];rfl) (by omega) (λc h=>⟨d_,ht c (hc.2 c h)⟩) λ_ _=>rfl;exact⟨_,_,ud (yY hx (by rw[e,br];rfl) (by rw[ag];exact ae hl bG)) (hw.sum bG bG),rfl,_,rfl,hw⟩
def Xe(h:Ei C e ρ (·< 5)):Ev C (.ix kl e) ρ wd:=by
 obtain⟨j,f,r,hj⟩:=h;have:=aC.mp KWB (j+1) (aR.mpr (dF hj));simp only[af,decide_eq_true_eq]at this;exact⟨_,d_,by rw[nH,Qs,r];exact jG (aC.mp Tu j (aR.mpr hj)),rfl,_,rfl,this⟩
def Uu(h:bg C x ρ=a_ (tI cs,f)):∃t f,bg C (.cmp .gt (.blt .len [x]) (.e_ 0)) ρ=a_ (.bl t,f):=⟨_,_,by rw[pW,pX,bC,h];rfl⟩
def Yg(t:Dat)(z5:g_)(k:Nat)(ρ:cX):Prop:=∃X z2 z3 z4 z6 z7,ρ=[a_ (t,d_),a_ (.lst X,c_),z2,z3,z4,z5,z6,z7]/\X.length<=k/\(0<k->X≠[])/\∀d∈X,ld 7 12 d
def Qr:List Sx:=[(.mut .app 1 [(.eD .join (.f_ " ") [(.bin .add (.lst [(.con (.str (aa "form"))),(.v 2),(.v 4)]) (.comp 1 c_ [] (.itv (.v 3)) [] (.call 27 [(.v 0)])))])])]
def WQ:List Sx:=[(.ifs (.cmp .gt (.blt .len [(.ix (.v 5) (.v 6))]) (.e_ 0)) [(.set 7 (.ix kl (.v 6))),(.mut .app 1 [(.eD .join (.f_ " ") [(.bin .add (.lst [(.v 7)]) (.comp 1 c_ [] (.itv (.ix (.v 5) (.v 6))) [] (.call 27 [(.v 0)])))])])] [])]
def QR{X:List Dat}(h1:X.length<=k)(h3:∀d∈X,ld 7 12 d)(hd:ld 7 12 d):Yg t z5 (k+1) [a_ (t,d_),a_ (.lst (X++[d]),c_),z2,z3,z4,z5,z6,z7]:=⟨_,_,_,_,_,_,rfl,by simp;omega,λ_=>by simp,λy hy=>by
 rcases aL.mp hy with q|q
 ·exact h3 y q
 ·rw[aQ.mp q];exact hd⟩
def Ku(ht:Tw C)(hn:A≠[])(hl:A.length<=10)(hA:∀d∈A,fm d)(h0:cW 10 m0)(h1:cW 10 m1)(h2:cW 10 m2)(h3:cW 10 m3)(h4:cW 10 g):Go C ZF (a_ (.tup [.tup A,.tup [m0,m1,m2,m3],g],d_)::be 7 b_) λo=>∃X,o=.rt (.lst X) c_/\X≠[]/\X.length<=15/\∀d∈X,ld 7 12 d:=by
 generalize hT:Dat.tup [.tup A,.tup [m0,m1,m2,m3],g]=t;show Go C (.set 1 (.lst [])::.loop d_ [2,3,4] (.itv (.ix (.v 0) (.e_ 0))) Qr::.set 5 (.lst [_,_,_,_,_])::.loop c_ [6] (.rng [(.e_ 5)]) WQ::[.rO 1]) _ _;have hA0:=gY.mpr hn
 obtain⟨ρ1,e1,X,z2,z3,z4,z6,z7,rfl,k1,k2,k3⟩:=u6 (C:=C) (bnd:=dW d_ [2,3,4]) (body:=Qr) (V:=λd:Dat=>d) (I:=Yg t b_) A 0 [a_ (t,d_),a_ (.lst [],c_),b_,b_,b_,b_,b_,b_] (λd hd i ρ hi _ h=>by
  obtain⟨X,z2,z3,z4,z6,z7,rfl,k1,k2,k3⟩:=h;obtain⟨f,rfl,f1,f2,f3⟩:=hA d hd;refine⟨_,rfl,Di (QC (X:=[KW.getD 0 [],f.1,f.2.2]) (cs:=f.2.1) ht (by rw[ZW];rfl) (by simp) (λx hx=>?_) rfl ⟨by have:=f2.1;exact ae this bG,f2.2⟩ (by have:=f2.1;simp;exact ae (eK this _) bG)) rfl (aN k1 (aN hi bG)) λd hd=>⟨_,rfl,_,rfl,QR k1 k3 hd⟩⟩;simp only[aq,aX,or_false]at hx
  rcases hx with rfl|rfl|rfl
  ·exact⟨bG,bG⟩
  ·exact f1
  ·exact f3) (ae (eK hl _) bG) ⟨[],_,_,_,_,_,rfl,by simp,λh=>((eh h bG)).elim,λ_ h=>nomatch h⟩
 rw[List.map_id']at e1;refine gm (iL (ds:=[]) rfl) (gm (ρ1:=[a_ (t,d_),a_ (.lst X,c_),z2,z3,z4,b_,z6,z7]) ?_ ?_)
 ·subst hT
  have hI:im (.tup A)=c_:=Kl λd hd=>by
   obtain⟨f,rfl,_⟩:=hA d hd;exact qS f
  rw[lj,show bg C (.ix (.v 0) (.e_ 0)) _=a_ (.tup A,d_)from rfl,au,if_pos (by rw[hI];rfl)];exact e1
 have hM:∀d∈[m0,m1,m2,m3,g],cW 10 d:=by
  intro d hd;simp only[aq,aX,or_false]at hd
  rcases hd with rfl|rfl|rfl|rfl|rfl<;>assumption
 refine gm (iL (ds:=[m0,m1,m2,m3,g]) ?_) ?_
 ·rw[<-hT];show a_ (Dat.lst [m0,m1,m2,m3,g],(d_ || im m0) && ((d_ || im m1) && ((d_ || im m2) && ((d_ || im m3) && ((d_ || im g) && c_)))))=_;rw[h0.im,h1.im,h2.im,h3.im,h4.im];rfl
 generalize hL:[m0,m1,m2,m3,g]=M at hM ⊢;have hL:M.length=5:=by rw[<-hL];rfl
 refine yS (I:=Yg t (a_ (.lst M,c_))) (k:=0+A.length) (P:=(·= 5)) ⟨5,_,rfl,rfl⟩ (λm h=>by omega) ⟨X,_,_,_,_,_,rfl,k1,k2,k3⟩ (λm hm j hj i ρ hi hk h=>?_) λm hm ρ h=>?_
 ·obtain⟨X,z2,z3,z4,z6,z7,rfl,k1,k2,k3⟩:=h
  have hx:bg C (.ix (.v 5) (.v 6)) (full [a_ (t,d_),a_ (.lst X,c_),z2,z3,z4,a_ (.lst M,c_),a_ (.int (j:Nat),d_),z7])=a_ (M[j],d_):=by
   show((nJ M (j:Int)).map λd=>(d,d_))=_;rw[gu (by omega),ao (by omega)];rfl
  obtain⟨cs,ecs,hcs⟩:=hM M[j] (bA _);rw[ecs]at hx;refine⟨_,rfl,?_⟩;show Go C (.ifs (.cmp .gt (.blt .len [_]) _) [.set 7 (.ix kl (.v 6)),.mut .app 1 [_]] []::[]) _ _;refine vk (J:=Yg t (a_ (.lst M,c_)) (i+1)) (Uu hx) (jm (Xe ⟨j,_,rfl,by omega⟩) λd hd=>?_) ⟨X,_,_,_,_,_,rfl,bF k1,λ_=>k2 (ae (eK hA0 _) hk),k3⟩ λρ h=>⟨_,rfl,_,rfl,h⟩
  obtain⟨l,rfl,hl⟩:=hd;exact Di (QC (X:=[l]) (cs:=cs) ht rfl (by simp) (λx h=>by rw[aQ.mp h];exact hl) hx hcs (by have:=hcs.1;simp;exact ae (eK this _) bG)) rfl (by omega) λd hd=>⟨_,rfl,_,rfl,QR k1 k3 hd⟩
 ·obtain⟨X,z2,z3,z4,z6,z7,rfl,k1,k2,k3⟩:=h;exact⟨_,rfl,X,rfl,k2 (by omega),by omega,k3⟩
def pV{α:Type}{e:α->Dat}{C:Fs}{ρ:fP}{v hi:Ex}{xs:List α}{j:Nat}{f g:Bool}(hv:bg C v ρ=a_ (.lst (xs.map e),f))(hh:bg C hi ρ=a_ (.int (j:Nat),g))(hj:j<=xs.length)(hm:∀l:List α,jT (l.map e)=c_):bg C (.sl v b_ (a_ hi)) ρ=a_ (.lst ((xs.take j).map e),c_):=by
 show(bg C v ρ).bind (λx=>(a_ b_).bind λl=>(Al (bg C hi ρ)).bind λh=>zD x.1 l h)=_;rw[hv,hh];show zD (.lst (xs.map e)) b_ (a_ (j:Int))=_;rw[IM,E9 (by rw[ag];exact hj),<-zz,hm]
def pU{α:Type}{e:α->Dat}{C:Fs}{ρ:fP}{v lo:Ex}{xs:List α}{j:Nat}{f g:Bool}(hv:bg C v ρ=a_ (.lst (xs.map e),f))(hh:bg C lo ρ=a_ (.int (j:Nat),g))(hj:j<=xs.length)(hm:∀l:List α,jT (l.map e)=c_):bg C (.sl v (a_ lo) b_) ρ=a_ (.lst ((xs.drop j).map e),c_):=by
 show(bg C v ρ).bind (λx=>(Al (bg C lo ρ)).bind λl=>(a_ b_).bind λh=>zD x.1 l h)=_;rw[hv,hh];show zD (.lst (xs.map e)) (a_ (j:Int)) b_=_;rw[IM,Fb (by omega) (by rw[ag];omega),cZ,<-zA,hm]
def lQ(h:bg C v ρ=a_ (.int (a:Nat),f)):bg C (.bin .add v (.e_ 1)) ρ=a_ (.int ((a+1:Nat):Int),d_):=by
 rw[kG,h];rfl
def KJ(ws:List (List Nat)):List (List Nat):=if ws=[]then [[]]else ws
set_option tactic.hygienic true
def Tn(ws:List (List Nat)):eL (KJ ws)=eL ws:=by
 unfold KJ;split
 ·rename_i h;rw[h];rfl
 ·rfl
def Uk{ws:List (List Nat)}(hl:ws.length<=c)(hx:∀x∈ws,x.length<=w/\32∉x)(hc:1<=c):lw w c (KJ ws):=by
 unfold KJ;split
 ·exact⟨by simp,by simpa using hc,λx hx=>by rw[aQ.mp hx];simp⟩
 ·rename_i h;exact⟨h,hl,hx⟩
set_option tactic.hygienic false
def m9:∀{r:List (List Nat)},r≠[]->inter c (x::r)=x++c::inter c r
 |y::r,_=>rfl
theorem A0:∀P:List (List Nat),inter 32 (P++[x])++10::inter 32 (y::R)=inter 32 (P++(x++10::y)::R)
 |[]=>by
   show x++10::inter 32 (y::R)=inter 32 ((x++10::y)::R)
   cases R with
   |nil=>rfl
   |cons z R=>rw[m9 (x:=y) (r:=z::R) (by simp),m9 (x:=x++10::y) (r:=z::R) (by simp)];simp
 |p::P=>by
   rw[bV,bV,m9 (x:=p) (r:=P++[x]) (by simp),m9 (x:=p) (r:=P++(x++10::y)::R) (by simp),<-A0 P];simp
abbrev XE(N:Dat)(k:Int)(t:Dat)(V:List (List Nat))(a w:Nat)(z6:g_):cX:=[a_ (N,d_),a_ (.int k,d_),a_ (t,d_),a_ (.lst (V.map sT),c_),a_ (.int (a:Nat),d_),a_ (.int (w:Nat),d_),z6]
noncomputable def LV:List Dat:=[(.str (aa "")),(.str (aa "0")),(.str (aa "1")),(.str (aa "21")),(.str (aa "7")),(.str (aa "123456")),(.str (aa "a")),(.str (aa "A")),(.str (aa "wbme")),(.str (aa "bw")),(.str (aa "form")),(.str (aa "great")),(.str (aa "ab")),(.str (aa "abcdefg")),(.str (aa "we")),(.str (aa "forms")),(.str (aa "figure")),(.str (aa "all")),(.str (aa "great1")),(.str (aa "lettera"))]
def Mu:Dat->List Nat
 |.str x=>x.cps.toList
 |_=>[]
def mnB:((aP 20).all λj=>mz ((mG (.lst LV) (.int (j:Nat))).map λd=>(d,d_)) (a_ (sT (Mu (LV.getD j .non)),d_)) && decide ((Mu (LV.getD j .non)).length<=7) && decide (32∉Mu (LV.getD j .non)))=c_:=by kernel_rfl
def WH(h:j<20):∃x,mG (.lst LV) (.int (j:Nat))=a_ (sT x)/\x.length<=7/\32∉x:=by
 have:=aC.mp mnB j (aR.mpr h);simp only[af,decide_eq_true_eq]at this;obtain⟨⟨h1,h2⟩,h3⟩:=this;have h1:=jG h1;refine⟨_,?_,h2,h3⟩
 cases q:mG (.lst LV) (.int (j:Nat))with
 |none=>rw[q]at h1;cases h1
 |some d=>rw[q]at h1;exact congrArg a_ (ka (aO h1)).1
def Cy{α:Type}{e:α->Dat}{xs:List α}{x:α}{a:Nat}(ha:a<xs.length)(hl:xs.length<=1000):lz .seti (.lst (xs.map e)) [e x,.int (a:Nat)]=a_ (.lst ((xs.set a x).map e)):=by
 show(if -1000000<=((a:Nat):Int)/\((a:Nat):Int)<=1000000 then(uM (e x) ((a:Nat):Int) (xs.map e)).map Dat.lst else b_)=_;rw[if_pos (by omega)];unfold uM EM;rw[ag,if_pos (by omega),if_pos (by omega),aH,aH,sO,cZ]
section
def EU(h:bg C e (full ρ)=a_ (.bl c_,f))(hA:Go C A ρ λo=>∃ρ',o=.nx ρ'/\Go C ss ρ' Q):Go C (.ifs e A []::ss) ρ Q:=by
 obtain⟨_,h1,ρ',rfl,h2⟩:=hA;exact gm (by rw[gf h rfl];exact h1) h2
def fO(h:bg C e (full ρ)=a_ (.bl d_,f))(K:Go C ss ρ Q):Go C (.ifs e A []::ss) ρ Q:=gm (by rw[gh h rfl];rfl) K
def A6(hr:∀o,Q o->∃d g,o=.rt d g)(h:bg C e (full ρ)=a_ (.bl c_,f))(hA:Go C A ρ Q):Go C (.ifs e A []::ss) ρ Q:=by
 obtain⟨o,h1,h2⟩:=hA;obtain⟨d,g,rfl⟩:=hr o h2;exact⟨_,ji (by rw[gf h rfl];exact h1),h2⟩
def Dh(hx:bg C x (full ρ)=a_ (d,g))(hq:Q (.rt d g)):Go C (.ret x::ss) ρ Q:=⟨_,ji (mZ hx),hq⟩
end
def Xd(hv:bg C v ρ=a_ (.lst LV,f))(h:Ei C e ρ (·< 20)):Ev C (.ix v e) ρ wd:=by
 obtain⟨j,g,r,hj⟩:=h;obtain⟨x,hx,l⟩:=WH hj;exact⟨_,d_,by rw[nH,hv,r];show(mG (.lst LV) (.int (j:Nat))).map _=_;rw[hx];rfl,rfl,x,rfl,l⟩
def R29(w c:Nat)(o:Out):Prop:=∃d fr,o=.rt d fr/\ld (2 * w+8) (c+1) d
section
variable{ws:List (List Nat)}{w c:Nat}(h:lw w c ws)(hw:w<=30)(hc:c<=50)
include h hw hc
def E7{V:List (List Nat)}(hV:V.length<=c+1)(hx:∀x∈V,x∈ws\/wl x):Go C [(.ret (.eD .join (.f_ " ") [(.v 3)]))] (XE N k t V a i z6) (R29 w c):=by
 have hx:∀x∈V,x.length<=2 * w+8/\32∉x:=λx hx'=>by
  rcases hx x hx' with q|q
  ·have:=h.x x q;exact⟨by omega,this.2⟩
  ·exact⟨by have:=q.1;exact bF (Nat.le_add_left_of_le this),q.2⟩
 refine⟨_,ji (mZ (ud (f:=d_) rfl ?_)),_,_,rfl,KJ V,(Tn V).symm,Uk hV hx (by simp)⟩;have:=uF (m:=2 * w+8) λx hx'=>(hx x hx').1;have h2:(2 * w+8) * V.length<=68 * V.length:=pK _ (by omega);omega
def YT(ha:a<ws.length):∃d,bg C (.bin .add (.bin .add (.eD .join (.f_ " ") [(.sl (.v 3) b_ (a_ (.bin .add (.v 4) (.e_ 1))))]) (.f_ "\n")) (.eD .join (.f_ " ") [(.sl (.v 3) (a_ (.bin .add (.v 4) (.e_ 1))) b_)])) (full (XE N k t ws a 4 b_))=a_ (d,d_)/\ld (2 * w+8) (c+1) d:=by
 have hl:=h.l
 have e4:∀V:List (List Nat),V.length<=ws.length->(∀x∈V,x∈ws)->(V.map (·.length)).sum+V.length<=10000:=λV hV hs=>by
  have:=uF (m:=w) λx hx'=>(h.x x (hs x hx')).1;have h2:w * V.length<=30 * V.length:=pK _ hw;omega
 have hp:=ud (C:=C) (pV (C:=C) (ρ:=full (XE N k t ws a 4 b_)) (v:=.v 3) (hi:=.bin .add (.v 4) (.e_ 1)) (e:=sT) (xs:=ws) (j:=a+1) (f:=d_) rfl (lQ (f:=d_) rfl) (ha) nc) (by have:=e4 (ws.take (a+1)) (by simp;exact i9 _ _) λx hx=>dY hx;exact ae this bG);have hs:=ud (C:=C) (pU (C:=C) (ρ:=full (XE N k t ws a 4 b_)) (v:=.v 3) (lo:=.bin .add (.v 4) (.e_ 1)) (e:=sT) (xs:=ws) (j:=a+1) (f:=d_) rfl (lQ (f:=d_) rfl) (ha) nc) (by have:=e4 (ws.drop (a+1)) (by simp) λx hx=>dZ hx;exact ae this bG);have l1:=oW 32 (ws.take (a+1));have l2:=oW 32 (ws.drop (a+1));have b1:=e4 (ws.take (a+1)) (by simp;omega) λx hx=>dY hx;have b2:=e4 (ws.drop (a+1)) (by simp) λx hx=>dZ hx;have NL:aa "\n"=T [10]:=by decide +kernel
 have ev:bg C (.bin .add (.bin .add (.eD .join (.f_ " ") [(.sl (.v 3) b_ (a_ (.bin .add (.v 4) (.e_ 1))))]) (.f_ "\n")) (.eD .join (.f_ " ") [(.sl (.v 3) (a_ (.bin .add (.v 4) (.e_ 1))) b_)])) (full (XE N k t ws a 4 b_))=a_ (sT (inter 32 (ws.take (a+1))++[10]++inter 32 (ws.drop (a+1))),d_):=by
  rw[kG,kG,hp,hs,iX,NL];show((g9 .add (.str (T (inter 32 (ws.take (a+1))))) (.str (T [10]))).bind λx=>g9 .add x.1 (.str (T (inter 32 (ws.drop (a+1))))))=_;rw[Lz (by simp;exact ae l1 (ae b1 bG)),au,Lz (by simp;omega)]
 have hx:=bA ha;have et:ws.take (a+1)=ws.take a++[ws[a]]:=by rw[List.take_succ_eq_append_getElem ha]
 obtain⟨y,R,hR,hy,hm⟩:∃y R,inter 32 (ws.drop (a+1))=inter 32 (y::R)/\(y.length<=w/\32∉y)/\(R.length+a+1<=ws.length/\∀x∈R,x∈ws):=by
  cases q:ws.drop (a+1)with
  |nil=>exact⟨[],[],rfl,by simp,by simp;exact ha⟩
  |cons y R=>
    have hl2:(ws.drop (a+1)).length=R.length+1:=by rw[q];rfl
    rw[nD]at hl2;have hmem:∀x∈y::R,x∈ws:=λx hx=>dZ (by rw[q];exact hx);exact⟨y,R,rfl,h.x y (hmem y iw),by omega,λx hx=>hmem x (jd _ hx)⟩
 refine⟨eL (ws.take a++(ws[a]++10::y)::R),?_,_,rfl,?_⟩
 ·rw[hR,et]at ev;have e5:inter 32 (ws.take a++[ws[a]])++[10]++inter 32 (y::R)=inter 32 (ws.take a++(ws[a]++10::y)::R):=by rw[<-A0];simp
  rw[e5]at ev;exact ev
 ·have hxa:=h.x _ hx;refine⟨by simp,by simp;omega,λx hx'=>?_⟩
  rcases aL.mp hx' with q|q
  ·have:=h.x x (dY q);exact⟨by omega,this.2⟩
  rcases aq.mp q with rfl|q
  ·refine⟨by simp;omega,?_⟩;simp only[aL,aq];rintro(z|z|z)
   ·exact hxa.2 z
   ·cases z
   ·exact hy.2 z
  ·have:=h.x x (hm.2 x q);exact⟨by omega,this.2⟩
def W7(hd:Dw C N)(hk:0<=k/\k<=10000):Go C ZE ([a_ (N,d_),a_ (.int k,d_),a_ (eL ws,d_)]++be 4 b_) (R29 w c):=by
 have hl:=h.l;have h0:0<ws.length:=gY.mpr h.ne;show Go C (.set 3 (.eD .split (.v 2) _)::.set 4 (.call 20 [_,_,.blt .len [.v 3]])::.set 5 (.call 20 [_,.bin .add _ _,_])::.ifs (.cmp .eq (.v 5) (.e_ 4)) [.ret _] []::.ifs (.cmp .eq (.v 5) (.e_ 0)) [.set 3 (.bin .add (.sl _ b_ (a_ _)) (.sl _ (a_ _) b_))] []::.ifs (.cmp .eq (.v 5) (.e_ 1)) [.set 3 (.bin .add (.sl _ b_ (a_ _)) (.sl _ (a_ _) b_))] []::.ifs (.cmp .eq (.v 5) (.e_ 2)) [.set 6 _,.set 6 _,.mut .seti 3 [.ix _ (.call 20 _),_]] []::.ifs (.cmp .eq (.v 5) (.e_ 3)) [.mut .ins 3 [.call 20 [_,_,.bin .add _ _],.f_ ""]] []::[.ret _]) _ _;refine gm (iL (ds:=ws.map sT) (by rw[qZ,bC,B1];exact tY h.ne (λx hx=>(h.x x hx).2) (h.sum (ae hw bG) (ae hc bG)))) ?_;refine jm (ng (P:=(·< ws.length)) (eW hd rfl rfl (j:=((ws.map sT).length:Nat)) rfl (⟨hk.1,(eJ hk.2 bG)⟩) (by rw[ag];exact eQ.mpr h0) λq h=>by rw[ag]at h;omega)) ?_;rintro _ ⟨a,rfl,ha⟩;refine jm (ng (P:=(·< 5)) (eW hd rfl (eV rfl rfl) rfl (⟨(x5 hk.1),(dX hk.2 bG)⟩) bG λq h=>by omega)) ?_;rintro _ ⟨y,rfl,hy⟩
 rcases(by revert y;decide:y=0\/y=1\/y=2\/y=3\/y=4)with rfl|rfl|rfl|rfl|rfl
 ·refine fO rfl (EU rfl (gm (iL (yY (pV (e:=sT) (xs:=ws) rfl rfl (bo ha) nc) (pU (e:=sT) (xs:=ws) rfl (lQ rfl) (ha) nc) (by simp;omega))) ⟨_,rfl,_,rfl,fO rfl (fO rfl (fO rfl (E7 (N:=N) h hw hc (by simp;omega) λx hx=>.inl ?_)))⟩))
  rcases aL.mp hx with q|q
  ·exact dY q
  ·exact dZ q
 ·refine fO rfl (fO rfl (EU rfl (gm (iL (yY (pV (e:=sT) (xs:=ws) rfl (lQ rfl) (ha) nc) (pU (e:=sT) (xs:=ws) rfl rfl (by omega) nc) (by simp;omega))) ⟨_,rfl,_,rfl,fO rfl (fO rfl (E7 (N:=N) h hw hc (by simp;omega) λx hx=>.inl ?_))⟩)))
  rcases aL.mp hx with q|q
  ·exact dY q
  ·exact dZ q
 ·refine fO rfl (fO rfl (fO rfl (EU rfl (gm (iL (ds:=LV.take 15) rfl) (gm (iL (ds:=LV) rfl) (yR (Xd rfl (eW hd rfl (eV rfl rfl) rfl (by omega) bG λq h=>by omega)) rfl rfl λd hd=>?_))))));obtain⟨x,rfl,hx⟩:=hd
  exact⟨_,Cy ha (ae hl (ae hc bG)),_,rfl,_,rfl,fO rfl (E7 (N:=N) h hw hc (by rw[iF];exact bF hl) λy hy=>by
   rcases ja hy with q|q
   ·exact .inl q
   ·exact .inr (q▸hx))⟩
 ·refine fO rfl (fO rfl (fO rfl (fO rfl (EU rfl (Kv (P:=(·= sT [])) (eW hd rfl (eV rfl rfl) (eV (i:=((ws.map sT).length:Nat)) (j:=1) rfl rfl) (by omega) (dX (fu _) (Int.le_refl _)) λq h=>by rw[ag]at h;omega) ⟨_,_,by rw[iX,Z7],rfl,rfl⟩ rfl (by rw[ag];omega) λq d hd=>?_)))));rw[hd,Kk]
  exact⟨_,rfl,_,rfl,E7 (N:=N) h hw hc (by rw[vb];exact dF hl) λy hy=>by
   rcases AB hy with rfl|q
   ·exact .inr ⟨by simp,by simp⟩
   ·exact .inl q⟩
 ·obtain⟨d,e,hd⟩:=YT (C:=C) (N:=N) (k:=k) (t:=eL ws) h hw hc ha;exact A6 (λ_ ⟨d,g,h,_⟩=>⟨d,g,h⟩) rfl (Dh e ⟨_,_,rfl,hd⟩)
end
theorem kF:∀X:List (List (List Nat)),jT (X.map eL)=c_
 |[]=>rfl
 |x::X=>by rw[ah,jT,kF X];rfl
def ue{X Y:List (List (List Nat))}(hx:bg C x ρ=a_ (.lst (X.map eL),f))(hy:bg C y ρ=a_ (.lst (Y.map eL),g))(hl:X.length+Y.length<=1000000):bg C (.bin .add x y) ρ=a_ (.lst ((X++Y).map eL),c_):=by
 rw[kG,hx,hy];show(if(X.map eL).length+(Y.map eL).length<=aD then a_ (Dat.lst (X.map eL++Y.map eL),jT (X.map eL++Y.map eL))else b_)=_;rw[if_pos (by rw[ag,ag,bu];exact ae hl bG),<-fk,kF]
def OX(hx:bg C x ρ=a_ (eL ws,f)):bg C (.lst [x]) ρ=a_ (.lst ([ws].map eL),c_):=by
 show(ni C [x] ρ).bind _=_;rw[fH,hx];show a_ (Dat.lst [eL ws],((f || c_) && c_))=_;rw[dQ];rfl
structure lL(w c m:Nat)(LW:List (List (List Nat))):Prop where
 ne:LW≠[]
 l:LW.length<=m
 x:∀ws∈LW,lw w c ws
def lw.up(h:lw w c ws)(h1:w<=w')(h2:c<=c'):lw w' c' ws:=⟨h.ne,by have:=h.l;exact ae this h2,λx hx=>by have:=h.x x hx;exact⟨ae this.1 h1,this.2⟩⟩
abbrev Z30(N:Dat)(k:Int)(LW:List (List (List Nat)))(y a:Nat)(z5 z6 z7:g_):cX:=[a_ (N,d_),a_ (.int k,d_),a_ (.lst (LW.map eL),d_),a_ (.int (y:Nat),d_),a_ (.int (a:Nat),d_),z5,z6,z7]
noncomputable def Yz:List Nat->List (List Nat)
 |[]=>[[]]
 | x::r=>if x=32 then []::Yz r else match Yz r with
   |w::ws=>(x::w)::ws
   |[]=>[[x]]
noncomputable def od8:List Dat:=[(.str (aa "")),(.str (aa "form")),(.str (aa "great")),(.str (aa "great 1 2 3")),(.str (aa "all 1")),(.str (aa "number 12")),(.str (aa "letter 0")),(.str (aa "figures 1 2 3 4 5 6 1 2 3 4 5"))]
def SV:List Dat:=od8++[(.str (aa "form z wbme 1 2 3 4 5"))]
def Vm(j:Nat):List (List Nat):=Yz (Mu (SV.getD j .non))
def odB:((aP 9).all λj=>mz ((mG (.lst SV) (.int (j:Nat))).map λd=>(d,d_)) (a_ (eL (Vm j),d_)) && decide (Vm j≠[]) && decide ((Vm j).length<=12) && (Vm j).all λx=>decide (x.length<=7) && decide (32∉x))=c_:=by kernel_rfl
def WC(h:j<9):mG (.lst SV) (.int (j:Nat))=a_ (eL (Vm j))/\lw 7 12 (Vm j):=by
 have:=aC.mp odB j (aR.mpr h);simp only[af,decide_eq_true_eq]at this;obtain⟨⟨⟨h1,h2⟩,h3⟩,h4⟩:=this;refine⟨?_,h2,h3,λx hx=>?_⟩
 ·have h1:=jG h1
  cases q:mG (.lst SV) (.int (j:Nat))with
  |none=>rw[q]at h1;cases h1
  |some d=>rw[q]at h1;exact congrArg a_ (ka (aO h1)).1
 ·have:=aC.mp h4 x hx;simp only[af,decide_eq_true_eq]at this;exact this
def Xc(hv:bg C v ρ=a_ (.lst SV,f))(h:Ei C e ρ (·< 9))(hw:7<=w)(hc:12<=c):Ev C (.ix v e) ρ (ld w c):=by
 obtain⟨j,g,r,hj⟩:=h;obtain⟨hx,l⟩:=WC hj;exact⟨_,d_,by rw[nH,hv,r];show(mG (.lst SV) (.int (j:Nat))).map _=_;rw[hx];rfl,rfl,_,rfl,l.up hw hc⟩
def yW{α:Type}{h:α->Dat}{C:Fs}{ρ:fP}{x y:Ex}{xs:List α}{a:Nat}{f g:Bool}(hx:bg C x ρ=a_ (.lst (xs.map h),f))(hy:bg C y ρ=a_ (.int (a:Nat),g))(ha:a<xs.length):bg C (.ix x y) ρ=a_ (h xs[a],d_):=by
 rw[nH,hx,hy];show((nJ _ (a:Int)).map λd=>(d,d_))=_;rw[gu (by rw[ag];exact ha),aY,ao ha];rfl
def XI(w c m:Nat)(o:Out):Prop:=∃L,o=.rt (.lst (L.map eL)) c_/\lL (2 * w+8) (c+1) (m+1) L
def Bw(C:Fs)(N:Dat)(w c:Nat):Prop:=∀k:Int,0<=k/\k<=10000->∀ws,lw w c ws->∃d fr,C 29 [N,.int k,eL ws]=a_ (d,fr)/\ld (2 * w+8) (c+1) d
section
variable{LW:List (List (List Nat))}{w c m:Nat}(h:lL w c m LW)
include h
def J9{L:List (List (List Nat))}(h0:0<L.length)(hl:L.length<=m+1)(hx:∀x∈L,x∈LW\/lw (2 * w+8) (c+1) x):XI w c m (.rt (.lst (L.map eL)) c_):=⟨L,rfl,gY.mp h0,hl,λx hx'=>by
 rcases hx x hx' with q|q
 ·exact(h.x x q).up (by omega) (by simp)
 ·exact q⟩
def JZ(hp:bg C p (full ρ)=a_ (.lst ((LW.take i).map eL),f))(hx:Ev C x (full ρ) (ld (2 * w+8) (c+1)))(hs:bg C s (full ρ)=a_ (.lst ((LW.drop j).map eL),g))(hij:i<=j)(hj:j<=LW.length)(hm:m<=60):Go C (.ret (.bin .add (.bin .add p (.lst [x])) s)::ss) ρ (XI w c m):=by
 have hl:=h.l;obtain⟨_,f',e,_,ws,rfl,l⟩:=hx
 exact Dh (ue (ue hp (OX e) (by simp;omega)) hs (by simp;omega)) (J9 h (by simp;exact dF (bQ _)) (by simp;omega) λy hy=>by
  simp only[aL,aQ]at hy
  rcases hy with(q|q)|q
  ·exact .inl (dY q)
  ·exact .inr (q▸l)
  ·exact .inl (dZ q))
omit h in
def VI(hd:Dw C N)(hk:0<=k/\k<=5000)(hm:m<=60)(hc:11<=c/\c<=49)(h:lL w c m LW)(ha:a<LW.length):Go C (Ya.drop 6) (Z30 N k LW y a b_ b_ b_) (XI w c m):=gm (iL (ds:=od8) rfl) (gm (ρ1:=Z30 N k LW y a b_ b_ (a_ (.lst SV,c_))) rfl (JZ h (pV rfl rfl (bo ha) kF) (Xc rfl (eW hd rfl (eV rfl rfl) rfl (by omega) bG λq h=>by omega) (by simp) (dF hc.1)) (pU rfl rfl (by omega) kF) (aI _) (by omega) hm))
def OK(hd:Dw C N)(hb:Bw C N w c)(hk:0<=k/\k<=5000)(hm:m<=60)(hw:w<=30)(hc:11<=c/\c<=49):Go C Ya ([a_ (N,d_),a_ (.int k,d_),a_ (.lst (LW.map eL),d_)]++be 5 b_) (XI w c m):=by
 have hl:=h.l;have h0:0<LW.length:=gY.mpr h.ne;have hr:∀o,XI w c m o->∃d g,o=.rt d g:=λ_ ⟨_,h,_⟩=>⟨_,_,h⟩
 show Go C (.set 3 (.call 20 _)::.set 4 (.call 20 [_,.bin .add _ _,.blt .len [.v 2]])::.ifs (.cmp .lt (.v 3) (.e_ 2)) [.ret (.bin .add (.bin .add (.sl _ b_ (a_ _)) (.lst [.call 29 [_,.bin .add _ _,.ix _ _]])) (.sl _ (a_ _) b_))] []::.ifs (.cmp .eq (.v 3) (.e_ 2)) [.set 5 (.call 20 [_,.bin .add _ _,.blt .len [.v 2]]),.set 6 _,.mut .seti 6 [.ix _ _,_],.mut .seti 6 [.ix _ _,_],.rO 6] []::.ifs (.cmp .eq (.v 3) (.e_ 3)) [.ret (.bin .add (.bin .add (.sl _ b_ (a_ _)) (.lst [_])) (.sl _ (a_ _) b_))] []::.ifs (.and (.cmp .eq (.v 3) (.e_ 4)) (.cmp .gt (.blt .len [(.v 2)]) (.e_ 1))) [.ret (.bin .add (.sl _ b_ (a_ _)) (.sl _ (a_ _) b_))] []::.set 7 (.lst _)::.mut .app 7 _::[.ret (.bin .add (.bin .add (.sl _ b_ (a_ _)) (.lst [.ix _ (.call 20 _)])) (.sl _ (a_ _) b_))]) _ _;refine jm (ng (P:=(·< 6)) (eW hd rfl rfl rfl (⟨hk.1,(eJ hk.2 bG)⟩) bG λq h=>by omega)) ?_;rintro _ ⟨y,rfl,hy⟩;refine jm (ng (P:=(·< LW.length)) (eW hd rfl (eV rfl rfl) (j:=((LW.map eL).length:Nat)) rfl (⟨(x5 hk.1),(dX hk.2 bG)⟩) (by rw[ag];exact eQ.mpr h0) λq h=>by rw[ag]at h;omega)) ?_;rintro _ ⟨a,rfl,ha⟩
 rcases(by revert y;decide:y=0\/y=1\/y=2\/y=3\/y=4\/y=5)with rfl|rfl|rfl|rfl|rfl|rfl
 iterate 2
  ·refine A6 hr rfl (JZ h (pV rfl rfl (bo ha) kF) ?_ (pU rfl (lQ rfl) (ha) kF) (by simp) (ha) hm);obtain⟨d,f,e,l⟩:=hb (k+3) (by omega) LW[a] (h.x _ (bA ha));exact⟨d,f,by rw[cN,bC,bC,bC,yW (h:=eL) (xs:=LW) rfl rfl ha];exact e,by obtain⟨_,rfl,_⟩:=l;rfl,l⟩
 ·refine fO rfl (A6 hr rfl (jm (ng (P:=(·< LW.length)) (eW hd rfl (eV rfl rfl) (j:=((LW.map eL).length:Nat)) rfl (by omega) (by rw[ag];omega) λq h=>by rw[ag]at h;omega)) ?_));rintro _ ⟨b,rfl,hb⟩;refine gm (iL (show a_ (Dat.lst (LW.map eL),jT (LW.map eL))=_ by rw[kF])) (yR (P:=(·= eL LW[b])) ⟨_,_,yW (h:=eL) (xs:=LW) rfl rfl hb,rfl,rfl⟩ rfl rfl λd hd=>?_);subst hd;refine⟨_,Cy ha (ae hl (ae hm bG)),yR (P:=(·= eL LW[a])) ⟨_,_,yW (h:=eL) (xs:=LW) rfl rfl ha,rfl,rfl⟩ rfl rfl λd hd=>?_⟩;subst hd;refine⟨_,Cy (by rw[iF];exact hb) (by rw[iF];omega),_,rfl,J9 h (by simp;omega) (by simp;exact bF hl) λx hx=>.inl ?_⟩
  rcases ja hx with q|q
  ·rcases ja q with q|q
   ·exact q
   ·exact q▸bA _
  ·exact q▸bA _
 ·exact fO rfl (fO rfl (A6 hr rfl (JZ h (pV rfl (lQ rfl) (ha) kF) ⟨_,_,yW (h:=eL) (xs:=LW) rfl rfl ha,rfl,_,rfl,(h.x _ (bA ha)).up (by omega) (by simp)⟩ (pU rfl (lQ rfl) (ha) kF) (aI _) (ha) hm)))
 ·by_cases q:1<LW.length
  ·refine fO rfl (fO rfl (fO rfl (A6 hr (f:=d_) (by show a_ (Dat.bl (decide (((LW.map eL).length:Int) > 1)),d_)=_;rw[ag,decide_eq_true (by exact jb.mpr q)]) (Dh (ue (pV (xs:=LW) rfl rfl (by omega) kF) (pU (xs:=LW) rfl (lQ rfl) (by exact ha) kF) (by simp;omega)) (J9 h (by simp;omega) (by simp;omega) λx hx=>.inl ?_)))))
   rcases aL.mp hx with q|q
   ·exact dY q
   ·exact dZ q
  ·refine fO rfl (fO rfl (fO rfl (fO (f:=d_) (by show a_ (Dat.bl (decide (((LW.map eL).length:Int) > 1)),d_)=_;rw[ag,decide_eq_false (by omega)]) ?_)));exact VI hd hk hm hc h ha
 ·exact fO rfl (fO rfl (fO rfl (fO rfl (VI hd hk hm hc h ha))))
end
def SR(h:ED fs m0 m1 m2 m3 fg=a_ x):YS x:=by
 unfold ED at h
 cases q1:lB fs with
 |some y=>
   rw[q1]at h;cases h;unfold lB at q1;split at q1
   ·cases q1;exact .inl ⟨.inl rfl,rfl,0,rfl⟩
   split at q1
   ·cases q1;exact .inl ⟨.inl rfl,rfl,24,rfl⟩
   ·obtain⟨j,_,rfl⟩:=er q1;exact .inl ⟨.inl rfl,rfl,j,rfl⟩
 |none=>
   rw[q1]at h
   cases q2:p8 fs with
   |some y=>
     rw[q2]at h;cases h;obtain⟨j,_,rfl⟩:=er q2;exact .inl ⟨.inr (.inl rfl),rfl,j,rfl⟩
   |none=>
     rw[q2]at h
     cases q3:p9 m0 m1 m2 m3 fg with
     |some y=>
       rw[q3]at h;cases h;obtain⟨j,_,rfl⟩:=er q3;exact .inl ⟨.inr (.inr rfl),rfl,j,rfl⟩
     |none=>
       rw[q3]at h;obtain⟨c,_,rfl⟩:=er h;exact .inr (.inr ⟨rfl,rfl,c,rfl⟩)
def rS(cs:List Int)(h:cs.length<=1000):Pl 1 (tI cs):=.tup (λd hd=>by obtain⟨c,_,rfl⟩:=bb.mp hd;exact .int c) (by rw[ag];exact h)
def wO(h:Pl k d):Pl (k+1) d:=by
 induction h with
 |int i=>exact .int i
 |str x=>exact .str x
 |tup h hl ih=>exact .tup ih hl
 |lst h hl ih=>exact .lst ih hl
def Wm(h:wF f):Pl 2 (cU f):=.tup (λd hd=>by
 simp only[aq,aX,or_false]at hd
 rcases hd with rfl|rfl|rfl
 ·exact .str _
 ·exact rS _ (by have:=h.c;exact ae this bG)
 ·exact .str _) (by simp)
def R9(hw:∀f∈fs,wF f)(hl:fs.length<=1000)(hm:∀m∈[m0,m1,m2,m3,fg],m.length<=1000):Pl 4 (qy fs m0 m1 m2 m3 fg):=.tup (λd hd=>by
 simp only[aq,aX,or_false]at hd
 rcases hd with rfl|rfl|rfl
 ·exact .tup (λd hd=>by obtain⟨f,hf,rfl⟩:=bb.mp hd;exact Wm (hw f hf)) (by rw[ag];exact hl)
 ·exact .tup (λd hd=>by
   simp only[aq,aX,or_false]at hd
   rcases hd with rfl|rfl|rfl|rfl
   ·exact wO (rS _ (hm _ (by simp)))
   ·exact wO (rS _ (hm _ (by simp)))
   ·exact wO (rS _ (hm _ (by simp)))
   ·exact wO (rS _ (hm _ (by simp)))) (by simp)
 ·exact wO (wO (rS _ (hm _ (by simp))))) (by simp)
def Ec(g:gL LW):(∀x,oi LW=.inl x->YS x)/\(∀r,oi LW=.inr r->im r=c_)/\Pl 5 (wI (oi LW)):=by
 unfold oi
 cases q:oO 0 LW [] [[],[],[],[],[]] 0 with
 |inl k=>
   refine⟨λx h=>?_,λr h=>(by cases h),?_⟩
   ·cases h;exact .inr (.inl ⟨rfl,rfl,k,rfl⟩)
   ·exact .tup (λd hd=>by
     simp only[aq,aX,or_false]at hd
     rcases hd with rfl|rfl
     ·exact .str _
     ·exact .int _) (by simp)
 |inr q'=>
   obtain⟨fs,ps⟩:=q';have gs:=zS LW 0 [] _ 0 0 _ (λws hw=>(g.g ws hw).1) Zh q;obtain⟨g1,g2,g3,g4,_⟩:=gs;dsimp only at g1 g2 g3 g4 ⊢;have e5:=Ul g3;generalize ps.getD 0 []=p0 at *;generalize ps.getD 1 []=p1 at *;generalize ps.getD 2 []=p2 at *;generalize ps.getD 3 []=p3 at *;generalize ps.getD 4 []=p4 at *;subst e5
   cases q2:ED fs p0 p1 p2 p3 p4 with
   |some x=>
     have hx:=SR q2;refine⟨λy h=>(by cases h;exact hx),λr h=>(by cases h),?_⟩;refine .tup (λd hd=>?_) (by simp);simp only[aq,aX,or_false]at hd
     rcases hd with rfl|rfl
     ·exact .str _
     ·rcases hx with⟨_,_,j,e⟩|⟨_,_,j,e⟩|⟨_,_,j,e⟩
      ·rw[e];exact .int _
      ·rw[e];exact .int _
      ·rw[e];exact .str _
   |none=>
     have hl:=g.l;refine⟨λy h=>(by cases h),λr h=>?_,?_⟩
     ·cases h;show(im (.tup (fs.map cU)) && (im (.tup [tI p0,tI p1,tI p2,tI p3]) && (im (tI p4) && c_)))=c_;rw[show im (.tup (fs.map cU))=c_ from yO fs,show im (tI p4)=c_ from df p4];show(c_ && ((jT (p0.map Dat.int) && (jT (p1.map Dat.int) && (jT (p2.map Dat.int) && (jT (p3.map Dat.int) && c_)))) && (c_ && c_)))=c_;rw[df,df,df,df];rfl
     ·refine .tup (λd hd=>?_) (by simp);simp only[aq,aX,or_false]at hd
      rcases hd with rfl|rfl
      ·exact .str _
      ·exact R9 (λf hf=>(g1 f hf).1) (by omega) λm hm=>by have:=g4 m hm;exact ae this bG
def lL.g(h:lL w c m LW)(hw:w<=60)(hc:c<=100)(hm:m<=100):gL LW:=⟨by have:=h.l;exact ae this hm,λws hws=>by
 have:=h.x ws hws;have hl:=this.l
 exact⟨⟨ae hl (ae hc bG),λx hx=>by have:=this.x x hx;exact⟨ae this.1 hw,this.2⟩⟩,this.ne,ae hl hc⟩⟩
def Jd(g:gL LW):∃d f1 f2,Cn D (n+8) 36 [.lst (LW.map eL)]=a_ (d,f1)/\Cn D (n+8) 35 [.lst (LW.map eL)]=a_ (d,f2)/\Cn D (n+8) 21 [d,d]=a_ (.bl c_,d_):=by
 obtain⟨h1,h2,h3⟩:=Ec g;obtain⟨f1,e1⟩:=zY (n:=n) (IY g) h1 h2;obtain⟨f2,e2⟩:=Ni (n:=n+4) g;exact⟨_,f1,f2,e1,e2,mB (n:=n+2) 5 _ h3⟩
def mo(j:Nat):List (List Nat):=[KW.getD 0 [],[122],[119],[49],[50],iK (j+1)]
noncomputable def pre:List Nat:=[102,111,114,109,32,122,32,119,32,49,32,50,32]
def ZU:aa "form z w 1 2 "=T pre:=by decide +kernel
def moB:((aP 24).all λj=>decide (inter 32 (mo j)=pre++iK (j+1)) && (mo j).all λx=>decide (x.length<=7) && decide (32∉x))=c_:=by kernel_rfl
def Qp(h:j<24):eL (mo j)=sT (pre++iK (j+1))/\lw 7 12 (mo j):=by
 have:=aC.mp moB j (aR.mpr h);rw[af]at this;refine⟨congrArg sT (of_decide_eq_true this.1),by simp[mo],by simp[mo],λx hx=>?_⟩;have:=aC.mp this.2 x hx;simp only[af,decide_eq_true_eq]at this;exact this
abbrev moL:List (List (List Nat)):=(aP 24).map mo
def O4:bg (Cn D (n+1)) (.comp 1 c_ [] (.rng [(.e_ 24)]) [] (.bin .add (.f_ "form z w 1 2 ") (.call 27 [(.bin .add (.e_ 1) (.v 0))]))) ρ=a_ (.lst (moL.map eL),c_):=by
 rw[br];refine comp_map (aP 24) (λj:Nat=>Dat.int (j:Nat)) (λj=>eL (mo j)) rfl (by simp) (λj hj=>⟨d_,?_⟩) λ_ _=>rfl;have hj:=aR.mp hj;have hc:=rM (n:=n) (c:=j+1) (aN hj bG) (by simp)
 have hcl:bg (Cn D (n+1)) (.call 27 [(.bin .add (.e_ 1) (.v 0))]) ((fS 1 [] ρ).set 0 (a_ (.int (j:Nat))))=a_ (sT (iK (j+1)),d_):=by
  rw[cN];show Cn D (n+1) 27 [.int (1+(j:Nat))]=_;rw[show(1:Int)+(j:Nat)=((j+1:Nat):Int) by omega];exact hc
 rw[kG,iX,hcl,ZU]
 have hlen:(iK (j+1)).length<=6:=by
  have:=aC.mp Xo (j+1) (aR.mpr (by omega));simp only[af,decide_eq_true_eq]at this;exact this.1
 show g9 .add (.str (T pre)) (.str (T (iK (j+1))))=_;rw[Lz (by simp[pre];exact ae (eK hlen _) bG),(Qp hj).1]
def lL.more(h:lL w c m LW)(hw:7<=w)(hc:12<=c):lL w c (m+24) (moL++LW):=⟨by simp[h.ne],by have:=h.l;simp;omega,λx hx=>by
 rcases aL.mp hx with q|q
 ·obtain⟨j,hj,rfl⟩:=bb.mp q;exact(Qp (aR.mp hj)).2.up hw hc
 ·exact h.x x q⟩
def Wl(L:List (List (List Nat)))(h:L.length<=1000):Pl 1 (.lst (L.map eL)):=.lst (λd hd=>by obtain⟨w,_,rfl⟩:=bb.mp hd;exact .str _) (by rw[ag];exact h)
def W9(x1:bg C y1 (full [a_ (N,d_),a_ (L,c_),a_ (L,c_)])=a_ (.bl c_,d_))(x2:bg C y2 (full [a_ (N,d_),a_ (L,c_),a_ (L,c_)])=a_ (.bl c_,d_))(x3:bg C y3 (full [a_ (N,d_),a_ (L,c_),a_ (L,c_)])=a_ (.bl c_,d_)):bH C [(.ifs (.or (.not y1) (.not y2)) [(.ret (.con (.bl d_)))] []),(.ret (.and y3 y1))] [a_ (N,d_),a_ (L,c_),a_ (L,c_)]=a_ (.rt (.bl c_) d_):=by
 rw[bK (ρ1:=[a_ (N,d_),a_ (L,c_),a_ (L,c_)]) (by
  rw[gh (d:=.bl d_) (fr:=d_) (by rw[QB,Dm,x1,Dm,x2];rfl) rfl];rfl)]
 exact ji (mZ (by rw[K0,x3,x1];rfl))
theorem un{α:Type}{g:α->Dat}{P:α->Prop}:∀X:List Dat,(∀d∈X,∃y,d=g y/\P y)->∃ys:List α,X=ys.map g/\∀y∈ys,P y
 |[],_=>⟨[],rfl,λ_ h=>nomatch h⟩
 |d::X,h=>by
   obtain⟨ys,rfl,h2⟩:=un X λd hd=>h d (jd _ hd);obtain⟨y,rfl,h1⟩:=h d iw;exact⟨y::ys,rfl,List.forall_mem_cons.mpr ⟨h1,h2⟩⟩
def Je{ns:List Int}(h:lL w c m LW)(hk:0<=k/\k<=5000)(hm:m<=60)(hw:w<=30)(hc:11<=c/\c<=49):∃L,Cn D (n+3) 30 [.lst (ns.map Dat.int),.int k,.lst (LW.map eL)]=a_ (.lst (L.map eL),c_)/\lL (2 * w+8) (c+1) (m+1) L:=by
 obtain⟨_,e,L,rfl,hL⟩:=OK (C:=Cn D (n+2)) (N:=.lst (ns.map Dat.int)) (k:=k) h (dw (n:=n+1)) (λk hk ws h=>by
  obtain⟨_,e,d,fr,rfl,hd⟩:=W7 (C:=Cn D (n+1)) (N:=.lst (ns.map Dat.int)) (k:=k) h hw (bF hc.2) (dw (n:=n)) hk
  exact⟨d,fr,cn (d:=d29) rfl (dz (np:=3) (nl:=7) (body:=ZE) rfl e),hd⟩) hk hm hw hc
 exact⟨L,cn (d:=d30) rfl (dz (np:=3) (nl:=8) (body:=Ya) rfl e),hL⟩
def J37(N:Dat)(w c m:Nat)(ρ:cX):Prop:=∃L,ρ=[a_ (N,d_),a_ (.lst (L.map eL),c_),b_]/\lL w c m L
def Nh{ns:List Int}:∃fr,Cn D (n+9) 37 [.lst (ns.map Dat.int)]=a_ (.bl c_,fr):=by
 suffices Go (Cn D (n+8)) ZA [a_ (.lst (ns.map Dat.int),d_),b_,b_] λo=>∃fr,o=.rt (.bl c_) fr by
  obtain⟨_,e,fr,rfl⟩:=this;exact⟨fr,cn (d:=d37) rfl (dz (C:=Cn D (n+8)) (np:=1) (nl:=3) (body:=ZA) rfl e)⟩
 have hd:Dw (Cn D (n+8)) (.lst (ns.map Dat.int)):=dw (n:=n+7);obtain⟨A,m0,m1,m2,m3,g,f0,ht,hne,hl,hA,c0,c1,c2,c3,c4⟩:=Nd (n:=n+4) (ns:=ns);replace ht:Cn D (n+8) 26 [.lst (ns.map Dat.int),.int 0]=_:=ht;obtain⟨_,hli,X,rfl,x1,x2,x3⟩:=Ku (C:=Cn D (n+7)) (λc h=>Nj (n:=n+6) h) hne hl hA c0 c1 c2 c3 c4;replace hli:Cn D (n+8) 28 [.tup [.tup A,.tup [m0,m1,m2,m3],g]]=a_ (.lst X,c_):=cn (d:=d28) rfl (dz (np:=1) (nl:=8) (body:=ZF) rfl hli);obtain⟨L0,rfl,y1⟩:=un X x3;rw[ag]at x2;have hB:∀(k:Int){w c m:Nat}{L:List (List (List Nat))},lL w c m L->0<=k/\k<=5000->m<=60->w<=30->11<=c/\c<=49->∃L',Cn D (n+8) 30 [.lst (ns.map Dat.int),.int k,.lst (L.map eL)]=a_ (.lst (L'.map eL),c_)/\lL (2 * w+8) (c+1) (m+1) L':=λk w c m L h=>Je (n:=n+5) h
 have hF:∀L,lL 52 14 41 L->∃d u1 u2,Cn D (n+8) 36 [.lst (L.map eL)]=a_ (d,u1)/\Cn D (n+8) 35 [.lst (L.map eL)]=a_ (d,u2)/\Cn D (n+8) 21 [d,d]=a_ (.bl c_,d_)/\Cn D (n+8) 21 [.lst (L.map eL),.lst (L.map eL)]=a_ (.bl c_,d_):=λL h=>by
  have g:=h.g (by simp) (by simp) (by simp);obtain⟨d,u1,u2,a,b,c⟩:=Jd (n:=n) g;exact⟨d,u1,u2,a,b,c,mB (n:=n+6) 1 _ (Wl L (by have:=g.l;exact ae this bG))⟩
 have g0:gL []:=⟨by simp,λws h=>by simp at h⟩
 obtain⟨q1,q2,_⟩:=Ec g0;obtain⟨v1,k36⟩:=zY (n:=n) (IY g0) q1 q2;replace k36:Cn D (n+8) 36 [.lst []]=a_ (.tup [.str "form",.int 0],v1):=k36
 have k21:Cn D (n+8) 21 [.tup [.str "form",.int 0],.tup [.str "form",.int 0]]=a_ (.bl c_,d_):=mB (n:=n+6) 1 _ (.tup (λd hd=>by
  simp only[aq,aX,or_false]at hd
  rcases hd with rfl|rfl
  ·exact .str _
  ·exact .int _) (by simp))
 have hmo:=λρ=>O4 (n:=n+7) (ρ:=ρ);generalize Dat.lst (ns.map Dat.int)=N at hd ht hB ⊢;replace hmo:∀ρ,bg (Cn D (n+8)) _ ρ=_:=hmo;generalize Cn D (n+8)=C at hd ht hli hB hF k36 k21 hmo ⊢;obtain⟨L1,hb1,hL1⟩:=hB 200 (L:=L0) (w:=7) (c:=12) (m:=15) ⟨λz=>x1 (by rw[z];rfl),x2,y1⟩ bG (by simp) (by simp) bG;show Go C (.set 1 (.call 30 [_,_,.call 28 [.call 26 _]])::.ifs (.cmp .eq (.call 20 _) _) [.set 1 (.bin .add _ _)] []::.ifs (.cmp .eq (.call 20 _) _) [.set 1 (.call 30 _)] []::.set 2 (.blt .list [.v 1])::_) _ _;have e26:bg C (.call 26 [(.v 0),(.e_ 0)]) (full [a_ (N,d_),b_,b_])=a_ (.tup [.tup A,.tup [m0,m1,m2,m3],g],f0):=by rw[cN];exact ht
 have e28:bg C (.call 28 [(.call 26 [(.v 0),(.e_ 0)])]) (full [a_ (N,d_),b_,b_])=a_ (.lst (L0.map eL),c_):=by rw[cN,bC,e26];exact hli
 refine gm (iL (by rw[cN,bC,bC,bC,e28];exact hb1)) ?_;refine vk (J:=J37 N 22 13 40) (yX (eW hd rfl rfl rfl bG bG λ_ _=>trivial)) (gm (iL (ue (hmo _) rfl (by have:=hL1.l;simp;exact ae (eK this _) bG))) ⟨_,rfl,_,rfl,_,rfl,hL1.more (by simp) (by simp)⟩) ⟨_,rfl,hL1.ne,by have:=hL1.l;exact ae this bG,hL1.x⟩ ?_;rintro _ ⟨L2,rfl,hL2⟩
 refine vk (J:=J37 N 52 14 41) (yX (eW hd rfl rfl rfl bG bG λ_ _=>trivial)) (by
  obtain⟨L3,hb3,hL3⟩:=hB 220 hL2 bG (by simp) (by simp) bG
  exact gm (iL (by rw[cN];exact hb3)) ⟨_,rfl,_,rfl,_,rfl,hL3⟩) ⟨_,rfl,hL2.ne,by have:=hL2.l;exact bF this,λx hx=>(hL2.x x hx).up (by simp) (by simp)⟩ ?_
 rintro _ ⟨L3,rfl,hL3⟩;obtain⟨d,u1,u2,h36,h35,h21,hal⟩:=hF L3 hL3;refine gm (iL (show a_ (Dat.lst (L3.map eL),jT (L3.map eL))=_ by rw[kF])) ?_;generalize Dat.lst (L3.map eL)=L at h36 h35 hal ⊢
 have x1:bg C (.call 21 [(.call 36 [(.v 2)]),(.call 35 [(.v 1)])]) (full [a_ (N,d_),a_ (L,c_),a_ (L,c_)])=a_ (.bl c_,d_):=by
  rw[cN,bC,cN,bC,jJ];show((C 36 [L]).bind λx=>(iB C [(.call 35 [(.v 1)])] _).map λr=>x.1::r).bind (λds=>C 21 ds)=_;rw[h36,au,bC,cN];show(((C 35 [L]).bind λx=>(a_ []).map λr=>x.1::r).map λr=>d::r).bind (λds=>C 21 ds)=_;rw[h35];exact h21
 have x2:bg C (.call 21 [(.v 2),(.v 1)]) (full [a_ (N,d_),a_ (L,c_),a_ (L,c_)])=a_ (.bl c_,d_):=by rw[cN];exact hal
 have x3:bg C (.call 21 [(.call 36 [(.lst [])]),(.tup [(.con (.str (aa "form"))),(.e_ 0)])]) (full [a_ (N,d_),a_ (L,c_),a_ (L,c_)])=a_ (.bl c_,d_):=by
  rw[cN,bC,cN];show((C 36 [.lst []]).bind λx=>(iB C [(.tup [(.con (.str (aa "form"))),(.e_ 0)])] _).map λr=>x.1::r).bind (λds=>C 21 ds)=_;rw[k36];exact k21
 exact⟨_,W9 x1 x2 x3,_,rfl⟩
def math(ns:List Int)(_:ns.length<=63):∃fr,Cn D 12 37 [.lst (ns.map Dat.int)]=a_ (.bl c_,fr):=Nh (n:=3)
end K07
open PySem PySem.W PyProof.Rows
namespace PySem.W.Fast
def tw9393543986238259649:=0
def tw17896760198452578238:=0
def tw10592823020713217973:=0
def tw5120171934596859472:=0
def tw11862416597098208835:=0
def tw9901964315758219761:=0
def tw4263984402371195557:=0
def tw9646061475655184267:=0
def tw12145296676627032217:=0
def tw13066939144205405138:=0
def tw2559591795625268139:=0
def tw6634415439512831782:=0
def tw234048522728517240:=0
def tw37944471008055617:=0
def tw6201988712439129815:=0
def tw9375459549016304952:=0
def tw7743777569364880791:=0
def tw3626176270079779298:=0
def tw15944455683241741919:=0
def tw8175159734872915158:=0
def tw15532466728961259665:=0
def tw1894422143885295774:=0
def tw14937098472620418122:=0
def tw16381439357646980370:=0
def tw15752329510289465467:=0
def tw3541337567842370275:=0
def tw8789391831921863774:=0
def tw17554636032500194133:=0
def tw230348514951557728:=0
def tw567712638189375568:=0
def tw6303317708786635525:=0
def tw8362973219858333978:=0
def tw14048645756218511701:=0
def tw1472422490978211777:=0
def tw10093223032871537151:=0
def tw3529530126607772807:=0
def tw6961295338727608536:=0
def tw3828125558533083278:=0
def tw2547912071132366820:=0
def tw757260357975627088:=0
def tw3644086599783586122:=0
def tw13285595984432657038:=0
def tw1534270337330766666:=0
def tw1229970843539459897:=0
def tw10870410205487240147:=0
def tw5747806921372076857:=0
def tw10490761113975506785:=0
def tw18266159733934974445:=0
def tw1889782073202113919:=0
def tw12936474721286324833:=0
def tw5614064451624615930:=0
def tw16809694728695372771:=0
def tw15799201998079593528:=0
def tw5294561862035428716:=0
def tw11737201990195836462:=0
def tw1918885178439446877:=0
def tw7501600609376413621:=0
def tw18012318301313770708:=0
def tw288171686987995879:=0
def tw5786613733317680590:=0
def tw2209856864728189259:=0
def tw17486426952765434214:=0
def tw14440183249689409425:=0
def tw17295678770996281957:=0
def tw12132771006894818214:=0
def tw6947278959573676435:=0
def tw3522274054981181266:=0
def tw103598381208558293:=0
def tw17850060218846289022:=0
def tw5498550299457519562:=0
def tw8249807531392418983:=0
def tw16226847471788158010:=0
def tw17483018573390506396:=0
def tw9525097758550686494:=0
def tw9448586384343835894:=0
def tw7318456535378539615:=0
def tw13574747835139382426:=0
def tw8086080356209540878:=0
def tw15412554000420714942:=0
def tw16146573883173937938:=0
def tw16778985049867481756:=0
def tw17200971350490756767:=0
def tw4547424702347636144:=0
def tw10937800681478718783:=0
def tw4750797529763938128:=0
def tw12545014085020626086:=0
def tw17930037353372270053:=0
def tw3048545631523395499:=0
def tw985004975436138474:=0
def tw6845582244648003627:=0
def tw12559678914484406099:=0
def tw7416921286941981040:=0
def tw4216960255890202052:=0
def tw5204053552345773067:=0
def tw13609772292036213913:=0
def tw5832085232799232166:=0
def tw1301827736715520483:=0
def tw10220478629777714436:=0
def tw2610614138632941819:=0
def tw15373907151332493489:=0
def tw11351804180164057299:=0
def tw16161157750481393525:=0
def tw147865612261390637:=0
def tw11087363015766756275:=0
def tw12452538608531688681:=0
def tw3721340907510172474:=0
def tw13171892552340734722:=0
def tw14834422946513835164:=0
def tw15145888789942325473:=0
def tw17172098206728873468:=0
def tw12196018614086818675:=0
def tw3882751488980872624:=0
def tw12070870963022078502:=0
def tw7639429786454760810:=0
def tw6335938079578506474:=0
def tw13876782031663764984:=0
def tw16287393590469251213:=0
def tw17931550924619399780:=0
def tw9040975733183779914:=0
def tw11360073970559618896:=0
def tw15792846319082027866:=0
def tw6978112861452880826:=0
def tw11435893545396006591:=0
def tw14966720876432140954:=0
def tw6038827311922959602:=0
def tw5497196619533843796:=0
def tw395623456336514716:=0
def tw4626701731608839257:=0
def tw5613225612117223050:=0
def tw497080809341935923:=0
def tw11452241330015114924:=0
def tw8435988424921301100:=0
def tw7899381946194023317:=0
def tw16478766153360852752:=0
def tw14493874589099251158:=0
def tw4200096234887850207:=0
def tw9732950220152789834:=0
def tw18434489690392652019:=0
def tw11311845946318923996:=0
def tw6223122548885571327:=0
def tw13536666689081002282:=0
def tw1952819935199675416:=0
def tw16318217978763772870:=0
def tw11489714175503964521:=0
def tw18001695989671277138:=0
def tw12252075445537909502:=0
def tw1172561015426074043:=0
def tw6706747500180152190:=0
def tw7822921121356908985:=0
def tw9546286225420780191:=0
def tw9864955673769004050:=0
def tw1769218245301257430:=0
def tw9139101169921431501:=0
def tw4272103444870678405:=0
def tw11859620697832228001:=0
def tw2957456933732243057:=0
def tw11371102856664684544:=0
def tw12012446886008835740:=0
def tw14317987047626032584:=0
def tw708989267708736964:=0
def tw17444652788120057071:=0
def tw7125779766777489370:=0
def tw2903408350692953310:=0
def tw13249768266579872928:=0
def tw6783596799655425926:=0
def tw7124388306725523594:=0
def tw2287710663979591135:=0
def tw14915782118018799935:=0
def tw3364316280753234003:=0
def tw10846621561808841435:=0
def tw5481922156713281213:=0
def tw17378883486122850541:=0
def tw10396665876208124795:=0
def tw10716449303958292648:=0
def tw8854252042351383019:=0
def tw10872865963738951901:=0
def tw2959305897538964300:=0
def tw6490330338226160812:=0
def tw10865076049070880447:=0
def tw12850369545109841153:=0
def tw1176466372438956109:=0
def tw10072026621838115537:=0
def tw7763929926112529100:=0
def tw381336526674812669:=0
def tw5875329861522425193:=0
def tw5043380993541912793:=0
def tw3717891924345188715:=0
def tw13498219984247832778:=0
def tw6131782179315276365:=0
def tw9620001554289701855:=0
def tw6332995981534196609:=0
def tw4217969113423536390:=0
def tw17690685675398380163:=0
def tw1248753808101490523:=0
def tw9655549182199656427:=0
def tw7341544311704887866:=0
def tw9967126582320187259:=0
def tw5740305332027409310:=0
def tw7310080013217066469:=0
def tw10914751892682608433:=0
def tw840536640755908274:=0
def tw6431105277840006699:=0
def tw4218758176420234882:=0
def tw11160277276744752791:=0
def tw13768324936120619021:=0
def tw13666568832402936804:=0
def tw1909943894799427554:=0
def tw4098237959590135414:=0
def tw6936370889632388124:=0
def tw8426147730252314671:=0
def tw4645003886455396817:=0
def tw2124294013582152702:=0
def tw8344400493818506399:=0
def tw8694544635668587557:=0
def tw6251145990771053111:=0
def tw5969176738743368359:=0
def tw12251634792089439294:=0
def tw8108330482204418702:=0
def tw3962663187628194635:=0
def tw456820313532968622:=0
def tw1592123864529395562:=0
def tw15533265602636394881:=0
def tw7030339786591743778:=0
def tw7334082951339077266:=0
def tw17887749702638868798:=0
def tw5850823979440870721:=0
def tw6146691664777018654:=0
def tw14864821051755270603:=0
def tw17103106062297681088:=0
def tw13196508983381147010:=0
def tw7990216459206597152:=0
def tw10083106372655926458:=0
def tw16667244837418529709:=0
def tw13502133896957714907:=0
def tw18284691909485741596:=0
def tw18444767663228306844:=0
def tw160825454187804666:=0
def tw757840787464021146:=0
def tw16241423053152475092:=0
def tw7816642700316007891:=0
def tw11516086064156068098:=0
def tw179884818054385404:=0
def tw2029338593604700625:=0
def tw5747377995575867722:=0
def tw11948517167656630848:=0
def tw5522826682983709160:=0
def tw3987670821572641971:=0
def tw11751783727278683998:=0
def tw9131138253954318984:=0
def tw14895716116099172427:=0
end PySem.W.Fast
set_option maxRecDepth 100000 in
set_option maxHeartbeats 0 in
theorem PySem.Challenge.cw_dots_k07_lines_refused_holds : PySem.Challenge.rw_dots_k07_lines_refused.Holds := by
 w_on;o_law;k_head;(case hw=>w_witness2)
 k_fill
 refine M.walk (l:=lH) (n:=14) (x:="_law_script") rfl ⟨rfl,bG,bG⟩ rfl (λw h Y=>PySem.W.kIn_of Y) ?F
 case F=>
  intro w mg fa h KX G hmg
  have Z:∀x∈M.lC,mg x=b_:=by
   refine M.Pz KX G ?_
   kernel_rfl
  have T1:=M.U3 (D:=K07.D) KX G (by kernel_rfl) (by kernel_rfl) (λ_ _ _ _ _ _ _=>by kernel_rfl);have T2:=M.Fc (con:=K07.con) KX G (by kernel_rfl);have T3:=M.OS (L:=K07.xg.exc) (B:=lI.main.body) KX G (by kernel_rfl) (by kernel_rfl) (by kernel_rfl) (λ_ _ _=>by kernel_rfl);have T4:=M.Pb (L:=K07.xg.cls) KX G (by kernel_rfl);have T5:=M.Mx (L:=K07.xg.tcl) KX G (by kernel_rfl);have T6:=M.PH (K:=L2.KOf KX) (L:=K07.xg.Bx) (by kernel_rfl);have T7:=M.OJ (L:=K07.xg.hnd) KX G (by kernel_rfl);have T:M.Here (L2.KOf KX) mg K07.D K07.con K07.xg:=⟨K07.WB,T1,Z,T2,T3,T4,T5,T6,T7,trivial,bG⟩
  exact M.Tp (l:=lH) T (j:=37) rfl rfl hmg K07.math
