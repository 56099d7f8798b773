import PyProof.Rows.All
import Wide.All
import OpenK.AllK
import Wide.FinOn
import Lean
import PyProof.EqAt
import PyProof.EqKinds
import PyProof.TupleCall
import PySem.Challenge.RW_dots_k04_tables_made
set_option tactic.hygienic false
open Option renaming some->a_,none->b_
open Bool renaming true->c_,false->d_
noncomputable section
set_option bootstrap.genMatcherCode false
open And renaming intro->Kf
open Array renaming getElem?_eq_getElem->bq,length_toList->bA,getElem?_eq_some_iff->cZ,getElem?_eq_none->gC,getD_eq_getD_getElem?->kB,forIn_toList->kW,getElem?_toList->m6,append_assoc->D2,toList_push->FE,size_append->FF,size_push->JV
open Bool renaming and_eq_true->aq,false_eq_true->aT,and_true->bO,or_true->bY,and_eq_true_iff->cq,false_ne_true->df,eq_iff_iff->dD,true_or->dR,not_eq_true'->fG,not_true->fL,and_false->jk,false_and->lj,or_eq_true->m4,false_or->pK,and_self->pL,not_false->vi,true_and->yh,eq_false_iff->Gb,and_assoc->N8
open Classical renaming propDecidable->ly
open False renaming elim->bF
open ForInStep renaming yield->iB
open Int renaming toNat_natCast->eN,eq_ofNat_of_zero_le->fX,emod_lt_of_pos->i7,emod_nonneg->kA,le_antisymm->uH,fdiv_eq_ediv_of_nonneg->wu
open List renaming mem_cons->ah,length_map->ak,getElem?_eq_getElem->au,map_cons->aw,mem_append_right->ax,mem_map->aG,size_toArray->aH,mem_append->aK,mem_append_left->aL,length_cons->aQ,range->aR,not_mem_nil->aS,getElem?_map->aW,set_cons_zero->aX,mem_singleton->aZ,getElem?_cons_zero->a8,getElem?_eq_some_iff->a9,getElem?_cons_succ->be,all_eq_true->bg,map_map->br,replicate->bI,nodup_cons->bM,append_nil->bN,set_cons_succ->bP,mem_range->bW,getD_eq_getElem?_getD->bX,nil_append->ck,getElem_mem->cm,length_append->cw,length_nil->cB,lookup_cons->cC,getElem?_set_ne->cH,getElem?_append_left->cK,cons_append->cP,getElem?_append_right->de,nodup_append->dq,find?_cons->dC,replicate_one->dG,map_nil->dQ,drop_succ_cons->dU,isEmpty_iff->ej,any_cons->et,mem_of_getElem?->eB,drop_zero->eC,length_range->eJ,getElem?_replicate->eK,all_cons->eQ,findIdx?_cons->fe,map_inj_left->fF,pairwise_cons->gJ,map_append->gY,perm_ext_iff_of_nodup->ib,mem_iff_getElem->ic,length_take->iw,any_eq_true->iA,drop_eq_getElem_cons->iF,getElem_of_mem->iL,mem_filter->iW,nodup_nil->ji,getElem?_set_self->jj,length_replicate->jG,getElem?_eq_none->jH,mem_of_mem_take->j6,mem_of_mem_drop->j7,length->lH,getElem?_set->lJ,append_assoc->lK,length_eq_zero_iff->mG,range_succ_eq_map->mS,forIn_cons->mZ,take_append_drop->nO,getElem_toArray->oB,toList_toArray->pv,replicate_succ->pw,map_congr_left->pz,getD_cons_zero->pA,filter_sublist->pB,filterMap_cons->pC,mem_filterMap->qk,findIdx?_eq_some_iff_getElem->qu,pairwise_map->rm,length_drop->rV,getElem_map->rW,ext_getElem->rX,eq_nil_of_length_eq_zero->sH,of_mem_zip->uo,length_eraseIdx_of_lt->vg,findIdx?_eq_none_iff->wt,map_take->x9,eraseIdx_cons_succ->yw,all_eq_not_any_not->yx,take_of_length_le->Aw,pairwise_lt_range->Ax,getElem_cons_succ->Ay,length_singleton->AM,replicate_zero->D1,length_modify->FA,getElem_range->FC,contains_cons->FD,take_sublist->F7,getElem_drop->F8,flatten_cons->F9,ext_getElem?->Ga,zipIdx_cons->JS,mem_flatten->JT,drop_length->JU,zipIdx_nil->Ke,forIn_nil->N6,find?_map->N7
open List.Nodup renaming sublist->yg
open List.Pairwise renaming imp_of_mem->qv,nil->vh
open List.Perm renaming eq_of_pairwise->kU
open List.cons renaming inj->nP,injEq->Cc
open Nat renaming le_refl->aM,lt_of_lt_of_le->aY,ne_of_lt->ba,lt_irrefl->bC,reduceLeDiff->cR,le_trans->cW,reduceAdd->dP,zero_le->fK,lt_succ_self->iE,zero_add->jm,ne_of_gt->jo,lt_trans->jq,lt_succ_of_lt->jr,le_succ->kb,le_of_lt->mY,add_assoc->qj,le_of_eq->AL,add_sub_cancel->F6,lt_of_succ_lt->JR,le_add_right->Kd,not_lt_zero->N5
open Ne renaming symm->eW
open Option renaming bind_some->ao,map_some->aC,join_some->bK,getD_some->dF,map->mF,bind->nN,isSome_map->qh,isNone_iff_eq_none->uG,bind_eq_some_iff->wq,getD_none->Fy
open Option.some renaming inj->aP,injEq->iO
open Prod renaming ext->Cb
open Prod.mk renaming inj->mX,injEq->uF
open PyProof.Rows renaming slot_tuple_getitem->cQ,callWith_type1->eA,IntsAre->jY,AllBare->jZ,callWith_builtin1->oA,StrsAre->oS,subscriptTail_builtinR->FX,IsTup->Kc
open PyProof.Rows.F renaming plain_set_update_loop->gX,entry_set_update_loop->l6
open PyProof.Rows.IntsAre renaming int_at->Fx,length->FZ
open PyProof.Rows.IsTup renaming new->FY
open PySem renaming Value->aa,Shared->ae,Addr->af,wpAny->aA,sizeLine->aD,model->aE,Expr->aF,starEach->aI,Str->aN,Program->aO,World->bh,Around->bp,Heap->bx,wpAny_mono->bJ,sizeLine_eq->bT,wpAny_setField_rec->cg,wpAny_call_entry->cu,FuncData->cx,wpAny_holding->cz,wpAny_newObj_type->cN,wpAny_field->cO,SetTable->cV,wpAny_truthy_bool->cY,wpAny_callSpecial?_slot->dh,cLine->di,wpAny_seqItems->dn,Pos->dZ,Obj->er,Builtin->fh,Scope->fk,Stmt->fw,wpAny_Call_Name_kw->fD,mem_of_lookup->fS,codeAny_mono->fT,codeAny_call_builtin->fU,wpAny_isInstance->gP,IsPair->gQ,wpAny_setState_of->iu,Paired->iZ,NameKind->jf,codeAny_builtin->jg,wpAny_rule->jl,wpAny_getItem_str_slice->jy,wpAny_typeOf->jS,wpAny_pyIter_list->jT,wpAny_loadPart_at->jU,wpAny_forIn_list->ko,wpAny_standAt->kT,wpAny_specialOf->lp,wpAny_passesOwn->lq,wpAny_execs_nil->lr,KeyKind->lF,wpAny_setField->l8,wpAny_pyIter_tuple->me,tupleKind_room_in1->mf,call_meets->mh,Env->mK,IsZip->mR,wpAny_attempt->mT,ExceptHandler->mV,scanBound->oi,GenState->om,wpAny_updateSeq->pg,wpAny_loadPart'->ph,post_val_or_str->pj,CmpOp->pq,wpAny_updateSeq_pair->ql,wpAny_loadPart->qm,isSubtype_type->qo,intItems_at->qp,IsPart->qr,Keyword->rk,wpAny_onRaise->rT,wpAny_tupleItemsOf->sy,wpAny_call->sA,numAt_eq->uu,concat_meets->uv,Operator->uy,wpAny_execs_cons->wd,wpAny_askSetting->we,noFill_tuple_add->wg,Model->xZ,BindsTo->Av,MulOk->AI,wpAny_in_heap->DS,wpAny_comprehension_free->DT,seq_tuple_add->DU,plainId_quiet->DV,call->DW,PassesOwn->Fw,seqIndex_neg->FL,pyIter->FN,ExcBaseFacts->FW,isSubtype_tuple_tuple->JM,builtinLookup_eq_fast->JN,wpAny_of_eq->J4,wpAny_letGo->J7,seqIndex_of->J8,Drawn->Ka,wpAny_setEntries_of->NZ,wpAny_isSubtype_exc->N0,ElemsOf->N4
open PySem.Around renaming under_plainId->jR,under->x8
open PySem.AutoSeq1 renaming sub_tuple_tuple->um,sub_tuple_list->uD,sub_list_tuple->uE,sub_list_list->vf,idx_int->B9
open PySem.Builtin renaming bitAnd->sG,bitOr->JQ
open PySem.Builtin.Frozenset renaming updateFrom->mW,isAnySet->oo,sizeOf->oR,newClass->Kb
open PySem.Builtin.List renaming listTooLong->eZ,listFitsIndex->jQ,listLengthHint->pI,listExtendWith->pJ,listSameRef->rl
open PySem.Builtin.Slice renaming slicePlaces->gW,sliceAdjust->jX,sliceApplied->pH
open PySem.Builtin.SmallTypes renaming nextOf->dk,ownedTupleIsFree->gu,ownedTupleHandOut->qg
open PySem.Builtin.Str renaming occurrences->dv
open PySem.Builtin.Tuple renaming tupleHashOf->dI,tupleExact->hV,tupleItemsOf->jF,tupleIsExact->pG
open PySem.Calls renaming spliced_nil->lE,Name_function_global->uC,call_function_entry->ve,callWith_builtin->yv,evalArgs_plain->AK,spliced_cons->D0
open PySem.Challenge renaming rw_dots_k04_tables_made->lg,pw_dots_k04_tables_made->lh
open PySem.Code renaming quiet_builtin->la,isFrame->Au
open PySem.EntryCells renaming newEntry->wo
open PySem.Env renaming kindOf->qt
open PySem.F renaming plainAttrs_list->eu,slot_tuple_iterator_next->fA,slot_tuple_hash->fP,slot_zip_next->jh,slot_list_extend->lu,args_tuple_add_2->lx,entry_tuple_add->lG,slot_tuple_add->mj,slot_tuple_eq->mJ,args_tuple_iterator_next_1->oQ,entry_tuple_iterator_next->pk,sub_list_frozenset->sC,excBase_ValueError->sD,excAttr_ValueError->sE,slot_list_insert->uA,slot_list_append->uB,slot_list_index->u7,slot_list_count->u9,slot_list_clear->va,plain_list_iadd->vb,args_zip_next_1->vd,entry_zip_next->wk,entry_set_init->wm,slot_set_iter->x5,entry_bexc_ga->x6,sub_list_set->yt,args_bexc_ga->yu,called_set->AJ,args_list_extend_2->FV,entry_list_extend->JP
open PySem.Heap renaming get?_push_size->aJ,get?_update_other->dm,get?_update_self->du,size_push->dz,SameBut->dB,get?_none_of_le->oz,get?_update_ne->DZ
open PySem.Heap.SameBut renaming update->mE
open PySem.NameKind renaming free->dH,cell->kZ
open PySem.Obj renaming mapSeq->fO,data_mapFields->i6,mapFields->j5,isFreed_of_fields->oj,cls_mapFields->JO
open PySem.Paired renaming length->oP
open PySem.ScopeKind renaming function->ka
open PySem.SeqAt renaming EqAt->ux,RcNeAt->yr,RcAt->DY
open PySem.SetTable renaming below->bc,grown->kj,has->u6,Probe->Fv,slot->FT,laid->FU
open PySem.SetTable.below renaming go->jW
open PySem.SetTable.probe renaming go->mQ
open PySem.Shared renaming TypeIs->uZ,heap->As
open PySem.Str renaming ofString->ag,length->FR
open PySem.StrLaws renaming found_one->B8
open PySem.Txt renaming slice->jE,join->rN,find->rO
open PySem.Value renaming ref->bR,none->cJ,bool->iV,type->jD,str->FP,int->FQ,isStrOf->N3
open PySem.Value.type renaming inj->mD
open PySem.W renaming Frag->aB,keepIn->cX,nsIn->dM,kia_one->eG,exmOne->fN,Looks->gH,OpenLaw->iK,mg_of->jA,looks_findIn->jV,hideAll_get->j4,kitOne->kr,findIn->ku,fnOf->mi,hideAll->mC,codeIn->mU,methodObj->pE,isFn->pF,WalkO->uw,cellsFrom_some->wj,looks_mroIn->xY,hideAll_none->yq,of_hideAll->AF,mg_none_of->AG,callWith_K->AH,kitx_dict->B7,kitAny->FO,looks_clsIn->J9
open PySem.W.KF renaming type_class->Ar
open PySem.W.Looks renaming ld->kz
open PySem.Walks renaming list->DX
open PySem.pickOrder renaming go->ur
open Sum renaming inr->iC,inl->iY
open Sum.inl renaming inj->rj
open Sum.inr renaming inj->NY
open True renaming intro->gG
set_option Elab.async false
set_option compiler.extract_closed false
set_option linter.all false
set_option maxRecDepth 100000
set_option maxHeartbeats 4000000
def bV{α β:Type _}{x:Option α}{f:α->Option β}{b:β}(h:x.bind f=a_ b):∃a,x=a_ a/\f a=a_ b:=wq.mp h
def dJ{α β:Type _}{x:Option α}{f:α->β}{b:β}(h:x.map f=a_ b):∃a,x=a_ a/\f a=b:=Option.map_eq_some_iff.mp h
open PySem PySem.Spec in def wb9:=@wpAny_bind
open PySem PySem.Spec in def wu9:=@wpAny_pure
open PySem in def hp9:=@Heap.get?_push_of_some
open PySem in def hl9:=@Heap.lt_size
def jB{α:Type _}{a:α}{l:List α}:a∈a::l:=List.mem_cons_self
def jN{α:Type _}(y:α){a:α}{l:List α}(h:a∈l):a∈y::l:=List.mem_cons_of_mem y h
namespace L2
open PySem
section
variable{M:xZ}{A:bp}{E:aa->ae->Prop}{s:ae}
structure Vs(base:bx)(l:List mK)(e T:af)(fl:aa)(h h':bx):Prop where
 st:base.StaysIn h'
 fr:h'.FunFrames base l
 tn:base.get? T=b_
 te:T≠e
 ex:∃oe vs,h'.get? e=a_ oe/\oe.data=.fields vs/\vs[1]?=a_ (.ref T)/\∀o ws,h.get? e=a_ o->o.data=.fields ws->oe.cls=o.cls/\oe.dict=o.dict/\vs[0]?=ws[0]?
 en:∃oT ts,h'.get? T=a_ oT/\oT.data=.fields ts/\ts[3]?=a_ fl
 up:h.UpToSlots h'
def tU{base:bx}{env:mK}{outer:List mK}{L e:af}{oe:er}{vs:Array aa}{head:aa}{hadNext:Bool}{Q:Unit->ae->Prop}(hfr:A.frames=a_ (env::outer))(hl:s.heap.FunFrames base (env::outer))(hf:env.frame=a_ L)
  (he:s.heap.get? e=a_ oe)(hkb:base.StaysIn s.heap)(hen:base.get? e=b_)(hd:oe.data=.fields vs)(hsz:1<vs.size)(h:∀h' T,Vs base (env::outer) e T (rawInt L) s.heap h'->Q () { s with heap:=h' }) :
  aA M A (do let a <-frameOf env;let pl <-entryPlaceOf L hadNext;let b <-wo head a .none (rawInt L) .none pl;setField (.ref e) 1 b) Q E s:=by
 have out:e∉(env::outer).filterMap (·.frame):=λhm=>by
  obtain⟨_,o,ho,hnf⟩:=hl.mem hm;rw[he]at ho;cases ho;exact hnf vs hd
 refine wb9 (wpAny_frameOf_fun hfr hl hf λh1 x1=>wb9 (wpAny_entryPlaceOf λpl hpl=>?_));unfold wo newFields;refine wb9 (cN ?_ (hpl.sizeOk5 _ _ _ _ _));have e1:h1.get? e=a_ oe:=(x1.2.1 e out).trans he;have b1:base.StaysIn h1:=λb o z=>(x1.2.1 b λm=>by rw[(hl.mem m).1]at z;cases z).trans (hkb b o z);generalize hO:({ cls:=.type "traceback",dict:=b_,data:=.fields ([head,.ref L,.none,rawInt L,.none]++(if pl.isEmpty then bI 6 cJ else pl)).toArray }:er)=O;have e2:(h1.push O).get? e=a_ oe:=hp9 _ e1;refine l8 e2 hd hsz (h _ h1.objs.size ?_);have ne:h1.objs.size≠e:=jo (hl9 e1);have hd3:=i6 hd (·.setIfInBounds 1 (bR h1.objs.size));have e3:=du (j5 (·.setIfInBounds 1 (bR h1.objs.size))) e2 (oj hd3);have kp:∀b o,b≠e->h1.get? b=a_ o->((h1.push O).update e (j5 (·.setIfInBounds 1 (bR h1.objs.size)))).get? b=a_ o:=λb o hb z=>(dm _ _ hb.symm).trans (hp9 _ z)
 have nf:∀b o,s.heap.get? b=a_ o->(∀vs,o.data≠.fields vs)->b≠e:=λb o hb hn z=>by
  subst z;rw[he]at hb;cases hb;exact hn vs hd
 have hT:((h1.push O).update e (j5 (·.setIfInBounds 1 (bR h1.objs.size)))).get? h1.objs.size=a_ O:=(dm _ _ ne.symm).trans (aJ h1 (by rw[<-hO];rfl));refine⟨λb o z=>kp b o (λy=>by rw[y,hen]at z;cases z) (b1 b o z),hl.of_keeps λb o hb hn=>?_,b1.fresh,ne,⟨_,_,e3,hd3,by simp[hsz],λo ws z1 z2=>?_⟩,⟨O,_,hT,by rw[<-hO],?_⟩,λb o hb hn=>?_⟩
 ·obtain⟨sl,z⟩:=x1.2.2 b o hb;exact⟨_,kp b _ (nf b o hb hn) z,rfl⟩
 ·rw[he]at z1;cases z1;rw[hd]at z2;cases z2;refine⟨JO _ _,?_,by rw[Array.getElem?_setIfInBounds_ne (by decide)]⟩;obtain⟨c,dd,dt,sl⟩:=oe;cases hd;rfl
 ·first|(simp;done)|(rcases hpl with rfl|⟨_,_,_,_,_,_,_,rfl⟩<;>simp)
 ·obtain⟨sl,z⟩:=x1.2.2 b o hb;exact⟨sl,kp b _ (nf b o hb hn) z⟩
end
structure mP(base:bx)(l:List mK)(e:af)(cls:aa)(dx:af)(fl:aa)(h:bx):Prop where
 st:base.StaysIn h
 en:base.get? e=b_
 fr:h.FunFrames base l
 tr:∃oe vs T oT ts,h.get? e=a_ oe/\oe.cls=cls/\oe.dict=a_ dx/\oe.data=.fields vs/\vs[1]?=a_ (.ref T)/\base.get? T=b_/\T≠e/\h.get? T=a_ oT/\oT.data=.fields ts/\ts[3]?=a_ fl
def mP.there{base:bx}{l:List mK}{e:af}{cls:aa}{dx:af}{fl:aa}{h:bx}(F:mP base l e cls dx fl h):∃oe vs,h.get? e=a_ oe/\oe.cls=cls/\oe.dict=a_ dx/\oe.data=.fields vs:=
 let ⟨oe,vs,_,_,_,h1,h2,h3,h4,_⟩:=F.tr;⟨oe,vs,h1,h2,h3,h4⟩
section
variable{M:xZ}{A:bp}{E:aa->ae->Prop}{s:ae}{base:bx}{env:mK}{outer l:List mK}{L e dx:af}{cls fl:aa}{Q:Unit->ae->Prop}
def zJ{T:af}{h h':bx}{oe:er}{vs:Array aa}(hen:base.get? e=b_)(he:h.get? e=a_ oe)(hd:oe.data=.fields vs)(hx:oe.dict=a_ dx)(g:Vs base l e T fl h h'):mP base l e oe.cls dx fl h':=by
 obtain⟨o2,v2,a1,a2,a3,a4⟩:=g.ex;obtain⟨oT,ts,b1,b2,b3⟩:=g.en;obtain⟨c1,c2,_⟩:=a4 oe vs he hd;exact⟨g.st,hen,g.fr,o2,v2,T,oT,ts,a1,c1,c2.trans hx,a2,a3,g.tn,g.te,b1,b2,b3⟩
def HM{oe:er}{vs:Array aa}(hfr:A.frames=a_ (env::outer))(hl:s.heap.FunFrames base (env::outer))(hf:env.frame=a_ L)(he:s.heap.get? e=a_ oe)(hkb:base.StaysIn s.heap)(hen:base.get? e=b_)(hd:oe.data=.fields vs)(h1:vs[1]?=a_ .none)(hx:oe.dict=a_ dx)
  (h:∀h',mP base (env::outer) e oe.cls dx (rawInt L) h'->s.heap.UpToSlots h'->Q () { s with heap:=h' }):aA M A (noteFrame (.ref e) env) Q E s:=by
 unfold noteFrame;simp only[hf];refine wb9 (cO he hd h1 ?_);rw[if_neg (by decide)];exact tU hfr hl hf he hkb hen hd (cZ.mp h1).1 λh' T g=>h h' (zJ hen he hd hx g) g.up
def C2(hfr:A.frames=a_ (env::outer))(hf:env.frame=a_ L)(F:mP base (env::outer) e cls dx .none s.heap)(h:∀h',mP base (env::outer) e cls dx (rawInt L) h'->s.heap.UpToSlots h'->Q () { s with heap:=h' }):aA M A (noteFrame (.ref e) env) Q E s:=by
 obtain⟨oe,vs,T,oT,ts,he,hc,hx,hd,h1,hnT,hTe,hT,hdT,h3⟩:=F.tr;subst hc;unfold noteFrame;simp only[hf];refine wb9 (cO he hd h1 ?_);rw[if_pos (show(bR T != cJ)=c_ by simp)];refine wb9 (cO hT hdT h3 ?_);rw[if_neg (show¬((cJ == rawInt L)=c_) by simp[rawInt])];refine wb9 (l8 hT hdT (cZ.mp h3).1 ?_);have ot:∀b,b≠T->(s.heap.update T (j5 (·.setIfInBounds 3 cJ))).get? b=s.heap.get? b:=λb hb=>dm _ _ hb.symm
 have nr:∀b o,s.heap.get? b=a_ o->(∀vs,o.data≠.fields vs)->b≠T:=λb o hb hn z=>by
  subst z;rw[hT]at hb;cases hb;exact hn ts hdT
 have he':=(ot e hTe.symm).trans he;refine tU (s:={ s with heap:=s.heap.update T (j5 (·.setIfInBounds 3 cJ)) }) hfr (F.fr.of_keeps λb o hb hn=>⟨o,(ot b (nr b o hb hn)).trans hb,rfl⟩) hf he' (λb o z=>(ot b λy=>by rw[y,hnT]at z;cases z).trans (F.st b o z)) F.en hd (cZ.mp h1).1 λh' T' g=>h h' (zJ F.en he' hd hx g) λb o hb hn=>g.up b o ((ot b (nr b o hb hn)).trans hb) hn
def sj(F:mP base l e cls dx fl s.heap)(h:∀h',mP base l e cls dx .none h'->s.heap.UpToSlots h'->Q () { s with heap:=h' }):aA M A (setFlight (.ref e) b_) Q E s:=by
 obtain⟨oe,vs,T,oT,ts,he,hc,hx,hd,h1,hnT,hTe,hT,hdT,h3⟩:=F.tr;have z3:3<ts.size:=(cZ.mp h3).1;unfold setFlight;refine wb9 (cO he hd h1 ?_);rw[if_pos (show(bR T != cJ)=c_ by simp)];have ot:∀b,b≠T->(s.heap.update T (j5 (·.setIfInBounds 3 ((b_:Option af).elim cJ λf=>rawInt f)))).get? b=s.heap.get? b:=λb hb=>dm _ _ hb.symm
 have nr:∀b o,s.heap.get? b=a_ o->(∀vs,o.data≠.fields vs)->b≠T:=λb o hb hn z=>by
  subst z;rw[hT]at hb;cases hb;exact hn ts hdT
 refine l8 hT hdT z3 (h _ ⟨λb o z=>(ot b λy=>by rw[y,hnT]at z;cases z).trans (F.st b o z),F.en,F.fr.of_keeps λb o hb hn=>⟨o,(ot b (nr b o hb hn)).trans hb,rfl⟩,oe,vs,T,_,_,(ot e hTe.symm).trans he,hc,hx,hd,h1,hnT,hTe,du _ hT (oj (i6 hdT _)),i6 hdT _,by simp[z3]⟩ λb o hb hn=>⟨o.slots,(ot b (nr b o hb hn)).trans hb⟩)
def mP.out(F:mP base (env::outer) e cls dx fl s.heap):mP base outer e cls dx fl s.heap:=⟨F.st,F.en,let ⟨_,_,k⟩:=F.fr;k,F.tr⟩
def BC{oe:er}{vs:Array aa}(hfr:A.frames=a_ (env::outer))(hl:s.heap.FunFrames base (env::outer))(hf:env.frame=a_ L)(he:s.heap.get? e=a_ oe)(hkb:base.StaysIn s.heap)(hen:base.get? e=b_)(hd:oe.data=.fields vs)(h1:vs[1]?=a_ .none)(hx:oe.dict=a_ dx)
  (h:∀h',mP base outer e oe.cls dx .none h'->s.heap.UpToSlots h'->Q () { s with heap:=h' }):aA M A (leaving env (.ref e)) Q E s:=by
 unfold leaving;exact wb9 (HM hfr hl hf he hkb hen hd h1 hx λh1 F u=>sj (s:={ s with heap:=h1 }) F λh2 F2 u2=>h h2 (mP.out (s:={ s with heap:=h2 }) F2) (u.trans u2))
def ED(hfr:A.frames=a_ (env::outer))(hf:env.frame=a_ L)(F:mP base (env::outer) e cls dx .none s.heap)(h:∀h',mP base outer e cls dx .none h'->s.heap.UpToSlots h'->Q () { s with heap:=h' }):aA M A (leaving env (.ref e)) Q E s:=by
 unfold leaving;exact wb9 (C2 hfr hf F λh1 F u=>sj (s:={ s with heap:=h1 }) F λh2 F2 u2=>h h2 (mP.out (s:={ s with heap:=h2 }) F2) (u.trans u2))
end
section
variable{prog:aO}{w:bh}{A:bp}{E:aa->ae->Prop}{h:bx}{g:Array om}{d:Ka}{t:Nat}{os:OsState}
variable{nm q:aN}{C N:af}{bs bm bmB:List aa}{hdct:Bool}{sn:List aN}{sub:List aa}{ab:Bool}{col:Option Bool}{dd:Option af}{k0 k1 k2 k3 k5:Option aa}{B newId initId:String}
noncomputable abbrev Ek(h:bx)(C:af)(us:List aa):bx:=(h.push { cls:=.type "tuple",data:=.seq us.toArray }).push { cls:=.ref C,data:=.fields #[.ref h.objs.size,.none,.none,.none,.bool d_,.none] }
def AV(F:FW B newId initId bmB)(T:OwnTail h bmB bm){mN:aN->Option aa}{us:List aa}{fI:af}{oI:er}{Q:Fin->ae->Prop}(hC:h.get? C=a_ (excClassObj nm q C N bs bm hdct sn sub ab col dd k0 k1 k2 k3 k5 newId))(hn:h.Ns N mN)
  (hi:mN "__init__"=a_ (.ref fI))(hfI:h.get? fI=a_ oI)(hfc:oI.cls=.type "function")
  (hq:aA (aE prog w) A (call (.ref fI) (.ref (h.objs.size+1)::us)) (λr s'=>r=.none/\Q (.done (.ret (.ref (h.objs.size+1)))) s') E ⟨Ek h C us,g,d,t,os⟩)
  (hus:us.length<=aD):aA (aE prog w) A (fh.«type.__call__» ⟨.ref C::us,[]⟩) Q E ⟨h,g,d,t,os⟩:=by
 repeat (first|with_reducible refine jU hC ?_|with_reducible refine wpAny_madeBy_exc hC ?_|wp_step)
 refine codeAny_call_builtin_code (la _ F.quiet) (wpAny_check_new_subT F T hC (codeAny_exc_new_subT F T hC ?_ hus));show aA _ _ _ _ _ _;have kp:∀b o,h.get? b=a_ o->((h.push { cls:=.type "tuple",data:=.seq us.toArray }).push { cls:=.ref C,data:=.fields #[.ref h.objs.size,.none,.none,.none,.bool d_,.none] }).get? b=a_ o:=λb o z=>hp9 _ (hp9 _ z);have hC1:=kp _ _ hC;have hX:((h.push { cls:=.type "tuple",data:=.seq us.toArray }).push { cls:=.ref C,data:=.fields #[.ref h.objs.size,.none,.none,.none,.bool d_,.none] }).get? (h.objs.size+1)=a_ { cls:=.ref C,data:=.fields #[.ref h.objs.size,.none,.none,.none,.bool d_,.none] }:=by heap_get
 have hcC:(bR C::bm).contains (.ref C)=c_:=by simp
 unfold isInstance
 repeat (first|with_reducible refine jU hX ?_|(with_reducible refine N0 hC1 ?_;rw[hcC])|wp_step)
 show aA _ _ (typeLookup (.ref C) _) _ _ _;refine wpAny_typeLookup_tail hC1 (hn.keeps kp) (T.keeps kp) F.mroIs F.init.lookup ?_;rw[hi];refine cz (wb9 ?_);unfold bindSpecial;refine wb9 (jS (T:="function") ⟨_,kp _ _ hfI,hfc⟩ ?_);rw[if_pos (by decide)];refine wu9 (wb9 (bJ hq (λr s' hr=>?_) λ_ _ x=>x));obtain⟨rfl,hQ⟩:=hr
 wp_walk
 exact hQ
def EB(F:FW B newId initId bmB)(T:OwnTail h bmB bm){mN:aN->Option aa}{us:List aa}{fI:af}{oI:er}{Q:aa->ae->Prop}(hC:h.get? C=a_ (excClassObj nm q C N bs bm hdct sn sub ab col dd k0 k1 k2 k3 k5 newId))(hn:h.Ns N mN)
  (hi:mN "__init__"=a_ (.ref fI))(hfI:h.get? fI=a_ oI)(hfc:oI.cls=.type "function")
  (hq:aA (aE prog w) (A.under (.builtin "type.__call__" ⟨.ref C::us,[]⟩)) (call (.ref fI) (.ref (h.objs.size+1)::us)) (λr s'=>r=.none/\Q (.ref (h.objs.size+1)) s') E ⟨Ek h C us,g,d,t,os⟩)
  (hus:us.length<=aD):aA (aE prog w) A (call (.ref C) us) Q E ⟨h,g,d,t,os⟩:=by
 have f1:=tc_lookup;have f2:=tc_bind (.ref C);have hty:(⟨h,g,d,t,os⟩:ae).TypeIs (.ref C) "type":=⟨_,hC,rfl⟩
 refine sA (codeAny_of_tree ?_);show aA _ _ (callAny (.ref C) _) _ _ _
 repeat (any_goals (first|assumption|with_reducible refine jU hC ?_|wp_step))
 exact⟨rfl,codeAny_call_builtin_at (la _ (by decide +kernel)) entry_typeCall (wpAny_check_type_call_sub hC (AV F T hC hn hi hfI hfc hq hus))⟩
end
section
variable{M:xZ}{A:bp}{E:aa->ae->Prop}{env:mK}{s:ae}
variable{nm q:aN}{C N:af}{bs bm bmB:List aa}{hdct:Bool}{sn:List aN}{sub:List aa}{ab:Bool}{col:Option Bool}{dd:Option af}{k0 k1 k2 k3 k5:Option aa}{B newId initId:String}
def Bg{x:Sem aa}{Q:Flow->ae->Prop}(hbase:bm.contains (.type "BaseException")=c_)(hh:A.handled=b_)
  (h:aA M A x (λv s₁=>∃e t dx,v=.ref e/\s₁.heap.get? C=a_ (excClassObj nm q C N bs bm hdct sn sub ab col dd k0 k1 k2 k3 k5 newId)/\
   s₁.heap.get? e=a_ { cls:=.ref C,dict:=a_ dx,data:=.fields #[.ref t,.none,.none,.none,.bool d_,.none] }/\E (.ref e) s₁) E s) :
  aA M A (raiseStmt env (a_ x) b_) Q E s:=by
 have hcB:(bR C::bm).contains (.type "BaseException")=c_:=by rw[FD,hbase,bY]
 unfold raiseStmt;refine wb9 (bJ h (λv s₁ z=>?_) λ_ _ y=>y);obtain⟨e,t,dx,rfl,hC,he,hE⟩:=z;obtain⟨hp,g,d,tk,os⟩:=s₁
 repeat (first|with_reducible refine jU he ?_|with_reducible refine jU hC ?_|(with_reducible refine N0 hC ?_;rw[hcB])|wp_step)
 exact wpAny_raiseNew_none hh hE
end
section
variable{prog:aO}{w:bh}{A:bp}{E:aa->ae->Prop}{s:ae}{env:mK}
variable{nm q:aN}{C N:af}{bs bm bmB:List aa}{hdct:Bool}{sn:List aN}{sub:List aa}{ab:Bool}{col:Option Bool}{dd:Option af}{k0 k1 k2 k3 k5:Option aa}{B newId initId:String}
def Bh(F:FW B newId initId bmB){mN:aN->Option aa}{x:aN}{np cpos pos:dZ}{args:List aF}{Q:Flow->ae->Prop}{fI:af}(hbase:bm.contains (.type "BaseException")=c_)(hh:A.handled=b_)(hplain:(backTo cpos (aI args env)).any (·.1)=d_)(hi:mN "__init__"=a_ (.ref fI))
  (h:aA (aE prog w) A (eval (.Name x np) env) (λf s₁=>f=.ref C/\aA (aE prog w) A (evalArgs (.ref C) c_ (backTo cpos (aI args env)) [])
   (λa s₂=>a.kw=[]/\a.pos.length<=aD/\s₂.heap.get? C=a_ (excClassObj nm q C N bs bm hdct sn sub ab col dd k0 k1 k2 k3 k5 newId)/\s₂.heap.Ns N mN/\OwnTail s₂.heap bmB bm/\(∃oI,s₂.heap.get? fI=a_ oI/\oI.cls=.type "function")/\
    aA (aE prog w) (A.under (.builtin "type.__call__" ⟨.ref C::a.pos,[]⟩)) (call (.ref fI) (.ref (s₂.heap.objs.size+1)::a.pos)) (λr s₃=>r=.none/\s₃.heap.get? C=a_ (excClassObj nm q C N bs bm hdct sn sub ab col dd k0 k1 k2 k3 k5 newId)/\
     (∃t dx,s₃.heap.get? (s₂.heap.objs.size+1)=a_ { cls:=.ref C,dict:=a_ dx,data:=.fields #[.ref t,.none,.none,.none,.bool d_,.none] })/\E (.ref (s₂.heap.objs.size+1)) s₃) E ⟨Ek s₂.heap C a.pos,s₂.gens,s₂.drawn,s₂.toks,s₂.os⟩) E s₁) E s) :
  aA (aE prog w) A (exec (.Raise (a_ (.Call (.Name x np) args [] cpos)) b_ pos) env) Q E s:=by
 rw[arm_exec_Raise]
 have key:aA (aE prog w) A (eval (.Call (.Name x np) args [] cpos) env) (λv s₁=>∃e t dx,v=.ref e/\s₁.heap.get? C=a_ (excClassObj nm q C N bs bm hdct sn sub ab col dd k0 k1 k2 k3 k5 newId)/\
   s₁.heap.get? e=a_ { cls:=.ref C,dict:=a_ dx,data:=.fields #[.ref t,.none,.none,.none,.bool d_,.none] }/\E (.ref e) s₁) E s:=by
  refine wpAny_Call_ofName (bJ h (λf s₁ h₁=>?_) λ_ _ y=>y);obtain⟨rfl,h₁⟩:=h₁;unfold callWith;refine wb9 (cz (bJ h₁ (λa s₂ h₂=>wb9 (kT ?_)) λ_ _ y=>y));obtain⟨apos,akw⟩:=a;obtain⟨hkw,hlen,hC,hn,T,⟨oI,hI1,hI2⟩,h₂⟩:=h₂;obtain rfl:akw=[]:=hkw;obtain⟨hp,g,d,tk,os⟩:=s₂;simp only[hplain];refine wb9 (wpAny_keeperOf_exc hC ?_);refine wb9 (EB F T hC hn hi hI1 hI2 (bJ h₂ (λr s₃ z=>?_) λ_ _ y=>y) hlen);obtain⟨rfl,z1,⟨t,dx,z2⟩,z3⟩:=z;exact⟨rfl,wb9 (cz (wpAny_point (wu9 ⟨_,t,dx,rfl,z1,z2,z3⟩)))⟩
 refine wb9 (kT (Bg (C:=C) (nm:=nm) (q:=q) (N:=N) (bs:=bs) (bm:=bm) (hdct:=hdct) (sn:=sn) (sub:=sub) (ab:=ab) (col:=col) (dd:=dd) (k0:=k0) (k1:=k1) (k2:=k2) (k3:=k3) (k5:=k5) (newId:=newId) hbase hh ?_));exact wb9 (bJ key (λv s₃ z=>wb9 (kT (wu9 z))) λ_ _ y=>y)
end
end L2
namespace L2
open PySem PySem.W Builtin Builtin.ObjectAttr
noncomputable def wU:List aa->Bool
 |.ref _::r=>wU r
 |[.type a,.type b,.type c,.type d]=>a == "ValueError" && b == "Exception" && c == "BaseException" && d == "object"
 |_=>d_
theorem CZ:∀{l:List aa},wU l=c_->(∀self,refuseLoop self "__setattr__" l=pure ())/\l.contains (.type "object")=c_
 |.ref c::r,e=>by
   obtain⟨h1,h2⟩:=CZ (l:=r) (by cases r<;>first|exact e|cases e);exact⟨λself=>(refuseLoop_ref self _ c r).trans (h1 self),by rw[FD,h2,bY]⟩
 |[.type a,.type b,.type c,.type d],e=>by
   simp only[wU,aq,beq_iff_eq]at e;obtain⟨⟨⟨rfl,rfl⟩,rfl⟩,rfl⟩:=e;exact⟨PySem.F.store_ValueError.passes,by decide⟩
noncomputable def Ge(K:aB)(C:af):Bool:=(clsIn K C).any λcd=>wU cd.mro && cd.hasDict
section
variable{prog:aO}{w:bh}{A:bp}{s:ae}{K:aB}{x C:af}{ox:er}{name:aN}{v:aa}
def LJ{R:Result->ae->Prop}{tk:Tok}{vs:Array aa}(hfs:ox.data=.fields vs)(X:K.In s.heap)(I:InstAt s.heap x ox C b_)(hp:Ge K C=c_)(ha:findIn K (.ref C) name=a_ b_)
  (h:∀h' tk',h'.get? x=a_ { ox with dict:=a_ s.heap.objs.size }->h'.Ns1 s.heap.objs.size (λy=>if y=name then a_ v else b_)->(∀b o,b≠x->s.heap.get? b=a_ o->h'.get? b=a_ o)->s.heap.objs.size<h'.objs.size->R (.ok (.ret .none)) { s with heap:=h',toks:=tk' }) :
  codeAny (aE prog w) A (.call (.builtin "object.__setattr__") ⟨[.ref x,.str name tk,v],[]⟩) R s:=by
 have SF:=PySem.F.store_object;obtain⟨cd,hc,ho⟩:=any_some hp;obtain⟨ho,hdc⟩:=cq.mp ho;obtain⟨pa,ob⟩:=CZ ho
 have ne:cd.mro.isEmpty=d_:=by cases q:cd.mro with|nil=>rw[q]at ho;cases ho|cons _ _=>rfl
 have sub:gH (aE prog w) s.heap (isInstance (.ref x) (.type "object")) c_:=I.type.andThen (xY X (by unfold mroIn;rw[hc,ao,if_neg (by rw[ne];decide),ob]));refine fU SF.slot.plain SF.entry (@check_slot (aE prog w) _ _ s "object.__setattr__" "object" "__setattr__" (.ref x) [.str name tk,v] [] _ SF.kind SF.split sub (SF.args (.ref x) (.str name tk) v) ?_);have hm:gH (aE prog w) s.heap (mroOf (.ref C)) cd.mro:=(J9 X hc).andThen .now;rw[osa_eq,refuse_eq];refine wb9 (wb9 (I.type.here (wb9 (hm.here ?_))));rw[pa];refine wu9 (wb9 (I.type.here (wb9 ((jV X ha).here (wb9 (Looks.now.here ?_))))));obtain⟨hh,g,d,t,os⟩:=s;obtain⟨hx,hcl,hn,hd⟩:=I;obtain⟨oc,odi,oda,osl⟩:=ox;dsimp only at hcl hd hx;subst hcl
 cases odi with
 |some q=>exact bF hd
 |none=>
   refine wb9 (wu9 (wb9 (wb9 (qm hx (wb9 ((J9 X hc).here ?_))))));dsimp only at hfs;subst hfs;rw[hdc];have hx1:(hh.push { cls:=.type "dict",data:=.dict #[] }).get? x=a_ { cls:=.ref C,data:=.fields vs,slots:=osl }:=hp9 _ hx;have hxs:x≠hh.objs.size:=ba (hl9 hx);show aA _ _ (alloc { cls:=.type "dict",data:=.dict #[] } >>= λd=>update x (λo=>{ cls:=o.cls,dict:=a_ d,data:=o.data,slots:=o.slots }) >>= λ_=>pure (a_ d)) _ _ _;refine wb9 (wpAny_alloc' (wb9 (wpAny_update' hx1 (wu9 ?_))));have hgd:((hh.push { cls:=.type "dict",data:=.dict #[] }).update x λo=>{ cls:=o.cls,dict:=a_ hh.objs.size,data:=o.data,slots:=o.slots }).get? hh.objs.size=a_ { cls:=.type "dict",data:=.dict #[] }:=(DZ _ _ _ _ hxs.symm).trans (Heap.get?_push_at rfl rfl);have hnd:((hh.push { cls:=.type "dict",data:=.dict #[] }).update x λo=>{ cls:=o.cls,dict:=a_ hh.objs.size,data:=o.data,slots:=o.slots }).Ns hh.objs.size (λ_=>b_):=⟨_,#[],_,hgd,rfl,λe he=>absurd he (by simp),λ_=>rfl⟩
   show aA _ _ (storeInDict hh.objs.size (.str name tk) name v) _ _ _;unfold storeInDict newKeyGuard;refine wb9 (wu9 (wb9 (wpAny_nsSet1 (Heap.Ns1.of_empty hnd) λh' hn' hs=>?_)));obtain⟨oD,esD,epD,hoD,hdD,hcD⟩:=hn'.count (Within.cons name v Within.nil);refine wb9 (wpAny_lookBehind hoD (by rw[hdD];exact pastItsLine_dict (cW hcD (by rw[aQ,cB,bT];omega))) ?_);refine wu9 (h h' _ ((hs.2 x hxs).trans (du _ hx1 rfl)) hn' (λb o hb z=>(hs.2 b (ba (hl9 z))).trans ((DZ _ _ _ _ hb).trans (hp9 _ z))) (hl9 hoD))
end
section
variable{prog:aO}{w:bh}{A:bp}{E:aa->ae->Prop}{h:bx}{g:Array om}{d:Ka}{t:Nat}{os:OsState}{a C dx:af}{K:aB}{name:aN}
noncomputable def yA(K:aB)(C:af)(name:aN):Bool:=findIn K (.ref C) "__getattribute__" == a_ (a_ (.builtin "BaseException.__getattribute__")) && findIn K (.ref C) name == a_ b_ && findIn K (.ref C) "__getattr__" == a_ b_ && mroIn K C (.type "BaseException") == a_ c_ && hasDictIn K C
def XO(a C dx:af):bx->Prop:=λh=>∃oe,h.get? a=a_ oe/\oe.cls=.ref C/\oe.dict=a_ dx/\∃vs,oe.data=.fields vs
def BB{M:xZ}{mA:aN->Option aa}(X:K.In h)(x:XO a C dx h)(hh:hasDictIn K C=c_)(hn:h.Ns dx mA):gH M h (inOwnDict name (.ref a)) (mA name):=λA Q E s k q=>by
 obtain⟨oe,he,hc,hd,vs,hv⟩:=x;obtain⟨cd,h1,h2⟩:=any_some hh;obtain⟨oc,odi,oda,osl⟩:=oe;dsimp only at hc hd hv;subst hc hd hv;have L:=J9 (M:=M) X h1
 have body:aA M A (instanceDict a d_) (λz s'=>aA M A (inDict name z) Q E s') E s:=by
  unfold instanceDict;refine wb9 (qm (k _ _ he) ?_);dsimp only;refine wb9 (L A _ E s k ?_);rw[h2];exact wu9 (wpAny_nsGet (hn.keeps k) q)
 exact wb9 (wb9 (qm (k _ _ he) body))
def Kk{mA:aN->Option aa}{v:aa}{expr:Bool}{Q:aa->ae->Prop}(X:K.In h)(q:yA K C name=c_)(x:XO a C dx h)(hn:h.Ns dx mA)(hv:mA name=a_ v)(ho:handedIn v=c_)(hq:Q v ⟨h,g,d,t+1,os⟩):aA (aE prog w) A (getAttr (.ref a) name expr) Q E ⟨h,g,d,t,os⟩:=by
 unfold yA at q;simp only[aq,beq_iff_eq]at q;obtain⟨⟨⟨⟨q1,q2⟩,q3⟩,q5⟩,q6⟩:=q;have LO:=BB (M:=aE prog w) (name:=name) X x q6 hn;rw[hv]at LO;obtain⟨oe,he,hc,_,vs,hd⟩:=x;have L0:gH (aE prog w) h (typeOf (.ref a)) (.ref C):=hc▸(kz he).andThen .now;have L1:=jV (M:=aE prog w) X q1;have L2:=jV (M:=aE prog w) X q2;have L3:=jV (M:=aE prog w) X q3;have L5:=xY (M:=aE prog w) X q5;unfold getAttr getAttrBy;refine wb9 (wpAny_mkText (cz (wb9 (L0.at (wb9 (L1.at ?_))))));dsimp only;rw[if_neg (by simp[onTheHeap])];have GA:=sE.ga;have f3:=GA.bind (.ref a);have fx:(expr && onTheHeap (.builtin "BaseException.__getattribute__"))=d_:=by cases expr<;>rfl
 unfold getAttrByItsOwn hookBefore callGetattribute boundAndCalled;rw[fx]
 repeat (any_goals (first|assumption|with_reducible refine Looks.at (by assumption) ?_|wp_step))
 refine fU GA.plain x6 ?_;have hk:builtinKind "BaseException.__getattribute__"=a_ .slot:=by decide +kernel
 have hsplit:splitId "BaseException.__getattribute__"=a_ ("BaseException","__getattribute__"):=by decide +kernel
 have ha:=yu (.ref a) (.str name t);have LI:gH (aE prog w) h (isInstance (.ref a) (.type "BaseException")) c_:=L0.andThen L5;simp only[checkBuiltinCall,hk,hsplit];refine wb9 (LI.at ?_)
 repeat (any_goals (first|assumption|with_reducible refine Looks.at (by assumption) ?_|wp_step))
 show aA _ _ (handedOut v) _ _ _;rw[handedOut_of ho];exact wu9 hq
end
end L2
namespace L2
open PySem PySem.W PySem.W Builtin Builtin.ObjectAttr Builtin.Getset_descriptor
section
variable{prog:aO}{w:bh}{A:bp}{E:aa->ae->Prop}{h:bx}{g:Array om}{d:Ka}{t:Nat}{os:OsState}{a C dx:af}{K:aB}
noncomputable def uI(K:aB)(C:af):Bool:=findIn K (.ref C) "__getattribute__" == a_ (a_ (.builtin "BaseException.__getattribute__")) && findIn K (.ref C) "__class__" == a_ (a_ (.builtin "object.__class__")) &&
 findIn K (.ref C) "__getattr__" == a_ b_ && mroIn K C (.type "object") == a_ c_ && mroIn K C (.type "BaseException") == a_ c_
def Kl{Q:Option aa->ae->Prop}(X:K.In h)(q:uI K C=c_)(x:XO a C dx h)(hq:Q (a_ (.ref C)) ⟨h,g,d,t+1,os⟩):aA (aE prog w) A (getAttr? (.ref a) "__class__") Q E ⟨h,g,d,t,os⟩:=by
 unfold uI at q;simp only[aq,beq_iff_eq]at q;obtain⟨⟨⟨⟨q1,q2⟩,q3⟩,q4⟩,q5⟩:=q;obtain⟨oe,he,hc,_,vs,hd⟩:=x;have L0:gH (aE prog w) h (typeOf (.ref a)) (.ref C):=hc▸(kz he).andThen .now;have L1:=jV (M:=aE prog w) X q1;have L2:=jV (M:=aE prog w) X q2;have L3:=jV (M:=aE prog w) X q3;have L4:=xY (M:=aE prog w) X q4;have L5:=xY (M:=aE prog w) X q5;unfold getAttr? getAttrBy? getAttrBy;refine wb9 (wpAny_mkText (wb9 (mT (cz (wb9 (L0.at (wb9 (L1.at ?_))))))));dsimp only;rw[if_neg (by simp[onTheHeap])];have GA:=sE.ga;have f3:=GA.bind (.ref a);unfold getAttrByItsOwn hookBefore callGetattribute boundAndCalled
 repeat (any_goals (first|assumption|with_reducible refine Looks.at (by assumption) ?_|wp_step))
 refine fU GA.plain x6 ?_;have hk:builtinKind "BaseException.__getattribute__"=a_ .slot:=by decide +kernel
 have hsplit:splitId "BaseException.__getattribute__"=a_ ("BaseException","__getattribute__"):=by decide +kernel
 have ha:=yu (.ref a) (.str "__class__" t);have LI:gH (aE prog w) h (isInstance (.ref a) (.type "BaseException")) c_:=L0.andThen L5;simp only[checkBuiltinCall,hk,hsplit];refine wb9 (LI.at ?_);have f5:typeOf (.builtin "object.__class__")=pure (.type "getset_descriptor"):=Ar;have hT5:∀(g:Array om)(d:Ka)(t:Nat)(os:OsState),(⟨h,g,d,t,os⟩:ae).TypeIs (.builtin "object.__class__") "getset_descriptor":=λ_ _ _ _=>Ar;have hT6:=hT5 g d (t+1) os;have f6:=PySem.F.slot_gs_get.lookup;have f7:=PySem.F.slot_gs_set.lookup
 repeat (any_goals (first|assumption|with_reducible refine Looks.at (by assumption) ?_|wp_step))
 refine fU KF.slot_gs.plain KF.entry_gs (KF.slot_gs.check _ _ _ _ _ _ _ _ Ar (KF.args_gs _ _ _) ?_);unfold fh.«getset_descriptor.__get__» descrGet;rw[dga_obj];refine wb9 (wu9 ?_);unfold descrGetter descrCheckInstance descrNameAndClass isInstance;simp only[KF.owner_class]
 repeat lk
 refine⟨la _ (by decide +kernel),jg KF.entry_class ?_⟩;unfold fh.«object.__class__» shownTypeOf
 repeat lk
 exact hq
set_option tactic.hygienic true in
def Il{C:af}(q:uI K C=c_):KitX K (.ref a) (.ref C) (XO a C dx) where
 ty:=λM h X ⟨oe,he,hc,_⟩=>hc▸(kz he).andThen .now
 it:=λM h X x=>by
  unfold uI at q;simp only[aq,beq_iff_eq]at q;obtain⟨cd,hc,_⟩:=bV q.1.2;unfold clsIn at hc;split at hc
  ·rename_i ho;intro A' Q' E' s' k q;unfold isType loadHead;exact wb9 (qm (k _ _ (X _ _ ho)) (wu9 q))
  ·cases hc
 ne:=λh tp dd its n sl X htp=>by
  unfold uI at q;simp only[aq,beq_iff_eq]at q;obtain⟨cd,hc,_⟩:=bV q.1.2;refine Gb.mpr λq=>?_;have e:C=tp:=Value.ref.inj (beq_iff_eq.mp q);subst e;unfold clsIn at hc;split at hc
  ·rename_i ho;have z:=(X _ _ ho).symm.trans htp;cases z
  ·cases hc
 ca:=λ{prog w A E Q s}X x k=>by
  obtain⟨h,g,d,t,os⟩:=s;exact Kl X q x k
end
end L2
namespace L2
open PySem PySem.Spec PyProof.Rows
noncomputable abbrev Key:=Sum Int aN
noncomputable def oJ:Key->aa->Bool
 |.inl k,v=>Value.isInt k v
 |.inr x,v=>N3 x v
noncomputable def WG(w:bh):Key->Int
 |.inl k=>hashInt k
 |.inr x=>hashStr w x
def dE:∀{k:Key}{v:aa},oJ k v=c_->(∃i t,k=iY i/\v=FQ i t)\/(∃x t,k=iC x/\v=FP x t)
 |.inl i,v,h=>by
   obtain⟨t,e⟩:=Value.isInt_shape (k:=i) (v:=v) h;exact .inl ⟨i,t,rfl,e⟩
 |.inr x,v,h=>by
   obtain⟨t,e⟩:=Value.isStrOf_shape (x:=x) (v:=v) h;exact .inr ⟨x,t,rfl,e⟩
def vK(i:Int)(t:Tok):oJ (.inl i) (.int i t)=c_:=by simp[oJ,Value.isInt]
def qK(x:aN)(t:Tok):oJ (.inr x) (.str x t)=c_:=by simp[oJ,N3]
def Rf(a b:Int):decide ((iY a:Key)=iY b)=(a == b):=by
 by_cases e:a=b
 ·subst e;simp
 ·have h:¬(iY a:Key)=iY b:=λq=>e (rj q);rw[decide_eq_false h];exact(beq_eq_false_iff_ne.mpr e).symm
def Ra(a b:aN):decide ((iC a:Key)=iC b)=decide (a=b):=by
 by_cases e:a=b
 ·subst e;simp
 ·have h:¬(iC a:Key)=iC b:=λq=>e (NY q);rw[decide_eq_false h,decide_eq_false e]
def Rc(a:Int)(b:aN):decide ((iY a:Key)=iC b)=d_:=decide_eq_false (λq=>nomatch q)
def Rb(a:aN)(b:Int):decide ((iC a:Key)=iY b)=d_:=decide_eq_false (λq=>nomatch q)
noncomputable def cj(prog:aO)(w:bh):lF prog w Key where
 is:=oJ
 hash:=WG w
 inj:=λv a b ha hb=>by
  rcases dE ha with⟨i,t,rfl,rfl⟩|⟨x,t,rfl,rfl⟩
  ·rcases dE hb with⟨j,u,rfl,e⟩|⟨y,u,rfl,e⟩
   ·injection e with e1 _;rw[e1]
   ·exact nomatch e
  ·rcases dE hb with⟨j,u,rfl,e⟩|⟨y,u,rfl,e⟩
   ·exact nomatch e
   ·injection e with e1 _;rw[e1]
 byValue:=λk v h=>by
  rcases dE h with⟨i,t,rfl,rfl⟩|⟨x,t,rfl,rfl⟩<;>rfl
 pyHash:=λhv h=>by
  rcases dE hv with⟨i,t,rfl,rfl⟩|⟨x,t,rfl,rfl⟩
  ·exact wpAny_pyHash_int h
  ·exact wpAny_pyHash_str h
 eqBool:=λhu hv h=>by
  rcases dE hu with⟨i,t,rfl,rfl⟩|⟨x,t,rfl,rfl⟩
  ·rcases dE hv with⟨j,u,rfl,rfl⟩|⟨y,u,rfl,rfl⟩
   ·rw[Rf]at h;exact wpAny_eqBool_int h
   ·rw[Rc]at h;exact SeqAt.EqAt.int_str i t y u _ _ _ _ h
  ·rcases dE hv with⟨j,u,rfl,rfl⟩|⟨y,u,rfl,rfl⟩
   ·rw[Rb]at h;exact SeqAt.EqAt.str_int x t j u _ _ _ _ h
   ·rw[Ra]at h;exact wpAny_eqBool_str h
 «strs» :=λk x t v h=>by
  rcases dE h with⟨i,u,rfl,e⟩|⟨y,u,rfl,e⟩
  ·exact nomatch e
  ·injection e with e1 _
   subst e1;cases v<;>rfl
def zm(prog:aO)(w:bh)(i:Int)(t:Tok):(cj prog w).is (.inl i) (.int i t)=c_:=vK i t
def zl(prog:aO)(w:bh)(x:aN)(t:Tok):(cj prog w).is (.inr x) (.str x t)=c_:=qK x t
def Sq(h h':bx):Prop:=∀b o,h.get? b=a_ o->o.cls=.type "tuple"->(∃its n,o.data=.seq its n)->h'.get? b=a_ o
structure Ik(P:aO)(w:bh) where
 κ:Type
 d:Nat
 is:bx->κ->aa->Prop
 hash:κ->Int
 draw:κ->Nat
 inj:∀{h:bx}{x y:κ}{v:aa},is h x v->is h y v->x=y
 lM:∀{h h':bx}{k:κ}{v:aa},Sq h h'->is h k v->is h' k v
 hsh:∀{A:bp}{E:aa->ae->Prop}{s:ae}{k:κ}{v:aa}{Q:Int->ae->Prop},A.units+d<=di->is s.heap k v->Q (hash k) { s with toks:=s.toks+draw k }->aA (aE P w) A (pyHash v) Q E s
 eqb:∀{A:bp}{E:aa->ae->Prop}{s:ae}{x y:κ}{u v:aa}{Q:Bool->ae->Prop},A.units+d<=di->is s.heap x u->is s.heap y v->(x=y->Q c_ s)->(x≠y->Q d_ s)->aA (aE P w) A (eqBool u v) Q E s
 qui:∀{A:bp}{E:aa->ae->Prop}{s:ae}{k:κ}{v:aa}{Q:Bool->ae->Prop}{n:Nat},d<=n->is s.heap k v->Q c_ s->aA (aE P w) A (eqIsQuiet n v) Q E s
 cla:∀{A:bp}{E:aa->ae->Prop}{s:ae}{k:κ}{v:aa}{Q:Bool->ae->Prop}{n:Nat},d<=n->is s.heap k v->Q d_ s->aA (aE P w) A (ofAClassStatement n v) Q E s
 hbv:∀{A:bp}{E:aa->ae->Prop}{s:ae}{k:κ}{v:aa}{Q:Bool->ae->Prop}{n:Nat},d<=n->is s.heap k v->(∀b,Q b s)->aA (aE P w) A (hashByValue n v) Q E s
section
variable{P:aO}{w:bh}{A:bp}{E:aa->ae->Prop}{z0:ae}{I:Ik P w}
def Jj{n:Nat}{v:aa}{Q:Bool->ae->Prop}(hv:carriedByValue v=c_)(h:Q d_ z0):aA (aE P w) A (ofAClassStatement n v) Q E z0:=by
 cases v<;>first|(cases hv;done)|(unfold ofAClassStatement;exact wu9 h)|(cases n<;>(unfold ofAClassStatement;exact wu9 h))
def Ry{n:Nat}{v:aa}{Q:Bool->ae->Prop}(hv:carriedByValue v=c_)(h:∀b,Q b z0):aA (aE P w) A (hashByValue n v) Q E z0:=by
 cases v<;>first|(cases hv;done)|(unfold hashByValue;exact wu9 (h _))|(cases n<;>(unfold hashByValue;exact wu9 (h _)))
noncomputable abbrev EF(P:aO)(w:bh):Ik P w where
 κ:=Key
 d:=0
 is:=λ_ k v=>(cj P w).is k v=c_
 hash:=(cj P w).hash
 draw:=λ_=>1
 inj:=λex ey=>(cj P w).inj _ _ _ ex ey
 lM:=λ_ x=>x
 hsh:=λ_ gk h=>(cj P w).pyHash gk h
 eqb:=λ{A E s x y u v Q}_ ex ey h1 h2=>(cj P w).eqBool ex ey (by
  by_cases e:x=y
  ·rw[decide_eq_true e];exact h1 e
  ·rw[decide_eq_false e];exact h2 e)
 qui:=λ_ gk h=>by rw[eqIsQuiet_byValue _ ((cj P w).byValue _ _ gk)];exact wu9 h
 cla:=λ_ gk h=>Jj ((cj P w).byValue _ _ gk) h
 hbv:=λ_ gk h=>Ry ((cj P w).byValue _ _ gk) h
inductive xX (I:Ik P w) (h:bx):List I.κ->List aa->Prop
 |nil:xX I h [] []
 |cons {k:I.κ} {v:aa} {ks:List I.κ} {vs:List aa}:I.is h k v->xX I h ks vs->xX I h (k::ks) (v::vs)
def yo(I:Ik P w)(h:bx)(ks:List I.κ)(p:af):Prop:=∃o its0 n,h.get? p=a_ o/\o.cls=.type "tuple"/\o.data=.seq its0 n/\xX I h ks its0.toList
theorem xX.inj{h:bx}{x y:List I.κ}{vs:List aa}(ex:xX I h x vs)(ey:xX I h y vs):x=y:=by
 induction ex generalizing y with
 |nil=>cases ey;rfl
 |cons h1 _ ih=>
   cases ey with
   |cons h2 t2=>rw[I.inj h1 h2,ih t2]
theorem xX.lM{h h':bx}{ks:List I.κ}{vs:List aa}(k:Sq h h')(x:xX I h ks vs):xX I h' ks vs:=by
 induction x with
 |nil=>exact .nil
 |cons h1 _ ih=>exact .cons (I.lM k h1) ih
def yo.typeIs{ks:List I.κ}{p:af}(x:yo I z0.heap ks p):z0.TypeIs (.ref p) "tuple":=let ⟨o,_,_,go,gc,_⟩:=x;⟨o,go,gc⟩
def yo.inj{h:bx}{p:af}{x y:List I.κ}(ex:yo I h x p)(ey:yo I h y p):x=y:=by
 obtain⟨o,its0,n,go,_,gd,gi⟩:=ex;obtain⟨o',items',n',ho',_,hd',hi'⟩:=ey;obtain rfl:o=o':=aP (go.symm.trans ho');rw[gd]at hd'
 injection hd' with h1 _
 subst h1;exact gi.inj hi'
def yo.lM{h h':bx}{ks:List I.κ}{p:af}(k:Sq h h')(x:yo I h ks p):yo I h' ks p:=
 let ⟨o,its,n,h1,h2,h3,h4⟩:=x;⟨o,its,n,k p o h1 h2 ⟨_,_,h3⟩,h2,h3,h4.lM k⟩
noncomputable def Dm(I:Ik P w)(ks:List I.κ):Int:=reduceHash (dI (ks.map I.hash))
def IE{ks:List I.κ}{p:af}{Q:Int->ae->Prop}(i_:A.units+(I.d+1)<=di)(gk:yo I z0.heap ks p)(h:Q (Dm I ks) { z0 with toks:=z0.toks+((ks.map I.draw).sum+1) }) :
  aA (aE P w) A (pyHash (.ref p)) Q E z0:=by
 have gt:=gk.typeIs;obtain⟨o,its0,n,go,_,gd,gi⟩:=gk;unfold pyHash
 first|unfold pyHashByItsType|skip
 first|refine wb9 (wpAny_cRoomFor_or (.inr (by omega)) ?_)|skip
 refine wb9 (lp gt fP.lookup ?_);show aA _ _ (if(a_ (Value.builtin "tuple.__hash__") == a_ cJ)=c_ then _ else _) Q E z0;rw[if_neg (by rw[beq_builtin_none];exact df)];refine wb9 (lp gt fP.lookup ?_);show aA _ _ (callSpecialIfBoundUnlessNone? (.ref p) "__hash__" _ >>= _) Q E z0;refine wb9 (wpAny_callSpecialIfBoundUnlessNone?_slot gt fP (cu fP gt PySem.F.entry_tuple_hash ?_ (PySem.F.args_tuple_hash_1 _)));show aA _ _ (jF (.ref p) >>= _) _ _ z0;refine wb9 (sy go gd ?_);refine wb9 ?_;rw[<-kW]
 refine ko _
  (λtl(b:Array Int)z1=>∃pre suf,ks=pre++suf/\xX I z0.heap suf tl/\b.toList=pre.map I.hash/\z1={ z0 with toks:=z0.toks+(pre.map I.draw).sum })
  _ ?_ ?_ _ _ ⟨[],ks,rfl,gi,rfl,rfl⟩
 ·rintro x tl b z1 ⟨pre,suf,rfl,gl,gb,rfl⟩
  cases gl with
  | @cons k _ ks' _ h1 gl'=>
    refine wb9 (I.hsh (s:={ z0 with toks:=z0.toks+(pre.map I.draw).sum }) ?_ h1 ?_)
    ·show A.units+1+I.d<=di;omega
    first
     |exact wu9 ⟨pre++[k],ks',by simp,gl',by simp[gb],by simp[qj]⟩
     |exact wb9 (wu9 (wu9 ⟨pre++[k],ks',by simp,gl',by simp[gb],by simp[qj]⟩))
 ·rintro b z1 ⟨pre,suf,rfl,gl,gb,rfl⟩;cases gl;rw[bN]at h;show aA _ _ (retInt (dI b.toList)) _ _ _;rw[gb];refine wpAny_ret_mkInt ?_;show aA _ _ (if(decide (-(2:Int) ^ 63<=dI (pre.map I.hash)) && decide (dI (pre.map I.hash)<2 ^ 63))=c_ then _ else _) Q E _;unfold Dm reduceHash at h;by_cases ge:(decide (-(2:Int) ^ 63<=dI (pre.map I.hash)) && decide (dI (pre.map I.hash)<2 ^ 63))=c_
  ·rw[if_pos ge];rw[if_pos ge]at h;exact wu9 (by simpa [qj]using h)
  ·rw[if_neg ge];rw[if_neg ge]at h;exact wb9 (jl (wu9 (by simpa [qj]using h)))
def Ja{x y:List I.κ}{p b:af}{R:Fin->ae->Prop}(i_:A.units+I.d<=di)(ex:yo I z0.heap x p)(ey:yo I z0.heap y b)(h1:x=y->R (.done (.ret (.bool c_))) z0)(h2:x≠y->R (.done (.ret (.bool d_))) z0) :
  aA (aE P w) A (fh.«tuple.__eq__» ⟨[.ref p,.ref b],[]⟩) R E z0:=by
 have gtb:=ey.typeIs;obtain⟨oa,xs,na,goa,_,gda,gia⟩:=ex;obtain⟨ob,ys,nb,gob,_,gdb,gib⟩:=ey;show aA _ _ (isInstance (.ref b) (.type "tuple") >>= _) _ _ z0;refine wb9 (gP gtb JM ?_);simp only[if_false,aT,fL];refine wb9 (sy goa gda ?_);refine wb9 (sy gob gdb ?_);refine wb9 ?_
 refine ko _
  (λtl r z1=>r.1=b_/\z1=z0/\∃x' y' xs' ys',tl=List.zip xs' ys'/\xX I z0.heap x' xs'/\xX I z0.heap y' ys'/\(x'=y'↔x=y)/\(xs'.length == ys'.length)=(xs.size == ys.size))
  _ ?_ ?_ _ _ ⟨rfl,rfl,x,y,xs.toList,ys.toList,rfl,gia,gib,Iff.rfl,by simp⟩
 ·rintro⟨u,v⟩ tl r z1 ⟨ge,rfl,x',y',xs',ys',gz,hx',hy',gdec,glen⟩
  cases hx' with
  |nil=>simp at gz
  | @cons k1 u' x'' xs'' q1 hx''=>
    cases hy' with
    |nil=>simp at gz
    | @cons k2 v' y'' ys'' q2 hy''=>
      simp only[uF,Cc,List.zip_cons_cons]at gz;obtain⟨⟨rfl,rfl⟩,rfl⟩:=gz;refine wb9 (I.eqb i_ q1 q2 (λgk=>?_) λgk=>?_)
      ·subst gk;simp only[if_false,aT,fL];refine wu9 ⟨rfl,rfl,x'',y'',xs'',ys'',rfl,hx'',hy'',?_,by simpa using glen⟩;rw[<-gdec];exact⟨λe=>by rw[e],λe=>(nP e).2⟩
      ·simp only[vi,if_true];exact wb9 (wu9 (wu9 (wu9 (h2 λe=>gk (nP (gdec.mpr e)).1))))
 ·rintro⟨r1,r2⟩ z1 ⟨ge,rfl,x',y',xs',ys',gz,hx',hy',gdec,glen⟩;simp only at ge;subst ge;refine wu9 ?_;show R (.done (.ret (.bool (xs.size == ys.size)))) z1;rw[<-glen]
  cases hx' with
  |nil=>
    cases hy' with
    |nil=>exact h1 (gdec.mp rfl)
    |cons _ _=>exact h2 λe=>nomatch gdec.mpr e
  |cons _ _=>
    cases hy' with
    |nil=>exact h2 λe=>nomatch gdec.mpr e
    |cons _ _=>simp at gz
def UZ{x y:List I.κ}{p b:af}{Q:Bool->ae->Prop}(i_:A.units+(I.d+1)<=di)(ex:yo I z0.heap x p)(ey:yo I z0.heap y b)(h1:x=y->Q c_ z0)(h2:x≠y->Q d_ z0) :
  aA (aE P w) A (eqBool (.ref p) (.ref b)) Q E z0:=by
 unfold eqBool
 try with_reducible refine cz ?_
 show aA _ _ (if(bR p == bR b)=c_ then _ else _) Q E z0;by_cases fab:(bR p == bR b)=c_
 ·rw[if_pos fab];have e:p=b:=by have:=eq_of_beq fab;injection this
  subst e;obtain rfl:=ex.inj ey;exact wb9 (jl (wu9 (h1 rfl)))
 ·rw[if_neg fab]
  exact wb9 (wpAny_richCompare_same_room (op:=.Eq) ex.typeIs ey.typeIs mJ
   (cu mJ ex.typeIs PySem.F.entry_tuple_eq (Ja (by show A.units+1+I.d<=di;omega) ex ey (λe=>⟨_,rfl,(λe=>nomatch e),cY (h1 e)⟩) λe=>⟨_,rfl,(λe=>nomatch e),cY (h2 e)⟩) (PySem.F.args_tuple_eq_2 _ _)) (by omega))
def CK{n:Nat}{ks:List I.κ}{p:af}{Q:Bool->ae->Prop}(hn:I.d<=n)(gk:yo I z0.heap ks p)(h:Q c_ z0):aA (aE P w) A (eqIsQuiet (n+1) (.ref p)) Q E z0:=by
 have gt:=gk.typeIs;obtain⟨o,its0,m,go,_,gd,gi⟩:=gk;unfold eqIsQuiet;refine wb9 (lp gt mJ.lookup ?_);show aA _ _ (isInstance (.ref p) (.type "tuple") >>= _) _ _ z0;refine wb9 (gP gt JM ?_);simp only[if_false,aT,fL];refine wb9 (dn go gd ?_);refine wb9 ?_;show aA _ _ (forIn its0 _ _) _ _ z0;rw[<-kW];refine ko _ (λtl r z1=>r.1=b_/\z1=z0/\∃l,xX I z0.heap l tl) _ ?_ ?_ _ _ ⟨rfl,rfl,_,gi⟩
 ·rintro v tl r z1 ⟨ge,rfl,l,gl⟩
  cases gl with
  | @cons k _ ks' _ h1 gl'=>
    refine wb9 (I.qui hn h1 ?_);simp only[if_false,aT,fL];exact wu9 ⟨rfl,rfl,ks',gl'⟩
 ·rintro⟨r1,r2⟩ z1 ⟨ge,rfl,_⟩;simp only at ge;subst ge;exact wu9 h
def Nj{n:Nat}{ks:List I.κ}{p:af}{Q:Bool->ae->Prop}(hn:I.d<=n)(gk:yo I z0.heap ks p)(h:Q d_ z0):aA (aE P w) A (ofAClassStatement (n+1) (.ref p)) Q E z0:=by
 obtain⟨o,its0,m,go,gc,gd,gi⟩:=gk;unfold ofAClassStatement;refine wb9 (wpAny_typeOf_ref go ?_);rw[gc];dsimp only;refine wb9 (wu9 ?_);simp only[if_false,aT,fL];refine wb9 (dn go gd ?_);refine wb9 ?_;show aA _ _ (forIn its0 _ _) _ _ z0;rw[<-kW];refine ko _ (λtl r z1=>r.1=b_/\z1=z0/\∃l,xX I z0.heap l tl) _ ?_ ?_ _ _ ⟨rfl,rfl,_,gi⟩
 ·rintro v tl r z1 ⟨ge,rfl,l,gl⟩
  cases gl with
  | @cons k _ ks' _ h1 gl'=>
    refine wb9 (I.cla hn h1 ?_);simp only[if_false,aT];exact wu9 ⟨rfl,rfl,ks',gl'⟩
 ·rintro⟨r1,r2⟩ z1 ⟨ge,rfl,_⟩;simp only at ge;subst ge;exact wu9 h
def UT{n:Nat}{ks:List I.κ}{p:af}{Q:Bool->ae->Prop}(hn:I.d<=n)(gk:yo I z0.heap ks p)(h:∀b,Q b z0):aA (aE P w) A (hashByValue (n+1) (.ref p)) Q E z0:=by
 have gt:=gk.typeIs;obtain⟨o,its0,m,go,gc,gd,gi⟩:=gk;unfold hashByValue;refine wb9 (lp gt fP.lookup ?_);dsimp only;refine wb9 (dn go gd ?_);refine wb9 ?_;show aA _ _ (forIn its0 _ _) _ _ z0;rw[<-kW];refine ko _ (λtl r z1=>r.1=b_/\z1=z0/\∃l,xX I z0.heap l tl) _ ?_ ?_ _ _ ⟨rfl,rfl,_,gi⟩
 ·rintro v tl r z1 ⟨ge,rfl,l,gl⟩
  cases gl with
  | @cons k _ ks' _ h1 gl'=>
    refine wb9 (I.hbv hn h1 λb=>?_);cases b
    ·exact wu9 (wu9 (h _))
    ·exact wu9 ⟨rfl,rfl,ks',gl'⟩
 ·rintro⟨r1,r2⟩ z1 ⟨ge,rfl,_⟩;simp only at ge;subst ge;exact wu9 (h _)
noncomputable abbrev tupI(I:Ik P w):Ik P w where
 κ:=Sum Key (List I.κ)
 d:=I.d+1
 is:=λh k v=>match k with
  |.inl k=>(cj P w).is k v=c_
  |.inr ks=>∃b,v=.ref b/\yo I h ks b
 hash:=λk=>match k with
  |.inl k=>(cj P w).hash k
  |.inr ks=>Dm I ks
 draw:=λk=>match k with
  |.inl _=>1
  |.inr ks=>(ks.map I.draw).sum+1
 inj:=λ{h x y v}ex ey=>by
  cases x with
  |inl k=>
    cases y with
    |inl k'=>exact congrArg _ ((cj P w).inj _ _ _ ex ey)
    |inr ks=>obtain⟨b,rfl,_⟩:=ey;exact nomatch ((cj P w).byValue _ _ ex)
  |inr ks=>
    obtain⟨b,rfl,q⟩:=ex
    cases y with
    |inl k'=>exact nomatch ((cj P w).byValue _ _ ey)
    |inr ks'=>obtain⟨b',e,q'⟩:=ey;cases e;exact congrArg _ (q.inj q')
 lM:=λ{h h' k v}q x=>by
  cases k with
  |inl k=>exact x
  |inr ks=>obtain⟨b,e,z⟩:=x;exact⟨b,e,z.lM q⟩
 hsh:=λ{A E s k v Q}i_ gk h=>by
  cases k with
  |inl k=>exact(cj P w).pyHash gk h
  |inr ks=>obtain⟨b,rfl,z⟩:=gk;exact IE i_ z h
 eqb:=λ{A E s x y u v Q}i_ ex ey h1 h2=>by
  cases x with
  |inl k=>
    cases y with
    |inl k'=>exact(EF P w).eqb (by show A.units+0<=di;omega) ex ey (λe=>h1 (by rw[e])) λe=>h2 λz=>e (rj z)
    |inr ks=>
      obtain⟨b,rfl,o,its,n,go,gc,gd,_⟩:=ey;have ht:s.heap.IsTuple b its:=⟨o,go,gc,n,gd⟩
      rcases dE ex with⟨i,t,rfl,rfl⟩|⟨z,t,rfl,rfl⟩
      ·exact SeqAt.EqAt.int_tuple i t ht (by omega) _ _ _ _ (h2 λe=>nomatch e)
      ·exact SeqAt.EqAt.str_tuple z t ht (by omega) _ _ _ _ (h2 λe=>nomatch e)
  |inr ks=>
    obtain⟨b,rfl,q⟩:=ex
    cases y with
    |inl k'=>
      obtain⟨o,its,n,go,gc,gd,_⟩:=q;have ht:s.heap.IsTuple b its:=⟨o,go,gc,n,gd⟩
      rcases dE ey with⟨i,t,rfl,rfl⟩|⟨z,t,rfl,rfl⟩
      ·exact SeqAt.EqAt.tuple_int i t ht (by omega) _ _ _ _ (h2 λe=>nomatch e)
      ·exact SeqAt.EqAt.tuple_str z t ht (by omega) _ _ _ _ (h2 λe=>nomatch e)
    |inr ks'=>
      obtain⟨b',rfl,q'⟩:=ey;exact UZ i_ q q' (λe=>h1 (by rw[e])) λe=>h2 λz=>e (NY z)
 qui:=λ{A E s k v Q n}hn gk h=>by
  cases k with
  |inl k=>exact(EF P w).qui (fK _) gk h
  |inr ks=>
    obtain⟨b,rfl,z⟩:=gk
    cases n with
    |zero=>omega
    |succ n=>exact CK (by omega) z h
 cla:=λ{A E s k v Q n}hn gk h=>by
  cases k with
  |inl k=>exact(EF P w).cla (fK _) gk h
  |inr ks=>
    obtain⟨b,rfl,z⟩:=gk
    cases n with
    |zero=>omega
    |succ n=>exact Nj (by omega) z h
 hbv:=λ{A E s k v Q n}hn gk h=>by
  cases k with
  |inl k=>exact(EF P w).hbv (fK _) gk h
  |inr ks=>
    obtain⟨b,rfl,z⟩:=gk
    cases n with
    |zero=>omega
    |succ n=>exact UT (by omega) z h
end
noncomputable abbrev N2:=Sum Key (List Key)
noncomputable abbrev NK:=Sum Key (List N2)
noncomputable instance Xy:DecidableEq N2:=instDecidableEqSum
noncomputable instance Xx:DecidableEq NK:=instDecidableEqSum
noncomputable abbrev i2(P:aO)(w:bh):Ik P w:=tupI (EF P w)
noncomputable abbrev i3(P:aO)(w:bh):Ik P w:=tupI (i2 P w)
abbrev SD(P:aO)(w:bh):bx->List NK->List aa->Prop:=xX (i3 P w)
abbrev Xi(P:aO)(w:bh):bx->List NK->af->Prop:=yo (i3 P w)
noncomputable abbrev QN(P:aO)(w:bh):List NK->Int:=Dm (i3 P w)
section
variable{P:aO}{w:bh}{A:bp}{E:aa->ae->Prop}{z0:ae}
def VY:(i3 P w).d<=7:=by show 2<=7;omega
def WX{x y:List NK}{p b:af}{Q:Bool->ae->Prop}(i_:A.units+3<=di)(ex:Xi P w z0.heap x p)(ey:Xi P w z0.heap y b)(h:Q (decide (x=y)) z0) :
  aA (aE P w) A (eqBool (.ref p) (.ref b)) Q E z0:=
 UZ i_ ex ey (λe=>by rw[decide_eq_true e]at h;exact h) λe=>by rw[decide_eq_false e]at h;exact h
end
noncomputable def rB(P:aO)(w:bh):HeapKind P w (List NK) where
 is:=Xi P w
 hash:=QN P w
 draws:=λks=>(ks.map (i3 P w).draw).sum+1
 room:=λA=>A.units+3<=di
 inj:=λex ey=>ex.inj ey
 keeps:=λ{h h' k a d o es ep}x go gd es0=>x.lM λb o' e _ ⟨i1,n1,q⟩=>(es0.2 b λz=>by
  subst z;rw[go]at e;cases e
  rw[gd]at q;cases q).trans e
 pyHash:=λi_ gk h=>IE i_ gk h
 eqBool:=λi_ ex ey h=>WX i_ ex ey h
 quiet:=λgk h=>CK VY gk h
inductive V where
 |non|bl (b:Bool)|int (i:Int)|str (x:aN)|byt (b:Array UInt8)|flt (b:UInt64)|ref (a:af)|ty (n:String)
 deriving DecidableEq
noncomputable def RelV:V->aa->Prop
 |.non,u=>u=cJ
 |.bl b,u=>u=iV b
 |.int i,u=>∃t,u=FQ i t
 |.str x,u=>∃t,u=FP x t
 |.byt b,u=>∃t,u=Value.bytes b t
 |.flt b,u=>∃t,u=Value.float b t
 |.ref a,u=>u=bR a
 |.ty n,u=>u=jD n
abbrev bZ:List V->List aa->Prop:=iZ RelV
def bZ.length{xs:List V}{us:List aa}(r:bZ xs us):xs.length=us.length:=oP r
theorem bZ.get:∀{xs:List V}{us:List aa}{i:Nat}{x:V},bZ xs us->xs[i]?=a_ x->∃u,us[i]?=a_ u/\RelV x u
 |_,_,_,_,.nil,e=>by simp at e
 |_,_,0,_,.cons r _,e=>by simp at e;subst e;exact⟨_,rfl,r⟩
 |_,_,i+1,x,.cons _ t,e=>by
   obtain⟨u,h1,h2⟩:=bZ.get (i:=i) (x:=x) t (by simpa using e);exact⟨u,by simpa using h1,h2⟩
theorem bZ.set{x:V}{u:aa}(r:RelV x u):∀{xs:List V}{us:List aa}(i:Nat),bZ xs us->bZ (xs.set i x) (us.set i u)
 |_,_,_,.nil=>.nil
 |_,_,0,.cons _ t=>.cons r t
 |_,_,i+1,.cons q t=>.cons q (bZ.set r i t)
theorem bZ.append:∀{xs ys:List V}{us ws:List aa},bZ xs us->bZ ys ws->bZ (xs++ys) (us++ws)
 |_,_,_,_,.nil,s=>s
 |_,_,_,_,.cons r t,s=>.cons r (bZ.append t s)
theorem bZ.take:∀{xs:List V}{us:List aa}(n:Nat),bZ xs us->bZ (xs.take n) (us.take n)
 |_,_,0,_=>.nil
 |_,_,_+1,.nil=>.nil
 |_,_,n+1,.cons r t=>.cons r (bZ.take n t)
theorem bZ.drop:∀{xs:List V}{us:List aa}(n:Nat),bZ xs us->bZ (xs.drop n) (us.drop n)
 |_,_,0,r=>r
 |_,_,_+1,.nil=>.nil
 |_,_,n+1,.cons _ t=>bZ.drop n t
noncomputable def ug:Option V->Option aa->Prop
 |some v,a_ u=>RelV v u
 |none,b_=>True
 |_,_=>False
def KV{κ:Type}:List (κ×V)->List (κ×aa)->Prop:=iZ λ(p:κ×V)(q:κ×aa)=>p.1=q.1/\RelV p.2 q.2
noncomputable def kV:Key->V
 |.inl i=>.int i
 |.inr x=>.str x
inductive HO where
 |lst (xs:List V)
 |tup (xs:List V)
 |dK (k_:List (Key×V))|dT (k_:List (List Key×V))
 |dN (xs:List (List NK×af))
 |set (S:Int->Bool) (n:Nat)
 |ins (C dx:af) (fs:List (aN×V))
 |own (x:af)
 |xd (fs:List (aN×V))
 |met (f x:af)
 |rng (lo hi:Int)
 |kh (o:er) (u:HO)
 |tbl (ps:Array aa)
 |ext (φ:bx->Prop)
noncomputable abbrev Hp:=af->Option HO
noncomputable def upd(H:Hp)(a:af)(o:HO):Hp:=λb=>if b=a then a_ o else H b
def bu{H:Hp}{a:af}{o:HO}:upd H a o a=a_ o:=by unfold upd;rw[if_pos rfl]
def bB{H:Hp}{a b:af}{o:HO}(h:b≠a):upd H a o b=H b:=by unfold upd;rw[if_neg h]
def Kq{H:Hp}{a:af}{o u:HO}:upd (upd H a o) a u=upd H a u:=by
 funext b;unfold upd;split<;>rfl
def UA{H:Hp}{a b:af}{o u:HO}(h:H a=a_ o)(h':H b=a_ u)(d:o≠u):a≠b:=by
 intro e;subst e;rw[h]at h';exact d (aP h')
def cG{H:Hp}{a b:af}{o:HO}(h:H a=a_ o)(h':H b=b_):a≠b:=by
 intro e;subst e;rw[h]at h';cases h'
section
variable(P:aO)(w:bh)
noncomputable def hJ(H:Hp)(h:bx)(a:af):HO->Prop
 |.lst xs=>xs.length<=aD/\∃(its:List aa) (n:Nat),bZ xs its/\h.get? a=a_ { cls:=.type "list",data:=.seq its.toArray n }
 |.tup xs=>xs.length<=aD/\∃its:List aa,bZ xs its/\Kc h a its.toArray
 |.dK k_=>k_.length<=aD/\(a == sysModules)=d_/\∃vs,KV k_ vs/\h.DictOf (cj P w) a vs
 | .dT k_=>k_.length<=aD/\(a == sysModules)=d_/\∃xs:List (List Key×af×aa),
   iZ (λ(p:List Key×V)(q:List Key×af×aa)=>p.1=q.1/\H q.2.1=a_ (.tup (p.1.map kV))/\RelV p.2 q.2.2) k_ xs/\
   ∃o es ep,h.get? a=a_ o/\o.ExactDict/\o.data=.dict es ep/\es.toList=xs.map (entryOfKey (tupleKind (cj P w)))/\(xs.map (·.1)).Nodup
 |.dN xs=>xs.length<=aD/\(a == sysModules)=d_/\∃o es ep,h.get? a=a_ o/\o.ExactDict/\o.data=.dict es ep/\es.toList=xs.map (λx=>entryOfKey (rB P w) (x.1,x.2,.bool c_))/\(xs.map (·.1)).Nodup
 |.set S n=>h.SetOf (intKind P w) a S n
 | .ins C dx fs=>H dx=a_ (.own a)/\fs.length<=1000/\dx≠a/\h.get? a=a_ (PySem.W.instObj C dx)/\
   ∃mA,h.Ns1 dx mA/\(∀f,ug (fs.lookup f) (mA f))/\PySem.Within mA (fs.map (·.1))
 |.own _=>∃o,h.get? a=a_ o
 |.xd fs=>∃mA,h.Ns1 a mA/\∀f,ug (fs.lookup f) (mA f)
 |.rng lo hi=>∃t u v,h.get? a=a_ { cls:=.type "range",data:=.fields #[.int lo t,.int hi u,.int 1 v] }
 |.kh o u=>h.get? a=a_ o/\hJ H h a u
 |.tbl ps=>h.get? a=a_ { cls:=.none,data:=.fields ps }
 |.met f x=>h.get? a=a_ (pE (.ref f) (.ref x))
 |.ext φ=>φ h/\(∃o,h.get? a=a_ o)/\∀h1 h2:bx,φ h1->(∀o,h1.get? a=a_ o->h2.get? a=a_ o)->φ h2
def oy(H:Hp)(h:bx):Prop:=∀a o,H a=a_ o->hJ P w H h a o
end
section
variable{P:aO}{w:bh}{H H':Hp}{h h':bx}{a:af}{o:HO}
theorem hJ.lt(x:hJ P w H h a o):a<h.objs.size:=by
 cases o with
 |lst xs=>obtain⟨_,_,_,_,e⟩:=x;exact hl9 e
 |tup xs=>obtain⟨_,_,_,p⟩:=x;exact p.lt
 |dK k_=>obtain⟨_,_,_,_,o,_,_,e,_⟩:=x;exact hl9 e
 |dT k_=>obtain⟨_,_,_,_,o,_,_,e,_⟩:=x;exact hl9 e
 |dN xs=>obtain⟨_,_,o,_,_,e,_⟩:=x;exact hl9 e
 |set S n=>obtain⟨o,_,_,_,e,_⟩:=x;exact hl9 e
 |ins C dx fs=>obtain⟨_,_,_,e,_⟩:=x;exact hl9 e
 |own y=>obtain⟨_,e⟩:=x;exact hl9 e
 |xd fs=>obtain⟨_,⟨_,_,_,e,_⟩,_⟩:=x;exact hl9 e
 |rng lo hi=>obtain⟨_,_,_,e⟩:=x;exact hl9 e
 |kh ob u=>obtain⟨e,_⟩:=x;exact hl9 e
 |tbl ps=>exact hl9 (show h.get? a=a_ _ from x)
 |met f y=>exact hl9 (show h.get? a=a_ _ from x)
 |ext φ=>obtain⟨_,⟨_,e⟩,_⟩:=x;exact hl9 e
theorem Paired.QY{α β:Type}{F G:α->β->Prop}:∀{l₁:List α}{l₂:List β},iZ F l₁ l₂->(∀a b,F a b->G a b)->iZ G l₁ l₂
 |_,_,.nil,_=>.nil
 |_,_,.cons r t,f=>.cons (f _ _ r) (Paired.QY t f)
def hJ.lM(x:hJ P w H h a o)(k:∀b u,(b=a\/H b=a_ (.own a))->h.get? b=a_ u->h'.get? b=a_ u)
  (ho:∀b,H b=a_ (.own a)->H' b=a_ (.own a))(ht:∀b xs,H b=a_ (.tup xs)->H' b=a_ (.tup xs)):hJ P w H' h' a o:=by
 induction o with
 |lst xs=>obtain⟨z,its,n,r,e⟩:=x;exact⟨z,its,n,r,k _ _ (.inl rfl) e⟩
 |tup xs=>obtain⟨z,its,r,ob,e,c⟩:=x;exact⟨z,its,r,ob,k _ _ (.inl rfl) e,c⟩
 |dK k_=>obtain⟨z,y,vs,r,ob,es,ep,e,c⟩:=x;exact⟨z,y,vs,r,ob,es,ep,k _ _ (.inl rfl) e,c⟩
 |dT k_=>
   obtain⟨z,y,xs,r,ob,es,ep,e,c⟩:=x;exact⟨z,y,xs,Paired.QY r λp q z=>⟨z.1,ht _ _ z.2.1,z.2.2⟩,ob,es,ep,k _ _ (.inl rfl) e,c⟩
 |dN xs=>obtain⟨z,y,ob,es,ep,e,c⟩:=x;exact⟨z,y,ob,es,ep,k _ _ (.inl rfl) e,c⟩
 |set S n=>obtain⟨ob,es,ep,t,e,c⟩:=x;exact⟨ob,es,ep,t,k _ _ (.inl rfl) e,c⟩
 |ins C dx fs=>
   obtain⟨d,z,ne,e,mA,⟨od,es,ep,e2,c⟩,r⟩:=x;exact⟨ho _ d,z,ne,k _ _ (.inl rfl) e,mA,⟨od,es,ep,k _ _ (.inr d) e2,c⟩,r⟩
 |own y=>obtain⟨ob,e⟩:=x;exact⟨ob,k _ _ (.inl rfl) e⟩
 |xd fs=>obtain⟨mA,⟨od,es,ep,e,c⟩,r⟩:=x;exact⟨mA,⟨od,es,ep,k _ _ (.inl rfl) e,c⟩,r⟩
 |rng lo hi=>obtain⟨t,u,v,e⟩:=x;exact⟨t,u,v,k _ _ (.inl rfl) e⟩
 |kh ob u ih=>obtain⟨e,q⟩:=x;exact⟨k _ _ (.inl rfl) e,ih q⟩
 |tbl ps=>
   have e:h.get? a=a_ { cls:=.none,data:=.fields ps }:=x;show h'.get? a=a_ { cls:=.none,data:=.fields ps };exact k a _ (.inl rfl) e
 |met f y=>
   have e:h.get? a=a_ (pE (.ref f) (.ref y)):=x;show h'.get? a=a_ (pE (.ref f) (.ref y));exact k a _ (.inl rfl) e
 |ext φ=>obtain⟨p,⟨o,e⟩,st⟩:=x;exact⟨st _ _ p λo q=>k _ _ (.inl rfl) q,⟨o,k _ _ (.inl rfl) e⟩,st⟩
def oy.lt(x:oy P w H h)(e:H a=a_ o):a<h.objs.size:=(x a o e).lt
def oy.fresh(x:oy P w H h)(e:h.objs.size<=a):H a=b_:=by
 cases q:H a with
 |none=>rfl
 |some u=>exact absurd (aY (x.lt q) e) (bC _)
def oy.kept(x:oy P w H h)(k:∀b u,h.get? b=a_ u->h'.get? b=a_ u):oy P w H h':=λa o e=>
 (x a o e).lM (λb u _ q=>k b u q) (λ_ q=>q) λ_ _ q=>q
def oy.laid(x:oy P w H h)(k:∀b u,h.get? b=a_ u->h'.get? b=a_ u)(hp:h.objs.size<=a)(new:hJ P w (upd H a o) h' a o):oy P w (upd H a o) h':=λb u e=>by
 have hn:=x.fresh hp;by_cases hb:b=a
 ·subst hb;rw[bu]at e;cases e;exact new
 ·rw[bB hb]at e;exact(x b u e).lM (λc v _ q=>k c v q) (λc q=>by rw[bB (cG q hn)];exact q) λc xs q=>by rw[bB (cG q hn)];exact q
end
def Rd(H:Hp)(a:af)(u:HO):Prop:=H a=a_ u\/∃o,H a=a_ (.kh o u)
def Rd.ok{P:aO}{w:bh}{H:Hp}{h:bx}{a:af}{u:HO}(r:Rd H a u)(x:oy P w H h):hJ P w H h a u:=by
 rcases r with r|⟨o,r⟩
 ·exact x a u r
 ·obtain⟨_,q⟩:=x a _ r;exact q
noncomputable def Tb:Option HO->Prop
 |some (.lst _)=>True
 |some (.dK _)=>True
 |some (.dT _)=>True
 |some (.dN _)=>True
 |some (.set _ _)=>True
 |some (.ins _ _ _)=>True
 |some (.ext _)=>True
 |_=>False
section
variable{P:aO}{w:bh}{H:Hp}{h h':bx}{x e:af}{o':HO}
def oy.write(ok:oy P w H h)(mu:Tb (H x))(he:e=x\/H e=a_ (.own x))(k:∀b u,b≠e->h.get? b=a_ u->h'.get? b=a_ u)(heo:∃u,h'.get? e=a_ u)
  (new:hJ P w (upd H x o') h' x o'):oy P w (upd H x o') h':=λb u q=>by
 have nown:∀c y,H c=a_ (.own y)->c≠x:=λc y r z=>by subst z;rw[r]at mu;exact mu
 have ntup:∀c xs,H c=a_ (.tup xs)->c≠x:=λc xs r z=>by subst z;rw[r]at mu;exact mu
 by_cases hb:b=x
 ·subst hb;rw[bu]at q;cases q;exact new
 ·rw[bB hb]at q;by_cases hbe:b=e
  ·have q':H b=a_ (.own x):=by
    rcases he with z|z
    ·exact absurd (hbe.trans z) hb
    ·rw[hbe];exact z
   rw[q]at q';cases q';obtain⟨v,hv⟩:=heo;exact⟨v,by rw[hbe];exact hv⟩
  ·refine(ok b u q).lM (λc v hc r=>k c v ?_ r) (λc r=>by rw[bB (nown c b r)];exact r) λc xs r=>by rw[bB (ntup c xs r)];exact r
   rcases hc with rfl|hc
   ·exact hbe
   ·rintro rfl
    rcases he with z|z
    ·exact nown c b hc z
    ·rw[hc]at z;cases z;exact hb rfl
end
structure Un(fs ex:List af)(H H':Hp)(h h':bx):Prop where
 keep:∀b o,h.get? b=a_ o->H b=b_->b∉fs->b∉ex->h'.get? b=a_ o
 slot:∀b o,h.get? b=a_ o->H b=b_->b∈fs->b∉ex->∃sl,h'.get? b=a_ { o with slots:=sl }
 free:∀b o,h.get? b=a_ o->H b=b_->b∉ex->H' b=b_
 there:∀b o,h.get? b=a_ o->b∉ex->∃o',h'.get? b=a_ o'
 tups:∀b xs,H b=a_ (.tup xs)->H' b=a_ (.tup xs)
 frzs:∀b o u,H b=a_ (.kh o u)->H' b=a_ (.kh o u)
 tbls:∀b ps,H b=a_ (.tbl ps)->∃more,H' b=a_ (.tbl (ps++more))
section
variable{fs fs' ex ex':List af}{H H1 H2:Hp}{h h1 h2 h':bx}{a x e:af}{o:HO}
def Un.any(u:Un fs ex H H1 h h1){b:af}{ob:er}(q:h.get? b=a_ ob)(n:H b=b_)(hx:b∉ex):∃sl,h1.get? b=a_ { ob with slots:=sl }:=by
 by_cases hb:b∈fs
 ·exact u.slot b ob q n hb hx
 ·exact⟨ob.slots,u.keep b ob q n hb hx⟩
def Un.kept(k:∀b u,h.get? b=a_ u->h'.get? b=a_ u):Un fs ex H H h h':=
 ⟨λb ob q _ _ _=>k b ob q,λb ob q _ _ _=>⟨ob.slots,k b ob q⟩,λ_ _ _ n _=>n,λb ob q _=>⟨ob,k b ob q⟩,λ_ _ q=>q,λ_ _ _ q=>q,λ_ ps q=>⟨#[],by rw[q];simp⟩⟩
def Un.refl:Un fs ex H H h h:=Un.kept λ_ _ q=>q
def Un.laid(k:∀b u,h.get? b=a_ u->h'.get? b=a_ u)(hp:h.objs.size<=a)(hn:H a=b_):Un fs ex H (upd H a o) h h' where
 keep:=λb u q _ _ _=>k b u q
 slot:=λb u q _ _ _=>⟨u.slots,k b u q⟩
 free:=λb u q n _=>by rw[bB (ba (aY (hl9 q) hp))];exact n
 there:=λb u q _=>⟨u,k b u q⟩
 tups:=λb xs q=>by rw[bB (cG q hn)];exact q
 frzs:=λb u xs q=>by rw[bB (cG q hn)];exact q
 tbls:=λb ps q=>⟨#[],by rw[bB (cG q hn),q];simp⟩
def Un.write(mu:Tb (H x))(he:e=x\/H e=a_ (.own x))(k:∀b u,b≠e->h.get? b=a_ u->h'.get? b=a_ u)(heo:∃u,h'.get? e=a_ u):Un fs ex H (upd H x o) h h':=by
 have hx:∀b,H b=b_->b≠x:=λb n z=>by subst z;rw[n]at mu;exact mu
 have hb:∀b,H b=b_->b≠e:=λb n z=>by
  subst z
  rcases he with r|r
  ·exact hx b n r
  ·rw[n]at r;cases r
 have hm:∀b u,H b=a_ u->¬Tb (a_ u)->b≠x:=λb u q nm z=>by subst z;rw[q]at mu;exact nm mu
 refine⟨λb u q n _ _=>k b u (hb b n) q,λb u q n _ _=>⟨u.slots,k b u (hb b n) q⟩,λb u q n _=>by rw[bB (hx b n)];exact n,λb u q _=>?_,
  λb xs q=>by rw[bB (hm b _ q λz=>z)];exact q,λb u xs q=>by rw[bB (hm b _ q λz=>z)];exact q,λb ps q=>⟨#[],by rw[bB (hm b _ q λz=>z),q];simp⟩⟩
 by_cases hbe:b=e
 ·subst hbe;exact heo
 ·exact⟨u,k b u hbe q⟩
end
noncomputable def Vy(h:bx)(H:Hp):List af:=(aR h.objs.size).filter λa=>(H a).isSome
noncomputable def xx(h:bx)(H:Hp):bx:=mC h (Vy h H)
def EJ(h:bx)(H:Hp):(xx h H).objs.size=h.objs.size:=PySem.W.hideAll_size _ _
def ID{h:bx}{H:Hp}{b:af}{o:er}(e:h.get? b=a_ o)(n:H b=b_):(xx h H).get? b=a_ o:=
 j4 _ e λhm=>by
  have q:(H b).isSome=c_:=(iW.mp hm).2;rw[n]at q;simp at q
def LZ{h:bx}{H:Hp}{b:af}{o:er}(e:(xx h H).get? b=a_ o):h.get? b=a_ o/\H b=b_:=by
 have e':h.get? b=a_ o:=AF (Vy h H) e;refine⟨e',?_⟩
 cases q:H b with
 |none=>rfl
 |some x=>
   have hm:b∈Vy h H:=iW.mpr ⟨bW.mpr (hl9 e'),by simp[q]⟩;have z:(xx h H).get? b=b_:=yq (Vy h H) hm;rw[z]at e;cases e
noncomputable def NR(g h:bx)(L:af):List (af×er):=(aR h.objs.size).filterMap λa=>if a=L\/(g.get? a).isSome=c_ then b_ else(h.get? a).map λo=>(a,o)
noncomputable def rest(g h:bx)(L d:af):List (af×er):=(NR g h L).filter λp=>decide (p.1≠d)
structure Mod(K:aB)(mg:aN->Option aa)(base:bx):Prop where
 kin:K.In base
 glob:base.Ns mainGlobals mg
 blt:∃mb,base.Ns builtinsNs mb/\∀x:aN,x≠"__name__"->mb x=bootBuiltins x
 nolimit:base.NoLimit
structure Cx where
 prog:aO
 w:bh
 K:aB
 mg:aN->Option aa
 base:bx
 A:bp
 N:List aN
 s₀:ae
 H₀:Hp
 env:mK
 outer:List mK
 stack:List mK
 ex:List af
 fn:aN->Bool
 calm:Bool
 pn:List (af×er)
 xe:aa->ae->Prop
noncomputable def mH(l:List mK):List af:=l.filterMap (·.frame)
noncomputable abbrev Cx.fs(X:Cx):List af:=mH X.outer
def JF(sc:fk)(x:aN):Prop:=sc.names.lookup x=a_ .local\/sc.names.lookup x=a_ .cell\/sc.names.lookup x=a_ .free
def Loc(sc:fk)(x:aN):Prop:=sc.names.lookup x=a_ .local\/sc.names.lookup x=a_ .cell
def Look(env:mK)(h:bx)(m:aN->Option aa)(x:aN)(u:aa):Prop:=
 (env.kindOf x=a_ .local/\m x=a_ u)\/((env.kindOf x=a_ .cell\/env.kindOf x=a_ .free)/\∃c,env.cells.lookup x=a_ c/\h.IsCell c (a_ u))
structure Cx.Ok(X:Cx):Prop where
 mod:Mod X.K X.mg X.base
 kind:X.env.scope.kind=.function
 glob:X.env.globals=mainGlobals
 blt:X.env.builtins=builtinsNs
 above:X.s₀.heap.objs.size<=X.env.locals
 inj:∀x y c,X.env.cells.lookup x=a_ c->X.env.cells.lookup y=a_ c->x=y
 has:∀x,(X.env.kindOf x=a_ .cell\/X.env.kindOf x=a_ .free)->∃c,X.env.cells.lookup x=a_ c
 cab:∀x c,X.fn x=c_->X.env.cells.lookup x=a_ c->X.s₀.heap.objs.size<=c
 hd:X.calm=c_->X.A.handled=b_
 frames:X.A.frames=a_ X.stack
 Kz:X.stack=X.outer\/(X.stack=X.env::X.outer/\X.env.frame=a_ X.env.locals)
 exf:∀b∈X.ex,b≠X.env.locals/\∀x c,X.env.cells.lookup x=a_ c->c≠b
 bs:∀b o,X.base.get? b=a_ o->X.s₀.heap.get? b=a_ o/\X.H₀ b=b_
 bsz:X.base.objs.size<=X.s₀.heap.objs.size
 noex:∀b o,X.base.get? b=a_ o->b∉X.ex
 exfs:∀b∈X.ex,b∉X.fs
 oZ:X.s₀.heap.FunFrames X.base X.outer
 frf:∀b∈X.fs,X.H₀ b=b_
structure Inv(X:Cx)(h_:List (af×er))(σ:List (Option V))(H:Hp)(s:ae):Prop where
 ok:X.Ok
 os:s.os=X.s₀.os
 bare:jZ s.gens
 base:Un X.fs X.ex X.H₀ H X.s₀.heap s.heap
 loc:∃m,s.heap.Ns X.env.locals m/\∀(i:Nat)(x:aN)(v:V),X.N[i]?=a_ x->σ[i]?=a_ (a_ v)->JF X.env.scope x->∃u,RelV v u/\Look X.env s.heap m x u
 cell:∀x c,X.env.cells.lookup x=a_ c->∃v,s.heap.IsCell c v
 free:H X.env.locals=b_
 freeC:∀x c,X.env.cells.lookup x=a_ c->H c=b_
 pin:∀p∈X.pn++h_,s.heap.get? p.1=a_ p.2/\H p.1=b_/\p.1≠X.env.locals/\p.1∉X.fs/\∀v,p.2.data≠.cell v
 hok:oy X.prog X.w H s.heap
 len:σ.length=X.N.length
section
variable{X:Cx}{h_:List (af×er)}{σ:List (Option V)}{H H':Hp}{s:ae}{h':bx}
def Cx.Ok.QO(ok:X.Ok){b:af}{o:er}(e:X.base.get? b=a_ o):b∉X.fs:=λhb=>by
 have:=(ok.oZ.mem hb).1;rw[e]at this;cases this
def Inv.bs(I:Inv X h_ σ H s):∀b o,X.base.get? b=a_ o->s.heap.get? b=a_ o/\H b=b_:=λb o e=>
 ⟨I.base.keep b o (I.ok.bs b o e).1 (I.ok.bs b o e).2 (I.ok.QO e) (I.ok.noex b o e),I.base.free b o (I.ok.bs b o e).1 (I.ok.bs b o e).2 (I.ok.noex b o e)⟩
def Inv.bk(I:Inv X h_ σ H s):∀b o,X.base.get? b=a_ o->s.heap.get? b=a_ o:=λb o e=>(I.bs b o e).1
def Inv.mod(I:Inv X h_ σ H s):Mod X.K X.mg X.base:=I.ok.mod
def Inv.rR(I:Inv X h_ σ H s):X.K.In s.heap:=I.ok.mod.kin.keeps I.bk
def Inv.fr(I:Inv X h_ σ H s):∃m,Fr X.base X.env.locals s.heap m:=
 let ⟨m,hn,_⟩:=I.loc
 ⟨m,hn,I.bk,cW I.ok.bsz I.ok.above⟩
def Inv.lt(I:Inv X h_ σ H s):X.env.locals<s.heap.objs.size:=let ⟨_,hn,_⟩:=I.loc;hn.lt
def Inv.sz(I:Inv X h_ σ H s):X.s₀.heap.objs.size<=s.heap.objs.size:=cW I.ok.above (mY I.lt)
def Inv.Ux(I:Inv X h_ σ H s){a:af}(h:s.heap.objs.size<=a):a∉X.fs:=λhb=>by
 obtain⟨_,o,ho,_⟩:=I.ok.oZ.mem hb;exact absurd (aY (hl9 ho) (cW I.sz h)) (bC _)
def Inv.OE(I:Inv X h_ σ H s):∀x c,X.env.cells.lookup x=a_ c->c≠X.env.locals:=λx c e z=>by
 obtain⟨v,o,ho,hd⟩:=I.cell x c e;obtain⟨m,⟨o',es,ep,ho',hd',_⟩,_⟩:=I.loc;rw[z,ho']at ho;cases ho;rw[hd']at hd;cases hd
theorem Inv.oZ(I:Inv X h_ σ H s):s.heap.FunFrames X.base X.outer:=by
 have all:∀(l:List mK),(∀b∈mH l,b∈X.fs)->X.s₀.heap.FunFrames X.base l->s.heap.FunFrames X.base l:=by
  intro l
  induction l with
  |nil=>intro _ _;trivial
  |cons env r ih=>
    intro hs hl;obtain⟨hk,⟨L,o,hf,hn,ho,hd⟩,hr⟩:=hl;have hL:L∈X.fs:=hs L (by unfold mH;rw[pC,hf];exact jB);obtain⟨sl,e⟩:=I.base.slot L o ho (I.ok.frf L hL) hL λz=>I.ok.exfs L z hL;exact⟨hk,⟨L,_,hf,hn,e,hd⟩,ih (λb hb=>hs b (by unfold mH;rw[pC,hf];exact jN _ hb)) hr⟩
 exact all X.outer (λ_ hb=>hb) I.ok.oZ
def Inv.stack(I:Inv X h_ σ H s):s.heap.FunFrames X.base X.stack:=by
 rcases I.ok.Kz with e|⟨e,hf⟩
 ·rw[e];exact I.oZ
 ·rw[e];obtain⟨m,hn,_⟩:=I.loc;refine .cons (by rw[I.ok.kind];decide) hf hn ?_ I.oZ;exact oz (cW I.ok.bsz I.ok.above)
def Inv.sO(I:Inv X h_ σ H s):∀b∈mH X.stack,b∈X.env.locals::X.fs:=λb hb=>by
 rcases I.ok.Kz with e|⟨e,hf⟩
 ·rw[e]at hb;exact jN _ hb
 ·rw[e]at hb;unfold mH at hb;rw[pC,hf]at hb;exact hb
def Inv.wC(I:Inv X h_ σ H s):∀b∈mH X.stack,H b=b_:=λb hb=>by
 rcases ah.mp (I.sO b hb)with e|hb
 ·rw[e];exact I.free
 ·obtain⟨_,o,ho,_⟩:=I.ok.oZ.mem hb;exact I.base.free b o ho (I.ok.frf b hb) λz=>I.ok.exfs b z hb
def Inv.step{g':Array om}{t':Nat}{d':Ka}{ch:List af}(I:Inv X h_ σ H s)
  (hch:∀b∈ch,(b∈X.ex\/X.s₀.heap.objs.size<=b)/\b≠X.env.locals/\(∀x c,X.env.cells.lookup x=a_ c->c≠b)/\∀p∈X.pn++h_,p.1≠b)
  (keep:∀b o,b≠X.env.locals->b∉X.fs->b∉ch->s.heap.get? b=a_ o->H b=b_->h'.get? b=a_ o)
  (slot:∀b o,b≠X.env.locals->b∈X.fs->b∉ch->s.heap.get? b=a_ o->H b=b_->∃sl,h'.get? b=a_ { o with slots:=sl })(free:∀b o,b∉ch->s.heap.get? b=a_ o->H b=b_->H' b=b_)
  (there:∀b o,b∉ch->s.heap.get? b=a_ o->∃o',h'.get? b=a_ o')
  (tups:∀b xs,H b=a_ (.tup xs)->H' b=a_ (.tup xs))(frzs:∀b o u,H b=a_ (.kh o u)->H' b=a_ (.kh o u))(tbls:∀b ps,H b=a_ (.tbl ps)->∃more,H' b=a_ (.tbl (ps++more)))
  (ns:∀m,s.heap.Ns X.env.locals m->h'.Ns X.env.locals m)(hok:oy X.prog X.w H' h')(hg:jZ g') :
  Inv X h_ σ H' { s with heap:=h',gens:=g',drawn:=d',toks:=t' }:=by
 have neL:∀b o,X.s₀.heap.get? b=a_ o->b≠X.env.locals:=λb o e=>ba (aY (hl9 e) I.ok.above)
 have neC:∀b o,X.s₀.heap.get? b=a_ o->b∉X.ex->b∉ch:=λb o e hx hb=>by
  rcases(hch b hb).1 with z|z
  ·exact hx z
  ·exact absurd (aY (hl9 e) z) (bC _)
 have cellK:∀x c,X.env.cells.lookup x=a_ c->∀v,s.heap.IsCell c v->h'.IsCell c v:=λx c e v z4=>by
  obtain⟨o,ho,hd⟩:=z4;have nch:c∉ch:=λz=>(hch c z).2.2.1 x c e rfl;by_cases hc:c∈X.fs
  ·obtain⟨sl,q⟩:=slot c o (I.OE x c e) hc nch ho (I.freeC x c e);exact⟨_,q,hd⟩
  ·exact⟨o,keep c o (I.OE x c e) hc nch ho (I.freeC x c e),hd⟩
 refine⟨I.ok,I.os,hg,⟨λb o e n hb hx=>?_,λb o e n hb hx=>?_,λb o e n hx=>?_,λb o e hx=>?_,λb xs e=>tups b xs (I.base.tups b xs e),λb o xs e=>frzs b o xs (I.base.frzs b o xs e),λb ps e=>?_⟩,?_,λx c e=>?_,?_,λx c e=>?_,λp hp=>?_,hok,I.len⟩
 ·exact keep b o (neL b o e) hb (neC b o e hx) (I.base.keep b o e n hb hx) (I.base.free b o e n hx)
 ·obtain⟨sl,e1⟩:=I.base.slot b o e n hb hx;obtain⟨sl',e2⟩:=slot b _ (neL b o e) hb (neC b o e hx) e1 (I.base.free b o e n hx);exact⟨sl',e2⟩
 ·obtain⟨o',e1⟩:=I.base.there b o e hx;exact free b o' (neC b o e hx) e1 (I.base.free b o e n hx)
 ·obtain⟨o',e1⟩:=I.base.there b o e hx;exact there b o' (neC b o e hx) e1
 ·obtain⟨m1,e1⟩:=I.base.tbls b ps e;obtain⟨m2,e2⟩:=tbls b _ e1;exact⟨m1++m2,by rw[e2,D2]⟩
 ·obtain⟨m,hn,hl⟩:=I.loc;refine⟨m,ns m hn,λi x v e1 e2 e3=>?_⟩;obtain⟨u,r,l⟩:=hl i x v e1 e2 e3;refine⟨u,r,?_⟩
  rcases l with l|⟨k,c,e,z⟩
  ·exact .inl l
  ·exact .inr ⟨k,c,e,cellK x c e _ z⟩
 ·obtain⟨v,z⟩:=I.cell x c e;exact⟨v,cellK x c e v z⟩
 ·obtain⟨m,⟨o,_,_,ho,_⟩,_⟩:=I.loc;exact free _ o (λz=>(hch _ z).2.1 rfl) ho I.free
 ·obtain⟨v,o,ho,hd⟩:=I.cell x c e;exact free c o (λz=>(hch c z).2.2.1 x c e rfl) ho (I.freeC x c e)
 ·obtain⟨e,n,ne,nf,d⟩:=I.pin p hp;have nch:p.1∉ch:=λz=>(hch p.1 z).2.2.2 p hp rfl;exact⟨keep p.1 p.2 ne nf nch e n,free p.1 p.2 nch e n,ne,nf,d⟩
def Inv.un{t':Nat}(I:Inv X h_ σ H s)(u:Un X.fs [] H H' s.heap h')(hok:oy X.prog X.w H' h'):Inv X h_ σ H' { s with heap:=h',toks:=t' }:=by
 obtain⟨m,⟨o,es,ep,ho,r⟩,_⟩:=id I.loc;obtain⟨sl,hL⟩:=u.any ho I.free (by simp)
 exact I.step (g':=s.gens) (d':=s.drawn) (ch:=[]) (λ_ z=>nomatch z) (λb o _ hb _ e n=>u.keep b o e n hb (by simp)) (λb o _ hb _ e n=>u.slot b o e n hb (by simp)) (λb o _ e n=>u.free b o e n (by simp)) (λb o _ e=>u.there b o e (by simp)) u.tups u.frzs u.tbls (λm' hm=>by
  obtain⟨o',es',ep',ho',r'⟩:=hm;rw[ho]at ho';cases ho'
  exact⟨_,es',ep',hL,r'⟩) hok I.bare
def Inv.call{g':Array om}{t':Nat}{d':Ka}{ch:List af}(I:Inv X h_ σ H s)(u:Un (mH X.stack) ch H H' s.heap h')(hok:oy X.prog X.w H' h')(hg:jZ g')
  (hch:∀b∈ch,(b∈X.ex\/X.s₀.heap.objs.size<=b)/\b≠X.env.locals/\(∀x c,X.env.cells.lookup x=a_ c->c≠b)/\∀p∈X.pn++h_,p.1≠b) :
  Inv X h_ σ H' { s with heap:=h',gens:=g',drawn:=d',toks:=t' }:=by
 obtain⟨m,⟨o,es,ep,ho,r⟩,_⟩:=id I.loc;obtain⟨sl,hL⟩:=u.any ho I.free λz=>(hch _ z).2.1 rfl
 exact I.step (ch:=ch) hch (λb o hL hb hc e n=>u.keep b o e n (λz=>(ah.mp (I.sO b z)).elim hL hb) hc) (λb o _ _ hc e n=>u.any e n hc) (λb o hc e n=>u.free b o e n hc) (λb o hc e=>u.there b o e hc) u.tups u.frzs u.tbls (λm' hm=>by
  obtain⟨o',es',ep',ho',r'⟩:=hm;rw[ho]at ho';cases ho'
  exact⟨_,es',ep',hL,r'⟩) hok hg
def Inv.turned{t':Nat}{it:af}(I:Inv X h_ σ H s)(k:∀b o,b≠it->s.heap.get? b=a_ o->h'.get? b=a_ o)(hn:H it=b_)(hL:it≠X.env.locals)
  (h1:it∈X.ex\/X.s₀.heap.objs.size<=it)(h2:∀x c,X.env.cells.lookup x=a_ c->c≠it)(h3:∀p∈X.pn++h_,p.1≠it):Inv X h_ σ H { s with heap:=h',toks:=t' }:=by
 have nit:∀b u,H b=a_ u->b≠it:=λb u e z=>by rw[z,hn]at e;cases e
 refine I.step (g':=s.gens) (d':=s.drawn) (ch:=[it]) (λb hb=>?_) (λb o _ _ hc e _=>k b o (λz=>hc (by simp[z])) e) (λb o _ _ hc e _=>⟨o.slots,k b o (λz=>hc (by simp[z])) e⟩) (λ_ _ _ _ n=>n)
  (λb o hc e=>⟨o,k b o (λz=>hc (by simp[z])) e⟩) (λ_ _ e=>e) (λ_ _ _ e=>e) (λb ps e=>⟨#[],by rw[e];simp⟩) (λm hm=>?_) (λb u e=>?_) I.bare
 ·have e:b=it:=by simpa using hb
  subst e;exact⟨h1,hL,h2,h3⟩
 ·obtain⟨o,es,ep,ho,r⟩:=hm;exact⟨o,es,ep,k _ o (eW hL) ho,r⟩
 ·refine(I.hok b u e).lM (λc v hc q=>k c v ?_ q) (λ_ q=>q) λ_ _ q=>q
  rcases hc with z|z
  ·rw[z];exact nit b u e
  ·exact nit c _ z
def Inv.tok(I:Inv X h_ σ H s)(t:Nat):Inv X h_ σ H { s with toks:=t }:=I.un (h':=s.heap) (t':=t) Un.refl I.hok
def Inv.kept{t':Nat}(I:Inv X h_ σ H s)(k:∀b u,s.heap.get? b=a_ u->h'.get? b=a_ u):Inv X h_ σ H { s with heap:=h',toks:=t' }:=I.un (Un.kept k) (I.hok.kept k)
def Inv.laid{a:af}{o:HO}{t':Nat}(I:Inv X h_ σ H s)(k:∀b u,s.heap.get? b=a_ u->h'.get? b=a_ u)(hp:s.heap.objs.size<=a)(new:hJ X.prog X.w (upd H a o) h' a o) :
  Inv X h_ σ (upd H a o) { s with heap:=h',toks:=t' }:=I.un (Un.laid k hp (I.hok.fresh hp)) (I.hok.laid k hp new)
def Inv.write{x e:af}{o:HO}{t':Nat}(I:Inv X h_ σ H s)(mu:Tb (H x))(he:e=x\/H e=a_ (.own x))(k:∀b u,b≠e->s.heap.get? b=a_ u->h'.get? b=a_ u)(heo:∃u,h'.get? e=a_ u)
  (new:hJ X.prog X.w (upd H x o) h' x o):Inv X h_ σ (upd H x o) { s with heap:=h',toks:=t' }:=I.un (Un.write mu he k heo) (I.hok.write mu he k heo new)
def Inv.weak{σ':List (Option V)}(I:Inv X h_ σ H s)(hl:σ'.length=σ.length)(w:∀(i:Nat)v,σ'[i]?=a_ (a_ v)->σ[i]?=a_ (a_ v)):Inv X h_ σ' H s:=
 ⟨I.ok,I.os,I.bare,I.base,let ⟨m,hn,hl'⟩:=I.loc;⟨m,hn,λi x v e1 e2 e3=>hl' i x v e1 (w i v e2) e3⟩,I.cell,I.free,I.freeC,I.pin,I.hok,hl.trans I.len⟩
def Inv.pU{pins':List (af×er)}(I:Inv X h_ σ H s)(h:∀p∈pins',s.heap.get? p.1=a_ p.2/\H p.1=b_/\p.1≠X.env.locals/\p.1∉X.fs/\∀v,p.2.data≠.cell v):Inv X pins' σ H s:=
 ⟨I.ok,I.os,I.bare,I.base,I.loc,I.cell,I.free,I.freeC,λp hp=>(aK.mp hp).elim (λz=>I.pin p (aL _ z)) (h p),I.hok,I.len⟩
def yZ{N:List aN}(hN:N.Nodup){i j:Nat}{x:aN}(a:N[i]?=a_ x)(b:N[j]?=a_ x):i=j:=by
 obtain⟨h1,e1⟩:=a9.mp a;obtain⟨h2,e2⟩:=a9.mp b;exact(List.getElem_inj hN).mp (e1.trans e2.symm)
def Eb{M:xZ}{A:bp}{E:aa->ae->Prop}{i:Nat}{x:aN}{v:V}{u:aa}{Q:Unit->ae->Prop}(I:Inv X h_ σ H s)(hN:X.N.Nodup)(hi:X.N[i]?=a_ x)(hx:Loc X.env.scope x)(r:RelV v u)
  (h:∀s',Inv X h_ (σ.set i (a_ v)) H s'->(∃a,dB a s.heap s'.heap/\(a=X.env.locals\/X.env.cells.lookup x=a_ a))->Q () s')(hf:X.fn x=c_\/X.env.scope.names.lookup x=a_ .local):aA M A (storeName X.env x u) Q E s:=by
 obtain⟨m,hn,hl⟩:=id I.loc;have hcls:(X.env.scope.kind == .class || (X.env.scope.kind == .module && X.env.locals != X.env.globals))=d_:=by rw[I.ok.kind];rfl
 have hiσ:i<σ.length:=by rw[I.len];exact(a9.mp hi).1
 have OE:=I.OE
 have tracked:∀{a:af}{h':bx},(∃o,s.heap.get? a=a_ o/\H a=b_)->dB a s.heap h'->oy X.prog X.w H h':=λ{a h'}ha hs b ob e=>by
  obtain⟨_,_,hfree⟩:=ha;refine(I.hok b ob e).lM (λc w' hc q=>(hs.2 c ?_).trans q) (λ_ q=>q) λ_ _ q=>q;rintro rfl
  rcases hc with rfl|hc
  ·rw[hfree]at e;cases e
  ·rw[hfree]at hc;cases hc
 rcases hx with hk|hk
 ·refine wpAny_storeName_local hk hn (λh' hn' hs=>?_) hcls;obtain⟨oL,_,_,hoL,_⟩:=id hn;refine h _ ⟨I.ok,I.os,I.bare,⟨λb o e n hb hx=>?_,λb o e n hb hx=>?_,I.base.free,λb o e hx=>?_,I.base.tups,I.base.frzs,I.base.tbls⟩,⟨_,hn',λj y v' e1 e2 e3=>?_⟩,λy c e=>?_,I.free,I.freeC,λp hp=>?_,tracked ⟨oL,hoL,I.free⟩ hs,by simpa using I.len⟩ ⟨_,hs,.inl rfl⟩
  ·exact(hs.2 b (ba (aY (hl9 e) I.ok.above))).trans (I.base.keep b o e n hb hx)
  ·obtain⟨sl,e1⟩:=I.base.slot b o e n hb hx;exact⟨sl,(hs.2 b (ba (aY (hl9 e) I.ok.above))).trans e1⟩
  ·obtain⟨o',e1⟩:=I.base.there b o e hx;exact⟨o',(hs.2 b (ba (aY (hl9 e) I.ok.above))).trans e1⟩
  ·by_cases hj:j=i
   ·subst hj;rw[hi]at e1;cases e1;rw[jj hiσ]at e2;cases e2;exact⟨u,r,.inl ⟨hk,by simp⟩⟩
   ·rw[cH (eW hj)]at e2;obtain⟨u',r',q⟩:=hl j y v' e1 e2 e3;refine⟨u',r',?_⟩
    rcases q with⟨k,e⟩|⟨k,c,e,z⟩
    ·refine .inl ⟨k,?_⟩;have:y≠x:=λe=>hj (yZ hN e1 (e▸hi));simp[this,e]
    ·exact .inr ⟨k,c,e,z.sameBut hs (OE y c e)⟩
  ·obtain⟨w',z⟩:=I.cell y c e;exact⟨w',z.sameBut hs (OE y c e)⟩
  ·obtain⟨e,n,ne,nf,d⟩:=I.pin p hp;exact⟨(hs.2 p.1 ne).trans e,n,ne,nf,d⟩
 ·have hfn:X.fn x=c_:=by
   rcases hf with z|z
   ·exact z
   ·rw[z]at hk;cases hk
  obtain⟨c,hc⟩:=I.ok.has x (.inl hk);obtain⟨w',z⟩:=I.cell x c hc;refine wpAny_storeName_cell I.ok.kind hk hc z (λh' hc' hs=>?_);obtain⟨oc,hoc,hocd⟩:=id z;refine h { s with heap:=h' } ⟨I.ok,I.os,I.bare,⟨λb o e n hb hx=>?_,λb o e n hb hx=>?_,I.base.free,λb o e hx=>?_,I.base.tups,I.base.frzs,I.base.tbls⟩,⟨m,hn.sameBut hs (eW (OE x c hc)),λj y v' e1 e2 e3=>?_⟩,λy c' e=>?_,I.free,I.freeC,λp hp=>?_,tracked ⟨oc,hoc,I.freeC x c hc⟩ hs,by simpa using I.len⟩ ⟨c,hs,.inr hc⟩
  ·exact(hs.2 b (ba (aY (hl9 e) (I.ok.cab x c hfn hc)))).trans (I.base.keep b o e n hb hx)
  ·obtain⟨sl,e1⟩:=I.base.slot b o e n hb hx;exact⟨sl,(hs.2 b (ba (aY (hl9 e) (I.ok.cab x c hfn hc)))).trans e1⟩
  ·obtain⟨o',e1⟩:=I.base.there b o e hx;exact⟨o',(hs.2 b (ba (aY (hl9 e) (I.ok.cab x c hfn hc)))).trans e1⟩
  ·by_cases hj:j=i
   ·subst hj;rw[hi]at e1;cases e1;rw[jj hiσ]at e2;cases e2;exact⟨u,r,.inr ⟨.inl hk,c,hc,hc'⟩⟩
   ·rw[cH (eW hj)]at e2;obtain⟨u',r',q⟩:=hl j y v' e1 e2 e3;refine⟨u',r',?_⟩
    rcases q with q|⟨k,c',e,z'⟩
    ·exact .inl q
    ·refine .inr ⟨k,c',e,z'.sameBut hs ?_⟩;rintro rfl;exact hj (yZ hN e1 (I.ok.inj _ _ _ e hc▸hi))
  ·by_cases hcc:c'=c
   ·subst hcc;exact⟨_,hc'⟩
   ·obtain⟨w2,z2⟩:=I.cell y c' e;exact⟨w2,z2.sameBut hs hcc⟩
  ·obtain⟨e,n,ne,nf,d⟩:=I.pin p hp;refine⟨(hs.2 p.1 ?_).trans e,n,ne,nf,d⟩;intro q;rw[q,hoc]at e;have q':oc=p.2:=aP e;exact d w' (by rw[<-q'];exact hocd)
def ni{M:xZ}{A:bp}{E:aa->ae->Prop}{i:Nat}{x:aN}{v:V}{u:aa}{Q:Unit->ae->Prop}(I:Inv X h_ σ H s)(hN:X.N.Nodup)(hi:X.N[i]?=a_ x)(hx:Loc X.env.scope x)(r:RelV v u)
  (h:∀s',Inv X h_ (σ.set i (a_ v)) H s'->Q () s')(hf:X.fn x=c_\/X.env.scope.names.lookup x=a_ .local):aA M A (storeName X.env x u) Q E s:=
 Eb I hN hi hx r (λs' I' _=>h s' I') hf
def Inv.OF{s':ae}{ch:List af}(I:Inv X h_ σ H s)(ho:s'.os=s.os)(u:Un (mH X.stack) ch H H' s.heap s'.heap)(hok:oy X.prog X.w H' s'.heap)(hg:jZ s'.gens)
  (hch:∀b∈ch,(b∈X.ex\/X.s₀.heap.objs.size<=b)/\b≠X.env.locals/\(∀x c,X.env.cells.lookup x=a_ c->c≠b)/\∀p∈X.pn++h_,p.1≠b):Inv X h_ σ H' s':=by
 obtain⟨h',g',d',t',o'⟩:=s';have e:o'=s.os:=ho;subst e;exact I.call (g':=g') (t':=t') (d':=d') u hok hg hch
end
noncomputable abbrev XK:=aa->Option af->Hp->Prop
noncomputable abbrev St:=List (Option V)
noncomputable abbrev VK:=V->Hp->Prop
noncomputable abbrev TE:=St->Hp->VK->Prop
noncomputable abbrev TT:=St->Hp->(Bool->Hp->Prop)->Prop
noncomputable abbrev TA:=St->Hp->(List V->Hp->Prop)->Prop
structure Ends where
 nx:St->Hp->Prop
 rt:VK
 bk:St->Hp->Prop:=λ_ _=>False
 ct:St->Hp->Prop:=λ_ _=>False
noncomputable abbrev TS:=Ends->St->Hp->Prop
def EP(X:Cx)(h_:List (af×er))(σ:St)(Q:VK)(u:aa)(s':ae):Prop:=∃v H',Inv X h_ σ H' s'/\RelV v u/\Q v H'
def TP(X:Cx)(h_:List (af×er))(σ:St)(Q:Bool->Hp->Prop)(b:Bool)(s':ae):Prop:=∃H',Inv X h_ σ H' s'/\Q b H'
def AP(X:Cx)(h_:List (af×er))(σ:St)(Q:List V->Hp->Prop)(us:List aa)(s':ae):Prop:=∃vs H',Inv X h_ σ H' s'/\bZ vs us/\Q vs H'
def SP(X:Cx)(h_:List (af×er))(D:Ends)(f:Flow)(s':ae):Prop:=
 match f with
 |.next=>∃σ' H',Inv X h_ σ' H' s'/\D.nx σ' H'
 |.brk=>∃σ' H',Inv X h_ σ' H' s'/\D.bk σ' H'
 |.cont=>∃σ' H',Inv X h_ σ' H' s'/\D.ct σ' H'
 |.ret u=>∃v σ' H',Inv X h_ σ' H' s'/\RelV v u/\D.rt v H'
def PE(X:Cx)(e:aF)(t:TE):Prop:=
 ∀(h_:List (af×er))(s:ae)(σ:St)(H:Hp)(Q:VK),Inv X h_ σ H s->t σ H Q->aA (aE X.prog X.w) X.A (eval e X.env) (EP X h_ σ Q) X.xe s
def PT(X:Cx)(e:aF)(t:TT):Prop:=
 ∀(h_:List (af×er))(s:ae)(σ:St)(H:Hp)(Q:Bool->Hp->Prop),Inv X h_ σ H s->t σ H Q->aA (aE X.prog X.w) X.A (isTrue e X.env (eval e X.env)) (TP X h_ σ Q) X.xe s
def PW(X:Cx)(e:aF)(t:TT):Prop:=
 ∀(whole:Sem aa)(h_:List (af×er))(s:ae)(σ:St)(H:Hp)(Q:Bool->Hp->Prop),Inv X h_ σ H s->t σ H Q->aA (aE X.prog X.w) X.A (isTrue e X.env whole) (TP X h_ σ Q) X.xe s
def PW.pt{X:Cx}{e:aF}{t:TT}(h:PW X e t):PT X e t:=h _
def PA(X:Cx)(es:List aF)(t:TA):Prop:=
 ∀(pos:dZ)(h_:List (af×er))(s:ae)(σ:St)(H:Hp)(Q:List V->Hp->Prop),Inv X h_ σ H s->t σ H Q->aA (aE X.prog X.w) X.A (spliced (backTo pos (aI es X.env))) (AP X h_ σ Q) X.xe s
def PS(X:Cx)(st:fw)(t:TS):Prop:=
 ∀(h_:List (af×er))(s:ae)(σ:St)(H:Hp)(D:Ends),Inv X h_ σ H s->t D σ H->aA (aE X.prog X.w) X.A (exec st X.env) (SP X h_ D) X.xe s
def B5(X:Cx)(st:List fw)(t:TS):Prop:=
 ∀(h_:List (af×er))(s:ae)(σ:St)(H:Hp)(D:Ends),Inv X h_ σ H s->t D σ H->aA (aE X.prog X.w) X.A (execs st X.env) (SP X h_ D) X.xe s
def fW{α:Type}{t:Sem α}{Q Q':α->ae->Prop}{M:xZ}{A:bp}{E:aa->ae->Prop}{s:ae}(h:aA M A t Q E s)(hQ:∀a s,Q a s->Q' a s):aA M A t Q' E s:=bJ h hQ λ_ _ x=>x
section
variable{X:Cx}
def bin{a b:aF}{ta tb:TE}(ha:PE X a ta)(hb:PE X b tb){h_:List (af×er)}{s:ae}{σ:St}{H:Hp}{R:V->V->Hp->Prop}(I:Inv X h_ σ H s)(h:ta σ H λx H1=>tb σ H1 λy H2=>R x y H2)
  {α:Type}{Q:α->ae->Prop}{f:aa->aa->Sem α}
  (hf:∀v u s2 x y H2,Inv X h_ σ H2 s2->RelV x v->RelV y u->R x y H2->aA (aE X.prog X.w) X.A (f v u) Q X.xe s2) :
  aA (aE X.prog X.w) X.A (eval a X.env) (λv s₁=>aA (aE X.prog X.w) X.A (eval b X.env) (λu s₂=>aA (aE X.prog X.w) X.A (f v u) Q X.xe s₂) X.xe s₁) X.xe s:=by
 refine fW (ha h_ s σ H _ I h) λv s1 ⟨x,H1,I1,r1,q1⟩=>?_;refine fW (hb h_ s1 σ H1 _ I1 q1) λu s2 ⟨y,H2,I2,r2,q2⟩=>?_;exact hf v u s2 x y H2 I2 r1 r2 q2
noncomputable def AX(i:Nat):TE:=λσ H Q=>∃v,σ[i]?=a_ (a_ v)/\Q v H
noncomputable def tC(v:V):TE:=λ_ H Q=>Q v H
def nv{i:Nat}{x:aN}{pos:dZ}(hN:X.N[i]?=a_ x)(hv:JF X.env.scope x)(hd:(x == ("__debug__":aN))=d_)(hcd:(x == ("__classdict__":aN))=d_):PE X (.Name x pos) (AX i):=by
 intro h_ s σ H Q I h;obtain⟨v,e,h⟩:=h;obtain⟨m,hn,hl⟩:=I.loc;obtain⟨u,r,l⟩:=hl i x v hN e hv;have fin:EP X h_ σ Q u s:=⟨v,H,I,r,h⟩
 rcases l with⟨hk,hm⟩|⟨hk,c,hc,hcell⟩
 ·exact wpAny_Name (wpAny_loadName_local I.ok.kind hk hn hm fin) hd
 ·rcases hk with hk|hk
  ·exact wpAny_Name (wpAny_loadName_cell I.ok.kind hk hc hcell fin) hd
  ·exact wpAny_Name (wpAny_loadName_free I.ok.kind hk hc hcell fin hcd) hd
def Hv{i j pos}:PE X (.Constant (.int i) j pos) (tC (.int i)):=λ_ _ _ H _ I h=>wpAny_Constant_int ⟨.int i,H,I.tok _,⟨_,rfl⟩,h⟩
def Um{b j pos}:PE X (.Constant (.bool b) j pos) (tC (.bl b)):=λ_ _ _ H _ I h=>Constant_bool ⟨.bl b,H,I,rfl,h⟩
def Qp{j pos}:PE X (.Constant .none j pos) (tC .non):=λ_ _ _ H _ I h=>Constant_none ⟨.non,H,I,rfl,h⟩
def Qn{x j pos}:PE X (.Constant (.str x) j pos) (tC (.str x)):=λ_ _ _ H _ I h=>Calls.Constant_str ⟨.str x,H,I.tok _,⟨_,rfl⟩,h⟩
def Gl(X:Cx)(x:aN):Prop:=X.env.kindOf x=a_ .globalImplicit
def n4{E:aa->ae->Prop}{h_:List (af×er)}{s:ae}{σ:St}{H:Hp}{x:aN}{u:aa}{pos:dZ}{Q:aa->ae->Prop}(I:Inv X h_ σ H s)(hg:Gl X x)(hm:X.mg x=a_ u)(h:Q u s)
  (hd:(x == ("__debug__":aN))=d_):aA (aE X.prog X.w) X.A (eval (.Name x pos) X.env) Q E s:=
 uC I.ok.kind hg (Calls.loadGlobal_global (by rw[I.ok.glob];exact I.mod.glob.keeps I.bk) hm h) hd
def nE{E:aa->ae->Prop}{h_:List (af×er)}{s:ae}{σ:St}{H:Hp}{x:aN}{u:aa}{pos:dZ}{Q:aa->ae->Prop}(I:Inv X h_ σ H s)(hg:Gl X x)(hm:X.mg x=b_)(hv:bootBuiltins x=a_ u)(h:Q u s)
  (hn:x≠"__name__":=by decide)(hd:(x == ("__debug__":aN))=d_:=by decide):aA (aE X.prog X.w) X.A (eval (.Name x pos) X.env) Q E s:=by
 obtain⟨mb,h1,h2⟩:=I.mod.blt;exact uC I.ok.kind hg (Calls.loadGlobal_builtin (by rw[I.ok.glob];exact I.mod.glob.keeps I.bk) hm (by rw[I.ok.blt];exact h1.keeps I.bk) ((h2 x hn).trans hv) h) hd
def wQ{x:aN}{v:V}{u:aa}{pos:dZ}(hg:Gl X x)(hm:X.mg x=a_ u)(r:RelV v u)(hd:(x == ("__debug__":aN))=d_):PE X (.Name x pos) (tC v):=
 λ_ _ _ H _ I h=>n4 I hg hm ⟨v,H,I,r,h⟩ hd
def CW{x:aN}{v:V}{u:aa}{pos:dZ}(hg:Gl X x)(hm:X.mg x=b_)(hv:bootBuiltins x=a_ u)(r:RelV v u)(hn:x≠"__name__")(hd:(x == ("__debug__":aN))=d_):PE X (.Name x pos) (tC v):=
 λ_ _ _ H _ I h=>nE I hg hm hv ⟨v,H,I,r,h⟩ hn hd
variable{a b:aF}{ta tb:TE}{pos:dZ}
variable{tA tB':TT}{rest:List aF}
noncomputable def V9(t u:TT):TT:=λσ H Q=>t σ H λc H1=>if c=c_ then u σ H1 Q else Q d_ H1
noncomputable def XZ(t u:TT):TT:=λσ H Q=>t σ H λc H1=>if c=c_ then Q c_ H1 else u σ H1 Q
noncomputable def V4(t:TT):TT:=λσ H Q=>t σ H λc H1=>Q (!c) H1
def Lv(ha:PT X a tA):PW X (.BoolOp .And [a] pos) tA:=by
 intro wh h_ s σ H Q I h;refine isTrue_and (fW (ha h_ s σ H Q I h) λc s1 e=>?_)
 cases c with
 |true=>exact isTrue_and_nil e
 |false=>exact e
def Qe(ha:PT X a tA):PW X (.BoolOp .Or [a] pos) tA:=by
 intro wh h_ s σ H Q I h;refine isTrue_or (fW (ha h_ s σ H Q I h) λc s1 e=>?_)
 cases c with
 |false=>exact isTrue_or_nil e
 |true=>exact e
def Qf(ha:PT X a tA)(hb:PW X (.BoolOp .And (b::rest) pos) tB'):PW X (.BoolOp .And (a::b::rest) pos) (V9 tA tB'):=by
 intro wh h_ s σ H Q I h;refine isTrue_and (fW (ha h_ s σ H _ I h) λc s1 ⟨H1,I1,q1⟩=>?_)
 cases c with
 |true=>exact hb wh h_ s1 σ H1 Q I1 q1
 |false=>exact⟨H1,I1,q1⟩
def Ua(ha:PT X a tA)(hb:PW X (.BoolOp .Or (b::rest) pos) tB'):PW X (.BoolOp .Or (a::b::rest) pos) (XZ tA tB'):=by
 intro wh h_ s σ H Q I h;refine isTrue_or (fW (ha h_ s σ H _ I h) λc s1 ⟨H1,I1,q1⟩=>?_)
 cases c with
 |true=>exact⟨H1,I1,q1⟩
 |false=>exact hb wh h_ s1 σ H1 Q I1 q1
def Qh(ha:PT X a tA):PT X (.UnaryOp .Not a pos) (V4 tA):=by
 intro h_ s σ H Q I h;exact isTrue_not (ha h_ s σ H (λc H1=>Q (!c) H1) I h)
noncomputable def Tt(ta tb:TE):TE:=λσ H Q=>ta σ H λx H1=>∃c,x=.bl c/\if c=c_ then tb σ H1 Q else Q (.bl d_) H1
noncomputable def V3(ta tb:TE):TE:=λσ H Q=>ta σ H λx H1=>∃c,x=.bl c/\if c=c_ then Q (.bl c_) H1 else tb σ H1 Q
def Qo{op}{t:TE}(h:PE X a t):PE X (.BoolOp op [a] pos) t:=λh_ s σ H Q I hw=>BoolOp_one (h h_ s σ H Q I hw)
def Qt(ha:PE X a ta)(hb:PE X (.BoolOp .And (b::rest) pos) tb):PE X (.BoolOp .And (a::b::rest) pos) (Tt ta tb):=by
 intro h_ s σ H Q I h;refine BoolOp_and (fW (ha h_ s σ H _ I h) λv s1 ⟨x,H1,I1,r1,q1⟩=>?_);obtain⟨c,rfl,q1⟩:=q1;cases r1;refine cY ?_
 cases c with
 |true=>exact hb h_ s1 σ H1 Q I1 q1
 |false=>exact⟨.bl d_,H1,I1,rfl,q1⟩
def Uk(ha:PE X a ta)(hb:PE X (.BoolOp .Or (b::rest) pos) tb):PE X (.BoolOp .Or (a::b::rest) pos) (V3 ta tb):=by
 intro h_ s σ H Q I h;refine BoolOp_or (fW (ha h_ s σ H _ I h) λv s1 ⟨x,H1,I1,r1,q1⟩=>?_);obtain⟨c,rfl,q1⟩:=q1;cases r1;refine cY ?_
 cases c with
 |false=>exact hb h_ s1 σ H1 Q I1 q1
 |true=>exact⟨.bl c_,H1,I1,rfl,q1⟩
noncomputable def X5(t:TT)(ta tb:TE):TE:=λσ H Q=>t σ H λc H1=>if c=c_ then ta σ H1 Q else tb σ H1 Q
def Hw{c:aF}(hc:PT X c tA)(ha:PE X a ta)(hb:PE X b tb):PE X (.IfExp c a b pos) (X5 tA ta tb):=by
 intro h_ s σ H Q I h;refine wpAny_IfExp (fW (hc h_ s σ H _ I h) λd s1 ⟨H1,I1,q1⟩=>?_)
 cases d with
 |true=>exact ha h_ s1 σ H1 Q I1 q1
 |false=>exact hb h_ s1 σ H1 Q I1 q1
end
def mB(K:aB)(H:Hp)(a:af)(xs:List V):Prop:=
 Rd H a (.lst xs)\/
  ∃(o:er) (its:Array aa) (n:Nat),K.lookup a=a_ o/\o.cls=.type "list"/\o.dict=b_/\o.data=.seq its n/\its.size<=aD/\bZ xs its.toList
def rL(K:aB)(H:Hp)(a:af)(xs:List V):Prop:=
 Rd H a (.tup xs)\/
  ∃(o:er) (its:Array aa) (n:Nat),K.lookup a=a_ o/\o.cls=.type "tuple"/\o.data=.seq its n/\its.size<=aD/\bZ xs its.toList
noncomputable def W6:aa->Option V
 |.none=>a_ .non
 |.bool b=>a_ (.bl b)
 |.int i _=>a_ (.int i)
 |.str x _=>a_ (.str x)
 |.bytes b _=>a_ (.byt b)
 |.float b _=>a_ (.flt b)
 |.ref a=>a_ (.ref a)
 |.type n=>a_ (.ty n)
 |_=>b_
def RelV.abs{x:V}{u:aa}(r:RelV x u):W6 u=a_ x:=by
 cases x with
 |non=>cases r;rfl
 |bl _=>cases r;rfl
 |int _=>obtain⟨t,rfl⟩:=r;rfl
 |str _=>obtain⟨t,rfl⟩:=r;rfl
 |byt _=>obtain⟨t,rfl⟩:=r;rfl
 |flt _=>obtain⟨t,rfl⟩:=r;rfl
 |ref _=>cases r;rfl
 |ty _=>cases r;rfl
def RelV.inj{x y:V}{u:aa}(r:RelV x u)(q:RelV y u):x=y:=aP (r.abs.symm.trans q.abs)
theorem bZ.inj:∀{xs ys:List V}{us:List aa},bZ xs us->bZ ys us->xs=ys
 |_,_,_,.nil,.nil=>rfl
 |_,_,_,.cons r t,.cons r' t'=>by rw[r.inj r',bZ.inj t t']
section
variable{X:Cx}{h_:List (af×er)}{σ:St}{H:Hp}{s:ae}{a:af}{xs ys:List V}
def mB.of{K:aB}(h:H a=a_ (.lst xs)):mB K H a xs:=.inl (.inl h)
def Inv.list(I:Inv X h_ σ H s)(h:mB X.K H a xs):∃its:List aa,bZ xs its/\PlainL s.heap a its.toArray/\xs.length<=aD:=by
 rcases h with h|⟨o,its,n,hk,hc,hd,hs,hz,r⟩
 ·obtain⟨z,its,n,r,e⟩:=h.ok I.hok;exact⟨its,r,⟨_,n,e,rfl,rfl,rfl⟩,z⟩
 ·refine⟨its.toList,r,⟨o,n,I.rR a o hk,hc,hd,by simpa using hs⟩,?_⟩;have e:=r.length;simp only[bA]at e;omega
def Inv.tuple(I:Inv X h_ σ H s)(h:rL X.K H a xs):∃its:List aa,bZ xs its/\Kc s.heap a its.toArray/\xs.length<=aD:=by
 rcases h with h|⟨o,its,n,hk,hc,hs,hz,r⟩
 ·obtain⟨z,its,r,p⟩:=h.ok I.hok;exact⟨its,r,p,z⟩
 ·refine⟨its.toList,r,⟨o,I.rR a o hk,hc,n,by simpa using hs⟩,?_⟩;have e:=r.length;simp only[bA]at e;omega
def Inv.p5(I:Inv X h_ σ H s)(h:mB X.K H a xs)(h':mB X.K H a ys):xs=ys:=by
 obtain⟨its,r,⟨o,n,e,_,_,d⟩,_⟩:=I.list h;obtain⟨its',r',⟨o',n',e',_,_,d'⟩,_⟩:=I.list h';rw[e]at e';cases e';rw[d]at d'
 injection d' with d1 _
 have:its=its':=by simpa using congrArg Array.toList d1
 subst this;exact r.inj r'
def Inv.nQ(I:Inv X h_ σ H s)(h:rL X.K H a xs)(h':rL X.K H a ys):xs=ys:=by
 obtain⟨its,r,⟨o,e,_,n,d⟩,_⟩:=I.tuple h;obtain⟨its',r',⟨o',e',_,n',d'⟩,_⟩:=I.tuple h';rw[e]at e';cases e';rw[d]at d'
 injection d' with d1 _
 have:its=its':=by simpa using congrArg Array.toList d1
 subst this;exact r.inj r'
end
noncomputable abbrev Cx.m7(X:Cx)(E:aa->ae->Prop):Cx:={ X with xe:=E }
noncomputable abbrev Cx.kl(X:Cx):Cx:=X.m7 λ_ _=>False
def Cx.Ok.m7{X:Cx}(ok:X.Ok)(E:aa->ae->Prop):(X.m7 E).Ok:=
 ⟨ok.mod,ok.kind,ok.glob,ok.blt,ok.above,ok.inj,ok.has,ok.cab,ok.hd,ok.frames,ok.Kz,ok.exf,ok.bs,ok.bsz,ok.noex,ok.exfs,ok.oZ,ok.frf⟩
def Cx.Ok.ik{X:Cx}{E:aa->ae->Prop}(ok:(X.m7 E).Ok):X.Ok:=
 ⟨ok.mod,ok.kind,ok.glob,ok.blt,ok.above,ok.inj,ok.has,ok.cab,ok.hd,ok.frames,ok.Kz,ok.exf,ok.bs,ok.bsz,ok.noex,ok.exfs,ok.oZ,ok.frf⟩
section
variable{X:Cx}{h_:List (af×er)}{σ:St}{H:Hp}{s:ae}{E:aa->ae->Prop}
def Inv.m7(I:Inv X h_ σ H s)(E:aa->ae->Prop):Inv (X.m7 E) h_ σ H s:=⟨I.ok.m7 E,I.os,I.bare,I.base,I.loc,I.cell,I.free,I.freeC,I.pin,I.hok,I.len⟩
def Inv.ik(I:Inv (X.m7 E) h_ σ H s):Inv X h_ σ H s:=⟨I.ok.ik,I.os,I.bare,I.base,I.loc,I.cell,I.free,I.freeC,I.pin,I.hok,I.len⟩
theorem SP.ik{D:Ends}{f:Flow}{s':ae}(h:SP (X.m7 E) h_ D f s'):SP X h_ D f s':=by
 cases f with
 |next=>obtain⟨σ',H',I,q⟩:=h;exact⟨σ',H',I.ik,q⟩
 |brk=>obtain⟨σ',H',I,q⟩:=h;exact⟨σ',H',I.ik,q⟩
 |cont=>obtain⟨σ',H',I,q⟩:=h;exact⟨σ',H',I.ik,q⟩
 |ret u=>obtain⟨v,σ',H',I,r,q⟩:=h;exact⟨v,σ',H',I.ik,r,q⟩
def PE.kl{e:aF}{t:TE}(h:PE X.kl e t):PE X e t:=λh_ s σ H Q I hw=>
 bJ (h h_ s σ H Q (I.m7 _) hw) (λ_ _ ⟨v,H',I',r,q⟩=>⟨v,H',I'.ik,r,q⟩) λ_ _ z=>bF z
def PT.kl{e:aF}{t:TT}(h:PT X.kl e t):PT X e t:=λh_ s σ H Q I hw=>
 bJ (h h_ s σ H Q (I.m7 _) hw) (λ_ _ ⟨H',I',q⟩=>⟨H',I'.ik,q⟩) λ_ _ z=>bF z
end
section
variable{X:Cx}{st:fw}{rest:List fw}{t u:TS}{e:aF}{te:TE}{pos:dZ}
noncomputable def To:TS:=λD σ H=>D.nx σ H
noncomputable def V1(t u:TS):TS:=λD σ H=>t { D with nx:=u D } σ H
def Lz:B5 X [] To:=λ_ _ σ H _ I h=>lr ⟨σ,H,I,h⟩
def Hg(h1:PS X st t)(h2:B5 X rest u):B5 X (st::rest) (V1 t u):=by
 intro h_ s σ H D I h;refine wd (fW (h1 h_ s σ H { D with nx:=u D } I h) λf s1 q=>?_)
 cases f with
 |next=>
   obtain⟨σ',H',I',q⟩:=q;exact h2 h_ s1 σ' H' D I' q
 |ret v=>exact q
 |brk=>exact q
 |cont=>exact q
def CO(h1:PS X st t):B5 X [st] t:=by
 intro h_ s σ H D I h;refine wd (fW (h1 h_ s σ H D I h) λf s1 q=>?_)
 cases f with
 |next=>exact lr q
 |ret v=>exact q
 |brk=>exact q
 |cont=>exact q
def Inv.quiet{h_:List (af×er)}{σ:St}{H:Hp}{s:ae}(I:Inv X h_ σ H s):interactive X.env=d_:=by simp[interactive,I.ok.kind]
noncomputable def Cj(te:TE):TS:=λD σ H=>te σ H λ_ H1=>D.nx σ H1
def pT(he:PE X e te)(hs:swapsWith e b_ pos.line X.env=pure d_):PS X (.Expr e pos) (Cj te):=by
 intro h_ s σ H D I h;exact wpAny_Expr_any (fW (he h_ s σ H _ I h) λv s1 ⟨x,H1,I1,r1,q1⟩=>⟨σ,H1,I1,q1⟩) I.quiet hs
noncomputable def V2(te:TE):TS:=λD σ H=>te σ H D.rt
def Bl(he:PE X e te):PS X (.Return (a_ e) pos) (V2 te):=by
 intro h_ s σ H D I h;exact wpAny_Return_some (fW (he h_ s σ H _ I h) λv s1 ⟨x,H1,I1,r1,q1⟩=>⟨x,σ,H1,I1,r1,q1⟩)
noncomputable def V6(c:TT)(t u:TS):TS:=λD σ H=>c σ H λb H1=>if b=c_ then t D σ H1 else u D σ H1
def Ub{c:aF}{a b:List fw}{tc:TT}(hc:PT X c tc)(ha:B5 X a t)(hb:B5 X b u):PS X (.If c a b pos) (V6 tc t u):=by
 intro h_ s σ H D I h;refine wpAny_If (fW (hc h_ s σ H _ I h) λd s1 ⟨H1,I1,q1⟩=>?_)
 cases d with
 |true=>exact ha h_ s1 σ H1 D I1 q1
 |false=>exact hb h_ s1 σ H1 D I1 q1
end
noncomputable abbrev TG:=V->St->Hp->(St->Hp->Prop)->Prop
noncomputable abbrev Fn:=List V->St->Hp->(St->Hp->Prop)->Prop
def PG(X:Cx)(target:aF)(t:TG):Prop:=
 ∀(h_:List (af×er))(s:ae)(σ:St)(H:Hp)(v:V)(u:aa)(Q:St->Hp->Prop),Inv X h_ σ H s->RelV v u->t v σ H Q->
  aA (aE X.prog X.w) X.A (assign target X.env u) (λ_ s'=>∃σ' H',Inv X h_ σ' H' s'/\Q σ' H') X.xe s
def Ta(X:Cx)(ts:List aF)(t:Fn):Prop:=
 ∀(h_:List (af×er))(s:ae)(σ:St)(H:Hp)(vs:List V)(us:List aa)(Q:St->Hp->Prop),Inv X h_ σ H s->bZ vs us->t vs σ H Q->
  aA (aE X.prog X.w) X.A (assignInOrder ((assignEach ts X.env).map (·.2)) us) (λ_ s'=>∃σ' H',Inv X h_ σ' H' s'/\Q σ' H') X.xe s
noncomputable abbrev Sw:=V->V->V->Hp->(Hp->Prop)->Prop
def NU(X:Cx)(t:Sw):Prop:=
 ∀(h_:List (af×er))(s:ae)(σ:St)(H:Hp)(o i v:V)(ov iv u:aa)(Q:Hp->Prop),Inv X h_ σ H s->RelV o ov->RelV i iv->RelV v u->t o i v H Q->
  aA (aE X.prog X.w) X.A (setItem ov iv u) (λ_ s'=>∃H',Inv X h_ σ H' s'/\Q H') X.xe s
section
variable{X:Cx}{pos:dZ}
noncomputable def jP(i:Nat):TG:=λv σ H Q=>Q (σ.set i (a_ v)) H
def CU{i:Nat}{x:aN}(hN:X.N.Nodup)(hi:X.N[i]?=a_ x)(hx:Loc X.env.scope x)(hf:X.fn x=c_\/X.env.scope.names.lookup x=a_ .local):PG X (.Name x pos) (jP i):=by
 intro h_ s σ H v u Q I r h;exact wpAny_assign_Name (ni I hN hi hx r (λs' I'=>⟨_,H,I',h⟩) hf)
noncomputable def EL:Fn:=λvs σ H Q=>vs=[]/\Q σ H
noncomputable def vR(t:TG)(u:Fn):Fn:=λvs σ H Q=>∃v r,vs=v::r/\t v σ H λσ' H'=>u r σ' H' Q
def CT:Ta X [] EL:=by
 intro h_ s σ H vs us Q I r h;obtain⟨e,h⟩:=h;subst e;cases r;exact assignInOrder_nil ⟨σ,H,I,h⟩
def yW{e:aF}{es:List aF}{t:TG}{u:Fn}(h1:PG X e t)(h2:Ta X es u)
  (hs:(assignEach (e::es) X.env).map (·.2)=assign e X.env::(assignEach es X.env).map (·.2):=by rfl):Ta X (e::es) (vR t u):=by
 intro h_ s σ H vs us Q I r h;obtain⟨v,vr,e1,h⟩:=h;subst e1
 cases r with
 |cons r rr=>
   rw[hs];refine assignInOrder_cons (fW (h1 h_ s σ H _ _ _ I r h) λ_ s1 ⟨σ1,H1,I1,q1⟩=>?_);exact h2 h_ s1 σ1 H1 _ _ Q I1 rr q1
noncomputable def IF(K:aB)(n:Nat)(t:Fn):TG:=λv σ H Q=>∃a xs,v=.ref a/\rL K H a xs/\xs.length=n/\t xs σ H Q
def Ho{es:List aF}{k:Nat}{t:Fn}{n:Nat}(hc:X.calm=c_)(h:Ta X es t)
  (hn:(assignEach es X.env).length=n)(hst:(assignEach es X.env).findIdx? (·.1)=b_):PG X (.Tuple es k pos) (IF X.K n t):=by
 intro h_ s σ H v u Q I r hw;obtain⟨a,xs,e1,hq,hl,hw⟩:=hw;subst e1;cases r;obtain⟨its,rv,ht,hz⟩:=I.tuple hq;refine assign_Tuple_tuple (I.ok.hd hc) ht (by simp[hn,<-hl,rv.length]) hst λh' hx=>?_;have I1:Inv X h_ σ H { s with heap:=h' }:=I.kept (t':=s.toks) λb o e=>hx b o (ba (hl9 e)) e;exact h h_ _ σ H xs _ Q I1 (by simpa using rv) hw
noncomputable def RB(to ti:TE)(t:Sw):TG:=λv σ H Q=>to σ H λo H1=>ti σ H1 λi H2=>t o i v H2 λH3=>Q σ H3
def Hr{o i:aF}{to ti:TE}{t:Sw}(ho:PE X o to)(hi:PE X i ti)(hs:NU X t)
  (ha:∀v,assign (.Subscript o i pos) X.env v=(do
   let ov <-holding [v] (eval o X.env);let iv <-holding [v,ov] (eval i X.env)
   standAt pos
   holding [v,ov,iv] (setItem ov iv v)
   release [v,ov,iv] []):=by intro _;rfl):PG X (.Subscript o i pos) (RB to ti t):=by
 intro h_ s σ H v u Q I r h;rw[ha];refine wb9 (cz (fW (ho h_ s σ H _ I h) λov s1 ⟨x,H1,I1,r1,q1⟩=>?_));refine wb9 (cz (fW (hi h_ s1 σ H1 _ I1 q1) λiv s2 ⟨y,H2,I2,r2,q2⟩=>?_));refine wb9 (kT (wb9 (cz (fW (hs h_ s2 σ H2 x y v ov iv u _ I2 r1 r2 r q2) λ_ s3 ⟨H3,I3,q3⟩=>?_))));exact wpAny_release ⟨σ,H3,I3,q3⟩
noncomputable def AZ(te:TE)(g:TG):TS:=λD σ H=>te σ H λx H1=>g x σ H1 D.nx
def Bm{tg e:aF}{te:TE}{g:TG}(he:PE X e te)(hg:PG X tg g)(hs:swapsWithSole [tg] e pos.line X.env=pure d_)(hw:swappedStores [tg] e X.env=pure b_)
  (h1:(assignEach [tg] X.env).map (·.2)=[assign tg X.env]):PS X (.Assign [tg] e pos) (AZ te g):=by
 intro h_ s σ H D I h;refine wpAny_Assign_stores (fW (he h_ s σ H _ I h) λv s1 ⟨x,H1,I1,r1,q1⟩=>?_) hs hw;rw[h1];exact fW (hg h_ s1 σ H1 x v _ I1 r1 q1) λ_ s2 q=>q
def Hh{i:Nat}{x:aN}{e:aF}{te:TE}{pos':dZ}(hN:X.N.Nodup)(hi:X.N[i]?=a_ x)(hx:Loc X.env.scope x)(he:PE X e te)(hs:swapsWith e (a_ (.Name x pos')) pos.line X.env=pure d_)(hf:X.fn x=c_\/X.env.scope.names.lookup x=a_ .local) :
  PS X (.Assign [.Name x pos'] e pos) (AZ te (jP i)):=by
 intro h_ s σ H D I h;refine wpAny_Assign_Name (fW (he h_ s σ H _ I h) λv s1 ⟨y,H1,I1,r1,q1⟩=>?_) hs;exact ni I1 hN hi hx r1 (λs2 I2=>⟨_,H1,I2,q1⟩) hf
end
section
variable{X:Cx}{pos:dZ}
end
structure It where
 go:Nat->Hp->Prop
 yld:Nat->Hp->V->Hp->Prop
 stop:Nat->Hp->Prop
def pf(X:Cx)(h_:List (af×er))(H:Hp)(b:af):Prop:=
 H b=b_/\b≠X.env.locals/\b∉X.fs/\(b∈X.ex\/X.s₀.heap.objs.size<=b)/\(∀x c,X.env.cells.lookup x=a_ c->c≠b)/\∀p∈X.pn++h_,p.1≠b
def Inv.zO{X:Cx}{h_:List (af×er)}{σ:St}{H H':Hp}{s:ae}{b:af}(I:Inv X h_ σ H s)(hb:s.heap.objs.size<=b)(hn:H' b=b_):pf X h_ H' b:=by
 refine⟨hn,jo (aY I.lt hb),I.Ux hb,.inr (cW I.sz hb),λx c e z=>?_,λp hp z=>?_⟩
 ·obtain⟨v,q⟩:=I.cell x c e;exact absurd (aY q.lt (by rw[z];exact hb)) (bC _)
 ·exact absurd (aY (hl9 (I.pin p hp).1) (by rw[z];exact hb)) (bC _)
structure Turn(P:aO)(w:bh)(K:aB)(tg:aF)(J:It)(fp:List af)(it:af)(tn:Nat->bx->Prop):Prop where
 mem:it∈fp
 obj:∀i h,tn i h->∀b∈fp,∃o,h.get? b=a_ o/\∀v,o.data≠.cell v
 keep:∀i h h',tn i h->(∀b∈fp,∀o,h.get? b=a_ o->h'.get? b=a_ o)->tn i h'
 item:∀(X:Cx),X.prog=P->X.w=w->X.K=K->X.calm=c_->∀(i:Nat)(h_:List (af×er))(s:ae)(σ:St)(H:Hp)(E:aa->ae->Prop),Inv X h_ σ H s->(∀b∈fp,pf X h_ H b)->tn i s.heap->J.go i H->
  aA (aE P w) X.A (pyNext (.ref it)) (λr s1=>∃u,r=a_ u/\
   aA (aE P w) X.A (letOwnedTupleGo tg (.ref it) u) (λ_ s2=>∃x H',Inv X h_ σ H' s2/\RelV x u/\J.yld i H x H'/\tn (i+1) s2.heap/\∀b∈fp,H' b=b_) E s1) E s
 done:∀(X:Cx),X.prog=P->X.w=w->X.K=K->X.calm=c_->∀(i:Nat)(h_:List (af×er))(s:ae)(σ:St)(H:Hp)(E:aa->ae->Prop),Inv X h_ σ H s->(∀b∈fp,pf X h_ H b)->tn i s.heap->J.stop i H->
  aA (aE P w) X.A (pyNext (.ref it)) (λr s1=>r=b_/\Inv X h_ σ H s1) E s
 self:∀(A:bp)(i:Nat)(s:ae)(Q:aa->ae->Prop)(E:aa->ae->Prop),tn i s.heap->Q (.ref it) s->aA (aE P w) A (FN (.ref it)) Q E s
noncomputable abbrev TI:=St->Hp->(It->Hp->Prop)->Prop
def Xc(X:Cx)(h_:List (af×er))(σ:St)(tg:aF)(R:It->Hp->Prop)(itv:aa)(s2:ae):Prop:=
 ∃(it:af) (fp:List af) (tn:Nat->bx->Prop) (J:It) (H':Hp),itv=.ref it/\Inv X h_ σ H' s2/\Turn X.prog X.w X.K tg J fp it tn/\tn 0 s2.heap/\(∀b∈fp,pf X h_ H' b)/\R J H'
def PI(X:Cx)(tg iter:aF)(wi:TI):Prop:=
 ∀(h_:List (af×er))(s:ae)(σ:St)(H:Hp)(R:It->Hp->Prop),Inv X h_ σ H s->wi σ H R->
  aA (aE X.prog X.w) X.A (eval iter X.env) (λv s1=>aA (aE X.prog X.w) X.A (FN v) (Xc X h_ σ tg R) X.xe s1) X.xe s
def zK{M:xZ}{A:bp}{E:aa->ae->Prop}{s:ae}{tg:aF}{it:af}{u:aa}{o:er}{n:String}{vs:Array aa}{Q:Unit->ae->Prop}(ho:s.heap.get? it=a_ o)(hc:o.cls=.type n)(hd:o.data=.fields vs)
  (hn:["enumerate","zip","dict_itemiterator","dict_reverseitemiterator","odict_iterator","itertools.zip_longest","itertools.pairwise"].contains n=d_)(hQ:Q () s):aA M A (letOwnedTupleGo tg (.ref it) u) Q E s:=by
 unfold letOwnedTupleGo
 cases tg<;>first
  |exact wu9 hQ
  | (cases u<;>first
    |exact wu9 hQ
    | (refine wb9 (wpAny_load ho ?_)
       rw[hc,hd];show aA M A (if(["enumerate","zip","dict_itemiterator","dict_reverseitemiterator","odict_iterator","itertools.zip_longest","itertools.pairwise"].contains n && vs[0]? == a_ (rawInt _))=c_ then _ else _) Q E s;rw[if_neg (by intro h;rw[hn,lj]at h;cases h)]
       exact wu9 hQ))
noncomputable def Xf(K:aB)(a:af):It:=
 ⟨λi H=>∃xs x,mB K H a xs/\xs[i]?=a_ x,λi H x H'=>H'=H/\∀xs,mB K H a xs->xs[i]?=a_ x,λi H=>∃xs,mB K H a xs/\xs.length<=i⟩
noncomputable def Xe(K:aB)(a:af):It:=
 ⟨λi H=>∃xs x,rL K H a xs/\xs[i]?=a_ x,λi H x H'=>H'=H/\∀xs,rL K H a xs->xs[i]?=a_ x,λi H=>∃xs,rL K H a xs/\xs.length<=i⟩
noncomputable def VL(lo:Int)(n:Nat):It:=⟨λi _=>i<n,λi H x H'=>H'=H/\x=.int (lo+i),λi _=>n<=i⟩
def D5{P:aO}{w:bh}{K:aB}{tg:aF}(a it:af):Turn P w K tg (Xf K a) [it] it (λi h=>h.IsListIter it a i) where
 mem:=by simp
 obj:=λi h st b hb=>by
  have e:b=it:=by simpa using hb
  subst e;obtain⟨o,e,c,d⟩:=st;exact⟨o,e,λv z=>by rw[d]at z;cases z⟩
 keep:=λi h h' st k=>st.at λo e=>k it (by simp) o e
 item:=by
  intro X hP hw hK hc i h_ s σ H E I hf st hg;subst hP hw hK;obtain⟨xs,x,hq,hx⟩:=hg;obtain⟨its,rv,p,hz⟩:=I.list hq;obtain⟨u,hu,ru⟩:=rv.get hx;obtain⟨f0,f1,f2,f3,f4,f5⟩:=hf it (by simp);refine wpAny_pyNext_list_item st p.isList (x:=u) (by simpa using hu) λh' st' sb=>?_;have I1:Inv X h_ σ H { s with heap:=h' }:=I.turned (t':=s.toks) (λb o hb e=>(sb.2 b hb).trans e) f0 f1 f3 f4 f5;obtain⟨o,e,c,d⟩:=id st';exact⟨u,rfl,zK (s:={ s with heap:=h' }) e c d (by decide) ⟨x,H,I1,ru,⟨rfl,λys hy=>by rw[I.p5 hy hq];exact hx⟩,st',λb hb=>(hf b hb).1⟩⟩
 done:=by
  intro X hP hw hK hc i h_ s σ H E I hf st hg;subst hP hw hK;obtain⟨xs,hq,hx⟩:=hg;obtain⟨its,rv,p,hz⟩:=I.list hq;obtain⟨f0,f1,f2,f3,f4,f5⟩:=hf it (by simp);have hl:=rv.length;exact wpAny_pyNext_list_end (I.ok.hd hc) st p.isList (by simp;omega) λh' eb=>⟨rfl,I.turned (t':=s.toks) (λb o hb e=>eb b o hb e) f0 f1 f3 f4 f5⟩
 self:=λ_ _ _ _ _ st h=>wpAny_pyIter_listiter st h
def AR{P:aO}{w:bh}{K:aB}{tg:aF}(a it:af):Turn P w K tg (Xe K a) [it] it (λi h=>h.IsTupleIter it a i) where
 mem:=by simp
 obj:=λi h st b hb=>by
  have e:b=it:=by simpa using hb
  subst e;obtain⟨o,e,c,d⟩:=st;exact⟨o,e,λv z=>by rw[d]at z;cases z⟩
 keep:=λi h h' st k=>st.at λo e=>k it (by simp) o e
 item:=by
  intro X hP hw hK hc i h_ s σ H E I hf st hg;subst hP hw hK;obtain⟨xs,x,hq,hx⟩:=hg;obtain⟨its,rv,p,hz⟩:=I.tuple hq;obtain⟨u,hu,ru⟩:=rv.get hx;obtain⟨f0,f1,f2,f3,f4,f5⟩:=hf it (by simp);refine wpAny_pyNext_tuple_item st (show s.heap.IsTuple a its.toArray from p) (x:=u) (by simpa using hu) λh' st' sb=>?_;have I1:Inv X h_ σ H { s with heap:=h' }:=I.turned (t':=s.toks) (λb o hb e=>(sb.2 b hb).trans e) f0 f1 f3 f4 f5;obtain⟨o,e,c,d⟩:=id st';exact⟨u,rfl,zK (s:={ s with heap:=h' }) e c d (by decide) ⟨x,H,I1,ru,⟨rfl,λys hy=>by rw[I.nQ hy hq];exact hx⟩,st',λb hb=>(hf b hb).1⟩⟩
 done:=by
  intro X hP hw hK hc i h_ s σ H E I hf st hg;subst hP hw hK;obtain⟨xs,hq,hx⟩:=hg;obtain⟨its,rv,p,hz⟩:=I.tuple hq;obtain⟨f0,f1,f2,f3,f4,f5⟩:=hf it (by simp);have hl:=rv.length;exact wpAny_pyNext_tuple_end (I.ok.hd hc) st (show s.heap.IsTuple a its.toArray from p) (by simp;omega) λh' eb=>⟨rfl,I.turned (t':=s.toks) (λb o hb e=>eb b o hb e) f0 f1 f3 f4 f5⟩
 self:=λ_ _ _ _ _ st h=>wpAny_pyIter_tupleiter st h
def AS{P:aO}{w:bh}{K:aB}{tg:aF}(it:af)(lo:Int)(n:Nat):Turn P w K tg (VL lo n) [it] it (λi h=>IsRangeIter h it (lo+(i:Nat) * 1) ((n:Int) - (i:Nat)) 1) where
 mem:=by simp
 obj:=λi h st b hb=>by
  have e:b=it:=by simpa using hb
  subst e
  exact⟨_,st,λv z=>by
   have z':Data.fields _=Data.cell v:=z
   cases z'⟩
 keep:=λi h h' st k=>k it (by simp) _ st
 item:=by
  intro X hP hw hK hc i h_ s σ H E I hf st hg;subst hP hw hK;obtain⟨f0,f1,f2,f3,f4,f5⟩:=hf it (by simp);have W:=Walks.range (prog:=X.prog) (w:=X.w) (I.ok.hd hc) it lo 1 n;refine W.item i s _ _ hg st λv h' tk hv st' kk=>?_;obtain⟨t,rfl⟩:=hv;have I1:Inv X h_ σ H { s with heap:=h',toks:=tk }:=I.turned (λb o hb e=>kk b o (by simpa using hb) e) f0 f1 f3 f4 f5;refine⟨_,rfl,zK (s:={ s with heap:=h',toks:=tk }) (n:="range_iterator") st' rfl rfl (by decide) ⟨.int (lo+i),H,I1,⟨t,?_⟩,⟨rfl,rfl⟩,st',λb hb=>(hf b hb).1⟩⟩;rw[Int.mul_one]
 done:=by
  intro X hP hw hK hc i h_ s σ H E I hf st hg;subst hP hw hK;obtain⟨f0,f1,f2,f3,f4,f5⟩:=hf it (by simp);exact wpAny_pyNext_range_end (I.ok.hd hc) st (by have:n<=i:=hg;omega) λh' eb=>⟨rfl,I.turned (t':=s.toks) (λb o hb e=>eb b o hb e) f0 f1 f3 f4 f5⟩
 self:=λ_ _ _ _ _ st h=>wpAny_pyIter_rangeiter st h
section
variable{X:Cx}{tg:aF}
noncomputable def US(K:aB)(tl:TE):TI:=λσ H R=>tl σ H λx H1=>∃a,x=.ref a/\(∃xs,mB K H1 a xs)/\R (Xf K a) H1
noncomputable def WO(K:aB)(tl:TE):TI:=λσ H R=>tl σ H λx H1=>∃a,x=.ref a/\(∃xs,rL K H1 a xs)/\R (Xe K a) H1
def CS{l:aF}{tl:TE}(hl:PE X l tl):PI X tg l (US X.K tl):=by
 intro h_ s σ H R I h;refine fW (hl h_ s σ H _ I h) λv s1 ⟨x,H1,I1,r1,q1⟩=>?_;obtain⟨a,e,⟨xs,hq⟩,q⟩:=q1;subst e;cases r1;obtain⟨its,rv,p,hz⟩:=I1.list hq;refine jT p.isList ?_;refine⟨s1.heap.objs.size,[s1.heap.objs.size],_,_,H1,rfl,I1.kept (t':=s1.toks) λb o e=>hp9 _ e,D5 a _,⟨_,aJ _ rfl,rfl,rfl⟩,λb hb=>?_,q⟩;have e:b=s1.heap.objs.size:=by simpa using hb
 subst e;exact I1.zO (aM _) (I1.hok.fresh (aM _))
def Hm{l:aF}{tl:TE}(hl:PE X l tl):PI X tg l (WO X.K tl):=by
 intro h_ s σ H R I h;refine fW (hl h_ s σ H _ I h) λv s1 ⟨x,H1,I1,r1,q1⟩=>?_;obtain⟨a,e,⟨xs,hq⟩,q⟩:=q1;subst e;cases r1;obtain⟨its,rv,p,hz⟩:=I1.tuple hq;refine me (show s1.heap.IsTuple a its.toArray from p) ?_;refine⟨s1.heap.objs.size,[s1.heap.objs.size],_,_,H1,rfl,I1.kept (t':=s1.toks) λb o e=>hp9 _ e,AR a _,⟨_,aJ _ rfl,rfl,rfl⟩,λb hb=>?_,q⟩;have e:b=s1.heap.objs.size:=by simpa using hb
 subst e;exact I1.zO (aM _) (I1.hok.fresh (aM _))
def Ha{h_:List (af×er)}{σ:St}{H:Hp}{s:ae}{R:It->Hp->Prop}{E:aa->ae->Prop}{lo hi:Int}{t u v:Tok}{tk:Nat}(I:Inv X h_ σ H s)(h1:-(2 ^ 62)<=lo)(h2:lo<2 ^ 62)(h3:-(2 ^ 62)<=hi)(h4:hi<2 ^ 62)
  (q:R (VL lo (hi - lo).toNat) H):aA (aE X.prog X.w) X.A (FN (.ref s.heap.objs.size)) (Xc X h_ σ tg R) E { s with heap:=s.heap.push { cls:=.type "range",data:=.fields #[.int lo t,.int hi u,.int 1 v] },toks:=tk }:=by
 refine wpAny_pyIter_range (IsRange.new ..) (small_one h1 h2 h3 h4) ?_;have I1:Inv X h_ σ H { s with heap:=s.heap.push { cls:=.type "range",data:=.fields #[.int lo t,.int hi u,.int 1 v] },toks:=tk }:=I.kept λb o e=>hp9 _ e
 refine⟨(s.heap.push { cls:=.type "range",data:=.fields #[.int lo t,.int hi u,.int 1 v] }).objs.size,[(s.heap.push { cls:=.type "range",data:=.fields #[.int lo t,.int hi u,.int 1 v] }).objs.size],_,_,H,rfl,
  I1.kept (t':=tk) λb o e=>hp9 _ e,AS _ lo (hi - lo).toNat,?_,λb hb=>?_,q⟩
 ·have e1:lo+((0:Nat):Int) * 1=lo:=by simp
  have e2:(((hi - lo).toNat:Nat):Int) - ((0:Nat):Int)=Builtin.Range.rangeSize lo hi 1:=by rw[rangeSize_one];split<;>omega
  show IsRangeIter _ _ (lo+((0:Nat):Int) * 1) ((((hi - lo).toNat:Nat):Int) - ((0:Nat):Int)) 1;rw[e1,e2];exact aJ _ rfl
 ·have e:b=(s.heap.push { cls:=.type "range",data:=.fields #[.int lo t,.int hi u,.int 1 v] }).objs.size:=by simpa using hb
  subst e;exact I1.zO (aM _) (I1.hok.fresh (aM _))
noncomputable def UR(ta:TA):TI:=λσ H R=>ta σ H λvs H1=>∃j:Int,vs=[.int j]/\-(2 ^ 62)<=j/\j<2 ^ 62/\R (VL 0 j.toNat) H1
def Em{a:aF}{ta:TA}{p pos:dZ}(hg:Gl X "range")(hm:X.mg "range"=b_)(ha:PA X [a] ta)(hs:aI [a] X.env=[(d_,eval a X.env)]):PI X tg (.Call (.Name "range" p) [a] [] pos) (UR ta):=by
 intro h_ s σ H R I h;refine Call_ (nE I hg hm boot_range (eA (fW (ha pos h_ s σ H _ I h) λus s1 ⟨vs,H1,I1,r1,q1⟩=>?_) hs rfl));obtain⟨j,e,q1,q2,q⟩:=q1;subst e
 cases r1 with
 |cons r rr=>
   cases rr;obtain⟨t,rfl⟩:=r;exact call_range_1 (Ha I1 (by omega) (by omega) q1 q2 (by simpa using q))
noncomputable def V7(wi:TI)(g:TG)(tb:TS):TS:=λD σ H=>wi σ H λJ H1=>∃W:Nat->Nat->St->Hp->Prop,(∃m,W 0 m σ H1)/\∀i m σ H,W i m σ H->
 (J.stop i H/\D.nx σ H)\/(J.go i H/\∃N:St->Hp->Prop,(∀σ' H',N σ' H'->∃m',m'<m/\W (i+1) m' σ' H')/\∀x H',J.yld i H x H'->g x σ H' λσ2 H2=>tb { D with nx:=N,ct:=N,bk:=D.nx } σ2 H2)
noncomputable def lB(fp:List af)(h:bx):List (af×er):=fp.filterMap λb=>(h.get? b).map λo=>(b,o)
def mr{fp:List af}{h:bx}{b:af}{o:er}(hb:b∈fp)(e:h.get? b=a_ o):(b,o)∈lB fp h:=qk.mpr ⟨b,hb,by rw[e];rfl⟩
def vC{fp:List af}{h:bx}{p:af×er}(hp:p∈lB fp h):p.1∈fp/\h.get? p.1=a_ p.2:=by
 obtain⟨b,hb,e⟩:=qk.mp hp
 cases q:h.get? b with
 |none=>rw[q]at e;cases e
 |some o=>
   rw[q]at e;have e':(b,o)=p:=aP e;subst e';exact⟨hb,q⟩
def Inv.pinned{h_:List (af×er)}{σ:St}{H:Hp}{s:ae}{fp:List af}(I:Inv X h_ σ H s)(hf:∀b∈fp,pf X h_ H b)(ho:∀b∈fp,∃o,s.heap.get? b=a_ o/\∀v,o.data≠.cell v):Inv X (h_++lB fp s.heap) σ H s:=
 I.pU λp hp=>(aK.mp hp).elim (λz=>I.pin p (ax _ z)) λz=>by
  obtain⟨hb,e⟩:=vC z;obtain⟨f0,f1,f2,_⟩:=hf p.1 hb;obtain⟨o,e',d⟩:=ho p.1 hb;rw[e]at e';cases e';exact⟨e,f0,f1,f2,d⟩
def Inv.lL{h_ pl:List (af×er)}{σ:St}{H:Hp}{s:ae}(I:Inv X (h_++pl) σ H s):Inv X h_ σ H s:=I.pU λp hp=>I.pin p (ax _ (aL _ hp))
def Hj{iter:aF}{body:List fw}{wi:TI}{g:TG}{tb:TS}{pos:dZ}(hp:Fw (aE X.prog X.w) X.A X.env X.xe)(hc:X.calm=c_)(hi:PI X tg iter wi)(hg:PG X tg g)(hb:B5 X body tb)
  (hs:∀x,foldedSetIterable iter X.env x=pure x):PS X (.For tg iter body [] pos) (V7 wi g tb):=by
 intro h_ s σ H D I h;refine wpAny_For (fW (hi h_ s σ H _ I h) λv s1 h1=>fW h1 λitv s2 h2=>?_) hs;obtain⟨it,fp,tn,J,H2,e,I2,T,st2,f2,W,⟨m0,w0⟩,turn⟩:=h2;subst e;have stat:∀{H':Hp},(∀b∈fp,H' b=b_)->∀b∈fp,pf X h_ H' b:=λhn b hb=>⟨hn b hb,(f2 b hb).2⟩
 refine codeAny_forLoop_any (λn s'=>∃i σ' H',Inv X h_ σ' H' s'/\tn i s'.heap/\(∀b∈fp,H' b=b_)/\W i n σ' H') ?_ m0 ⟨0,σ,H2,I2,st2,λb hb=>(f2 b hb).1,w0⟩;rintro n s3 ⟨i,σ3,H3,I3,st3,fr3,w3⟩
 rcases turn i n σ3 H3 w3 with⟨stop,qn⟩|⟨go,N,hN,step⟩
 ·refine lq hp (fW (T.done X rfl rfl rfl hc i h_ s3 σ3 H3 X.xe I3 (stat fr3) st3 stop) λr s4 ⟨hr,I4⟩=>?_);subst hr;exact lr ⟨σ3,H3,I4,qn⟩
 ·refine lq hp (fW (T.item X rfl rfl rfl hc i h_ s3 σ3 H3 X.xe I3 (stat fr3) st3 go) λr s4 ⟨u,hr,h4⟩=>?_);subst hr;refine lq hp (fW h4 λ_ s5 ⟨x,H5,I5,r5,y5,st5,fr5⟩=>?_);have I5':=I5.pinned (stat fr5) (T.obj _ _ st5);refine lq hp (fW (hg _ s5 σ3 H5 x u _ I5' r5 (step x H5 y5)) λ_ s6 ⟨σ6,H6,I6,q6⟩=>?_);refine lq hp (fW (hb _ s6 σ6 H6 _ I6 q6) λf s7 q7=>?_)
  have again:∀{σ7:St}{H7:Hp},Inv X (h_++lB fp s5.heap) σ7 H7 s7->N σ7 H7->∃m,m<n/\∃i σ' H',Inv X h_ σ' H' s7/\tn i s7.heap/\(∀b∈fp,H' b=b_)/\W i m σ' H':=λ{σ7 H7}I7 n7=>by
   obtain⟨m',hm,w7⟩:=hN σ7 H7 n7;refine⟨m',hm,i+1,σ7,H7,I7.lL,T.keep _ _ _ st5 λb hb o e=>(I7.pin (b,o) (ax _ (ax _ (mr hb e)))).1,λb hb=>?_,w7⟩;obtain⟨o,e,d⟩:=T.obj _ _ st5 b hb;exact(I7.pin (b,o) (ax _ (ax _ (mr hb e)))).2.1
  cases f with
  |next=>obtain⟨σ7,H7,I7,n7⟩:=q7;exact again I7 n7
  |cont=>obtain⟨σ7,H7,I7,n7⟩:=q7;exact again I7 n7
  |brk=>obtain⟨σ7,H7,I7,q7⟩:=q7;exact⟨σ7,H7,I7.lL,q7⟩
  |ret v=>obtain⟨x7,σ7,H7,I7,r7,q7⟩:=q7;exact⟨x7,σ7,H7,I7.lL,r7,q7⟩
end
noncomputable abbrev R2:=V->V->Hp->VK->Prop
def ie(X:Cx)(f:aa->aa->Sem aa)(r:R2):Prop:=
 ∀(h_:List (af×er))(s:ae)(σ:St)(H:Hp)(x y:V)(v u:aa)(Q:VK),Inv X h_ σ H s->RelV x v->RelV y u->r x y H Q->
  aA (aE X.prog X.w) X.A (f v u) (EP X h_ σ Q) X.xe s
def W8(X:Cx)(f:aa->Sem aa)(r:V->Hp->VK->Prop):Prop:=
 ∀(h_:List (af×er))(s:ae)(σ:St)(H:Hp)(x:V)(v:aa)(Q:VK),Inv X h_ σ H s->RelV x v->r x H Q->
  aA (aE X.prog X.w) X.A (f v) (EP X h_ σ Q) X.xe s
def ig(X:Cx)(f:aa)(r:List V->Hp->VK->Prop):Prop:=
 ∀(h_:List (af×er))(s:ae)(σ:St)(H:Hp)(xs:List V)(us:List aa)(Q:VK),Inv X h_ σ H s->bZ xs us->r xs H Q->
  aA (aE X.prog X.w) X.A (call f us) (EP X h_ σ Q) X.xe s
def Xa(X:Cx)(r:V->Hp->(Bool->Hp->Prop)->Prop):Prop:=
 ∀(h_:List (af×er))(s:ae)(σ:St)(H:Hp)(x:V)(v:aa)(Q:Bool->Hp->Prop),Inv X h_ σ H s->RelV x v->r x H Q->
  aA (aE X.prog X.w) X.A (truthy v) (TP X h_ σ Q) X.xe s
noncomputable def O5(r:R2)(ta tb:TE):TE:=λσ H Q=>ta σ H λx H1=>tb σ H1 λy H2=>r x y H2 Q
noncomputable def XX(r:V->Hp->VK->Prop)(ta:TE):TE:=λσ H Q=>ta σ H λx H1=>r x H1 Q
noncomputable def rI(C:Int->Int->Prop)(g:Int->Int->V):R2:=λx y H Q=>∃i j,x=.int i/\y=.int j/\C i j/\Q (g i j) H
noncomputable def Hc(g:Int->Int->V):R2:=λx y H Q=>∃i j,x=.int i/\y=.int j/\Q (g i j) H
def rU(g:Int->V):V->Hp->VK->Prop:=λx H Q=>∃i,x=.int i/\Q (g i) H
section
variable{X:Cx}{a b c:aF}{ta tb tc:TE}{pos:dZ}
def Se(ha:PE X a ta)(hb:PE X b tb){h_:List (af×er)}{s:ae}{σ:St}{H:Hp}{R:V->V->Hp->Prop}(I:Inv X h_ σ H s)
  (h:ta σ H λx H1=>tb σ H1 λy H2=>R x y H2){Q:aa->ae->Prop}{f:aa->aa->Sem aa}
  (hf:∀v u s2 x y H2,Inv X h_ σ H2 s2->RelV x v->RelV y u->R x y H2->aA (aE X.prog X.w) X.A (f v u) Q X.xe s2) :
  aA (aE X.prog X.w) X.A (eval a X.env) (λv s₁=>aA (aE X.prog X.w) X.A (eval b X.env) (λu s₂=>aA (aE X.prog X.w) X.A (f v u) Q X.xe s₂) X.xe s₁) X.xe s:=by
 refine fW (ha h_ s σ H _ I h) λv s1 ⟨x,H1,I1,r1,q1⟩=>?_;refine fW (hb h_ s1 σ H1 _ I1 q1) λu s2 ⟨y,H2,I2,r2,q2⟩=>?_;exact hf v u s2 x y H2 I2 r1 r2 q2
def Ul{op:uy}{r:R2}(ho:ie X (binaryOp op) r)(ha:PE X a ta)(hb:PE X b tb):PE X (.BinOp a op b pos) (O5 r ta tb):=by
 intro h_ s σ H Q I h;exact wpAny_BinOp (Se ha hb I h λv u s2 x y H2 I2 rx ry q=>ho h_ s2 σ H2 x y v u Q I2 rx ry q)
def Uh{op:UnaryOp}{r:V->Hp->VK->Prop}(ho:W8 X (unaryOp op) r)(ha:PE X a ta):PE X (.UnaryOp op a pos) (XX r ta):=by
 intro h_ s σ H Q I h;exact UnaryOp_ (fW (ha h_ s σ H _ I h) λv s1 ⟨x,H1,I1,r1,q1⟩=>ho h_ s1 σ H1 x v Q I1 r1 q1)
def Ut{f:aa->aa->Sem aa}{C:Int->Int->Prop}{g:Int->Int->Int}
  (rule:∀(i j:Int)(t u:Tok)(s:ae)(Q:aa->ae->Prop)(E:aa->ae->Prop),C i j->Q (.int (g i j) s.toks) { s with toks:=s.toks+1 }->aA (aE X.prog X.w) X.A (f (.int i t) (.int j u)) Q E s) :
  ie X f (rI C λi j=>.int (g i j)):=by
 intro h_ s σ H x y v u Q I rx ry h;obtain⟨i,j,rfl,rfl,hc,q⟩:=h;obtain⟨t,rfl⟩:=rx;obtain⟨t',rfl⟩:=ry;exact rule i j t t' s _ _ hc ⟨.int (g i j),H,I.tok _,⟨_,rfl⟩,q⟩
def QJ{f:aa->aa->Sem aa}{g:Int->Int->Int}
  (rule:∀(i j:Int)(t u:Tok)(s:ae)(Q:aa->ae->Prop)(E:aa->ae->Prop),Q (.int (g i j) s.toks) { s with toks:=s.toks+1 }->aA (aE X.prog X.w) X.A (f (.int i t) (.int j u)) Q E s) :
  ie X f (Hc λi j=>.int (g i j)):=by
 intro h_ s σ H x y v u Q I rx ry h;obtain⟨i,j,rfl,rfl,q⟩:=h;obtain⟨t,rfl⟩:=rx;obtain⟨t',rfl⟩:=ry;exact rule i j t t' s _ _ ⟨.int (g i j),H,I.tok _,⟨_,rfl⟩,q⟩
def LY{f:aa->aa->Sem aa}{g:Int->Int->Bool}
  (rule:∀(i j:Int)(t u:Tok)(s:ae)(Q:aa->ae->Prop)(E:aa->ae->Prop),Q (.bool (g i j)) s->aA (aE X.prog X.w) X.A (f (.int i t) (.int j u)) Q E s) :
  ie X f (Hc λi j=>.bl (g i j)):=by
 intro h_ s σ H x y v u Q I rx ry h;obtain⟨i,j,rfl,rfl,q⟩:=h;obtain⟨t,rfl⟩:=rx;obtain⟨t',rfl⟩:=ry;exact rule i j t t' s _ _ ⟨.bl (g i j),H,I,rfl,q⟩
def NX(i j:Int):Prop:=0<j/\j<1073741824
def JL(i j:Int):Prop:=0<=j/\j<=1000000/\i.natAbs<2 ^ 64
def Fu(i j:Int):Prop:=(-(2 ^ 64)<i/\i<2 ^ 64)\/(-(2 ^ 64)<j/\j<2 ^ 64)
def Fu.ok{i j:Int}(h:Fu i j):IntMulOk i j:=by
 rcases h with⟨h1,h2⟩|⟨h1,h2⟩
 ·exact .of_left (intBits_le_64 h1 h2)
 ·exact .of_right (intBits_le_64 h1 h2)
def AQ(k:Nat):(0:Int)<=2 ^ k:=by
 rw[two_pow_cast];exact Int.natCast_nonneg _
def QI:ie X (binaryOp .Add) (Hc λi j=>.int (i+j)):=QJ λ_ _ _ _ _ _ _ q=>add_int q
def Qu:ie X (binaryOp .Sub) (Hc λi j=>.int (i - j)):=QJ λ_ _ _ _ _ _ _ q=>sub_int q
def Qy:ie X (binaryOp .Mult) (rI Fu λi j=>.int (i * j)):=Ut λ_ _ _ _ _ _ _ hc q=>mul_int q hc.ok
def LU:ie X (binaryOp .FloorDiv) (rI NX λi j=>.int (i / j)):=Ut λi j _ _ _ _ _ hc q=>by
 have h1:(0:Int)<j:=hc.1;have h2:j<1073741824:=hc.2;exact floordiv_int (by omega) (by rw[wu i (by omega)];exact q) (.inl (PyProof.noPylong_small (by omega)))
def Qz:ie X (binaryOp .Mod) (rI (λ_ j=>0<j) λi j=>.int (i % j)):=Ut λi j _ _ _ _ _ hc q=>by
 have h1:(0:Int)<j:=hc;exact mod_int' (by omega) (by rw[Int.fmod_eq_emod_of_nonneg i (by omega)];exact q)
def Qw:ie X (binaryOp .Pow) (rI JL λi j=>.int (i ^ j.toNat)):=Ut λ_ _ _ _ _ _ _ hc q=>pow_int_small hc.1 hc.2.1 hc.2.2 q
def Qv:ie X (binaryOp .RShift) (rI (λ_ j=>0<=j) λi j=>.int (i / 2 ^ j.toNat)):=Ut λi j _ _ _ _ _ hc q=>
 rshift_int hc (by rw[wu i (AQ _)];exact q)
def QH:ie X (binaryOp .BitAnd) (Hc λi j=>.int (sG i j)):=QJ λ_ _ _ _ _ _ _ q=>and_int q
def XU{f:aa->Sem aa}{g:Int->Int}
  (rule:∀(i:Int)(t:Tok)(s:ae)(Q:aa->ae->Prop)(E:aa->ae->Prop),Q (.int (g i) s.toks) { s with toks:=s.toks+1 }->aA (aE X.prog X.w) X.A (f (.int i t)) Q E s) :
  W8 X f (rU λi=>.int (g i)):=by
 intro h_ s σ H x v Q I rx h;obtain⟨i,rfl,q⟩:=h;obtain⟨t,rfl⟩:=rx;exact rule i t s _ _ ⟨.int (g i),H,I.tok _,⟨_,rfl⟩,q⟩
def O1:W8 X (unaryOp .USub) (rU λi=>.int (-i)):=XU λ_ _ _ _ _ q=>neg_int q
end
section
variable{X:Cx}{a b c:aF}{ta tb tc:TE}{pos:dZ}
def BL{h_:List (af×er)}{σ:St}{H:Hp}{s:ae}{Q:VK}{k k':Bool}(I:Inv X h_ σ H s)(q:Q (.bl k) H)(e:k=k'):EP X h_ σ Q (.bool k') s:=by
 subst e;exact⟨.bl k,H,I,rfl,q⟩
def Up:ie X (compareOp .Lt) (Hc λi j=>.bl (decide (i<j))):=LY λ_ _ _ _ _ _ _ q=>lt_int q
def Uq:ie X (compareOp .LtE) (Hc λi j=>.bl (decide (i<=j))):=LY λ_ _ _ _ _ _ _ q=>le_int q
def Ur:ie X (compareOp .Gt) (Hc λi j=>.bl (decide (j<i))):=LY λ_ _ _ _ _ _ _ q=>gt_int q
def Us:ie X (compareOp .GtE) (Hc λi j=>.bl (decide (j<=i))):=LY λ_ _ _ _ _ _ _ q=>ge_int q
def Er:ie X (compareOp .In) (λx y H Q=>∃i j,x=.str i/\y=.str j/\Q (.bl (!(dv j i 0 j.length 1).isEmpty)) H):=by
 intro h_ s σ H x y v u Q I rx ry h;obtain⟨i,j,rfl,rfl,q⟩:=h;obtain⟨t,rfl⟩:=rx;obtain⟨t',rfl⟩:=ry;exact in_str (BL I q rfl)
def QC:ie X (compareOp .Is) (λx y H Q=>y=.non/\Q (.bl (decide (x=.non))) H):=by
 intro h_ s σ H x y v u Q I rx ry h;obtain⟨rfl,q⟩:=h;cases ry;refine is_none_gen (BL I q ?_)
 cases x<;>first
  |(cases rx;rfl)
  |(obtain⟨t,rfl⟩:=rx;rfl)
def LN:ie X (compareOp .IsNot) (λx y H Q=>y=.non/\Q (.bl (!decide (x=.non))) H):=by
 intro h_ s σ H x y v u Q I rx ry h;obtain⟨rfl,q⟩:=h;cases ry;refine isnot_none_gen (BL I q ?_)
 cases x<;>first
  |(cases rx;rfl)
  |(obtain⟨t,rfl⟩:=rx;rfl)
def LG{op:pq}{r:R2}(ho:ie X (compareOp op) r)(ha:PE X a ta)(hb:PE X b tb)(hm:behindInMarks op b=d_):PE X (.Compare a [op] [b] pos) (O5 r ta tb):=by
 intro h_ s σ H Q I h;exact wpAny_Compare1 (Se ha hb I h λv u s2 x y H2 I2 rx ry q=>ho h_ s2 σ H2 x y v u Q I2 rx ry q) hm
noncomputable def Od(t:TE):TT:=λσ H Q=>t σ H λx H'=>∃k,x=.bl k/\Q k H'
def Ly{op:pq}{r:R2}(ho:ie X (compareOp op) r)(ha:PE X a ta)(hb:PE X b tb)(hm:behindInMarks op b=d_):PT X (.Compare a [op] [b] pos) (Od (O5 r ta tb)):=by
 intro h_ s σ H Q I h
 refine wpAny_isTrue_Compare1 (fW (ha h_ s σ H _ I h) λv s1 ⟨x,H1,I1,r1,q1⟩=>fW (hb h_ s1 σ H1 _ I1 q1) λu s2 ⟨y,H2,I2,r2,q2⟩=>
  fW (ho h_ s2 σ H2 x y v u _ I2 r1 r2 q2) λc s3 ⟨z,H3,I3,r3,k,e,q3⟩=>?_) hm
 subst e;cases r3;exact cY ⟨H3,I3,q3⟩
noncomputable def AY(r r':R2)(ta tb tc:TE):TE:=λσ H Q=>ta σ H λx H1=>tb σ H1 λy H2=>r x y H2 λz H3=>∃k,z=.bl k/\
 (if k=c_ then tc σ H3 λw' H4=>r' y w' H4 Q else Q (.bl d_) H3)
def Hy{op op':pq}{r r':R2}(ho:ie X (compareOp op) r)(ho':ie X (compareOp op') r')(ha:PE X a ta)(hb:PE X b tb)(hc:PE X c tc)
  (hm:lastMarks [op,op'] [b,c]=d_):PE X (.Compare a [op,op'] [b,c] pos) (AY r r' ta tb tc):=by
 intro h_ s σ H Q I h
 refine Compare_chain (fW (ha h_ s σ H _ I h) λv s1 ⟨x,H1,I1,r1,q1⟩=>chain_link (fW (hb h_ s1 σ H1 _ I1 q1) λu s2 ⟨y,H2,I2,r2,q2⟩=>
  fW (ho h_ s2 σ H2 x y v u _ I2 r1 r2 q2) λd s3 ⟨z,H3,I3,r3,k,e,q3⟩=>?_)) hm
 subst e;cases r3;refine cY ?_
 cases k with
 |false=>exact ite_ff ⟨.bl d_,H3,I3,rfl,q3⟩
 |true=>exact ite_tt (chain_last (fW (hc h_ s3 σ H3 _ I3 q3) λw' s4 ⟨z',H4,I4,r4,q4⟩=>ho' h_ s4 σ H4 y z' u w' Q I4 r2 r4 q4))
def Hf{op op':pq}{r r':R2}(ho:ie X (compareOp op) r)(ho':ie X (compareOp op') r')(ha:PE X a ta)(hb:PE X b tb)(hc:PE X c tc)
  (hm:lastMarks [op,op'] [b,c]=d_):PT X (.Compare a [op,op'] [b,c] pos) (Od (AY r r' ta tb tc)):=by
 intro h_ s σ H Q I h
 refine isTrue_chain (fW (ha h_ s σ H _ I h) λv s1 ⟨x,H1,I1,r1,q1⟩=>test_link (fW (hb h_ s1 σ H1 _ I1 q1) λu s2 ⟨y,H2,I2,r2,q2⟩=>
  fW (ho h_ s2 σ H2 x y v u _ I2 r1 r2 q2) λd s3 ⟨z,H3,I3,r3,k,e,q3⟩=>?_)) hm
 subst e;cases r3;refine cY ?_
 cases k with
 |false=>
   obtain⟨k',e',q'⟩:=q3;cases e';exact ite_ff ⟨H3,I3,q'⟩
 |true=>
   refine ite_tt (test_last (fW (hc h_ s3 σ H3 _ I3 q3) λw' s4 ⟨z',H4,I4,r4,q4⟩=>fW (ho' h_ s4 σ H4 y z' u w' _ I4 r2 r4 q4) λd' s5 ⟨z2,H5,I5,r5,k2,e2,q5⟩=>?_));subst e2;cases r5;exact cY ⟨H5,I5,q5⟩
def Sr(K:aB)(x:V)(H:Hp)(k:Bool):Prop:=
 match x with
 |.non=>k=d_
 |.bl b=>k=b
 |.int i=>k=(i != 0)
 |.str y=>y.length<=aD/\k=((y.length:Int) != 0)
 |.byt y=>y.size<=aD/\k=((y.size:Int) != 0)
 |.ref p=>(∃xs,mB K H p xs/\k=!xs.isEmpty)\/(∃xs,rL K H p xs/\k=!xs.isEmpty)\/∃k_,H p=a_ (.dK k_)/\k=!k_.isEmpty
 |_=>False
def BH{κ:Type}{k_:List (κ×V)}{vs:List (κ×aa)}(r:KV k_ vs):(!vs.isEmpty)=!k_.isEmpty:=by
 cases r<;>rfl
def tR{xs:List V}{its:List aa}(r:bZ xs its):(!its.toArray.isEmpty)=!xs.isEmpty:=by
 cases r<;>simp
def oX:(aD:Nat)<2 ^ 63:=by rw[bT];decide
def Gr:Xa X (λx H Q=>∃k,Sr X.K x H k/\Q k H):=by
 intro h_ s σ H x v Q I rx h;obtain⟨k,e,q⟩:=h;have hl:=oX;have hs:aD=16777216:=bT
 cases x with
 |non=>
   cases rx;have e':k=d_:=e;subst e';exact truthy_none ⟨H,I,q⟩
 |bl b=>
   cases rx;have e':k=b:=e;subst e';exact cY ⟨H,I,q⟩
 |int i=>
   obtain⟨t,rfl⟩:=rx;have e':k=(i != 0):=e;subst e';exact PySem.P.truthy_int ⟨H,I,q⟩
 |str y=>
   obtain⟨t,rfl⟩:=rx;obtain⟨hy,e'⟩:y.length<=aD/\k=((y.length:Int) != 0):=e;subst e';exact PySem.P.truthy_str (by omega) ⟨H,I.tok _,q⟩
 |byt y=>
   obtain⟨t,rfl⟩:=rx;obtain⟨hy,e'⟩:y.size<=aD/\k=((y.size:Int) != 0):=e;subst e';exact PySem.W.truthy_bytes (by omega) ⟨H,I.tok _,q⟩
 |ref p=>
   cases rx;have e':(∃xs,mB X.K H p xs/\k=!xs.isEmpty)\/(∃xs,rL X.K H p xs/\k=!xs.isEmpty)\/∃k_,H p=a_ (.dK k_)/\k=!k_.isEmpty:=e
   rcases e' with⟨xs,hx,e'⟩|⟨xs,hx,e'⟩|⟨k_,hx,e'⟩
   ·subst e';obtain⟨its,r,pl,hz⟩:=I.list hx;have hlen:=r.length;exact wpAny_truthy_list pl.isList (by simp only[aH];omega) ⟨H,I.tok _,by rw[tR r];exact q⟩
   ·subst e';obtain⟨its,r,pl,hz⟩:=I.tuple hx;have hlen:=r.length;exact truthy_tuple pl (by simp only[aH];omega) ⟨H,I.tok _,by rw[tR r];exact q⟩
   ·subst e';obtain⟨hz,hS,vs,r,m⟩:k_.length<=aD/\(p == sysModules)=d_/\∃vs,KV k_ vs/\s.heap.DictOf (cj X.prog X.w) p vs:=I.hok p _ hx;have hlen:k_.length=vs.length:=oP r;exact wpAny_truthy_dict hS m (by omega) ⟨H,I.tok _,by rw[BH r];exact q⟩
 |_=>exact(show False from e).elim
def He(ha:PE X a ta)(he:∀whole,isTrue a X.env whole=(do let v <-whole;standAt a.pos;holding [v] (truthy v))) :
  PT X a (λσ H Q=>ta σ H λx H'=>∃k,Sr X.K x H' k/\Q k H'):=by
 intro h_ s σ H Q I h;exact isTrue_plain (fW (ha h_ s σ H _ I h) λv s1 ⟨x,H1,I1,r1,q1⟩=>Gr h_ s1 σ H1 x v Q I1 r1 q1) (he _)
def Bq:ie X (binaryOp .Add) (λx y H Q=>∃i j,x=.str i/\y=.str j/\i.length+j.length<=aD/\Q (.str (i++j)) H):=by
 intro h_ s σ H x y v u Q I rx ry h;obtain⟨i,j,rfl,rfl,hz,q⟩:=h;obtain⟨t,rfl⟩:=rx;obtain⟨t',rfl⟩:=ry;exact add_str (λt' tk=>⟨.str (i++j),H,I.tok _,⟨_,rfl⟩,q⟩) hz
def vals1{x:V}{us:List aa}(r:bZ [x] us):∃u,us=[u]/\RelV x u:=by
 cases r with
 |cons r1 r2=>cases r2;exact⟨_,rfl,r1⟩
def vals2{x y:V}{us:List aa}(r:bZ [x,y] us):∃u w',us=[u,w']/\RelV x u/\RelV y w':=by
 cases r with
 |cons r1 r2=>
   cases r2 with
   |cons r3 r4=>cases r4;exact⟨_,_,rfl,r1,r3⟩
def Fb:ig X (.type "int") (λxs H Q=>(∃i,xs=[.int i]/\Q (.int i) H)\/∃k,xs=[.bl k]/\Q (.int (if k then 1 else 0)) H):=by
 intro h_ s σ H xs us Q I r h
 rcases h with⟨i,rfl,q⟩|⟨k,rfl,q⟩
 ·obtain⟨u,rfl,t,rfl⟩:=vals1 r;exact call_int_int ⟨.int i,H,I,⟨_,rfl⟩,q⟩
 ·obtain⟨u,rfl,r1⟩:=vals1 r;cases r1;exact call_int_bool ⟨.int (if k then 1 else 0),H,I.tok _,⟨_,rfl⟩,q⟩
end
section
variable{prog:aO}{w:bh}{A:bp}{E:aa->ae->Prop}{s:ae}{K:aB}{x dx C f:af}{mA:aN->Option aa}{name:aN}{v:aa}
end
noncomputable def qA(f:aN)(v:V):List (aN×V)->List (aN×V)
 |[]=>[(f,v)]
 |(g,x)::r=>if g=f then(g,v)::r else(g,x)::qA f v r
def ug.some_of{v:V}{o:Option aa}(r:ug (a_ v) o):∃u,o=a_ u/\RelV v u:=by
 cases o with
 |none=>exact(show False from r).elim
 |some u=>exact⟨u,rfl,r⟩
section
variable{P:aO}{w:bh}{H H':Hp}{h h':bx}{a C dx:af}{fs fs':List (aN×V)}
end
section
variable{X:Cx}{h_:List (af×er)}{σ:St}{H:Hp}{s:ae}{a C dx:af}{fs:List (aN×V)}{f:aN}{v:V}{A:bp}{E:aa->ae->Prop}
def NO{prog:aO}{w:bh}{env:mK}{e:aF}{f:aN}{pos:dZ}{s:ae}{Q:aa->ae->Prop}(hb:attributeBase e f env (eval e env)=eval e env)
  (h:aA (aE prog w) A (eval e env) (λo s₁=>aA (aE prog w) A (getAttr o f c_) Q E s₁) E s):aA (aE prog w) A (eval (.Attribute e f pos) env) Q E s:=
 Attribute_any_ h (by rw[arm_eval_Attribute,hb])
end
section
variable{X:Cx}{o e value:aF}{f:aN}{pos pos' tpos:dZ}{ta tv:TE}
end
section
variable{X:Cx}{h_:List (af×er)}{σ:St}{H:Hp}{s:ae}{A:bp}{E:aa->ae->Prop}{Q:aa->ae->Prop}{c:aa}{b:Bool}
end
structure iJ(k:Nat)(A:bp):Prop where
 hd:A.handled=b_
 dp:A.depth+3 * k+5<recursionLimit
 un:A.units+16 * k+200<di
def iJ.mono{j k:Nat}{A:bp}(r:iJ k A)(h:j<=k):iJ j A:=⟨r.hd,by have:=r.dp;omega,by have:=r.un;omega⟩
def iJ.deeper{k:Nat}{A:bp}(r:iJ (k+1) A)(env:mK):iJ k (A.deeper env):=
 ⟨r.hd,by have:=r.dp;show A.depth+1+3 * k+5<_;omega,by have:=r.un;show A.units+3+16 * k+200<_;omega⟩
def BA{A:bp}{C:af}{us:List aa}{kw:List (aN×aa)}:(A.under (.builtin "type.__call__" ⟨.ref C::us,kw⟩)).depth=A.depth+1:=by
 first|rfl|simp[x8,Code.weight,Code.isCreation,Code.isGuard,Code.isCaller,Code.frames,Au,guardIds]
def Bz{A:bp}{C:af}{us:List aa}{kw:List (aN×aa)}:(A.under (.builtin "type.__call__" ⟨.ref C::us,kw⟩)).units=A.units+1:=by
 first|rfl|simp[x8,Code.cUnits,Code.frames,Au]
def iJ.make{k:Nat}{A:bp}(r:iJ (k+1) A)(C:af)(us:List aa)(kw:List (aN×aa)):iJ k (A.under (.builtin "type.__call__" ⟨.ref C::us,kw⟩)):=
 ⟨r.hd,by have:=r.dp;rw[BA];omega,by have:=r.un;rw[Bz];omega⟩
def iJ.depth{k:Nat}{A:bp}(r:iJ k A):A.depth<recursionLimit:=by have:=r.dp;omega
def iJ.units{k:Nat}{A:bp}(r:iJ k A):A.units+64<di:=by have:=r.un;omega
noncomputable def Tn:TA:=λ_ H Q=>Q [] H
noncomputable def Tp(ta:TE)(tr:TA):TA:=λσ H Q=>ta σ H λx H1=>tr σ H1 λxs H2=>Q (x::xs) H2
section
variable{X:Cx}{e:aF}{es:List aF}{te:TE}{t:TA}{pos:dZ}
def qD:PA X [] Tn:=λ_ _ _ _ H Q I h=>lE ⟨[],H,I,.nil,h⟩
def kd(ha:PE X e te)(hr:PA X es t)(hs:aI (e::es) X.env=(d_,eval e X.env)::aI es X.env:=by rfl):PA X (e::es) (Tp te t):=by
 intro pos h_ s σ H Q I h;rw[hs];show aA _ _ (spliced ((d_,eval e X.env)::backTo pos (aI es X.env))) _ _ s;refine D0 (fW (ha h_ s σ H _ I h) λu s1 ⟨x,H1,I1,r1,q1⟩=>?_);exact fW (hr pos h_ s1 σ H1 _ I1 q1) λus s2 ⟨xs,H2,I2,r2,q2⟩=>⟨x::xs,H2,I2,.cons r1 r2,q2⟩
noncomputable def V0(t:TA):TE:=λσ H Q=>t σ H λxs H1=>xs.length<=aD/\∀p,H1 p=b_->Q (.ref p) (upd H1 p (.tup xs))
noncomputable def V5(t:TA):TE:=λσ H Q=>t σ H λxs H1=>xs.length<=aD/\∀p,H1 p=b_->Q (.ref p) (upd H1 p (.lst xs))
def Ht{x1}(h:PA X es t):PE X (.Tuple es x1 pos) (V0 t):=by
 intro h_ s σ H Q I hq;refine wpAny_Tuple_spliced (fW (h pos h_ s σ H _ I hq) λus s1 ⟨xs,H1,I1,r,z,q⟩=>⟨by rw[<-r.length];exact z,?_⟩);have hf:H1 s1.heap.objs.size=b_:=I1.hok.fresh (aM _);refine⟨.ref s1.heap.objs.size,upd H1 s1.heap.objs.size (.tup xs),I1.laid (t':=s1.toks) (λb u e=>hp9 _ e) (aM _) ?_,rfl,q _ hf⟩;exact⟨z,us,r,⟨_,aJ _ rfl,rfl,_,rfl⟩⟩
def Qq(h:PA X es t):PE X (.List es pos) (V5 t):=by
 intro h_ s σ H Q I hq;refine wpAny_List_spliced (fW (h pos h_ s σ H _ I hq) λus s1 ⟨xs,H1,I1,r,z,q⟩=>⟨by rw[<-r.length];exact z,?_⟩);have hf:H1 s1.heap.objs.size=b_:=I1.hok.fresh (aM _);refine⟨.ref s1.heap.objs.size,upd H1 s1.heap.objs.size (.lst xs),I1.laid (t':=s1.toks) (λb u e=>hp9 _ e) (aM _) ?_,rfl,q _ hf⟩;exact⟨z,us,0,r,aJ _ rfl⟩
end
noncomputable abbrev Sp:=List V->Hp->VK->XK->Prop
noncomputable abbrev Ft:=List mK->Hp->ae->XK->aa->ae->Prop
structure eM(P:aO)(w:bh)(K:aB)(mg:aN->Option aa)(base:bx)(A:bp)(outer:List mK)(s:ae)(H:Hp):Prop where
 frames:A.frames=a_ outer
 mod:Mod K mg base
 bs:∀b o,base.get? b=a_ o->s.heap.get? b=a_ o/\H b=b_
 bsz:base.objs.size<=s.heap.objs.size
 oZ:s.heap.FunFrames base outer
 frf:∀b∈mH outer,H b=b_
 hok:oy P w H s.heap
 bare:jZ s.gens
def CE(outer:List mK)(P:aO)(w:bh)(H:Hp)(s:ae)(Q:VK)(u:aa)(s':ae):Prop:=
 ∃v H',s'.os=s.os/\jZ s'.gens/\Un (mH outer) [] H H' s.heap s'.heap/\oy P w H' s'.heap/\RelV v u/\Q v H'
def CR(CX:Ft)(outer:List mK)(P:aO)(w:bh)(H:Hp)(s:ae)(Q:VK)(E:XK)(r:Result)(s':ae):Prop:=
 match r with
 |.ok (.ret u)=>CE outer P w H s Q u s'
 |.ok _=>False
 |.error e=>CX outer H s E e s'
structure iX(P:aO)(w:bh)(K:aB)(mg:aN->Option aa)(base:bx)(CX:Ft)(k:Nat)(f:af)(fd:cx)(ps:List aN)(sp:Sp):Prop where
 len:∀vs H Q E,sp vs H Q E->vs.length=ps.length
 run:∀(A:bp)(outer:List mK)(s:ae)(H:Hp)(args:Args)(us:List aa)(vs:List V)(Q:VK)(E:XK),iJ k A->eM P w K mg base A outer s H->Av s fd args (ps.zip us)->bZ vs us->sp vs H Q E->
  codeAny (aE P w) A (.call (.ref f) args) (CR CX outer P w H s Q E) s
def iX.imp{P:aO}{w:bh}{K:aB}{mg:aN->Option aa}{base:bx}{CX:Ft}{k:Nat}{f:af}{fd:cx}{ps:List aN}{sp sp':Sp}(F:iX P w K mg base CX k f fd ps sp)
  (h:∀vs H Q E,sp' vs H Q E->sp vs H Q E):iX P w K mg base CX k f fd ps sp':=
 ⟨λvs H Q E q=>F.len vs H Q E (h _ _ _ _ q),λA outer s H args us vs Q E hr he hb hv hs=>F.run A outer s H args us vs Q E hr he hb hv (h _ _ _ _ hs)⟩
def eM.make{P:aO}{w:bh}{K:aB}{mg:aN->Option aa}{base:bx}{A:bp}{outer:List mK}{s:ae}{H:Hp}(e:eM P w K mg base A outer s H)(C:af)(us:List aa)(kw:List (aN×aa)) :
  eM P w K mg base (A.under (.builtin "type.__call__" ⟨.ref C::us,kw⟩)) outer s H:=⟨by first|exact e.frames|(simpa [x8,Code.envs,Au,pushEnvs]using e.frames),e.mod,e.bs,e.bsz,e.oZ,e.frf,e.hok,e.bare⟩
section
variable{X:Cx}{h_:List (af×er)}{σ:St}{H:Hp}{s s':ae}
def Inv.RN(I:Inv X h_ σ H s):eM X.prog X.w X.K X.mg X.base X.A X.stack s H:=
 ⟨I.ok.frames,I.ok.mod,I.bs,cW I.ok.bsz I.sz,I.stack,I.wC,I.hok,I.bare⟩
def Inv.after{Q:VK}{u:aa}(I:Inv X h_ σ H s)(h:CE X.stack X.prog X.w H s Q u s'):EP X h_ σ Q u s':=by
 obtain⟨v,H',os,bare,un,hok,r,q⟩:=h;obtain⟨hh,g,d,t,os'⟩:=s';obtain rfl:os'=s.os:=os;exact⟨v,H',I.call (h':=hh) (g':=g) (d':=d) (t':=t) (ch:=[]) un hok bare (λb z=>absurd z (by simp)),r,q⟩
end
noncomputable def GG(sp:Sp)(dvs:List V)(E:XK)(t:TA):TE:=λσ H Q=>t σ H λvs H1=>sp (vs++dvs) H1 Q E
def Binds(K:aB)(fd:cx)(ps:List aN)(ds:List aa):Prop:=
 ∀(s:ae)(us:List aa),K.In s.heap->(us++ds).length=ps.length->Av s fd ⟨us,[]⟩ (ps.zip (us++ds))
def Binds.all{K:aB}{fd:cx}{ps:List aN}(h:∀us:List aa,us.length=ps.length->bindArgs fd ⟨us,[]⟩=pure (ps.zip us)):Binds K fd ps []:=λs us _ hl=>by
 rw[bN]at hl ⊢;exact .of_eq (h us hl)
def nM(CX:Ft)(X:Cx)(E:XK):Prop:=∀(h_:List (af×er))(σ:St)(H:Hp)(s:ae)(e:aa)(s':ae),Inv X h_ σ H s->CX X.stack H s E e s'->X.xe e s'
section
variable{X:Cx}{CX:Ft}{k:Nat}{f C:af}{fd:cx}{ps:List aN}{sp:Sp}{dvs:List V}{ds:List aa}{E:XK}{x m:aN}{p pos apos:dZ}{e o:aF}{es:List aF}{ta:TE}{t:TA}
def G0{h_:List (af×er)}{σ:St}{H:Hp}{s:ae}{Q:VK}{us:List aa}{vs:List V}(F:iX X.prog X.w X.K X.mg X.base CX k f fd ps sp)(hr:iJ k X.A)(hb:Binds X.K fd ps ds)(hd:bZ dvs ds)(hx:nM CX X E)
  (I:Inv X h_ σ H s)(r:bZ vs us)(h:sp (vs++dvs) H Q E):aA (aE X.prog X.w) X.A (call (.ref f) us) (EP X h_ σ Q) X.xe s:=by
 have r2:bZ (vs++dvs) (us++ds):=r.append hd;have hl:(us++ds).length=ps.length:=by rw[<-r2.length];exact F.len _ _ _ _ h
 refine sA (fT (F.run X.A X.stack s H ⟨us,[]⟩ (us++ds) (vs++dvs) Q E hr I.RN (hb s us I.rR hl) r2 h) λr s' hq=>?_)
 cases r with
 |error e=>exact hx h_ σ H s e s' I hq
 |ok fl=>
   cases fl with
   |ret u=>exact I.after hq
   |next=>exact bF hq
   |brk=>exact bF hq
   |cont=>exact bF hq
def wR(F:iX X.prog X.w X.K X.mg X.base CX k f fd ps sp)(hr:iJ k X.A)(hg:Gl X x)(hm:X.mg x=a_ (.ref f))(hk:cX X.K (.ref f)=c_)(hb:Binds X.K fd ps ds)(hd:bZ dvs ds)(hx:nM CX X E)
  (ha:PA X (e::es) t)(hdb:(x == ("__debug__":aN))=d_)(he:aI (e::es) X.env=(d_,eval e X.env)::aI es X.env)(hpl:(backTo pos (aI es X.env)).any (·.1)=d_) :
  PE X (.Call (.Name x p) (e::es) [] pos) (GG sp dvs E t):=by
 intro h_ s σ H Q I h;refine fD (n4 I hg hm ?_ hdb);refine AH (h₀:=X.base) I.ok.mod.kin hk (fW (ha pos h_ s σ H _ I h) λus s1 ⟨vs,H1,I1,r,q⟩=>⟨I1.rR,?_⟩) he hpl;exact G0 F hr hb hd hx I1 r q
def Hz(F:iX X.prog X.w X.K X.mg X.base CX k f fd ps sp)(hr:iJ k X.A)(hg:Gl X x)(hm:X.mg x=a_ (.ref f))(hk:cX X.K (.ref f)=c_)(hb:Binds X.K fd ps ds)(hd:bZ dvs ds)(hx:nM CX X E)
  (hdb:(x == ("__debug__":aN))=d_):PE X (.Call (.Name x p) [] [] pos) (GG sp dvs E Tn):=by
 intro h_ s σ H Q I h;refine fD (n4 I hg hm ?_ hdb);exact PySem.W.callWith_K0 I.rR hk (G0 (us:=[]) F hr hb hd hx I .nil h)
structure Mk(K:aB)(C f:af):Prop where
 makes:PySem.W.makesIn K C=c_
 init:ku K (.ref C) "__init__"=a_ (a_ (.ref f))
 fn:pF K (.ref f)=c_
 kp:cX K (.ref C)=c_
end
section
variable{X:Cx}{CX:Ft}{k:Nat}{f C:af}{fd:cx}{ps ks:List aN}{sp:Sp}{E:XK}{x m:aN}{p pos apos kpos:dZ}{e o:aF}{es:List aF}{kws:List rk}{te ta:TE}{t tk:TA}{nm:Option aN}
variable{g:List aa->List aa->List aa}{gV:List V->List V->List V}
end
structure oh(N P:List aN)(sc:fk):Prop where
 kind:sc.kind=.function
 co:sc.isCoroutine=d_
 gen:sc.isGenerator=d_
 nd:N.Nodup
 pre:N.take P.length=P
 par:∀x∈P,sc.names.lookup x=a_ .local\/sc.names.lookup x=a_ .cell
 nofree:∀y∈sc.names,y.2≠.free
theorem v5{kindOf:aN->Option jf}{x:aN}:∀{binds:List (aN×aa)}{m:aN->Option aa},(∀v,(x,v)∉binds)->bindL kindOf binds m x=m x
 |[],_,_=>rfl
 |(n,v)::r,m,h=>by
   unfold bindL;rw[v5 λw hw=>h w (jN _ hw)];split
   ·have:x≠n:=by rintro rfl;exact h v jB
    simp[this]
   ·rfl
theorem v8{kindOf:aN->Option jf}{x:aN}:∀{binds:List (aN×aa)}{m:aN->Option aa},(∀v,(x,v)∉binds)->bindC kindOf binds m x=m x
 |[],_,_=>rfl
 |(n,v)::r,m,h=>by
   unfold bindC;rw[v8 λw hw=>h w (jN _ hw)];split
   ·rfl
   ·have:x≠n:=by rintro rfl;exact h v jB
    simp[this]
theorem v7{kindOf:aN->Option jf}{x:aN}{v:aa}:∀{P:List aN} {vs:List aa} {i:Nat} {m:aN->Option aa},P.Nodup->P[i]?=a_ x->vs[i]?=a_ v->kindOf x=a_ .local->
  bindL kindOf (P.zip vs) m x=a_ v
 |[],_,_,_,_,h,_,_=>by simp at h
 |_::_,[],_,_,_,_,h,_=>by simp at h
 |p::P,w::vs,0,m,nd,h1,h2,hk=>by
   simp at h1 h2;subst h1;subst h2;show bindL kindOf ((p,w)::P.zip vs) m p=_;unfold bindL;rw[v5 λv hv=>(bM.mp nd).1 (uo hv).1,if_pos hk];simp
 |p::P,w::vs,i+1,m,nd,h1,h2,hk=>by
   show bindL kindOf ((p,w)::P.zip vs) m x=_;unfold bindL;exact v7 (i:=i) (bM.mp nd).2 (by simpa using h1) (by simpa using h2) hk
theorem wa{kindOf:aN->Option jf}{x:aN}{v:aa}:∀{P:List aN} {vs:List aa} {i:Nat} {m:aN->Option aa},P.Nodup->P[i]?=a_ x->vs[i]?=a_ v->kindOf x≠a_ .local->
  bindC kindOf (P.zip vs) m x=a_ v
 |[],_,_,_,_,h,_,_=>by simp at h
 |_::_,[],_,_,_,_,h,_=>by simp at h
 |p::P,w::vs,0,m,nd,h1,h2,hk=>by
   simp at h1 h2;subst h1;subst h2;show bindC kindOf ((p,w)::P.zip vs) m p=_;unfold bindC;rw[v8 λv hv=>(bM.mp nd).1 (uo hv).1,if_neg hk];simp
 |p::P,w::vs,i+1,m,nd,h1,h2,hk=>by
   show bindC kindOf ((p,w)::P.zip vs) m x=_;unfold bindC;exact wa (i:=i) (bM.mp nd).2 (by simpa using h1) (by simpa using h2) hk
noncomputable def start(N:List aN)(vs:List V):St:=vs.map a_++bI (N.length - vs.length) b_
noncomputable def lS(CX:Ft)(P:aO)(w:bh)(K:aB)(mg:aN->Option aa)(base:bx)(N:List aN)(qual:aN)(scope:fk)(f:af)(cd:aa)(A:bp)(outer:List mK)(s:ae)(H:Hp)(E:XK):Cx where
 prog:=P
 w:=w
 K:=K
 mg:=mg
 base:=base
 A:=A.deeper (envOfC qual scope s.heap.objs.size f cd)
 N:=N
 s₀:=s
 H₀:=H
 env:=envOfC qual scope s.heap.objs.size f cd
 outer:=outer
 stack:=envOfC qual scope s.heap.objs.size f cd::outer
 ex:=[]
 calm:=c_
 fn:=λ_=>c_
 pn:=[]
 xe:=λe s'=>aA (aE P w) (A.deeper (envOfC qual scope s.heap.objs.size f cd)) (leaving (envOfC qual scope s.heap.objs.size f cd) e) (λ_ s''=>CX outer H s E e s'') (λe' s''=>CX outer H s E e' s'') s'
def Ab{sc:fk}{n:Nat}{x:aN}(h:sc.names.lookup x=a_ .cell):∃c,(cellsFrom n sc.names []).lookup x=a_ c:=by
 have q:=wj sc.names n [] (.inl h);exact Option.isSome_iff_exists.mp q
def EI{CX:Ft}{P:aO}{w:bh}{K:aB}{mg:aN->Option aa}{base:bx}{N ps:List aN}{qual:aN}{scope:fk}{f:af}{cd:aa}{A:bp}{outer:List mK}{s s1:ae}{H:Hp}{E:XK}{us:List aa}{vs:List V}
  (S:oh N ps scope)(hd:A.handled=b_)(e0:eM P w K mg base A outer s H)(hl:vs.length=ps.length)(r:bZ vs us)
  (x:InCallC s s.heap.objs.size (bindL (envOfC qual scope s.heap.objs.size f cd).kindOf (ps.zip us) λ_=>b_) (cellsFrom (s.heap.objs.size+1) scope.names []) (bindC (envOfC qual scope s.heap.objs.size f cd).kindOf (ps.zip us) λ_=>b_) s1) :
  Inv (lS CX P w K mg base N qual scope f cd A outer s H E) [] (start N vs) H s1:=by
 have hpl:ps.length<=N.length:=by have:=congrArg lH S.pre;rw[iw]at this;omega
 obtain⟨h1,tk,rfl,hk⟩:=x.done;have noA:∀b:af,b∉(lS CX P w K mg base N qual scope f cd A outer s H E).ex:=λb z=>absurd (show b∈([]:List af)from z) (by simp)
 refine⟨⟨e0.mod,S.kind,rfl,rfl,aM _,λy z c h1 h2=>?_,λy hy=>?_,λy c _ h=>?_,λ_=>hd,Around.frames_deeper e0.frames,.inr ⟨rfl,rfl⟩,λb z=>absurd z (noA b),e0.bs,e0.bsz,λb _ _=>noA b,λb z=>absurd z (noA b),e0.oZ,e0.frf⟩,
  rfl,e0.bare,Un.kept hk,⟨_,x.toInCall.ns,λi y v h1 h2 h3=>?_⟩,λy c h=>⟨_,x.cell y c h⟩,e0.hok.fresh (aM _),λy c h=>?_,λp hp=>absurd (show p∈([]:List (af×er))from hp) (by simp),e0.hok.kept hk,?_⟩
 ·exact name_of_addr x.apart (fS h1) (fS h2)
 ·have hy:scope.names.lookup y=a_ .cell\/scope.names.lookup y=a_ .free:=hy
  rcases hy with hy|hy
  ·exact Ab hy
  ·exact absurd rfl (S.nofree _ (fS hy))
 ·exact mY (x.above y c (fS h))
 ·have hi:i<vs.length:=by
   unfold start at h2;by_cases hi:i<vs.length
   ·exact hi
   ·rw[de (by simpa using hi)]at h2;rw[eK]at h2;split at h2<;>cases h2
  have ha:vs[i]?=a_ v:=by
   unfold start at h2;rw[cK (by simpa using hi),aW]at h2
   cases e:vs[i]? with
   |none=>rw[e]at h2;cases h2
   |some a=>rw[e]at h2;cases h2;rfl
  obtain⟨u,hu,rv⟩:=r.get ha
  have hp:ps[i]?=a_ y:=by
   rw[<-S.pre,List.getElem?_take_of_lt (by omega)];exact h1
  have ndP:ps.Nodup:=by rw[<-S.pre];exact S.nd.sublist (F7 _ _)
  refine⟨u,rv,?_⟩
  rcases S.par y (eB hp)with k|k
  ·exact .inl ⟨k,v7 ndP hp hu k⟩
  ·obtain⟨c,e⟩:=Ab (n:=s.heap.objs.size+1) k;refine .inr ⟨.inl k,c,e,?_⟩;have q:=x.cell y c e;rw[wa ndP hp hu (by show scope.names.lookup y≠_;rw[k];decide)]at q;exact q
 ·exact e0.hok.fresh (mY (x.above y c (fS h)))
 ·unfold start;show _=N.length;rw[cw,ak,jG];omega
def OB{CX:Ft}{P:aO}{w:bh}{K:aB}{mg:aN->Option aa}{base:bx}{k:Nat}{f:af}{name qual:aN}{params:Arguments}{body:List fw}{scope:fk}{dV kV doc pm cdv ct oc:aa}{an od:Option af}
  {osl:Array (Option aa)}{N ps:List aN}{sp:Sp}(lk:K.lookup f=a_ ⟨oc,od,.func (mi name qual params body scope dV kV doc pm an cdv ct),osl⟩)(hcd:mU K cdv qual=c_)(S:oh N ps scope)
  (len:∀vs H Q E,sp vs H Q E->vs.length=ps.length)
  (hbody:∀(A:bp)(outer:List mK)(s:ae)(H:Hp)(vs:List V)(Q:VK)(E:XK),iJ k (A.deeper (envOfC qual scope s.heap.objs.size f cdv))->sp vs H Q E->
   ∃t,B5 (lS CX P w K mg base N qual scope f cdv A outer s H E) body t/\t { nx:=λ_ H'=>Q .non H',rt:=Q } (start N vs) H) :
  iX P w K mg base CX (k+1) f (mi name qual params body scope dV kV doc pm an cdv ct) ps sp:=by
 refine⟨len,λA outer s H args us vs Q E hr e0 hb r hsp=>?_⟩;have hl:=len _ _ _ _ hsp;have KX:K.In s.heap:=e0.mod.kin.keeps λb o e=>(e0.bs b o e).1;have lim:s.heap.NoLimit:=e0.mod.nolimit.keeps λb o e=>(e0.bs b o e).1
 have hkind:∀y∈ps.zip us,scope.names.lookup y.1=a_ .local\/(scope.names.lookup y.1=a_ .cell/\((cellsFrom (s.heap.objs.size+1) scope.names []).lookup y.1).isSome=c_):=λz0 hy=>by
  obtain⟨n,v⟩:=z0
  rcases S.par n (uo hy).1 with q|q
  ·exact .inl q
  ·exact .inr ⟨q,wj _ _ _ (.inl q)⟩
 refine codeAny_call_function hr.depth (KX _ _ lk) rfl S.co S.gen rfl (PySem.W.codeRec_of KX hcd) (hb _ _ _ _ ?_);refine wpAny_newFunctionEnv_cells S.kind hkind λenv he s1 x=>?_;subst he;refine⟨lim.keeps x.toInCall.keep,codeAny_func ?_⟩;obtain⟨t,ht,hq⟩:=hbody A outer s H vs Q E (hr.deeper _) hsp;have I:Inv (lS CX P w K mg base N qual scope f cdv A outer s H E) [] (start N vs) H s1:=EI S hr.hd e0 hl r x;refine bJ (ht [] s1 (start N vs) H _ I hq) (λfl s' hs=>?_) λe s' hs=>hs
 have fin:∀{σ':St}{H':Hp}{v:V}{u:aa},Inv (lS CX P w K mg base N qual scope f cdv A outer s H E) [] σ' H' s'->RelV v u->Q v H'->CE outer P w H s Q u s':=
  λ{σ' H' v u}J rv q=>⟨v,H',J.os,J.bare,J.base,J.hok,rv,q⟩
 cases fl with
 |ret u=>
   obtain⟨v,σ',H',J,rv,q⟩:=hs;exact fin J rv q
 |next=>
   obtain⟨σ',H',J,q⟩:=hs;exact fin (v:=V.non) (u:=cJ) J rfl q
 |brk=>
   obtain⟨_,_,_,q⟩:=hs;exact bF q
 |cont=>
   obtain⟨_,_,_,q⟩:=hs;exact bF q
section
variable{X:Cx}{x:aN}{p pos:dZ}{e:aF}{es:List aF}{t:TA}{id T:String}{r:List V->Hp->VK->Prop}
noncomputable def V8(r:List V->Hp->VK->Prop)(t:TA):TE:=λσ H Q=>t σ H λvs H1=>r vs H1 Q
def ny(hc:ig X (.builtin id) r)(hg:Gl X x)(hm:X.mg x=b_)(hv:bootBuiltins x=a_ (.builtin id))(ha:PA X (e::es) t)(hn:x≠"__name__")(hdb:(x == ("__debug__":aN))=d_)
  (he:aI (e::es) X.env=(d_,eval e X.env)::aI es X.env)(hpl:(backTo pos (aI es X.env)).any (·.1)=d_):PE X (.Call (.Name x p) (e::es) [] pos) (V8 r t):=by
 intro h_ s σ H Q I h;refine fD (nE I hg hm hv ?_ hn hdb);exact oA (fW (ha pos h_ s σ H _ I h) λus s1 ⟨vs,H1,I1,r1,q1⟩=>hc h_ s1 σ H1 vs us Q I1 r1 q1) he hpl
def En(hc:ig X (.type T) r)(hg:Gl X x)(hm:X.mg x=b_)(hv:bootBuiltins x=a_ (.type T))(ha:PA X (e::es) t)(hn:x≠"__name__")(hdb:(x == ("__debug__":aN))=d_)
  (he:aI (e::es) X.env=(d_,eval e X.env)::aI es X.env)(hpl:(backTo pos (aI es X.env)).any (·.1)=d_):PE X (.Call (.Name x p) (e::es) [] pos) (V8 r t):=by
 intro h_ s σ H Q I h;refine fD (nE I hg hm hv ?_ hn hdb);exact eA (fW (ha pos h_ s σ H _ I h) λus s1 ⟨vs,H1,I1,r1,q1⟩=>hc h_ s1 σ H1 vs us Q I1 r1 q1) he hpl
end
end L2
namespace HT
open PySem PyProof.Rows
section
open PySem.SeqAt
open PySem.AutoSeq1 (wpAny_loadPart')
open PySem.MeetsSeq PySem.MeetsSeq2 PySem.MeetsSeq3
end
section
variable{prog:aO}{w:bh}{A:bp}{E:aa->ae->Prop}{s:ae}
def Nm{t b:af}{vs ws:List aa}{Q:aa->ae->Prop}(ht:Kc s.heap t vs.toArray)(hb:Kc s.heap b ws.toArray)(hv:vs≠[])
  (h1:ws=[]->Q (.ref t) s)(h2:ws≠[]->Q (.ref s.heap.objs.size) { s with heap:=s.heap.push { cls:=.type "tuple",data:=.seq (vs++ws).toArray } })
  (hsz:vs.length+ws.length<=aD):aA (aE prog w) A (binaryOp .Add (.ref t) (.ref b)) Q E s:=by
 obtain⟨⟨cls,dd,data,sl⟩,ho,hc,n,hd⟩:=id ht;obtain⟨⟨cls2,dd2,data2,yi⟩,ho2,hc2,n2,hd2⟩:=id hb;simp only at hc hd hc2 hd2;subst hc hd hc2 hd2;have e:vs.toArray++ws.toArray=(vs++ws).toArray:=by simp
 by_cases hw:ws=[]
 ·exact uv ⟨_,ho,rfl⟩ ⟨_,ho2,rfl⟩ wg DU mj lG (lx _ _)
   (tuple_addW1 t b vs.toArray ws.toArray n n2 dd dd2 sl yi (by simpa using hv) (by simp[hw])) ⟨ho,ho2,h1 hw⟩
 ·refine uv ⟨_,ho,rfl⟩ ⟨_,ho2,rfl⟩ wg DU mj lG (lx _ _)
   (tuple_addW2 t b vs.toArray ws.toArray n n2 dd dd2 sl yi (by simpa using hv) (by simpa using hw) (by rw[aH,aH];exact hsz)) ⟨ho,ho2,?_⟩
  rw[e];exact h2 hw
noncomputable def fV(n d:Nat):Option Int->Nat
 |none=>d
 |some v=>if v<0 then(v+(n:Int)).toNat else min v.toNat n
def yL(n d:Nat):fV n d b_=d:=rfl
def Li(n d k:Nat):fV n d (a_ (k:Int))=min k n:=by
 show(if(k:Int)<0 then((k:Int)+(n:Int)).toNat else min (k:Int).toNat n)=min k n;rw[if_neg (by omega),eN]
def GY(n d:Nat)(hd:d<=n)(o:Option Int):fV n d o<=n:=by
 cases o with
 |none=>exact hd
 |some v=>
   show(if v<0 then(v+(n:Int)).toNat else min v.toNat n)<=n;by_cases hv:v<0
   ·rw[if_pos hv];omega
   ·rw[if_neg hv];exact Nat.min_le_right _ _
def DC(v:Int)(n d:Nat):(if v<0 then max (v+(n:Int)) 0 else min v (n:Int))=((fV n d (a_ v):Nat):Int):=by
 show(if v<0 then max (v+(n:Int)) 0 else min v (n:Int))=(((if v<0 then(v+(n:Int)).toNat else min v.toNat n):Nat):Int)
 by_cases hv:v<0
 ·simp only[if_pos hv];omega
 ·simp only[if_neg hv];omega
def B4(lo hi:Option Int)(n:Nat):jX lo hi 1 (n:Int)=(((fV n 0 lo:Nat):Int),((fV n n hi:Nat):Int)):=by
 have h1:¬((1:Int)<0):=by omega
 unfold jX;simp only[h1,if_false];refine Cb ?_ ?_
 ·cases lo with
  |none=>rfl
  |some v=>exact DC v n 0
 ·cases hi with
  |none=>rfl
  |some v=>exact DC v n n
def Bp(i j:Nat):gW (i:Int) (j:Int) 1=j - i:=by
 unfold gW;have h1:(1:Int) > 0:=by omega
 simp only[h1,if_true,Int.ediv_one];split<;>omega
def sR{v:aa}{o:Option Int}{Q:Option Int->ae->Prop}(p:qr v o)(h:Q o s):aA (aE prog w) A (Builtin.Slice.slicePartIndex v) Q E s:=by
 cases p with
 |none=>exact slicePart_none h
 |int i t=>exact slicePart_int h
def lN{sl:af}{vl vu:aa}{lo hi:Option Int}{n:Nat}{Q:Int×Int×Nat->ae->Prop}(hs:s.heap.IsSliceOf sl vl vu .none)(pl:qr vl lo)(pu:qr vu hi)
  (h:Q (((fV n 0 lo:Nat):Int),1,fV n n hi - fV n 0 lo) s):aA (aE prog w) A (pH (.ref sl) (pure (n:Int))) Q E s:=by
 obtain⟨os,hos,hcs,hds⟩:=id hs;unfold pH Builtin.Slice.sliceFields;refine wb9 (wb9 (cO hos hds (x:=vl) rfl (wb9 (cO hos hds (x:=vu) rfl (wb9 (cO hos hds (x:=.none) rfl (wu9 ?_)))))));refine wb9 (slicePart_none ?_);show aA _ _ (if((1:Int) == 0)=c_ then _ else _) _ _ s;rw[if_neg (by decide)];refine wb9 (sR pl (wb9 (sR pu (wb9 (wu9 ?_)))));show aA _ _ (match jX lo hi 1 (n:Int)with|(lo,hi)=>pure (lo,(1:Int),gW lo hi 1)) _ _ s;rw[B4 lo hi n];show aA _ _ (pure (((fV n 0 lo:Nat):Int),(1:Int),gW ((fV n 0 lo:Nat):Int) ((fV n n hi:Nat):Int) 1)) _ _ s;rw[Bp];exact wu9 h
def Hl(xs:Array aa)(i k:Nat):((aR k).filterMap λ(m:Nat)=>xs[((i:Int)+(m:Int) * 1).toNat]?).toArray=((xs.toList.drop i).take k).toArray:=by
 have e:(λ(m:Nat)=>xs[((i:Int)+(m:Int) * 1).toNat]?)=λm=>xs[i+m]? :=by
  funext m;have:((i:Int)+(m:Int) * 1).toNat=i+m:=by omega
  rw[this]
 rw[e];have:=pick_run xs i k;rw[List.filterMap_map]at this;have e2:((λx=>xs[x]?) ∘ λx=>i+x)=λm=>xs[i+m]? :=rfl;rw[e2]at this;rw[this]
def p7{t sl:af}{items:Array aa}{vl vu:aa}{lo hi:Option Int}{Q:aa->ae->Prop}(ht:Kc s.heap t items)(hs:s.heap.IsSliceOf sl vl vu .none)(pl:qr vl lo)(pu:qr vu hi)
  (hw:¬(fV items.size 0 lo=0/\fV items.size items.size hi=items.size))
  (h:Q (.ref s.heap.objs.size) { s with heap:=s.heap.push { cls:=.type "tuple",data:=.seq ((items.toList.drop (fV items.size 0 lo)).take (fV items.size items.size hi - fV items.size 0 lo)).toArray } })
  (hsz:items.size<=aD):aA (aE prog w) A (getItem (.ref t) (.ref sl)) Q E s:=by
 have htake:sizeOk (.seq ((items.toList.drop (fV items.size 0 lo)).take (fV items.size items.size hi - fV items.size 0 lo)).toArray):=by
  show((items.toList.drop (fV items.size 0 lo)).take (fV items.size items.size hi - fV items.size 0 lo)).toArray.size<=aD;rw[aH,iw,rV,bA];omega
 have hj:fV items.size items.size hi<=items.size:=GY _ _ (aM _) hi;obtain⟨os,hos,hcs,hds⟩:=id hs;have hTs:s.TypeIs (.ref sl) "slice":=⟨os,hos,hcs⟩
 unfold getItem
 try with_reducible refine cz ?_
 first|refine wb9 (wu9 ?_)|skip
 refine wb9 (wpAny_sequenceKey ht.typeIs (by decide) ?_)
 refine wb9 (dh (name:=ag "__getitem__") ht.typeIs cQ
  (cu cQ ht.typeIs entry_tuple_getitem ?_ (args_tuple_getitem _ _)))
 show aA _ _ (jF (.ref t) >>= _) _ _ s;refine wb9 (tupleItemsOf_ ht ?_);refine wb9 (jS hTs ?_);rw[if_pos (by decide)];refine wb9 (lN hs pl pu ?_)
 have hno:¬((((fV items.size 0 lo:Nat):Int) == 0 && (1:Int) == 1 && (fV items.size items.size hi - fV items.size 0 lo) == items.size)=c_):=by
  intro q;rw[aq,aq]at q;have q1:((fV items.size 0 lo:Nat):Int)=0:=eq_of_beq q.1.1;have q2:fV items.size items.size hi - fV items.size 0 lo=items.size:=eq_of_beq q.2;exact hw ⟨by omega,by omega⟩
 show aA _ _ (if(((fV items.size 0 lo:Nat):Int) == 0 && (1:Int) == 1 && (fV items.size items.size hi - fV items.size 0 lo) == items.size)=c_ then _ else _) _ _ s;rw[if_neg hno,Hl]
 first
  |exact wb9 (m:=hV _) (cN (wu9 ⟨_,rfl,wu9 h⟩) htake)
  |exact wb9 (m:=hV _) (cN (wb9 (wu9 (wu9 ⟨_,rfl,wu9 h⟩))) htake)
  |exact wb9 (wb9 (m:=hV _) (cN (wu9 (wu9 ⟨_,rfl,wu9 h⟩)) htake))
  |exact wb9 (wb9 (m:=hV _) (cN (wu9 ⟨_,rfl,wu9 h⟩) htake))
end
end HT
namespace L2
open PySem PySem.Spec PyProof.Rows
noncomputable abbrev TO:=St->Hp->(Option Int->Hp->Prop)->Prop
def PO(X:Cx)(e:Option aF)(t:TO):Prop:=
 ∀(h_:List (af×er))(s:ae)(σ:St)(H:Hp)(Q:Option Int->Hp->Prop),Inv X h_ σ H s->t σ H Q->
  aA (aE X.prog X.w) X.A (evalPart e X.env) (λu s'=>∃o H',Inv X h_ σ H' s'/\qr u o/\Q o H') X.xe s
noncomputable def Kv:TO:=λ_ H Q=>Q b_ H
noncomputable def Th(t:TE):TO:=λσ H Q=>t σ H λx H1=>∃i,x=.int i/\Q (a_ i) H1
section
variable{X:Cx}{e:aF}{te:TE}{lo hi:Option aF}{tl th:TO}{pos p2:dZ}
def LC:PO X b_ Kv:=by
 intro h_ s σ H Q I h;rw[evalPart_none];exact wu9 ⟨b_,H,I,.none,h⟩
def LB(h:PE X e te):PO X (a_ e) (Th te):=by
 intro h_ s σ H Q I hw;rw[evalPart_some];refine fW (h h_ s σ H _ I hw) λu s1 ⟨x,H1,I1,r1,q1⟩=>?_;obtain⟨i,rfl,q⟩:=q1;obtain⟨t,rfl⟩:=r1;exact⟨a_ i,H1,I1,.int i t,q⟩
def VG(X:Cx)(r:V->Option Int->Option Int->Hp->VK->Prop):Prop:=
 ∀(h_:List (af×er))(s:ae)(σ:St)(H:Hp)(x:V)(v vl vu:aa)(lo hi:Option Int)(sl:af)(Q:VK),Inv X h_ σ H s->RelV x v->s.heap.IsSliceOf sl vl vu .none->qr vl lo->qr vu hi->r x lo hi H Q->
  ∃T id,typeLookup (.type T) "__getitem__"=pure (a_ (.builtin id))/\s.TypeIs v T/\aA (aE X.prog X.w) X.A (getItem v (.ref sl)) (EP X h_ σ Q) X.xe s
noncomputable def XY(r:V->Option Int->Option Int->Hp->VK->Prop)(te:TE)(tl th:TO):TE:=λσ H Q=>te σ H λx H1=>tl σ H1 λl H2=>th σ H2 λu H3=>r x l u H3 Q
def Hu{r:V->Option Int->Option Int->Hp->VK->Prop}(hr:VG X r)(he:PE X e te)(hl:PO X lo tl)(hu:PO X hi th):PE X (.Subscript e (.Slice lo hi b_ p2) pos) (XY r te tl th):=by
 intro h_ s σ H Q I h;refine Subscript_ (fW (he h_ s σ H _ I h) λv s1 ⟨x,H1,I1,r1,q1⟩=>?_);refine wpAny_Slice (fW (hl h_ s1 σ H1 _ I1 q1) λvl s2 ⟨l,H2,I2,pl,q2⟩=>fW (hu h_ s2 σ H2 _ I2 q2) λvu s3 ⟨u,H3,I3,pu,q3⟩=>?_);rw[evalPart_none];refine wu9 ?_;have I4:Inv X h_ σ H3 { s3 with heap:=s3.heap.push { cls:=.type "slice",data:=.fields #[vl,vu,.none] } }:=I3.kept (t':=s3.toks) λb ob q=>hp9 _ q;obtain⟨T,id,hT,ht,hg⟩:=hr h_ { s3 with heap:=s3.heap.push { cls:=.type "slice",data:=.fields #[vl,vu,.none] } } σ H3 x v vl vu l u s3.heap.objs.size Q I4 r1 (Heap.IsSliceOf.new ..) pl pu q3;show aA (aE X.prog X.w) X.A (subscriptTail e (.Slice lo hi b_ p2) v (.ref s3.heap.objs.size)) (EP X h_ σ Q) X.xe { s3 with heap:=s3.heap.push { cls:=.type "slice",data:=.fields #[vl,vu,.none] } };exact tail_any (ops:=[.ref s3.heap.objs.size,v]) ht hT hg (by with_unfolding_all rfl)
noncomputable def xK(xs:List V)(lo hi:Option Int):List V:=(xs.drop (HT.fV xs.length 0 lo)).take (HT.fV xs.length xs.length hi - HT.fV xs.length 0 lo)
def rG(xs:List V)(lo hi:Option Int):(xK xs lo hi).length<=xs.length:=by
 unfold xK;rw[iw,rV];omega
def Wh(K:aB):V->Option Int->Option Int->Hp->VK->Prop:=λx lo hi H Q=>∃a xs,x=.ref a/\rL K H a xs/\
 ¬(HT.fV xs.length 0 lo=0/\HT.fV xs.length xs.length hi=xs.length)/\∀p,H p=b_->Q (.ref p) (upd H p (.tup (xK xs lo hi)))
def Pp:VG X (Wh X.K):=by
 intro h_ s σ H x v vl vu lo hi sl Q I rx hs pl pu h;obtain⟨a,xs,rfl,hx,hw,q⟩:=h;cases rx;obtain⟨its,r,ht,hz⟩:=I.tuple hx;have hlen:its.toArray.size=xs.length:=by rw[aH];exact r.length.symm
 refine⟨"tuple",_,cQ.lookup,ht.typeIs,?_⟩;refine HT.p7 ht hs pl pu (by rw[hlen];exact hw) ?_ (by rw[hlen];exact hz);rw[hlen];refine⟨.ref s.heap.objs.size,_,I.laid (t':=s.toks) (o:=.tup (xK xs lo hi)) (λb ob q=>hp9 _ q) (aM _) ?_,rfl,q _ (I.hok.fresh (aM _))⟩;exact⟨cW (rG xs lo hi) hz,_,(r.drop (HT.fV xs.length 0 lo)).take (HT.fV xs.length xs.length hi - HT.fV xs.length 0 lo),FY _ _⟩
noncomputable def T9(K:aB):R2:=λx y H Q=>∃a b xs ys,x=.ref a/\y=.ref b/\rL K H a xs/\rL K H b ys/\xs≠[]/\xs.length+ys.length<=aD/\
 (ys=[]->Q (.ref a) H)/\(ys≠[]->∀p,H p=b_->Q (.ref p) (upd H p (.tup (xs++ys))))
def bZ.xj{xs:List V}{us:List aa}(r:bZ xs us):us=[]↔xs=[]:=by
 cases r with
 |nil=>simp
 |cons _ _=>simp
def LV:ie X (binaryOp .Add) (T9 X.K):=by
 intro h_ s σ H x y v u Q I rx ry h;obtain⟨a,b,xs,ys,rfl,rfl,ha,hb,hx,hz,q1,q2⟩:=h;cases rx;cases ry;obtain⟨its,r1,p1,_⟩:=I.tuple ha;obtain⟨j_,r2,p2,_⟩:=I.tuple hb;refine HT.Nm p1 p2 (λz=>hx (r1.xj.mp z)) (λz=>⟨.ref a,H,I,rfl,q1 (r2.xj.mp z)⟩) (λz=>?_) (by rw[<-r1.length,<-r2.length];exact hz);refine⟨.ref s.heap.objs.size,_,I.laid (t':=s.toks) (o:=.tup (xs++ys)) (λb ob q=>hp9 _ q) (aM _) ?_,rfl,q2 (λw=>z (r2.xj.mpr w)) _ (I.hok.fresh (aM _))⟩;exact⟨by rw[cw];exact hz,_,r1.append r2,FY _ _⟩
end
noncomputable def JX(n:Nat)(i:Int):Option Nat:=if 0<=i then(if i<n then a_ i.toNat else b_)else if -(n:Int)<=i then a_ (i+n).toNat else b_
noncomputable def kO{α:Type}(xs:List α)(i:Int):Option α:=(JX xs.length i).bind λj=>xs[j]?
def xt{n:Nat}{i:Int}{j:Nat}(h:JX n i=a_ j):seqIndex? i n=a_ j/\j<n/\-(n:Int)<=i/\i<n:=by
 unfold JX at h;by_cases h0:0<=i
 ·rw[if_pos h0]at h;by_cases h1:i<n
  ·rw[if_pos h1]at h;have e:i.toNat=j:=aP h;exact⟨by rw[J8 h0 h1,e],by omega,by omega,h1⟩
  ·rw[if_neg h1]at h;cases h
 ·rw[if_neg h0]at h;by_cases h1:-(n:Int)<=i
  ·rw[if_pos h1]at h;have e:(i+n).toNat=j:=aP h;exact⟨by rw[FL (by omega) h1,e],by omega,h1,by omega⟩
  ·rw[if_neg h1]at h;cases h
def xV{α:Type}{xs:List α}{i:Int}{v:α}(h:kO xs i=a_ v):∃j,seqIndex? i xs.length=a_ j/\xs[j]?=a_ v/\j<xs.length/\-(xs.length:Int)<=i/\i<xs.length:=by
 unfold kO at h
 cases e:JX xs.length i with
 |none=>rw[e]at h;cases h
 |some j=>
   rw[e]at h;obtain⟨h1,h2,h3,h4⟩:=xt e;exact⟨j,h1,h,h2,h3,h4⟩
def g9{α:Type}{xs:List α}{j:Nat}{v:α}(h:xs[j]?=a_ v):kO xs (j:Int)=a_ v:=by
 have hj:j<xs.length:=(a9.mp h).1
 have e:JX xs.length (j:Int)=a_ j:=by
  unfold JX;rw[if_pos (by omega),if_pos (by omega)];simp
 unfold kO;rw[e];exact h
def xW(b:aF):Prop:=∀o i,subscripted b d_ o i=operate [o,i] (getItem o i)
def Tc(X:Cx)(r:R2):Prop:=
 ∀(value slice:aF)(h_:List (af×er))(s:ae)(σ:St)(H:Hp)(x y:V)(v u:aa)(Q:VK),Inv X h_ σ H s->RelV x v->RelV y u->r x y H Q->
  subscripted slice d_ v u=operate [v,u] (getItem v u)->aA (aE X.prog X.w) X.A (subscriptTail value slice v u) (EP X h_ σ Q) X.xe s
def SH(X:Cx)(id:String)(r:V->List V->Hp->VK->Prop):Prop:=
 ∀(h_:List (af×er))(s:ae)(σ:St)(H:Hp)(x:V)(xs:List V)(v:aa)(us:List aa)(Q:VK),Inv X h_ σ H s->RelV x v->bZ xs us->r x xs H Q->
  aA (aE X.prog X.w) X.A (call (.builtin id) (v::us)) (EP X h_ σ Q) X.xe s
section
variable{X:Cx}{a b:aF}{ta tb:TE}{pos:dZ}
def Oo{r:R2}(hr:Tc X r)(ha:PE X a ta)(hb:PE X b tb)(hs:xW b):PE X (.Subscript a b pos) (O5 r ta tb):=by
 intro h_ s σ H Q I h;exact Subscript_ (Se ha hb I h λv u s2 x y H2 I2 rx ry q=>hr a b h_ s2 σ H2 x y v u Q I2 rx ry q (hs _ _))
noncomputable def Wl(K:aB):R2:=λx y H Q=>∃p xs i v,x=.ref p/\y=.int i/\mB K H p xs/\kO xs i=a_ v/\Q v H
noncomputable def Qc(K:aB):R2:=λx y H Q=>∃p xs i v,x=.ref p/\y=.int i/\rL K H p xs/\kO xs i=a_ v/\Q v H
noncomputable def Wk:R2:=λx y H Q=>∃z i c,x=.str z/\y=.int i/\z.length<=aD/\kO z.cps.toList i=a_ c/\Q (.str ⟨#[c]⟩) H
def Mv:Tc X (Wl X.K):=by
 intro value slice h_ s σ H x y v u Q I rx ry h hs;obtain⟨p,xs,i,z,rfl,rfl,hq,he,q⟩:=h;cases rx;obtain⟨t,rfl⟩:=ry;obtain⟨its,r,pl,hz⟩:=I.list hq;obtain⟨j,h1,h2,h3,h4,h5⟩:=xV he;obtain⟨w,ew,rw'⟩:=r.get h2;have hl:=r.length;have hn:=oX;have fin:EP X h_ σ Q w s:=⟨z,H,I,rw',q⟩
 by_cases h0:0<=i
 ·have hj:i.toNat=j:=by
   rw[J8 h0 h5]at h1;exact aP h1
  exact item_listR pl.isList h0 (by omega) (by rw[hj];simpa using ew) fin hs
 ·have hj:(i+(its.toArray.size:Int)).toNat=j:=by
   rw[FL (by omega) h4]at h1;rw[aH,<-hl];exact aP h1
  exact FX (x:=w) pl.isList.typeIs slot_list_getitem.lookup
   (wpAny_getItem_list_neg (Q:=λr s'=>r=w/\EP X h_ σ Q r s') pl.isList (by omega) (by rw[aH]<;>omega) (by omega) (by rw[hj];simpa using ew) ⟨rfl,fin⟩) hs
def Im:Tc X (Qc X.K):=by
 intro value slice h_ s σ H x y v u Q I rx ry h hs;obtain⟨p,xs,i,z,rfl,rfl,hq,he,q⟩:=h;cases rx;obtain⟨t,rfl⟩:=ry;obtain⟨its,r,pl,hz⟩:=I.tuple hq;obtain⟨j,h1,h2,h3,h4,h5⟩:=xV he;obtain⟨w,ew,rw'⟩:=r.get h2;have hl:=r.length;have hn:=oX;have fin:EP X h_ σ Q w s:=⟨z,H,I,rw',q⟩
 exact FX (x:=w) pl.typeIs slot_tuple_getitem.lookup
  (getItem_tuple (j:=j) (Q:=λr s'=>r=w/\EP X h_ σ Q r s') pl (by omega) (by omega) (by rw[aH,<-hl];exact h1) (by simpa using ew) ⟨rfl,fin⟩) hs
def Rk:Tc X Wk:=by
 intro value slice h_ s σ H x y v u Q I rx ry h hs;obtain⟨z,i,c,rfl,rfl,hz,he,q⟩:=h;obtain⟨t,rfl⟩:=rx;obtain⟨t',rfl⟩:=ry;obtain⟨j,h1,h2,h3,h4,h5⟩:=xV he;have hl:z.cps.toList.length=z.length:=by simp[FR]
 rw[hl]at h1 h4 h5;have hn:=oX
 exact tail_any (typeIs_str s z t) slot_str_getitem.lookup (getItem_str (c:=c) (by
  have e1:decide (i < -(2 ^ 63:Int))=d_:=decide_eq_false (by omega);have e2:decide (i>=2 ^ 63)=d_:=decide_eq_false (by omega)
  rw[e1,e2,Bool.or_false]) (by rw[h1];simpa using h2) ⟨.str ⟨#[c]⟩,H,I.tok _,⟨_,rfl⟩,q⟩) hs
def By(its:List aa)(n j:Nat)(u:aa):fO (·.setIfInBounds j u) { cls:=.type "list",data:=.seq its.toArray n }={ cls:=.type "list",data:=.seq (its.set j u).toArray n }:=by
 simp[fO]
def Inv.lst{h_:List (af×er)}{σ:St}{H:Hp}{s:ae}{p:af}{xs:List V}(I:Inv X h_ σ H s)(h:H p=a_ (.lst xs)) :
  ∃(its:List aa) (n:Nat),bZ xs its/\s.heap.get? p=a_ { cls:=.type "list",data:=.seq its.toArray n }/\xs.length<=aD:=by
 obtain⟨z,its,n,r,e⟩:=I.hok p _ h;exact⟨its,n,r,e,z⟩
def Inv.Q3{h_:List (af×er)}{σ:St}{H:Hp}{s:ae}{p:af}{xs ys:List V}{its its':List aa}{n n':Nat}{f:er->er}(I:Inv X h_ σ H s)(h:H p=a_ (.lst xs))
  (ho:s.heap.get? p=a_ { cls:=.type "list",data:=.seq its.toArray n })(hf:f { cls:=.type "list",data:=.seq its.toArray n }={ cls:=.type "list",data:=.seq its'.toArray n' })(r:bZ ys its')(hz:ys.length<=aD)(t:Nat) :
  Inv X h_ σ (upd H p (.lst ys)) { s with heap:=s.heap.update p f,toks:=t }:=by
 have e:(s.heap.update p f).get? p=a_ { cls:=.type "list",data:=.seq its'.toArray n' }:=by
  rw[du f ho (by rw[hf]<;>rfl),hf]
 refine I.write (x:=p) (e:=p) (by rw[h];trivial) (.inl rfl) (λb u hb q=>(dm _ _ (eW hb)).trans q) ⟨_,e⟩ ?_;exact⟨hz,its',n',r,e⟩
def Hb:V->V->V->Hp->(Hp->Prop)->Prop:=λo i v H Q=>∃p xs k j,o=.ref p/\i=.int k/\H p=a_ (.lst xs)/\JX xs.length k=a_ j/\Q (upd H p (.lst (xs.set j v)))
def set_list:NU X Hb:=by
 intro h_ s σ H o i v ov iv u Q I ro ri rv h;obtain⟨p,xs,k,j,rfl,rfl,hp,hj,q⟩:=h;cases ro;obtain⟨t,rfl⟩:=ri;obtain⟨its,n,r,ho,hz⟩:=I.lst hp;obtain⟨h1,h2,h3,h4⟩:=xt hj;have hl:=r.length;have hn:=oX
 have I':Inv X h_ σ (upd H p (.lst (xs.set j v))) { s with heap:=s.heap.update p (fO (·.setIfInBounds j u)) }:=
  I.Q3 hp ho (By its n j u) (r.set rv j) (by rw[List.length_set];exact hz) s.toks
 by_cases h0:0<=k
 ·have hk:k.toNat=j:=by
   rw[J8 h0 h4]at h1;exact aP h1
  exact PySem.W.ki_setAt ho h0 (by omega) (by rw[aH,<-hl];exact h4) (by rw[hk];exact⟨_,I',q⟩)
 ·have hk:(k+(its.toArray.size:Int)).toNat=j:=by
   rw[FL (by omega) h3]at h1;rw[aH,<-hl];exact aP h1
  exact PySem.W.ki_setBack ho (by omega) (by rw[aH,<-hl];exact h3) (by omega) (by rw[hk];exact⟨_,I',q⟩)
def wD(lo hi:Option Int)(n:Nat):(sliceBounds lo hi b_ n).1=((HT.fV n 0 lo:Nat):Int)/\(sliceBounds lo hi b_ n).2.1=((HT.fV n n hi:Nat):Int)/\(sliceBounds lo hi b_ n).2.2=1:=by
 refine⟨?_,?_,rfl⟩
 ·cases lo with
  |none=>simp[sliceBounds,HT.fV]
  |some i=>
    simp only[sliceBounds,HT.fV,Fy,show(1:Int) > 0 by decide,if_true];by_cases h:i<0
    ·simp only[h,if_true]<;>omega
    ·simp only[h,if_false]<;>omega
 ·cases hi with
  |none=>simp[sliceBounds,HT.fV]
  |some i=>
    simp only[sliceBounds,HT.fV,Fy,show(1:Int) > 0 by decide,if_true];by_cases h:i<0
    ·simp only[h,if_true]<;>omega
    ·simp only[h,if_false]<;>omega
def uP(its:List aa)(lo hi:Option Int):slicePick its.toArray lo hi b_=((its.drop (HT.fV its.length 0 lo)).take (HT.fV its.length its.length hi - HT.fV its.length 0 lo)).toArray:=by
 obtain⟨h1,h2,h3⟩:=wD lo hi its.toArray.size;unfold slicePick;rw[h1,h2,h3];simp only[sliceRange_one,pick_run,aH]<;>rfl
def Wi(K:aB):V->Option Int->Option Int->Hp->VK->Prop:=λx lo hi H Q=>∃a xs,x=.ref a/\mB K H a xs/\∀p,H p=b_->Q (.ref p) (upd H p (.lst (xK xs lo hi)))
def KP:VG X (Wi X.K):=by
 intro h_ s σ H x v vl vu lo hi sl Q I rx hs pl pu h;obtain⟨a,xs,rfl,hx,q⟩:=h;cases rx;obtain⟨its,r,ht,hz⟩:=I.list hx;have hlen:=r.length;refine⟨"list",_,slot_list_getitem.lookup,ht.isList.typeIs,?_⟩;refine wpAny_getItem_list_slice ht.isList hs pl pu .none (by simp) ?_ (by rw[aH]<;>omega);rw[uP,<-hlen];refine⟨.ref s.heap.objs.size,_,I.laid (t':=s.toks) (o:=.lst (xK xs lo hi)) (λb ob q=>hp9 _ q) (aM _) ?_,rfl,q _ (I.hok.fresh (aM _))⟩;exact⟨cW (rG xs lo hi) hz,_,0,(r.drop (HT.fV xs.length 0 lo)).take (HT.fV xs.length xs.length hi - HT.fV xs.length 0 lo),aJ _ rfl⟩
noncomputable def vT:V->Bool
 |.non=>c_
 |.bl _=>c_
 |.int _=>c_
 |.str _=>c_
 |_=>d_
def wV:ie X (compareOp .NotIn) (λx y H Q=>∃i j,x=.str i/\y=.str j/\Q (.bl (!(!(dv j i 0 j.length 1).isEmpty))) H):=by
 intro h_ s σ H x y v u Q I rx ry h;obtain⟨i,j,rfl,rfl,q⟩:=h;obtain⟨t,rfl⟩:=rx;obtain⟨t',rfl⟩:=ry;exact notIn_str ⟨.bl _,H,I,rfl,q⟩
def qd:ig X (.builtin "len") (λxs H Q=>∃p ys,xs=[.ref p]/\(mB X.K H p ys\/rL X.K H p ys)/\Q (.int ys.length) H):=by
 intro h_ s σ H xs us Q I r h;obtain⟨p,ys,rfl,hq,q⟩:=h;obtain⟨u,rfl,rx⟩:=vals1 r;cases rx;have hn:=oX
 rcases hq with hq|hq
 ·obtain⟨its,r',pl,hz⟩:=I.list hq;have hlen:=r'.length;exact Calls.call_len_list pl.isList (by simp only[aH]<;>omega) ⟨.int ys.length,H,I.tok _,⟨s.toks+1,by rw[aH,hlen]⟩,q⟩
 ·obtain⟨its,r',pl,hz⟩:=I.tuple hq;have hlen:=r'.length;exact len_tuple pl (by simp only[aH]<;>omega) ⟨.int ys.length,H,I.tok _,⟨s.toks+1,by rw[aH,hlen]⟩,q⟩
def xP:ig X (.builtin "len") (λxs H Q=>∃z,xs=[.str z]/\z.length<=aD/\Q (.int z.length) H):=by
 intro h_ s σ H xs us Q I r h;obtain⟨z,rfl,hz,q⟩:=h;obtain⟨u,rfl,t,rfl⟩:=vals1 r;have hn:=oX;exact len_str (by omega) ⟨.int z.length,H,I.tok _,⟨_,rfl⟩,q⟩
def qc:ig X (.type "list") (λxs H Q=>∃p ys,xs=[.ref p]/\(mB X.K H p ys\/rL X.K H p ys)/\∀l,H l=b_->Q (.ref l) (upd H l (.lst ys))):=by
 intro h_ s σ H xs us Q I r h;obtain⟨p,ys,rfl,hq,q⟩:=h;obtain⟨u,rfl,rx⟩:=vals1 r;cases rx
 have fin:∀(its:List aa),bZ ys its->ys.length<=aD->∀(h':bx) (c':Nat),(∀b o',s.heap.get? b=a_ o'->h'.get? b=a_ o')->
   h'.get? s.heap.objs.size=a_ { cls:=.type "list",dict:=b_,data:=.seq its.toArray c',slots:=#[] }->EP X h_ σ Q (.ref s.heap.objs.size) { s with heap:=h' }:=λits r' hz h' c' kp e=>
  ⟨.ref s.heap.objs.size,_,I.laid (t':=s.toks) kp (aM _) (show hJ X.prog X.w _ h' _ (.lst ys)from⟨hz,its,c',r',e⟩),rfl,q _ (I.hok.fresh (aM _))⟩
 rcases hq with hq|hq
 ·obtain⟨its,r',pl,hz⟩:=I.list hq;have hlen:=r'.length;obtain⟨o,ho,hc,n,hd⟩:=pl.isList;exact call_list_seq p (.inl rfl) ho hc hd (λh' c' kp e=>fin its r' hz h' c' kp e) (by simp only[aH]<;>omega)
 ·obtain⟨its,r',pl,hz⟩:=I.tuple hq;have hlen:=r'.length;obtain⟨o,ho,hc,n,hd⟩:=pl;exact call_list_seq p (.inr rfl) ho hc hd (λh' c' kp e=>fin its r' hz h' c' kp e) (by simp only[aH]<;>omega)
def oM:ig X (.type "tuple") (λxs H Q=>∃p ys,xs=[.ref p]/\((mB X.K H p ys/\∀l,H l=b_->Q (.ref l) (upd H l (.tup ys)))\/(rL X.K H p ys/\Q (.ref p) H))):=by
 intro h_ s σ H xs us Q I r h;obtain⟨p,ys,rfl,h⟩:=h;obtain⟨u,rfl,rx⟩:=vals1 r;cases rx
 rcases h with⟨hq,q⟩|⟨hq,q⟩
 ·obtain⟨its,r',pl,hz⟩:=I.list hq;have hlen:=r'.length;refine call_tuple_list pl.isList (λh' kp=>?_) (by simp only[aH]<;>omega);have I1:Inv X h_ σ H { s with heap:=h' }:=I.kept (t':=s.toks) kp
  have I2:Inv X h_ σ (upd H h'.objs.size (.tup ys)) { s with heap:=h'.push { cls:=.type "tuple",data:=.seq its.toArray } }:=
   I1.laid (t':=s.toks) (λb o e=>hp9 _ e) (aM _) (show hJ X.prog X.w _ _ _ (.tup ys)from⟨hz,its,r',FY _ _⟩)
  exact⟨.ref h'.objs.size,_,I2,rfl,q _ (I1.hok.fresh (aM _))⟩
 ·obtain⟨its,r',pl,hz⟩:=I.tuple hq;exact call_tuple_same pl ⟨.ref p,H,I,rfl,q⟩
def VX(K:aB)(T:String)(x:V)(H:Hp):Prop:=match x with
 |.str _=>T="str"
 |.int _=>T="int"
 | .ref p=>(T="list"/\∃xs,mB K H p xs)\/(T="tuple"/\∃o,K.lookup p=a_ o/\o.cls=.type "tuple"/\o.dict=b_)\/
   (T="dict"/\((∃k_,H p=a_ (.dK k_))\/∃k_,H p=a_ (.dT k_)))\/(T="set"/\∃S n,H p=a_ (.set S n))
 |_=>False
def Gi{h_:List (af×er)}{σ:St}{H:Hp}{s:ae}{T:String}{x:V}{v:aa}(I:Inv X h_ σ H s)(r:RelV x v)(ty:VX X.K T x H) :
  s.TypeIs v T/\∀a,v=.ref a->∃ob,s.heap.get? a=a_ ob/\ob.dict=b_:=by
 cases x with
 |str z=>
   obtain⟨t,rfl⟩:=r;cases(show T="str" from ty);exact⟨typeIs_str s z t,λ_ e=>nomatch e⟩
 |int i=>
   obtain⟨t,rfl⟩:=r;cases(show T="int" from ty);exact⟨typeIs_int s i t,λ_ e=>nomatch e⟩
 |ref p=>
   cases r
   rcases ty with⟨rfl,xs,hq⟩|⟨rfl,o,hk,hc,hd⟩|⟨rfl,hk⟩|⟨rfl,S,n,hk⟩
   ·obtain⟨its,_,pl,_⟩:=I.list hq;refine⟨pl.isList.typeIs,λa e=>?_⟩;cases e;obtain⟨o,n,e,c,hd,_⟩:=pl;exact⟨o,e,hd⟩
   ·refine⟨⟨o,I.rR p o hk,hc⟩,λa e=>?_⟩;cases e;exact⟨o,I.rR _ o hk,hd⟩
   ·have z:∃o,s.heap.get? p=a_ o/\o.ExactDict:=by
     rcases hk with⟨k_,hk⟩|⟨k_,hk⟩
     ·obtain⟨_,_,_,_,o,_,_,e,ex,_⟩:=I.hok p _ hk;exact⟨o,e,ex⟩
     ·obtain⟨_,_,_,_,o,_,_,e,ex,_⟩:=I.hok p _ hk;exact⟨o,e,ex⟩
    obtain⟨o,e,ex⟩:=z;refine⟨⟨o,e,ex.1⟩,λa e2=>?_⟩;cases e2;exact⟨o,e,ex.2.1⟩
   ·obtain⟨o,_,_,_,e,ex,_⟩:=I.hok p _ hk;refine⟨⟨o,e,ex.1⟩,λa e2=>?_⟩;cases e2;exact⟨o,e,ex.2.1⟩
 |_=>exact bF ty
noncomputable def Tr(K:aB)(T:String)(r:V->List V->Hp->VK->Prop)(to:TE):TE:=λσ H Q=>to σ H λx H1=>VX K T x H1/\r x [] H1 Q
noncomputable def Ts(K:aB)(T:String)(r:V->List V->Hp->VK->Prop)(to:TE)(t:TA):TE:=λσ H Q=>to σ H λx H1=>VX K T x H1/\t σ H1 λxs H2=>r x xs H2 Q
variable{o e:aF}{es:List aF}{to:TE}{t:TA}{name:aN}{apos cpos:dZ}{T id:String}{r:V->List V->Hp->VK->Prop}
def Qr(pa:PlainAttrs T)(slot:Slot T name id)(hty:typeOf (.builtin id)=pure (.type "method_descriptor"))(hm:SH X id r)(ho:PE X o to)
  (hbase:attributeBase o name X.env (eval o X.env)=eval o X.env)(hline:(apos.endLine == cpos.line)=c_):PE X (.Call (.Attribute o name apos) [] [] cpos) (Tr X.K T r to):=by
 intro h_ s σ H Q I h;refine wpAny_Call_method0_late hbase hline (fW (ho h_ s σ H _ I h) λv s1 ⟨x,H1,I1,r1,ty,q1⟩=>?_);obtain⟨h1,h2⟩:=Gi I1 r1 ty;exact⟨T,id,pa,slot,hty,h1,h2,yv rfl (PySem.evalArgs_none (hm h_ s1 σ H1 x [] v [] Q I1 r1 .nil q1))⟩
def vA(pa:PlainAttrs T)(slot:Slot T name id)(hty:typeOf (.builtin id)=pure (.type "method_descriptor"))(hm:SH X id r)(ho:PE X o to)(ha:PA X (e::es) t)
  (hbase:attributeBase o name X.env (eval o X.env)=eval o X.env)
  (hfew:((backTo cpos (aI (e::es) X.env)).all (λx=>!x.1) && (backToKw cpos (keywordEach [] X.env)).all (λx=>x.1.isSome)
   && decide ((e::es).length+([]:List rk).length+(if([]:List rk).isEmpty then 0 else 1)<30))=c_:=by rfl)
  (hline:(apos.endLine == cpos.line)=c_:=by rfl)(hs:aI (e::es) X.env=(d_,eval e X.env)::aI es X.env:=by rfl)(hplain:(backTo cpos (aI es X.env)).any (·.1)=d_:=by rfl) :
  PE X (.Call (.Attribute o name apos) (e::es) [] cpos) (Ts X.K T r to t):=by
 intro h_ s σ H Q I h;refine wpAny_Call_method_late hbase hfew hline rfl (fW (ho h_ s σ H _ I h) λv s1 ⟨x,H1,I1,r1,ty,q1⟩=>?_);obtain⟨h1,h2⟩:=Gi I1 r1 ty;refine⟨T,id,pa,slot,hty,h1,h2,?_⟩;have hA:=ha cpos h_ s1 σ H1 _ I1 q1;rw[hs]at hA ⊢;refine yv (by show(d_ || (backTo cpos (aI es X.env)).any (·.1))=d_;rw[hplain]<;>rfl) (AK ?_);exact fW hA λus s2 ⟨vs,H2,I2,r2,q2⟩=>hm h_ s2 σ H2 x vs v us Q I2 r1 r2 q2
end
def VI(X:Cx)(id:String)(r:V->List V->Hp->VK->Prop):Prop:=
 ∀(h_:List (af×er))(s:ae)(σ:St)(H:Hp)(x:V)(xs:List V)(v:aa)(us:List aa)(Q:VK),Inv X h_ σ H s->RelV x v->bZ xs us->r x xs H Q->
  aA (aE X.prog X.w) X.A (call (.builtin id) (v::us)) (EP X h_ σ Q) X.xe s
def bZ.one:∀{x:V}{us:List aa},bZ [x] us->∃u,us=[u]/\RelV x u
 |_,_,.cons r .nil=>⟨_,rfl,r⟩
def bZ.zero:∀{us:List aa},bZ [] us->us=[]
 |_,.nil=>rfl
def RL{α:Type}(l:List α):l.eraseIdx (l.length - 1)=l.dropLast:=by
 induction l with
 |nil=>rfl
 |cons a r ih=>
   cases r with
   |nil=>rfl
   |cons b r=>
     have e:(a::b::r).length - 1=((b::r).length - 1)+1:=by
      have h1:(a::b::r).length=r.length+2:=rfl;have h2:(b::r).length=r.length+1:=rfl;omega
     rw[e,yw,ih]
     all_goals rfl
section
variable{X:Cx}{h_:List (af×er)}{σ:St}{H:Hp}{s:ae}{l b:af}{xs ys zs:List V}
def Inv.Mp{its its':List aa}{n:Nat}{f:Array aa->Array aa}{t':Nat}(I:Inv X h_ σ H s)(hH:H l=a_ (.lst xs))
  (e:s.heap.get? l=a_ { cls:=.type "list",data:=.seq its.toArray n })(hf:f its.toArray=its'.toArray)(hv:bZ ys its')(hz:ys.length<=aD) :
  Inv X h_ σ (upd H l (.lst ys)) { s with heap:=s.heap.update l (fO f),toks:=t' }:=by
 have q:=PySem.IsL.update e f;rw[hf]at q;refine I.write (x:=l) (e:=l) (by rw[hH];exact trivial) (.inl rfl) (λb' u hb hu=>(dm s.heap (fO f) (eW hb)).trans hu) ⟨_,q⟩ ?_;exact⟨hz,its',_,hv,q⟩
def Inv.WD{its:List aa}{t':Nat}(I:Inv X h_ σ H s)(hv:bZ ys its)(hz:ys.length<=aD) :
  Inv X h_ σ (upd H s.heap.objs.size (.lst ys)) { s with heap:=s.heap.push { cls:=.type "list",data:=.seq its.toArray },toks:=t' }:=
 I.laid (λ_ _ q=>hp9 _ q) (aM _) ⟨hz,its,0,hv,aJ _ rfl⟩
def Inv.fresh(I:Inv X h_ σ H s):H s.heap.objs.size=b_:=I.hok.fresh (aM _)
def Inv.Mo(I:Inv X h_ σ H s)(hH:H l=a_ (.lst xs)):xs.length<=aD/\∃(its:List aa) (n:Nat),bZ xs its/\xs.length=its.length/\s.heap.get? l=a_ { cls:=.type "list",data:=.seq its.toArray n }:=by
 obtain⟨z,its,n,r,e⟩:=I.hok l _ hH;exact⟨z,its,n,r,r.length,e⟩
def HN{n:Nat}(h:n<=aD):eZ n=d_:=by
 unfold eZ;exact decide_eq_false (by omega)
end
section
variable{X:Cx}
def CJ:V->List V->Hp->VK->Prop:=λx vs H Q=>∃l xs y,x=.ref l/\vs=[y]/\H l=a_ (.lst xs)/\xs.length<aD/\Q .non (upd H l (.lst (xs++[y])))
def Ew:VI X "list.append" CJ:=by
 intro h_ s σ H x vs v us Q I rx rv h;obtain⟨l,xs,y,rfl,rfl,hH,hz,q⟩:=h;cases rx;obtain⟨u,rfl,ru⟩:=rv.one;obtain⟨z,its,n,r,hl,e⟩:=I.Mo hH;refine mh uB ⟨_,e,rfl⟩ F.entry_list_append (F.args_list_append_2 _ _) (PySem.list_append l its.toArray n u (by rw[aH];omega)) ⟨e,?_⟩;refine⟨.non,_,I.Mp (its':=its++[u]) hH e (by simp) (r.append (.cons ru .nil)) ?_,rfl,q⟩;rw[cw,AM];omega
def Bi:V->List V->Hp->VK->Prop:=λx vs H Q=>∃l xs,x=.ref l/\vs=[]/\H l=a_ (.lst xs)/\Q .non (upd H l (.lst []))
def HX:VI X "list.clear" Bi:=by
 intro h_ s σ H x vs v us Q I rx rv h;obtain⟨l,xs,rfl,rfl,hH,q⟩:=h;cases rx;have hus:=rv.zero;subst hus;obtain⟨z,its,n,r,hl,e⟩:=I.Mo hH;refine mh va ⟨_,e,rfl⟩ F.entry_list_clear (F.args_list_clear_1 _) (AutoSeq1.list_clear_list_0 l its.toArray n (by rw[aH];omega)) ⟨e,?_⟩;exact⟨.non,_,I.Mp (its':=[]) (ys:=[]) hH e rfl .nil (fK _),rfl,q⟩
end
section
variable{prog:aO}{w:bh}{A:bp}{E:aa->ae->Prop}{s:ae}
end
section
variable{X:Cx}
end
end L2
namespace Att
open PySem PySem.W PySem.Calls PyProof.Rows
def rS{P:Params}{h:bx}:∀(ns:List Int)(vs:List aa),WellAll P h vs (ns.map WData.int)->jY vs ns:=by
 intro ns
 induction ns with
 |nil=>
   intro vs w;rw[dQ]at w;cases w;exact .nil
 |cons n ns ih=>
   intro vs w;rw[aw]at w
   cases w with
   |cons a b=>
     cases a;exact .cons _ _ (ih _ b)
def Ec{l:iK}{n:Nat}(hn:l.most=a_ n){P:Params}{h:bx}{args:List WData}{vals:List aa}
  (hpre:l.row.toRowW.claim.pre args=c_)(hwl:WellAll P h vals args) :
  ∃a vs ns,vals=[bR a]/\args=[WData.list (ns.map WData.int)]/\h.get? a=a_ { cls:=.type "list",data:=.seq vs.toArray }/\jY vs ns/\ns.length<=n:=by
 have hsh:WShape.hasAll [] args [.list .int]=c_:=(pre_splitW hpre).1;have hc:l.pre.holds [] { args:=args }=c_:=(pre_splitW hpre).2;obtain⟨d,r,rfl,h1,h2⟩:=hasAllW_cons hsh;obtain rfl:=hasAllW_nil h2;obtain⟨xs,rfl,h3⟩:=hasW_list h1;obtain⟨ns,rfl⟩:=items_int h3
 have hlen:ns.length<=n:=by
  unfold OpenLaw.pre at hc
  have h4:(WTm.not (.lt (.lit (.int (n:Int))) (.len (.arg 0)))).holds [] { args:=[.list (ns.map .int)] }=c_:=by
   have h4:=(holds_andW hc).1;rw[hn]at h4;exact h4
  have h5:=condW_of h4 (w_not (w_lt w_lit (w_len_list (w_arg rfl))));rw[ak]at h5;refine Nat.le_of_not_lt λq=>?_;have q':(n:Int)<((ns.length:Nat):Int):=by omega
  first
   |(rw[decide_eq_true q']at h5;exact absurd h5 (by decide))
   |(simp at h5;omega)
 cases hwl with
 |cons w1 w2=>
   cases w2
   cases w1 with
   |list ho hall=>exact⟨_,_,ns,rfl,rfl,ho,rS ns _ hall,hlen⟩
def El(l:iK)(args:List WData):l.row.toRowW.claim.post args (.bool c_) args=c_:=
 postW_of (r:=l.row.toRowW) (X:=(c_ == c_))
  (show WShape.has [] (.bool c_) .bool=c_ by first|rfl|decide|simp[WShape.has,WShape.arms,WShape.armsAll])
  (show(WTm.eq .res (.lit (.bool c_))).value [] { args:=args,res:=a_ (.bool c_),after:=args }=a_ (.bool (c_ == c_))from w_eq_bool (w_res rfl) w_lit) rfl
def Am{l:iK}{n:Nat}{q:aO}{loose:List aN}{XP:(aN->Option aa)->bx->Prop}{YP:bh->bx->Prop}{d:DefRec}
  (hn:l.most=a_ n)(hdf:d.params.defaults=[])
  (call:∀(w:bh)(s₀ s₁:ae)(mg mb:aN->Option aa)(fa:af)(o:er)(pm cd doc:aa)(a:af)(vs:List aa)(ns:List Int),
   Ground q loose [] XP w s₀ mg mb s₁.heap->YP w s₁.heap->
   s₁.heap.get? fa=a_ o->o.data=.func (docDef d.name d.params d.body d.scope pm cd doc)->s₁.heap.CodeRec cd d.name->mg d.name=a_ (.ref fa)->
   s₁.heap.get? a=a_ { cls:=.type "list",data:=.seq vs.toArray }->jY vs ns->ns.length<=n->s₁.gens=#[]->
   codeAny (aE l.prog w) callerA (.call (.ref fa) ⟨[.ref a],[]⟩) (λr s'=>r=.ok (.ret (.bool c_))/\OldK s₁.heap s'.heap/\s'.os=s₁.os/\jZ s'.gens) s₁) :
  uw q loose XP YP l.row.toRowW d [] (λf vs=>DW f vs):=by
 intro w s₀ s₁ mg mb G Y fa o pm cd doc dV kV ho hd hcd hD hmg hg args vals as hpre hlay hrd hwl hlo;obtain rfl:dV=.none:=Dflts.none hD hdf;obtain rfl:kV=.none:=Dflts.noKw hD;obtain⟨a,vs,ns,rfl,rfl,hobj,hints,hlen⟩:=Ec hn hpre hwl;refine enter_call (fT (call w s₀ s₁ mg mb fa o pm cd doc a vs ns G Y ho (fd_plain hd) hcd hmg hobj hints hlen hg) λr s' hq=>?_);obtain⟨rfl,h2,h3,h4⟩:=hq;exact⟨.inl ⟨.bool c_,.bool c_,[],rfl,λ_=>rfl,.bool c_,El l _,λ_=>⟨vh,λ_ hm=>(nomatch hm)⟩⟩,h2,h3,h4⟩
section
variable{prog:aO}{w:bh}{A:bp}{E:aa->ae->Prop}{s:ae}{K:aB}
end
end Att
namespace L2
open PySem PySem.Spec PyProof.Rows
theorem vj:∀{vs:List aa}{ns:List Int},jY vs ns->bZ (ns.map V.int) vs
 |_,_,.nil=>.nil
 |_,_,.cons n t h=>.cons ⟨t,rfl⟩ (vj h)
def Sz(H:Hp):Prop:=∀b,H b=b_\/∃o xs,H b=a_ (.kh o (.lst xs))
def Ij{P:aO}{w:bh}{K:aB}{mg mb:aN->Option aa}{CX:Ft}{k:Nat}{fa a:af}{fd:cx}{x:aN}{sp:Sp}{s₁:ae}{vs:List aa}{ns:List Int}
  (KX:K.In s₁.heap)(hns:s₁.heap.Ns mainGlobals mg)(hb:s₁.heap.Ns builtinsNs mb)(hbb:∀x:aN,x≠"__name__"->mb x=bootBuiltins x)(hlim:s₁.heap.NoLimit)(hg:s₁.gens=#[])
  (ha:s₁.heap.get? a=a_ { cls:=.type "list",data:=.seq vs.toArray })(hi:jY vs ns)(hl:ns.length<=aD)(hr:iJ k callerA)
  (F:∀base:bx,K.In base->base.Ns mainGlobals mg->iX P w K mg base CX k fa fd [x] sp)(hbind:∀(s:ae)(u:aa),Av s fd ⟨[u],[]⟩ [(x,u)])
  (hsp:∀H:Hp,Sz H->mB K H a (ns.map V.int)->sp [.ref a] H (λv _=>v=.bl c_) λ_ _ _=>False)
  (hCX:∀H e s',CX [] H s₁ (λ_ _ _=>False) e s'->False) :
  codeAny (aE P w) callerA (.call (.ref fa) ⟨[.ref a],[]⟩) (λr s'=>r=.ok (.ret (.bool c_))/\OldK s₁.heap s'.heap/\s'.os=s₁.os/\jZ s'.gens) s₁:=by
 have rv:=vj hi;have lenV:=hi.length
 have core:∀H:Hp,Sz H->mB K H a (ns.map V.int)->oy P w H s₁.heap->(∀b,H b≠b_->b=a)->(H a≠b_->K.lookup a=b_)->
   codeAny (aE P w) callerA (.call (.ref fa) ⟨[.ref a],[]⟩) (λr s'=>r=.ok (.ret (.bool c_))/\OldK s₁.heap s'.heap/\s'.os=s₁.os/\jZ s'.gens) s₁:=by
  intro H hO hS hok hA hK;have base_of:∀{b:af}{o:er},s₁.heap.get? b=a_ o->H b=b_->(xx s₁.heap H).get? b=a_ o:=λe n=>ID e n
  have noA:∀{b:af}{o:er}{es:Array DictEntry}{ep:Nat},s₁.heap.get? b=a_ o->o.data=.dict es ep->H b=b_:=λ{b o es ep}e d=>by
   cases q:H b with
   |none=>rfl
   |some u=>
     have e':b=a:=hA b (by rw[q];simp);subst e';rw[ha]at e;cases e;have d':Data.seq vs.toArray _=Data.dict es ep:=d;cases d'
  have nsK:∀{b:af}{m:aN->Option aa},s₁.heap.Ns b m->(xx s₁.heap H).Ns b m:=λ{b m} ⟨o,es,ep,e,d,r⟩=>⟨o,es,ep,base_of e (noA e d),d,r⟩
  have hKb:K.In (xx s₁.heap H):=λb o e=>base_of (KX b o e) (by
   cases q:H b with
   |none=>rfl
   |some u=>
     have e':b=a:=hA b (by rw[q];simp);subst e'
     rw[hK (by rw[q];simp)]at e;cases e)
  have hM:Mod K mg (xx s₁.heap H):=⟨hKb,nsK hns,⟨mb,nsK hb,hbb⟩,let ⟨mc,h1,h2⟩:=hlim;⟨mc,nsK h1,h2⟩⟩
  have e0:eM P w K mg (xx s₁.heap H) callerA [] s₁ H:=⟨rfl,hM,λb o e=>LZ e,AL (EJ _ _),trivial,λb hb=>absurd (show b∈([]:List af)from hb) (by simp),hok,.of_eq hg⟩
  refine fT ((F _ hKb (nsK hns)).run callerA [] s₁ H ⟨[.ref a],[]⟩ [.ref a] [.ref a] _ _ hr e0 (hbind s₁ (.ref a)) (.cons rfl .nil) (hsp H hO hS)) λr s' h=>?_
  cases r with
  |error e=>exact(hCX H e s' h).elim
  |ok fl=>
    cases fl with
    |next=>exact bF h
    |brk=>exact bF h
    |cont=>exact bF h
    |ret u=>
      obtain⟨v,H',os,bare,un,hok',r',q⟩:=h;have q':v=.bl c_:=q;subst q';obtain rfl:u=iV c_:=r';refine⟨rfl,OldK.of_keep λb o e=>?_,os,bare⟩
      cases q:H b with
      |none=>exact un.keep b o e q (by intro z;exact absurd (show b∈([]:List af)from z) (by simp)) (by simp)
      |some u=>
        rcases hO b with z|⟨ob,xs,z⟩
        ·rw[q]at z;cases z
        ·have z2:=un.frzs b ob _ z;obtain⟨e1,_⟩:=hok b _ z;obtain⟨e2,_⟩:=hok' b _ z2;rw[e]at e1;cases e1;exact e2
 cases hk:K.lookup a with
 |some o=>
   have e:=KX a o hk;rw[ha]at e;cases e;refine core (λ_=>b_) (λ_=>.inl rfl) (.inr ⟨_,vs.toArray,_,hk,rfl,rfl,rfl,by rw[aH,lenV];exact hl,by simpa using rv⟩) (λb u z=>by have z':(b_:Option HO)=a_ u:=z;cases z') (λb z=>absurd rfl z) λz=>absurd rfl z
 |none=>
   refine core (λb=>if b=a then a_ (.kh { cls:=.type "list",data:=.seq vs.toArray } (.lst (ns.map V.int)))else b_) (λb=>?_) (.inl (.inr ⟨{ cls:=.type "list",data:=.seq vs.toArray },if_pos rfl⟩)) (λb u z=>?_) (λb z=>?_) λ_=>hk
   ·by_cases hb:b=a
    ·exact .inr ⟨_,_,if_pos hb⟩
    ·exact .inl (if_neg hb)
   ·by_cases hb:b=a
    ·have z':=(if_pos hb).symm.trans z;cases z';subst hb;exact⟨ha,by rw[ak];exact hl,vs,_,rv,ha⟩
    ·have z':=(if_neg hb).symm.trans z;cases z'
   ·by_cases hb:b=a
    ·exact hb
    ·exact absurd (if_neg hb) z
noncomputable abbrev XT{K:aB}{h:bx}(_:K.In h):aB:=K
def Ko{l:iK}{n k:Nat}{q:aO}{loose:List aN}{XP:(aN->Option aa)->bx->Prop}{YP:bh->bx->Prop}{d:DefRec}{K:Params->aB}{CX:bh->Ft}{sp:bh->Sp}{x:aN}
  (hn:l.most=a_ n)(hn2:n<=aD)(hdf:d.params.defaults=[])(hr:iJ k callerA)
  (hY:∀(w:bh)(h:bx),YP w h->(K w.params).In h)
  (F:∀(w:bh)(mg:aN->Option aa)(fa:af)(h:bx),(K w.params).In h->h.Ns mainGlobals mg->mg d.name=a_ (.ref fa)->
   ∃fd:cx,(∀(s:ae)(u:aa),Av s fd ⟨[u],[]⟩ [(x,u)])/\
    ∀base:bx,(K w.params).In base->base.Ns mainGlobals mg->iX l.prog w (K w.params) mg base (CX w) k fa fd [x] (sp w))
  (hsp:∀(w:bh)(H:Hp)(a:af)(ns:List Int),ns.length<=n->Sz H->mB (K w.params) H a (ns.map V.int)->sp w [.ref a] H (λv _=>v=.bl c_) λ_ _ _=>False)
  (hCX:∀(w:bh)(H:Hp)(s:ae)(e:aa)(s':ae),CX w [] H s (λ_ _ _=>False) e s'->False) :
  uw q loose XP YP l.row.toRowW d [] (λf vs=>DW f vs):=by
 refine Att.Am hn hdf λw s₀ s₁ mg mb fa o pm cd doc a vs ns G Y ho hd hcd hmg hobj hints hlen hg=>?_;have KX:=hY w _ Y;obtain⟨fd,hb,hF⟩:=F w mg fa _ KX G.T.g hmg;exact Ij KX G.T.g G.T.b G.T.builtins G.T.nolimit hg hobj hints (cW hlen hn2) hr hF hb (λH hO hS=>hsp w H a ns hlen hO hS) λH e s'=>hCX w H s₁ e s'
end L2
namespace L2
open PySem PySem.Spec PyProof.Rows
noncomputable def su(s:fw):Arguments:=match s with
 |.FunctionDef _ a _ _ _ _ _ _ _ _=>a
 |_=>{ posonlyargs:=[],args:=[],vararg:=b_,kwonlyargs:=[],kw_defaults:=[],kwarg:=b_,defaults:=[] }
noncomputable def iN(s:fw):List fw:=match s with
 |.FunctionDef _ _ b _ _ _ _ _ _ _=>b
 |_=>[]
noncomputable def cU(s:fw):fk:=match s with
 |.FunctionDef _ _ _ _ _ _ sc _ _ _=>sc
 |_=>{ kind:=.function,names:=[],isGenerator:=d_,isCoroutine:=d_ }
noncomputable abbrev DR:Ft:=λ_ _ _ _ _ _=>False
noncomputable abbrev E0:XK:=λ_ _ _=>False
def Oq{X:Cx}:nM DR X E0:=λ_ _ _ _ _ _ _ h=>h.elim
structure Xj(K:aB)(x qual:aN)(st:fw)(f:af)(fd:cx):Prop where
 ex:∃(oc:aa) (od:Option af) (kV doc pm:aa) (an:Option af) (cdv ct:aa) (osl:Array (Option aa)),
  fd=mi x qual (su st) (iN st) (cU st) .none kV doc pm an cdv ct/\K.lookup f=a_ ⟨oc,od,.func fd,osl⟩/\mU K cdv qual=c_
 kp:cX K (.ref f)=c_
section
variable{P:aO}{w:bh}{K:aB}{mg:aN->Option aa}{base:bx}
end
section
variable{X:Cx}
end
def BG{A B:Prop}(h:B):if d_=c_ then A else B:=by
 rw[if_neg df];exact h
def BF{A B:Prop}(h:A):if c_=c_ then A else B:=by
 rw[if_pos rfl];exact h
def bS(H H':Hp):Prop:=∀b o,H b=a_ o->H' b=a_ o
def bS.refl(H:Hp):bS H H:=λ_ _ h=>h
def bS.trans{H H1 H2:Hp}(a:bS H H1)(b:bS H1 H2):bS H H2:=λc o h=>b c o (a c o h)
def bS.free{H H':Hp}(e:bS H H'){l:af}(h:H' l=Option.none):H l=Option.none:=by
 cases q:H l with
 |none=>rfl
 |some o=>
   rw[e l o q]at h;cases h
def bS.seq{K:aB}{H H':Hp}{a:af}{xs:List V}(e:bS H H')(h:mB K H a xs):mB K H' a xs:=by
 rcases h with(h|⟨o,h⟩)|h
 ·exact .inl (.inl (e _ _ h))
 ·exact .inl (.inr ⟨o,e _ _ h⟩)
 ·exact .inr h
section
variable{κ:Type}[DecidableEq κ]
noncomputable def m9(k_:List (κ×V))(k:κ):Option V:=(k_.find? λkv=>decide (kv.1=k)).map (·.2)
noncomputable def putK(k_:List (κ×V))(k:κ)(v:V):List (κ×V):=
 if(k_.any λkv=>decide (kv.1=k))=c_ then k_.map (λkv=>if kv.1=k then(kv.1,v)else kv)else k_++[(k,v)]
def pO{p:κ×V}{r:List (κ×V)}{k:κ}(e:p.1=k):m9 (p::r) k=a_ p.2:=by simp[m9,dC,e]
def m8{p:κ×V}{r:List (κ×V)}{k:κ}(e:¬p.1=k):m9 (p::r) k=m9 r k:=by simp[m9,dC,e]
theorem yC(k:κ):∀k_:List (κ×V),(k_.any λkv=>decide (kv.1=k))=(m9 k_ k).isSome
 |[]=>rfl
 |p::r=>by
   rw[et];by_cases e:p.1=k
   ·simp only[pO e,decide_eq_true e,dR,Option.isSome_some]
   ·rw[m8 e,decide_eq_false e,pK];exact yC k r
def rC(k_:List (κ×V))(k:κ)(v:V):(putK k_ k v).length<=k_.length+1:=by
 unfold putK;split
 ·rw[ak];omega
 ·rw[cw,aQ,cB];omega
def ug.lQ{o:Option V}{u:Option aa}(r:ug o u):o.isSome=u.isSome:=by
 cases o with
 | none=>cases u with
   |none=>rfl
   |some _=>exact(show False from r).elim
 | some _=>cases u with
   |none=>exact(show False from r).elim
   |some _=>rfl
def KV.val{k_:List (κ×V)}{vs:List (κ×aa)}(r:KV k_ vs)(k:κ):ug (m9 k_ k) (valueAt vs k):=by
 unfold KV at r
 induction r with
 |nil=>exact gG
 | @cons p q ps qs h t ih=>
   obtain⟨h1,h2⟩:=h;by_cases e:p.1=k
   ·have e':q.1=k:=h1.symm.trans e;have b:valueAt (q::qs) k=a_ q.2:=by simp[valueAt,dC,e']
    rw[pO e,b];exact h2
   ·have e':¬q.1=k:=λz=>e (h1.trans z);have b:valueAt (q::qs) k=valueAt qs k:=by simp[valueAt,dC,e']
    rw[m8 e,b];exact ih
theorem KV.any{k_:List (κ×V)}{vs:List (κ×aa)}(r:KV k_ vs)(k:κ):(k_.any λkv=>decide (kv.1=k))=vs.any λkv=>decide (kv.1=k):=by
 unfold KV at r
 induction r with
 |nil=>rfl
 |cons h t ih=>rw[et,et,ih,h.1]
def KV.Qa{k_:List (κ×V)}{vs:List (κ×aa)}(r:KV k_ vs)(k:κ){y:V}{u:aa}(ry:RelV y u) :
  KV (k_.map λkv=>if kv.1=k then(kv.1,y)else kv) (vs.map λkv=>if kv.1=k then(kv.1,u)else kv):=by
 unfold KV at r ⊢
 induction r with
 |nil=>exact .nil
 | @cons p q ps qs h t ih=>
   rw[aw,aw];refine .cons ?_ ih;obtain⟨h1,h2⟩:=h;by_cases e:p.1=k
   ·rw[if_pos e,if_pos (h1.symm.trans e)];exact⟨h1,ry⟩
   ·rw[if_neg e,if_neg (λz=>e (h1.trans z))];exact⟨h1,h2⟩
def KV.put{k_:List (κ×V)}{vs:List (κ×aa)}(r:KV k_ vs)(k:κ){y:V}{u:aa}(ry:RelV y u):KV (putK k_ k y) (stored vs k u):=by
 unfold putK stored;rw[r.any k];by_cases e:(vs.any λkv=>decide (kv.1=k))=c_
 ·rw[if_pos e,if_pos e];exact r.Qa k ry
 ·rw[if_neg e,if_neg e];exact Paired.snoc r ⟨rfl,ry⟩
def KV.length{k_:List (κ×V)}{vs:List (κ×aa)}(r:KV k_ vs):k_.length=vs.length:=oP r
end
def rE{P:aO}{w:bh}{k:Key}{u:aa}(r:RelV (kV k) u):(cj P w).is k u=c_:=by
 cases k with
 |inl i=>obtain⟨t,e⟩:=(show ∃t,u=FQ i t from r);subst e;exact zm P w i t
 |inr x=>obtain⟨t,e⟩:=(show ∃t,u=FP x t from r);subst e;exact zl P w x t
theorem vN{P:aO}{w:bh}:∀{ks:List Key}{us:List aa},bZ (ks.map kV) us->ItemsAre (cj P w) ks us
 |[],_,r=>by rw[dQ]at r;cases r;exact .nil
 |k::ks,_,r=>by
   rw[aw]at r
   cases r with
   |cons h t=>exact .cons (rE h) (vN t)
abbrev KT(H:Hp):List (List Key×V)->List (List Key×af×aa)->Prop:=iZ λp q=>p.1=q.1/\H q.2.1=a_ (.tup (p.1.map kV))/\RelV p.2 q.2.2
def KT.val{H:Hp}{k_:List (List Key×V)}{xs:List (List Key×af×aa)}(r:KT H k_ xs)(k:List Key):ug (m9 k_ k) ((atKey xs k).map (·.2)):=by
 induction r with
 |nil=>exact gG
 | @cons p q ps qs h t ih=>
   obtain⟨h1,_,h2⟩:=h;by_cases e:p.1=k
   ·have e':q.1=k:=h1.symm.trans e;have b:atKey (q::qs) k=a_ q.2:=by simp[atKey,dC,e']
    rw[pO e,b];exact h2
   ·have e':¬q.1=k:=λz=>e (h1.trans z);have b:atKey (q::qs) k=atKey qs k:=by simp[atKey,dC,e']
    rw[m8 e,b];exact ih
def KT.Qa{H:Hp}{k_:List (List Key×V)}{xs:List (List Key×af×aa)}(r:KT H k_ xs)(k:List Key){y:V}{u:aa}(ry:RelV y u) :
  KT H (k_.map λkv=>if kv.1=k then(kv.1,y)else kv) (xs.map (putAt k u)):=by
 induction r with
 |nil=>exact .nil
 | @cons p q ps qs h t ih=>
   rw[aw,aw];refine .cons ?_ ih;obtain⟨h1,h2,h3⟩:=h;unfold putAt;by_cases e:p.1=k
   ·rw[if_pos e,if_pos (h1.symm.trans e)];exact⟨h1,h2,ry⟩
   ·rw[if_neg e,if_neg (λz=>e (h1.trans z))];exact⟨h1,h2,h3⟩
def KT.put{H:Hp}{k_:List (List Key×V)}{xs:List (List Key×af×aa)}(r:KT H k_ xs)(k:List Key){b:af}{y:V}{u:aa}(hb:H b=a_ (.tup (k.map kV)))(ry:RelV y u) :
  KT H (putK k_ k y) (storedH xs k b u):=by
 have e:(k_.any λkv=>decide (kv.1=k))=(atKey xs k).isSome:=by
  rw[yC,(r.val k).lQ,qh]
 unfold putK storedH;rw[e];by_cases q:(atKey xs k).isSome=c_
 ·rw[if_pos q,if_pos q];exact r.Qa k ry
 ·rw[if_neg q,if_neg q];exact Paired.snoc r ⟨rfl,hb,ry⟩
def KT.keeps{H H':Hp}{k_:List (List Key×V)}{xs:List (List Key×af×aa)}(r:KT H k_ xs)(ht:∀b ys,H b=a_ (.tup ys)->H' b=a_ (.tup ys)):KT H' k_ xs:=
 Paired.QY r λ_ _ z=>⟨z.1,ht _ _ z.2.1,z.2.2⟩
section
variable{P:aO}{w:bh}{H:Hp}{h:bx}{a:af}
def Oh{u:HO}(ok:oy P w H h)(e:Rd H a u):hJ P w H h a u:=e.ok ok
def vV{k_:List (Key×V)}(ok:oy P w H h)(e:Rd H a (.dK k_)):k_.length<=aD/\(a == sysModules)=d_/\∃vs,KV k_ vs/\h.DictOf (cj P w) a vs:=
 show hJ P w H h a (.dK k_)from Oh ok e
def OD{k_:List (Key×V)}(ok:oy P w H h)(e:H a=a_ (.dK k_)):k_.length<=aD/\(a == sysModules)=d_/\∃vs,KV k_ vs/\h.DictOf (cj P w) a vs:=vV ok (.inl e)
def tO{ks:List Key}(ok:oy P w H h)(e:H a=a_ (.tup (ks.map kV))):(tupleKind (cj P w)).is h ks a:=by
 obtain⟨_,its,r,o,h1,h2,n,h3⟩:=(show hJ P w H h a (.tup (ks.map kV))from ok a _ e)
 exact⟨o,its.toArray,n,h1,h2,h3,by simpa using vN r⟩
def zY{k_:List (List Key×V)}(ok:oy P w H h)(e:Rd H a (.dT k_)):k_.length<=aD/\(a == sysModules)=d_/\
  ∃xs,KT H k_ xs/\h.DictOfH (tupleKind (cj P w)) a xs:=by
 obtain⟨z,y,xs,r,o,es,ep,h1,h2,h3,h4,h5⟩:=(show hJ P w H h a (.dT k_)from Oh ok e)
 refine⟨z,y,xs,r,o,es,ep,h1,h2,h3,h4,λx hx=>?_,h5⟩
 have all:∀{l:List (List Key×V)}{m:List (List Key×af×aa)},KT H l m->∀x∈m,(tupleKind (cj P w)).is h x.1 x.2.1:=by
  intro l m q
  induction q with
  |nil=>intro x hx;exact nomatch hx
  | @cons p q ps qs hq t ih=>
    intro x hx
    rcases ah.mp hx with e|hx
    ·subst e;exact tO ok (by rw[<-hq.1];exact hq.2.1)
    ·exact ih x hx
 exact all r x hx
def U1{k_:List (List Key×V)}(ok:oy P w H h)(e:H a=a_ (.dT k_)):k_.length<=aD/\(a == sysModules)=d_/\
  ∃xs,KT H k_ xs/\h.DictOfH (tupleKind (cj P w)) a xs:=zY ok (.inl e)
end
def uY(H:Hp)(a:af)(y:V)(r:Option V):Prop:=
 (∃k_ k,Rd H a (.dK k_)/\y=kV k/\r=m9 k_ k)\/∃k_ k b,Rd H a (.dT k_)/\y=.ref b/\H b=a_ (.tup (k.map kV))/\r=m9 k_ k
def NW(H:Hp)(a:af)(y v:V)(H':Hp):Prop:=
 (∃k_ k,H a=a_ (.dK k_)/\y=kV k/\k_.length<aD/\H'=upd H a (.dK (putK k_ k v)))\/
 ∃k_ k b,H a=a_ (.dT k_)/\y=.ref b/\H b=a_ (.tup (k.map kV))/\k_.length<aD/\H'=upd H a (.dT (putK k_ k v))
def uY.k{H:Hp}{a:af}{k_:List (Key×V)}{k:Key}(e:H a=a_ (.dK k_)):uY H a (kV k) (m9 k_ k):=.inl ⟨k_,k,.inl e,rfl,rfl⟩
def NW.k{H:Hp}{a:af}{k_:List (Key×V)}{k:Key}{v:V}(e:H a=a_ (.dK k_))(hl:k_.length<aD):NW H a (kV k) v (upd H a (.dK (putK k_ k v))):=.inl ⟨k_,k,e,rfl,hl,rfl⟩
section
variable{X:Cx}{h_:List (af×er)}{σ:St}{H:Hp}{s:ae}{a:af}{y v:V}{u r:aa}{o:Option V}{A:bp}{E:aa->ae->Prop}
def Inv.Yl(I:Inv X h_ σ H s):sysModules<s.heap.objs.size:=by
 have h:mainGlobals<s.heap.objs.size:=(I.mod.glob.keeps I.bk).lt;exact jq (by decide) h
def ET{Q:aa->ae->Prop}(hu:A.units+1<di)(I:Inv X h_ σ H s)(g:uY H a y (a_ v))(ry:RelV y u)(h:∀w' s',Inv X h_ σ H s'->RelV v w'->Q w' s') :
  aA (aE X.prog X.w) A (getItem (.ref a) u) Q E s:=by
 rcases g with⟨k_,k,e,ey,l⟩|⟨k_,k,b,e,ey,eb,l⟩
 ·subst ey;obtain⟨z,hd,vs,rel,dd⟩:=vV I.hok e;obtain⟨w',hw,rw'⟩:=ug.some_of (v:=v) (o:=valueAt vs k) (by rw[l];exact rel.val k);exact wpAny_getItem_of (rE ry) dd.mapOf hw (h w' _ (I.tok _) rw')
 ·subst ey;cases(show u=bR b from ry);obtain⟨z,hd,xs,rel,dd⟩:=zY I.hok e;obtain⟨w',hw,rw'⟩:=ug.some_of (v:=v) (o:=(atKey xs k).map (·.2)) (by rw[l];exact rel.val k);obtain⟨p,hp,hp2⟩:=dJ hw;refine wpAny_getItem_heap (mf hu) (tO I.hok eb) dd hp ?_;rw[hp2];exact h w' _ (I.tok _) rw'
def W0{Q:aa->ae->Prop}(hu:A.units+1<di)(I:Inv X h_ σ H s)(g:uY H a y o)(ry:RelV y u)(h:∀s',Inv X h_ σ H s'->Q (.bool o.isSome) s') :
  aA (aE X.prog X.w) A (compareOp .In u (.ref a)) Q E s:=by
 rcases g with⟨k_,k,e,ey,l⟩|⟨k_,k,b,e,ey,eb,l⟩
 ·subst ey;obtain⟨z,hd,vs,rel,dd⟩:=vV I.hok e;refine wpAny_in_of (rE ry) hd dd.mapOf ?_;rw[<-(rel.val k).lQ,<-l];exact h _ (I.tok _)
 ·subst ey;cases(show u=bR b from ry);obtain⟨z,hd,xs,rel,dd⟩:=zY I.hok e;refine DS (mf hu) (tO I.hok eb) hd dd ?_;have q:=(rel.val k).lQ;rw[qh]at q;rw[<-q,<-l];exact h _ (I.tok _)
def M8{Q:aa->ae->Prop}(hu:A.units+1<di)(I:Inv X h_ σ H s)(g:uY H a y o)(ry:RelV y u)(h:∀s',Inv X h_ σ H s'->Q (.bool (!o.isSome)) s') :
  aA (aE X.prog X.w) A (compareOp .NotIn u (.ref a)) Q E s:=by
 rcases g with⟨k_,k,e,ey,l⟩|⟨k_,k,b,e,ey,eb,l⟩
 ·subst ey;obtain⟨z,hd,vs,rel,dd⟩:=vV I.hok e;refine wpAny_notIn_of (rE ry) hd dd.mapOf ?_;rw[<-(rel.val k).lQ,<-l];exact h _ (I.tok _)
 ·subst ey;cases(show u=bR b from ry);obtain⟨z,hd,xs,rel,dd⟩:=zY I.hok e;refine wpAny_notIn_heap (mf hu) (tO I.hok eb) hd dd ?_;have q:=(rel.val k).lQ;rw[qh]at q;rw[<-q,<-l];exact h _ (I.tok _)
def xI{h':bx}{t':Nat}{ob:HO}(I:Inv X h_ σ H s)(mu:Tb (H a))(hs:dB a s.heap h')(he:∃q,h'.get? a=a_ q)(new:hJ X.prog X.w (upd H a ob) h' a ob) :
  Inv X h_ σ (upd H a ob) { s with heap:=h',toks:=t' }:=
 I.write (x:=a) (e:=a) mu (.inl rfl) (λb q hb z=>(hs.2 b hb).trans z) he new
def RQ{P:aO}{w:bh}{H':Hp}{h':bx}{k_:List (Key×V)}{vs:List (Key×aa)}(z:k_.length<=aD)(hd:(a == sysModules)=d_)(rel:KV k_ vs)(dd:h'.DictOf (cj P w) a vs) :
  hJ P w H' h' a (.dK k_):=⟨z,hd,vs,rel,dd⟩
def ES{H':Hp}{Q:Unit->ae->Prop}(hu:A.units+1<di)(I:Inv X h_ σ H s)(g:NW H a y v H')(ry:RelV y u)(rv:RelV v r)(h:∀s',Inv X h_ σ H' s'->Q () s') :
  aA (aE X.prog X.w) A (setItem (.ref a) u r) Q E s:=by
 rcases g with⟨k_,k,e,ey,l,eH⟩|⟨k_,k,b,e,ey,eb,l,eH⟩
 ·subst ey eH;obtain⟨z,hd,vs,rel,dd⟩:=OD I.hok e;have hz:vs.length<=aD:=by rw[<-rel.length];exact z
  have hl:(putK k_ k v).length<=aD:=by have:=rC k_ k v;omega
  refine wpAny_setItem_pairs (hsz:=hz) (rE ry) dd λh' dd' hs=>h _ ?_;have he:∃q,h'.get? a=a_ q:=let ⟨q,_,_,hq,_⟩:=dd';⟨q,hq⟩;exact xI I (by rw[e];exact gG) hs he (RQ hl hd (rel.put k rv) dd')
 ·subst ey eH;cases(show u=bR b from ry);obtain⟨z,hd,xs,rel,dd⟩:=U1 I.hok e;have hz:xs.length<=aD:=by rw[<-oP rel];exact z
  have hl:(putK k_ k v).length<=aD:=by have:=rC k_ k v;omega
  refine wpAny_setItem_heap (hsz:=hz) (mf hu) (tO I.hok eb) dd λh' dd' hs=>h _ ?_;obtain⟨q,es,ep,hq,h2,h3,h4,_,h5⟩:=dd';refine xI I (by rw[e];exact gG) hs ⟨q,hq⟩ ⟨hl,hd,_,(rel.put k eb rv).keeps λc ys ec=>?_,q,es,ep,hq,h2,h3,h4,h5⟩;rw[bB (UA ec e (λz=>nomatch z))];exact ec
end
section
variable{X:Cx}{h_:List (af×er)}{σ:St}{H:Hp}{s:ae}{a:af}{k_:List (Key×V)}{k:Key}{u:aa}{A:bp}{E:aa->ae->Prop}
def U4{Q:aa->ae->Prop}(I:Inv X h_ σ H s)(e:Rd H a (.dK k_))(h:∀t s',Inv X h_ σ H s'->Q (.int k_.length t) s'):aA (aE X.prog X.w) A (call (.builtin "len") [.ref a]) Q E s:=by
 obtain⟨z,hd,vs,rel,dd⟩:=vV I.hok e;refine call_len_dict hd dd (by rw[<-rel.length];rw[bT]at z;omega) ?_;rw[<-rel.length];exact h _ _ (I.tok _)
end
def zZ{X:Cx}{h_:List (af×er)}{σ:St}{H:Hp}{s:ae}{a:af}{y:V}{o:Option V}(I:Inv X h_ σ H s)(g:uY H a y o):s.TypeIs (.ref a) "dict":=by
 rcases g with⟨k_,k,e,_,_⟩|⟨k_,k,b,e,_,_,_⟩
 ·obtain⟨_,_,vs,_,dd⟩:=vV I.hok e;exact dd.typeIs
 ·obtain⟨_,_,xs,_,dd⟩:=zY I.hok e;exact dd.typeIs
section
variable{X:Cx}{o i e value:aF}{pos pos' tpos:dZ}{td ty tv:TE}
end
def Jd{P:aO}{w:bh}{H:Hp}(h:bx)(hb:sysModules<h.objs.size):hJ P w H (h.push { cls:=.type "dict",data:=.dict #[] }) h.objs.size (.dK []):=
 ⟨fK _,beq_eq_false_iff_ne.mpr (eW (ba hb)),[],.nil,Heap.DictOf.new h⟩
noncomputable def O6:TE:=λ_ H Q=>∀p,H p=b_->Q (.ref p) (upd H p (.dK []))
section
variable{X:Cx}{pos:dZ}
def Hx:PE X (.Dict [] [] pos) O6:=λh_ s σ H Q I h=>
 wpAny_Dict_empty ⟨.ref s.heap.objs.size,_,I.laid (a:=s.heap.objs.size) (o:=.dK []) (t':=s.toks) (λ_ _ q=>hp9 _ q) (aM _) (Jd s.heap I.Yl),rfl,h _ (I.hok.fresh (aM _))⟩
end
structure M1(X:Cx)(o:aF)(m:aN)(apos:dZ)(e:aF)(cpos:dZ):Prop where
 base:attributeBase o m X.env (eval o X.env)=eval o X.env
 few:((backTo cpos (aI [e] X.env)).all (λx=>!x.1) && (backToKw cpos (keywordEach [] X.env)).all (λx=>x.1.isSome)
  && decide (([e]:List aF).length+([]:List rk).length+(if([]:List rk).isEmpty then 0 else 1)<30))=c_
 line:(apos.endLine == cpos.line)=c_
 trees:backTo cpos (aI [e] X.env)=[(d_,eval e X.env)]
structure M2(X:Cx)(o:aF)(m:aN)(apos:dZ)(e f:aF)(cpos:dZ):Prop where
 base:attributeBase o m X.env (eval o X.env)=eval o X.env
 few:((backTo cpos (aI [e,f] X.env)).all (λx=>!x.1) && (backToKw cpos (keywordEach [] X.env)).all (λx=>x.1.isSome)
  && decide (([e,f]:List aF).length+([]:List rk).length+(if([]:List rk).isEmpty then 0 else 1)<30))=c_
 line:(apos.endLine == cpos.line)=c_
 trees:backTo cpos (aI [e,f] X.env)=[(d_,eval e X.env),(d_,eval f X.env)]
section
variable{X:Cx}{h_:List (af×er)}{σ:St}{H:Hp}{s:ae}{a:af}{y d:V}{u r:aa}{o:Option V}{A:bp}{E:aa->ae->Prop}
end
section
variable{X:Cx}{o e f:aF}{apos cpos:dZ}{td ty tx:TE}
end
section
variable{X:Cx}{h_:List (af×er)}{σ:St}{H:Hp}{s:ae}{a:af}{k_:List (Key×V)}{A:bp}{E:aa->ae->Prop}
end
section
variable{X:Cx}{h_:List (af×er)}{σ:St}{H:Hp}{s:ae}{a:af}{y:V}{u:aa}{A:bp}{E:aa->ae->Prop}
end
def NT(a C:af):bx->Prop:=λh=>∃t,h.get? a=a_ { cls:=.ref C,data:=.fields #[.ref t,.none,.none,.none,.bool d_,.none] }
def XR(a C dx:af):bx->Prop:=λh=>∃t,h.get? a=a_ { cls:=.ref C,dict:=a_ dx,data:=.fields #[.ref t,.none,.none,.none,.bool d_,.none] }
structure So(K:aB)(C:af)(f:aN):Prop where
 over:Ge K C=c_
 no:ku K (.ref C) f=a_ b_
 sa:ku K (.ref C) "__setattr__"=a_ (a_ (.builtin "object.__setattr__"))
section
variable{X:Cx}{A:bp}{E:aa->ae->Prop}{h_:List (af×er)}{σ:St}{H:Hp}{s:ae}{a C:af}{f:aN}
def Ki{y:V}{u:aa}{Q:Unit->ae->Prop}(I:Inv X h_ σ H s)(e:H a=a_ (.ext (NT a C)))(c:So X.K C f)(ry:RelV y u)
  (h:∀dx s',H dx=b_->dx≠a->Inv X h_ σ (upd (upd H a (.ext (XR a C dx))) dx (.xd [(f,y)])) s'->Q () s'):aA (aE X.prog X.w) A (setAttr (.ref a) f u) Q E s:=by
 obtain⟨⟨t,ho⟩,_,_⟩:=I.hok a _ e;have IA:PySem.W.InstAt s.heap a { cls:=.ref C,data:=.fields #[.ref t,.none,.none,.none,.bool d_,.none] } C b_:=⟨ho,rfl,rfl,gG⟩
 refine PySem.W.set_plain I.rR IA c.sa (LJ (s:={ s with toks:=s.toks+1 }) rfl I.rR IA c.over c.no λh' tk' h1 h2 h3 h4=>?_);have nd:s.heap.get? s.heap.objs.size=b_:=oz (aM _);have hd:H s.heap.objs.size=b_:=I.hok.fresh (aM _);have na:s.heap.objs.size≠a:=λz=>by rw[z]at nd;rw[ho]at nd;cases nd
 have hne:∀b,b≠a->b≠s.heap.objs.size->upd (upd H a (.ext (XR a C s.heap.objs.size))) s.heap.objs.size (.xd [(f,y)]) b=H b:=λb n1 n2=>by rw[bB n2,bB n1]
 have ea:upd (upd H a (.ext (XR a C s.heap.objs.size))) s.heap.objs.size (.xd [(f,y)]) a=a_ (.ext (XR a C s.heap.objs.size)):=by rw[bB na.symm,bu]
 have tr:∀b o,H b=a_ o->b≠s.heap.objs.size:=λb o z q=>by rw[q,hd]at z;cases z
 have nb:∀b o,s.heap.get? b=a_ o->b≠s.heap.objs.size:=λb o z q=>by rw[q,nd]at z;cases z
 have fr:∀b,H b=b_->b≠a:=λb z q=>by rw[q,e]at z;cases z
 have kp:∀b o,s.heap.get? b=a_ o->b≠a->h'.get? b=a_ o:=λb o z n=>h3 b o n z;refine h s.heap.objs.size _ hd na (I.un (t':=tk') (h':=h') ⟨λb o z n _ _=>kp b o z (fr b n),λb o z n _ _=>⟨o.slots,kp b o z (fr b n)⟩,λb o z n _=>?_,λb o z _=>?_,λb xs z=>?_,λb o u z=>?_,λb ps z=>?_⟩ λb o z=>?_)
 ·rw[hne b (fr b n) (nb b o z)];exact n
 ·by_cases q:b=a
  ·subst q;exact⟨_,h1⟩
  ·exact⟨o,kp b o z q⟩
 ·have n:b≠a:=λq=>by rw[q,e]at z;cases z
  rw[hne b n (tr b _ z)];exact z
 ·have n:b≠a:=λq=>by rw[q,e]at z;cases z
  rw[hne b n (tr b _ z)];exact z
 ·have n:b≠a:=λq=>by rw[q,e]at z;cases z
  exact⟨#[],by rw[hne b n (tr b _ z)];simpa using z⟩
 ·by_cases q:b=s.heap.objs.size
  ·subst q;rw[bu]at z;cases z;refine⟨_,h2,λg=>?_⟩;show ug (List.lookup g [(f,y)]) (if g=f then a_ u else b_);by_cases q:g=f
   ·subst q;rw[if_pos rfl,cC,beq_self_eq_true];exact ry
   ·rw[if_neg q,cC,beq_eq_false_iff_ne.mpr q];exact gG
  ·by_cases q2:b=a
   ·subst q2;rw[ea]at z;cases z;exact⟨⟨t,h1⟩,⟨_,h1⟩,λh1 h2 ⟨t,q⟩ k=>⟨t,k _ q⟩⟩
   ·rw[hne b q2 q]at z;refine(I.hok b o z).lM (λc w' hc qq=>kp c w' qq λy=>?_) (λc q=>?_) λc xs q=>?_
    ·rcases hc with rfl|hc
     ·exact q2 y
     ·rw[y,e]at hc;cases hc
    ·have n:c≠a:=λy=>by rw[y,e]at q;cases q
     rw[hne c n (tr c _ q)];exact q
    ·have n:c≠a:=λy=>by rw[y,e]at q;cases q
     rw[hne c n (tr c _ q)];exact q
end
end L2
namespace L2
open PySem PySem.Spec PyProof.Rows PySem.Calls
noncomputable abbrev XN:List aa:=[.type "ValueError",.type "Exception",.type "BaseException",.type "object"]
noncomputable def sJ(K:aB)(C fI:af):Bool:=match K.lookup C with
 | some ⟨.type "type",_,.cls cd,sl⟩=>(match cd.mro,sl.toList with
   |.ref C'::bm,[_,_,_,_,a_ (.builtin n),_]=>C' == C && n == "ValueError.__new__" && !cd.hasDel && PySem.W.tailIn K XN bm && PySem.W.nsOkIn K cd.ns && dM K cd.ns "__init__" == a_ (a_ (.ref fI)) && pF K (.ref fI)
   |_,_=>d_)
 |_=>d_
set_option tactic.hygienic true
def L7{K:aB}{h:bx}{N:af}{m:aN->Option aa}{n:aN}{v:aa}(X:K.In h)(G:h.Ns N m)(e:dM K N n=a_ (a_ v)):m n=a_ v:=by
 obtain⟨o,es,ep,ho,hd,_,hf⟩:=G;unfold dM at e;split at e
 ·rename_i q;have z:=X _ _ q;rw[ho]at z;cases z;cases hd;split at e
  ·rename_i en he;cases e;rw[<-hf];unfold nsFind findBy;rw[<-Array.find?_toList,he];rfl
  ·split at e<;>cases e
 ·cases e
def HC{K:aB}{h:bx}{C fI:af}(X:K.In h)(q:sJ K C fI=c_) :
  ∃bm N nm q bs hdct sn sub ab col dd k0 k1 k2 k3 k5 mN,h.get? C=a_ (excClassObj nm q C N bs bm hdct sn sub ab col dd k0 k1 k2 k3 k5 "ValueError.__new__")/\h.Ns N mN/\mN "__init__"=a_ (.ref fI)/\OwnTail h XN bm/\pF K (.ref fI)=c_:=by
 unfold sJ at q;split at q
 ·rename_i dd cd sl ho;split at q
  ·rename_i C' bm k0 k1 k2 k3 n k5 hm hs;simp only[aq,beq_iff_eq,fG]at q;obtain⟨⟨⟨⟨⟨⟨rfl,rfl⟩,hdel⟩,ht⟩,hok⟩,hni⟩,hfn⟩:=q;obtain⟨nm,bs,mro,ns,qn,hd,sn,sub,ab,col,del⟩:=cd;dsimp only at hm hdel hok hni;subst hm hdel
   have hsl:sl=#[k0,k1,k2,k3,a_ (.builtin "ValueError.__new__"),k5]:=by
    obtain⟨l⟩:=sl;simp only at hs;rw[hs]
   subst hsl;have G:h.Ns ns (h.nsMap ns):=.of_isNs (PySem.W.isNs_of_in X hok);exact⟨bm,ns,nm,qn,bs,hd,sn,sub,ab,col,dd,k0,k1,k2,k3,k5,_,X _ _ ho,G,L7 X G hni,PySem.W.tail_of_in X ht,hfn⟩
  ·cases q
 ·cases q
set_option tactic.hygienic false
noncomputable def sP(C:af)(f:aN):Sp:=λvs H Q _=>∃a y,vs=[.ref a,y]/\H a=a_ (.ext (NT a C))/\∀dx,H dx=b_->dx≠a->Q .non (upd (upd H a (.ext (XR a C dx))) dx (.xd [(f,y)]))
section
variable{X:Cx}{o value:aF}{f:aN}{pos pos':dZ}{ta tv:TE}
noncomputable def X8(K:aB)(ta tv:TE)(f:aN):TS:=λD σ H=>tv σ H λy H1=>ta σ H1 λx H2=>∃a C,x=.ref a/\H2 a=a_ (.ext (NT a C))/\So K C f/\∀dx,H2 dx=b_->dx≠a->D.nx σ (upd (upd H2 a (.ext (XR a C dx))) dx (.xd [(f,y)]))
def LA(ha:PE X o ta)(hv:PE X value tv)(hs:swapsWith value (a_ (.Attribute o f pos')) pos.line X.env=pure d_):PS X (.Assign [.Attribute o f pos'] value pos) (X8 X.K ta tv f):=by
 intro h_ s σ H D I h;refine plainObj_wpAny_Assign_Attribute (fW (hv h_ s σ H _ I h) λu s1 ⟨y,H1,I1,ry,q⟩=>fW (ha h_ s1 σ H1 _ I1 q) λov s2 ⟨x,H2,I2,rx,a,C,ex,ea,c,q2⟩=>?_) hs;subst ex;obtain rfl:ov=bR a:=rx;exact Ki I2 ea c ry λdx s3 n1 n2 I3=>⟨σ,_,I3,q2 dx n1 n2⟩
end
section
variable{P:aO}{w:bh}{K:aB}{mg:aN->Option aa}{base:bx}
def MU{x qual f:aN}{st:fw}{fI C:af}{fd:cx}{p1 p2 p3 p4:dZ}{k:Nat}(F:Xj K x qual st fI fd)(S:oh ["self",f] ["self",f] (cU st))(hb:iN st=[.Assign [.Attribute (.Name "self" p1) f p2] (.Name f p3) p4])(c:So K C f)
  (hv1:JF (cU st) "self")(hv2:JF (cU st) f)(hd:(f == ("__debug__":aN))=d_)(hcd:(f == ("__classdict__":aN))=d_)
  (hs:∀env:mK,env.scope=cU st->swapsWith (.Name f p3) (a_ (.Attribute (.Name "self" p1) f p2)) p4.line env=pure d_):iX P w K mg base DR (k+1) fI fd ["self",f] (sP C f):=by
 obtain⟨oc,od,kV,doc,pm,an,cdv,ct,osl,rfl,lk,hcd2⟩:=F.ex;refine OB lk hcd2 S (λvs H Q E ⟨a,y,e,_⟩=>by rw[e];rfl) λA outer s H vs Q E hr ⟨a,y,e,ha,q⟩=>?_;subst e;rw[hb];refine⟨_,CO (LA (nv (i:=0) rfl hv1 (by decide) (by decide)) (nv (i:=1) rfl hv2 hd hcd) (hs _ rfl)),?_⟩;exact⟨y,rfl,.ref a,rfl,a,C,rfl,ha,c,λdx n1 n2=>q dx n1 n2⟩
end
def hJ.here{P:aO}{w:bh}{H:Hp}{h:bx}{a:af}{o:HO}(x:hJ P w H h a o):∃ob,h.get? a=a_ ob:=by
 cases o with
 |lst xs=>obtain⟨_,_,_,_,e⟩:=x;exact⟨_,e⟩
 |tup xs=>obtain⟨_,_,_,o,e,_⟩:=x;exact⟨_,e⟩
 |dK k_=>obtain⟨_,_,_,_,o,_,_,e,_⟩:=x;exact⟨_,e⟩
 |dT k_=>obtain⟨_,_,_,_,o,_,_,e,_⟩:=x;exact⟨_,e⟩
 |dN xs=>obtain⟨_,_,o,_,_,e,_⟩:=x;exact⟨_,e⟩
 |set S n=>obtain⟨o,_,_,_,e,_⟩:=x;exact⟨_,e⟩
 |ins C dx fs=>obtain⟨_,_,_,e,_⟩:=x;exact⟨_,e⟩
 |own y=>exact x
 |xd fs=>obtain⟨_,⟨_,_,_,e,_⟩,_⟩:=x;exact⟨_,e⟩
 |rng lo hi=>obtain⟨_,_,_,e⟩:=x;exact⟨_,e⟩
 |kh ob u=>obtain⟨e,_⟩:=x;exact⟨_,e⟩
 |tbl ps=>exact⟨_,x⟩
 |met f y=>exact⟨_,x⟩
 |ext φ=>exact x.2.1
theorem oy.none{P:aO}{w:bh}{H:Hp}{h:bx}{a:af}(x:oy P w H h)(e:h.get? a=b_):H a=b_:=by
 cases q:H a with
 |none=>rfl
 |some o=>
   obtain⟨ob,z⟩:=(x a o q).here;rw[e]at z;cases z
structure Flt(P:aO)(w:bh)(outer:List mK)(H H':Hp)(h:bx)(a C dx:af)(B h':bx):Prop where
 fly:mP B outer a (.ref C) dx .none h'
 kp:∀b o,h.get? b=a_ o->H b=b_->b∉mH outer->B.get? b=a_ o
 th:∀b o,h.get? b=a_ o->b∉mH outer->∃o',B.get? b=a_ o'
 hok:oy P w H' B
 un:Un (mH outer) [] H H' h h'
 fr:H' a=b_
noncomputable def rM(P:aO)(w:bh):Ft:=λouter H s E e s'=>∃(a C dx:af) (H':Hp) (B:bx),e=.ref a/\s'.os=s.os/\jZ s'.gens/\Flt P w outer H H' s.heap a C dx B s'.heap/\E (.ref C) (a_ dx) H'
section
variable{P:aO}{w:bh}{K:aB}{mg:aN->Option aa}{base:bx}{N:List aN}{qual:aN}{scope:fk}{f:af}{cd:aa}{A:bp}{outer:List mK}{s₀:ae}{H₀:Hp}{E:XK}
def Kj{h_:List (af×er)}{σ:St}{H:Hp}{s0 s:ae}{a C dx:af}{o:HO}(I0:Inv (lS (rM P w) P w K mg base N qual scope f cd A outer s₀ H₀ E) h_ σ H s0)(hn:s0.heap.get? a=b_)
  (I:Inv (lS (rM P w) P w K mg base N qual scope f cd A outer s₀ H₀ E) h_ σ (upd (upd H a (.ext (XR a C dx))) dx o) s)(hda:dx≠a)(q:E (.ref C) (a_ dx) (upd H dx o)) :
  (lS (rM P w) P w K mg base N qual scope f cd A outer s₀ H₀ E).xe (.ref a) s:=by
 have ea:upd (upd H a (.ext (XR a C dx))) dx o a=a_ (.ext (XR a C dx)):=by rw[bB hda.symm,bu]
 have hb:∀b,b≠a->upd (upd H a (.ext (XR a C dx))) dx o b=upd H dx o b:=λb n=>by
  by_cases z:b=dx
  ·subst z;rw[bu,bu]
  ·rw[bB z,bB z,bB n]
 obtain⟨⟨t,ho⟩,_,_⟩:=I.hok a _ ea;have hst:mH (lS (rM P w) P w K mg base N qual scope f cd A outer s₀ H₀ E).stack=s₀.heap.objs.size::mH outer:=rfl
 have na:∀b u,s₀.heap.get? b=a_ u->b≠a:=λb u z y=>by
  subst y;obtain⟨o',z'⟩:=I0.base.there b u z (by intro z;cases z);rw[hn]at z';cases z'
 have hne:∀b u,s₀.heap.get? b=a_ u->b∉mH outer->b∉a::mH (lS (rM P w) P w K mg base N qual scope f cd A outer s₀ H₀ E).stack:=λb u e1 e2 z=>by
  rcases ah.mp z with z|z
  ·exact na b u e1 z
  ·rw[hst]at z
   rcases ah.mp z with z|z
   ·exact absurd (hl9 e1) (by rw[z];exact bC _)
   ·exact e2 z
 have hin:∀env∈(lS (rM P w) P w K mg base N qual scope f cd A outer s₀ H₀ E).stack,∀b,env.frame=a_ b->b∈a::mH (lS (rM P w) P w K mg base N qual scope f cd A outer s₀ H₀ E).stack:=λenv he b hb=>jN _ (qk.mpr ⟨env,he,hb⟩);refine BC (base:=mC s.heap (a::mH (lS (rM P w) P w K mg base N qual scope f cd A outer s₀ H₀ E).stack)) I.ok.frames (PySem.W.funFrames_hide I.stack hin) rfl ho (λb o q=>AF _ q) (yq _ jB) rfl rfl rfl λh'' x1 x4=>?_;have st:=x1.st
 have kp:∀b o,s₀.heap.get? b=a_ o->H₀ b=b_->b∉mH outer->(mC s.heap (a::mH (lS (rM P w) P w K mg base N qual scope f cd A outer s₀ H₀ E).stack)).get? b=a_ o:=λb o e1 e2 e3=>
  j4 _ (I.base.keep b o e1 e2 e3 (by intro z;cases z)) (hne b o e1 e3)
 have th:∀b o,s₀.heap.get? b=a_ o->b∉mH outer->∃o',(mC s.heap (a::mH (lS (rM P w) P w K mg base N qual scope f cd A outer s₀ H₀ E).stack)).get? b=a_ o':=λb o e1 e3=>by
  obtain⟨o',z⟩:=I.base.there b o e1 (by intro z;cases z);exact⟨o',j4 _ z (hne b o e1 e3)⟩
 have sl:∀b o,s₀.heap.get? b=a_ o->H₀ b=b_->b∈mH outer->∃sl,h''.get? b=a_ { o with slots:=sl }:=λb o e1 e2 e3=>by
  obtain⟨sl,z⟩:=I.base.slot b o e1 e2 e3 (by intro z;cases z);obtain⟨_,o2,e4,e5⟩:=I.ok.oZ.mem e3;have e4:s₀.heap.get? b=a_ o2:=e4;rw[e1]at e4;cases e4;obtain⟨sl',z'⟩:=x4 b _ z e5;exact⟨sl',z'⟩
 have tr:∀b u,upd (upd H a (.ext (XR a C dx))) dx o b=a_ u->(∀φ,u≠.ext φ)->upd H dx o b=a_ u:=λb u z n=>by
  rw[<-hb b λy=>by subst y;rw[ea]at z;cases z;exact n _ rfl];exact z
 refine⟨a,C,dx,upd H dx o,_,rfl,I.os,I.bare,⟨x1,kp,th,λc u hc=>?_,⟨λb o e1 e2 e3 _=>st b o (kp b o e1 e2 e3),λb o e1 e2 e3 _=>sl b o e1 e2 e3,λb u e1 e2 _=>?_,λb o e1 _=>?_,λb xs z=>tr b _ (I.base.tups b xs z) (λ_ y=>by cases y),λb o u z=>tr b _ (I.base.frzs b o u z) (λ_ y=>by cases y),λb ps z=>?_⟩,?_⟩,q⟩
 ·have nca:c≠a:=λy=>by
   subst y;rw[bB hda.symm]at hc;rw[I0.hok.none hn]at hc;cases hc
  refine(I.hok c u (by rw[hb c nca];exact hc)).lM (λb v hb' hv=>?_) (λb z=>tr b _ z (λ_ y=>by cases y)) (λb xs z=>tr b _ z (λ_ y=>by cases y));refine j4 _ hv λz=>?_
  rcases ah.mp z with z|z
  ·rcases hb' with y|hb'
   ·exact nca (y.symm.trans z)
   ·subst z;rw[ea]at hb';cases hb'
  ·have n:=I.wC b z
   rcases hb' with y|hb'
   ·subst y;rw[hb _ nca,hc]at n;cases n
   ·rw[hb']at n;cases n
 ·have z:=I.base.free b u e1 e2 (by intro z;cases z);rw[hb b (na b u e1)]at z;exact z
 ·by_cases hb:b∈mH outer
  ·have n:H₀ b=b_:=I.ok.frf b hb;obtain⟨sl,z⟩:=sl b o e1 n hb;exact⟨_,z⟩
  ·obtain⟨o',z⟩:=th b o e1 hb;exact⟨o',st b o' z⟩
 ·obtain⟨m,z⟩:=I.base.tbls b ps z;exact⟨m,tr b _ z (λ_ y=>by cases y)⟩
 ·rw[bB hda.symm];exact I0.hok.none hn
end
def DM(X:Cx)(E:XK):Prop:=∀(h_:List (af×er))(σ:St)(H:Hp)(s0 s:ae)(a C dx:af)(o:HO),Inv X h_ σ H s0->s0.heap.get? a=b_->Inv X h_ σ (upd (upd H a (.ext (XR a C dx))) dx o) s->dx≠a->E (.ref C) (a_ dx) (upd H dx o)->X.xe (.ref a) s
section
variable{P:aO}{w:bh}{K:aB}{mg:aN->Option aa}{base:bx}{N:List aN}{qual:aN}{scope:fk}{f:af}{cd:aa}{A:bp}{outer:List mK}{s₀:ae}{H₀:Hp}{E:XK}
def Gf:DM (lS (rM P w) P w K mg base N qual scope f cd A outer s₀ H₀ E) E:=λh_ σ H s0 s a C dx o I0 hn I hda q=>Kj I0 hn I hda q
def Eo:nM (rM P w) (lS (rM P w) P w K mg base N qual scope f cd A outer s₀ H₀ E) E:=λh_ σ H s e s' I hx=>by
 obtain⟨a,C,dx,H',B,rfl,ho,hg,F,q⟩:=hx;have hst:mH (lS (rM P w) P w K mg base N qual scope f cd A outer s₀ H₀ E).stack=s₀.heap.objs.size::mH outer:=rfl
 have nf:∀b u,s₀.heap.get? b=a_ u->b∉mH outer->b∉mH (lS (rM P w) P w K mg base N qual scope f cd A outer s₀ H₀ E).stack:=λb u e1 e2 z=>by
  rw[hst]at z
  rcases ah.mp z with z|z
  ·exact absurd (hl9 e1) (by rw[z];exact bC _)
  ·exact e2 z
 refine ED (base:=B) (L:=s₀.heap.objs.size) I.ok.frames rfl F.fly λh'' x1 x4=>?_;have kp:∀b o,s₀.heap.get? b=a_ o->H₀ b=b_->b∉mH outer->B.get? b=a_ o:=λb o e1 e2 e3=>F.kp b o (I.base.keep b o e1 e2 e3 (by intro z;cases z)) (I.base.free b o e1 e2 (by intro z;cases z)) (nf b o e1 e3)
 have th:∀b o,s₀.heap.get? b=a_ o->b∉mH outer->∃o',B.get? b=a_ o':=λb o e1 e3=>by
  obtain⟨o',z⟩:=I.base.there b o e1 (by intro z;cases z);exact F.th b o' z (nf b o e1 e3)
 have sl:∀b o,s₀.heap.get? b=a_ o->H₀ b=b_->b∈mH outer->∃sl,h''.get? b=a_ { o with slots:=sl }:=λb o e1 e2 e3=>by
  obtain⟨sl,z⟩:=I.base.slot b o e1 e2 e3 (by intro z;cases z);obtain⟨yi,z2⟩:=F.un.slot b _ z (I.base.free b o e1 e2 (by intro z;cases z)) (by rw[hst];exact jN _ e3) (by intro z;cases z);obtain⟨_,o2,e4,e5⟩:=I.ok.oZ.mem e3;have e4:s₀.heap.get? b=a_ o2:=e4;rw[e1]at e4;cases e4;obtain⟨sl',z'⟩:=x4 b _ z2 e5;exact⟨sl',z'⟩
 refine⟨a,C,dx,H',B,rfl,ho.trans I.os,hg,⟨x1,kp,th,F.hok,⟨λb o e1 e2 e3 _=>x1.st b o (kp b o e1 e2 e3),λb o e1 e2 e3 _=>sl b o e1 e2 e3,λb u e1 e2 _=>?_,λb o e1 _=>?_,λb xs z=>F.un.tups b xs (I.base.tups b xs z),λb o u z=>F.un.frzs b o u (I.base.frzs b o u z),λb ps z=>?_⟩,F.fr⟩,q⟩
 ·obtain⟨o',z⟩:=I.base.there b u e1 (by intro z;cases z);exact F.un.free b o' z (I.base.free b u e1 e2 (by intro z;cases z)) (by intro z;cases z)
 ·by_cases hb:b∈mH outer
  ·obtain⟨sl,z⟩:=sl b o e1 (I.ok.frf b hb) hb;exact⟨_,z⟩
  ·obtain⟨o',z⟩:=th b o e1 hb;exact⟨o',x1.st b o' z⟩
 ·obtain⟨m,z⟩:=I.base.tbls b ps z;obtain⟨m2,z2⟩:=F.un.tbls b _ z;exact⟨m++m2,by rw[<-D2];exact z2⟩
end
def MJ{K:aB}{fI:af}(h:pF K (.ref fI)=c_):∃oI,K.lookup fI=a_ oI/\oI.cls=.type "function":=let ⟨o,h1,h2⟩:=dJ (beq_iff_eq.mp h);⟨o,h1,h2⟩
section
variable{X:Cx}{E:XK}{x f:aN}{C fI:af}{fd:cx}{k:Nat}{np cpos pos:dZ}{e₀:aF}{t:TA}
def Hi(hw:DM X E)(hcalm:X.calm=c_)(hg:Gl X x)(hm:X.mg x=a_ (.ref C))(q:sJ X.K C fI=c_)(hd:(x == ("__debug__":aN))=d_)(F:iX X.prog X.w X.K X.mg X.base DR k fI fd ["self",f] (sP C f))(hr:iJ (k+1) X.A)(hb:Binds X.K fd ["self",f] [])(ha:PA X.kl [e₀] t)
  (he:aI [e₀] X.env=[(d_,eval e₀ X.env)]) :
  PS X (.Raise (a_ (.Call (.Name x np) [e₀] [] cpos)) b_ pos) (λ_ σ H=>t σ H λvs H1=>∃v,vs=[v]/\∀dx,H1 dx=b_->E (.ref C) (a_ dx) (upd H1 dx (.xd [(f,v)]))):=by
 intro h_ s σ H D I h;obtain⟨tl,N,nm,q',bs,hdct,sn,sub,ab,col,dd,k0,k1,k2,k3,k5,mN,hC,hN,hi,T,hfn⟩:=HC I.mod.kin q;refine Bh (C:=C) (nm:=nm) (q:=q') (N:=N) (bs:=bs) (bm:=tl) (hdct:=hdct) (sn:=sn) (sub:=sub) (ab:=ab) (col:=col) (dd:=dd) (k0:=k0) (k1:=k1) (k2:=k2) (k3:=k3) (k5:=k5) sD (mN:=mN) (T.hasType sD.hasBase) (I.ok.hd hcalm) (by rw[he];rfl) hi (n4 I hg hm ⟨rfl,?_⟩ hd);have h:=ha cpos h_ s σ H _ (I.m7 _) h;rw[he]at h ⊢;refine AK (bJ h (λus s₂ ⟨vs,H1,I1,r,v,ev,q2⟩=>?_) λ_ _ y=>bF y);subst ev;have I1:=I1.ik;obtain⟨u,rfl,ru⟩:=r.one;obtain⟨oI,hI,hIc⟩:∃oI,X.K.lookup fI=a_ oI/\oI.cls=.type "function":=MJ hfn
 have I2:Inv X h_ σ (upd H1 (s₂.heap.objs.size+1) (.ext (NT (s₂.heap.objs.size+1) C))) { s₂ with heap:=Ek s₂.heap C [u],toks:=s₂.toks }:=by
  have hX:(Ek s₂.heap C [u]).get? (s₂.heap.objs.size+1)=a_ { cls:=.ref C,data:=.fields #[.ref s₂.heap.objs.size,.none,.none,.none,.bool d_,.none] }:=by heap_get
  exact I1.laid (λb o z=>hp9 _ (hp9 _ z)) (kb _) ⟨⟨_,hX⟩,⟨_,hX⟩,λh1 h2 ⟨t,z⟩ k=>⟨t,k _ z⟩⟩
 have nn:H1 (s₂.heap.objs.size+1)=b_:=I1.hok.fresh (kb _);refine⟨rfl,by show 1<=aD;decide,I1.bk _ _ hC,hN.keeps I1.bk,T.keeps I1.bk,⟨oI,I1.rR _ _ hI,hIc⟩,?_⟩;have hb':=hb { s₂ with heap:=Ek s₂.heap C [u] } [.ref (s₂.heap.objs.size+1),u] I2.rR rfl
 refine sA (fT (F.run _ X.stack _ _ ⟨[.ref (s₂.heap.objs.size+1),u],[]⟩ [.ref (s₂.heap.objs.size+1),u] [.ref (s₂.heap.objs.size+1),v] (λz H2=>z=.non/\∃dx,H1 dx=b_/\dx≠s₂.heap.objs.size+1/\H2=upd (upd H1 (s₂.heap.objs.size+1) (.ext (XR (s₂.heap.objs.size+1) C dx))) dx (.xd [(f,v)])) E0 (hr.make C [u] []) (I2.RN.make C [u] []) hb' (.cons rfl (.cons ru .nil))
  ⟨_,v,rfl,bu,λdx n1 n2=>⟨rfl,dx,by rw[bB n2]at n1;exact n1,n2,by rw[Kq]⟩⟩) λr s₃ hq=>?_)
 cases r with
 |error e=>exact bF hq
 |ok fl=>
   cases fl with
   |ret z=>
     obtain⟨vz,H2,I3,rz,ez,dx,n1,n2,e2⟩:=I2.after hq;subst ez e2;have ex:upd (upd H1 (s₂.heap.objs.size+1) (.ext (XR (s₂.heap.objs.size+1) C dx))) dx (.xd [(f,v)]) (s₂.heap.objs.size+1)=a_ (.ext (XR (s₂.heap.objs.size+1) C dx)):=by rw[bB n2.symm,bu]
     obtain⟨⟨t,ht⟩,_,_⟩:=I3.hok _ _ ex;exact⟨rz,I3.bk _ _ hC,⟨t,dx,ht⟩,hw h_ σ H1 s₂ s₃ _ C dx _ I1 (oz (kb _)) I3 n2 (q2 dx n1)⟩
   |next=>exact bF hq
   |brk=>exact bF hq
   |cont=>exact bF hq
end
section
variable{P:aO}{w:bh}{outer:List mK}{H H':Hp}{h:bx}{a C:af}{B:bx}{dx:af}{h' h'':bx}
def Flt.QO(F:Flt P w outer H H' h a C dx B h'):a∉mH outer:=λz=>by
 obtain⟨_,o,e1,e2⟩:=F.fly.fr.mem z;obtain⟨oe,vs,T,oT,ts,he,_,_,hd,_⟩:=F.fly.tr;rw[e1]at he;cases he;exact e2 vs hd
def Flt.new(F:Flt P w outer H H' h a C dx B h'):h.get? a=b_:=by
 cases q:h.get? a with
 |none=>rfl
 |some o=>
   obtain⟨o',z⟩:=F.th a o q F.QO;rw[F.fly.en]at z;cases z
def Flt.there(F:Flt P w outer H H' h a C dx B h'):XO a C dx h':=let ⟨oe,vs,h1,h2,h3,h4⟩:=F.fly.there;⟨oe,h1,h2,h3,vs,h4⟩
def Flt.step(F:Flt P w outer H H' h a C dx B h')(f2:mP B outer a (.ref C) dx .none h'')(u:h'.UpToSlots h''):Flt P w outer H H' h a C dx B h'':=by
 refine⟨f2,F.kp,F.th,F.hok,⟨λb o e1 e2 e3 _=>f2.st b o (F.kp b o e1 e2 e3),λb o e1 e2 e3 hx=>?_,F.un.free,λb o e1 hx=>?_,F.un.tups,F.un.frzs,F.un.tbls⟩,F.fr⟩
 ·obtain⟨sl,z⟩:=F.un.slot b o e1 e2 e3 hx;obtain⟨_,o2,e4,e5⟩:=F.fly.fr.mem e3;rw[z]at e4;cases e4;obtain⟨sl',z'⟩:=u b _ z e5;exact⟨sl',z'⟩
 ·by_cases hb:b∈mH outer
  ·obtain⟨_,o2,e4,e5⟩:=f2.fr.mem hb;exact⟨o2,e4⟩
  ·obtain⟨o',z⟩:=F.th b o e1 hb;exact⟨o',f2.st b o' z⟩
def Flt.WS(F:Flt P w outer H H' h a C dx B h'):oy P w (upd H' a (.ext (XO a C dx))) h':=λb o e=>by
 by_cases hb:b=a
 ·subst hb;rw[bu]at e;cases e;obtain⟨oe,he,hc⟩:=F.there;exact⟨⟨oe,he,hc⟩,⟨oe,he⟩,λh1 h2 ⟨o1,q1,q2⟩ k=>⟨o1,k o1 q1,q2⟩⟩
 ·rw[bB hb]at e;refine((F.hok.kept λb u q=>F.fly.st b u q) b o e).lM (λ_ _ _ q=>q) (λc q=>?_) (λc xs q=>?_)
  ·rw[bB (cG q F.fr)];exact q
  ·rw[bB (cG q F.fr)];exact q
def Flt.XW(F:Flt P w outer H H' h a C dx B h'):Un (mH outer) [] H (upd H' a (.ext (XO a C dx))) h h' where
 keep:=F.un.keep
 slot:=F.un.slot
 free:=λb o e1 e2 e3=>by
  rw[bB (λz=>by subst z;rw[F.new]at e1;cases e1)];exact F.un.free b o e1 e2 e3
 there:=F.un.there
 tups:=λb xs q=>by have:=F.un.tups b xs q;rw[bB (cG this F.fr)];exact this
 frzs:=λb o xs q=>by have:=F.un.frzs b o xs q;rw[bB (cG this F.fr)];exact this
 tbls:=λb ps q=>by
  obtain⟨m,this⟩:=F.un.tbls b ps q;exact⟨m,by rw[bB (cG this F.fr)];exact this⟩
end
section
variable{X:Cx}{h_:List (af×er)}{σ:St}{H H':Hp}{s s':ae}{a C:af}{B:bx}{dx:af}
def Flt.inv(I:Inv X h_ σ H s)(F:Flt X.prog X.w X.stack H H' s.heap a C dx B s'.heap)(ho:s'.os=s.os)(hg:jZ s'.gens):Inv X h_ σ (upd H' a (.ext (XO a C dx))) s':=
 I.OF ho F.XW F.WS hg λb z=>by cases z
noncomputable def Cx.Oy(X:Cx)(e:aa):Cx:={ X with A:=X.A.mark (a_ e),calm:=d_,xe:=λ_ _=>False }
def Inv.Oy(I:Inv X h_ σ H s)(e:aa):Inv (X.Oy e) h_ σ H s:=
 ⟨⟨I.ok.mod,I.ok.kind,I.ok.glob,I.ok.blt,I.ok.above,I.ok.inj,I.ok.has,I.ok.cab,(λz=>by cases z),I.ok.frames,I.ok.Kz,I.ok.exf,I.ok.bs,I.ok.bsz,I.ok.noex,I.ok.exfs,I.ok.oZ,I.ok.frf⟩,I.os,I.bare,I.base,I.loc,I.cell,I.free,I.freeC,I.pin,I.hok,I.len⟩
def Inv.Ws{e:aa}(ok:X.Ok)(I:Inv (X.Oy e) h_ σ H s):Inv X h_ σ H s:=
 ⟨ok,I.os,I.bare,I.base,I.loc,I.cell,I.free,I.freeC,I.pin,I.hok,I.len⟩
end
section
variable{prog:aO}{w:bh}{A:bp}{E:aa->ae->Prop}{s:ae}{env:mK}
def uS{K:aB}{e:af}{cls c:aa}{t:aF}{n:aN}{b₀:fw}{suite:List fw}{pos:dZ}{rest:List mV}{Q:Flow->ae->Prop}
  (hx:fN K cls c=a_ c_)
  (h:aA (aE prog w) (A.mark (a_ (.ref e))) (eval t env) (λc' s₁=>c'=c/\K.In s₁.heap/\(∃oe,s₁.heap.get? e=a_ oe/\oe.cls=cls)/\
   aA (aE prog w) (A.mark (a_ (.ref e))) (setFlight (.ref e) b_) (λ_ s₂=>
       aA (aE prog w) (A.mark (a_ (.ref e))) (storeName env n (.ref e)) (λ_ s₃=>
        aA (aE prog w) (A.mark (a_ (.ref e))) (execs (b₀::suite) env)
         (λf s₄=>aA (aE prog w) A (do bindName env n .none;unbindBehindTheSuite env n pos) (λ_ s₅=>Q f s₅) E s₄)
         (AsSuiteRaised (aE prog w) (A.mark (a_ (.ref e))) env n pos (notedBy (aE prog w) (A.mark (a_ (.ref e))) env (cameBackBy (aE prog w) A env E))) s₃) (notedBy (aE prog w) (A.mark (a_ (.ref e))) env (cameBackBy (aE prog w) A env E)) s₂) (notedBy (aE prog w) (A.mark (a_ (.ref e))) env (cameBackBy (aE prog w) A env E)) s₁) (notedBy (aE prog w) (A.mark (a_ (.ref e))) env (cameBackBy (aE prog w) A env E)) s) :
  aA (aE prog w) A (handleBy (.ref e) env (.ExceptHandler (a_ t) (a_ n) (b₀::suite) pos::rest)) Q E s:=by
 refine wpAny_handleBy_cons (codeAny_handlers_test (bJ h (λc s₁ h₁=>?_) λ_ _ y=>y)) (by intro q;cases q);obtain⟨rfl,KX,⟨oe,he,hcls⟩,hk⟩:=h₁;have LT:gH (aE prog w) s₁.heap (typeOf (.ref e)) cls:=by rw[<-hcls];exact(kz he).andThen .now
 exact PySem.W.exm_one KX LT hx _ _ _ s₁ (λ_ _ q=>q) (codeAny_handlers_suite_as hk)
end
section
variable{X:Cx}{h_:List (af×er)}{σ:St}{H H':Hp}{s s':ae}
set_option tactic.hygienic true in
def Inv.gone{m:Nat}{n:aN}{v:Option aa}{h':bx}{mm:aN->Option aa}{t':Nat}(I:Inv X h_ σ H s)(hN:X.N.Nodup)(hi:X.N[m]?=a_ n)(hk:X.env.scope.names.lookup n=a_ .local)(hn:s.heap.Ns X.env.locals mm)
  (h1:h'.Ns X.env.locals (λx=>if x=n then v else mm x))(hs:dB X.env.locals s.heap h'):Inv X h_ (σ.set m b_) H { s with heap:=h',toks:=t' }:=by
 obtain⟨m0,hn0,hl⟩:=id I.loc;obtain⟨oL,_,_,hoL,_⟩:=id hn
 have em:m0=mm:=by
  obtain⟨o1,es1,ep1,a1,a2,_,a4⟩:=id hn0;obtain⟨o2,es2,ep2,b1,b2,_,b4⟩:=id hn;rw[a1]at b1;cases b1;rw[a2]at b2;cases b2;funext x;rw[<-a4 x,<-b4 x]
 subst em;have neL:∀b o,X.s₀.heap.get? b=a_ o->b≠X.env.locals:=λb o e=>ba (aY (hl9 e) I.ok.above);have cellK:∀x c,X.env.cells.lookup x=a_ c->∀v,s.heap.IsCell c v->h'.IsCell c v:=λx c e v ⟨o,ho,hd⟩=>⟨o,(hs.2 c (I.OE x c e)).trans ho,hd⟩
 refine⟨I.ok,I.os,I.bare,⟨λb o e n hb hx=>?_,λb o e n hb hx=>?_,I.base.free,λb o e hx=>?_,I.base.tups,I.base.frzs,I.base.tbls⟩,⟨_,h1,λj y v' e1 e2 e3=>?_⟩,λy c e=>?_,I.free,I.freeC,λp hp=>?_,λb ob e=>?_,by simpa using I.len⟩
 ·exact(hs.2 b (neL b o e)).trans (I.base.keep b o e n hb hx)
 ·obtain⟨sl,e1⟩:=I.base.slot b o e n hb hx;exact⟨sl,(hs.2 b (neL b o e)).trans e1⟩
 ·obtain⟨o',e1⟩:=I.base.there b o e hx;exact⟨o',(hs.2 b (neL b o e)).trans e1⟩
 ·have hj:m≠j:=λz=>by
   subst z;rw[lJ]at e2;split at e2
   ·split at e2<;>cases e2
   ·rename_i q;exact q rfl
  rw[cH hj]at e2
  have hyn:y≠n:=λz=>by
   subst z;exact hj ((List.getElem?_inj (a9.mp hi).1 hN).mp (hi.trans e1.symm))
  obtain⟨u,r,l⟩:=hl j y v' e1 e2 e3;refine⟨u,r,?_⟩
  rcases l with⟨l1,l2⟩|⟨k,c,e,z⟩
  ·exact .inl ⟨l1,by show(if y=n then v else m0 y)=a_ u;rw[if_neg hyn];exact l2⟩
  ·exact .inr ⟨k,c,e,cellK y c e _ z⟩
 ·obtain⟨v,z⟩:=I.cell y c e;exact⟨v,cellK y c e v z⟩
 ·obtain⟨e,n,ne,nf,d⟩:=I.pin p hp;exact⟨(hs.2 p.1 ne).trans e,n,ne,nf,d⟩
 ·refine(I.hok b ob e).lM (λc w' hc q=>(hs.2 c ?_).trans q) (λ_ q=>q) λ_ _ q=>q;rintro rfl
  rcases hc with rfl|hc
  ·rw[I.free]at e;cases e
  ·rw[I.free]at hc;cases hc
end
section
variable{X:Cx}{h_:List (af×er)}{σ:St}{H H':Hp}{s s':ae}{a C CD:af}{B:bx}{dx:af}{n y D:aN}{j m:Nat}{dp py np ypos hpos:dZ}{Dn:Ends}
def Jm(hN:X.N.Nodup)(hst:X.stack=X.env::X.outer)(hfm:X.env.frame=a_ X.env.locals)(hgD:Gl X D)(hmD:X.mg D=a_ (.ref CD))(hdD:(D == ("__debug__":aN))=d_)
  (hm:X.N[m]?=a_ n)(hlm:X.env.scope.names.lookup n=a_ .local)(hj:X.N[j]?=a_ y)(hlj:Loc X.env.scope y)(hfn:X.fn y=c_\/X.env.scope.names.lookup y=a_ .local)(hn1:(n == ("__debug__":aN))=d_)(hn2:(n == ("__classdict__":aN))=d_)
  (I:Inv X h_ σ H s)(F:Flt X.prog X.w X.stack H H' s.heap a C dx B s'.heap)(ho:s'.os=s.os)(hg:jZ s'.gens)(hx:fN X.K (.ref C) (.ref CD)=a_ c_)
  (q:Dn.nx (((σ.set m (a_ (.ref a))).set j (a_ (.ref a))).set m b_) (upd H' a (.ext (XO a C dx)))) :
  aA (aE X.prog X.w) X.A (noteFrame (.ref a) X.env) (λ_ s₂=>aA (aE X.prog X.w) X.A (setFlight (.ref a) b_) (λ_ s₃=>aA (aE X.prog X.w) X.A (handleBy (.ref a) X.env [.ExceptHandler (a_ (.Name D dp)) (a_ n) [.Assign [.Name y py] (.Name n np) ypos] hpos])
   (SP X h_ Dn) X.xe s₃) X.xe s₂) X.xe s':=by
 rw[hst]at F;have hfr:X.A.frames=a_ (X.env::X.outer):=by rw[I.ok.frames,hst]
 refine C2 hfr hfm F.fly λh2 f2 u2=>?_;refine sj f2 λh3 f3 u3=>?_;have F3:=F.step f3 (u2.trans u3);have I3:Inv X h_ σ (upd H' a (.ext (XO a C dx))) { s' with heap:=h3 }:=Flt.inv I (by rw[hst];exact F3) ho hg;refine uS hx (n4 (I3.Oy (.ref a)) hgD hmD ⟨rfl,I3.rR,let ⟨oe,_,z1,z2,_⟩:=F3.fly.there;⟨oe,z1,z2⟩,?_⟩ hdD);refine sj F3.fly λh4 f4 u4=>?_;have F4:=F3.step f4 u4;have I4:Inv X h_ σ (upd H' a (.ext (XO a C dx))) { s' with heap:=h4 }:=Flt.inv I (by rw[hst];exact F4) ho hg;refine ni I4 hN hm (.inl hlm) (v:=.ref a) rfl (λs5 I5=>?_) (.inr hlm)
 have hσ:(σ.set m (a_ (V.ref a)))[m]?=a_ (a_ (.ref a)):=by
  have:m<σ.length:=by rw[I.len];exact(a9.mp hm).1
  rw[jj this]
 have ps:B5 (X.Oy (.ref a)) [.Assign [.Name y py] (.Name n np) ypos] (AZ (AX m) (jP j)):=CO (Hh (X:=X.Oy (.ref a)) hN hj hlj (nv (X:=X.Oy (.ref a)) hm (.inl hlm) hn1 hn2) rfl hfn);refine bJ (ps h_ s5 _ _ { nx:=λσ1 H1=>σ1=(σ.set m (a_ (.ref a))).set j (a_ (.ref a))/\H1=upd H' a (.ext (XO a C dx)),rt:=λ_ _=>False } (I5.Oy _) ?_) (λfl s6 z=>?_) λ_ _ z=>bF z
 ·exact⟨_,hσ,rfl,rfl⟩
 ·cases fl with
  |next=>
    obtain⟨σ1,H1,I6,rfl,rfl⟩:=z;have I6:=I6.Ws I.ok;obtain⟨mm,hn,_⟩:=id I6.loc;refine wpAny_nameGoes_keeps hlm hn (by rw[I.ok.kind];rfl) λh7 v hn7 hs7=>?_;exact⟨_,_,I6.gone hN hm hlm hn hn7 hs7,q⟩
  |brk=>obtain⟨_,_,_,z⟩:=z;exact bF z
  |cont=>obtain⟨_,_,_,z⟩:=z;exact bF z
  |ret u=>obtain⟨_,_,_,_,_,z⟩:=z;exact bF z
end
section
variable{X:Cx}{k i j m:Nat}{f CD:af}{fd:cx}{ps:List aN}{sp:Sp}{fn x y n D:aN}{p px cpos apos pos dp py np ypos hpos:dZ}{e:aF}{es:List aF}{t:TA}
noncomputable def Km(K:aB)(CD:af)(Q:af->Hp->Prop):XK:=λc d H=>∃C dx,c=.ref C/\d=a_ dx/\fN K (.ref C) (.ref CD)=a_ c_/\∀a,H a=b_->Q a (upd H a (.ext (XO a C dx)))
noncomputable def Tg(K:aB)(sp:Sp)(CD:af)(i j m:Nat)(t:TA):TS:=λDn σ H=>t σ H λvs H1=>sp vs H1 (λv H2=>Dn.nx (σ.set i (a_ v)) H2)
 (Km K CD λa H2=>Dn.nx (((σ.set m (a_ (.ref a))).set j (a_ (.ref a))).set m b_) H2)
def Qi(hN:X.N.Nodup)(hst:X.stack=X.env::X.outer)(hfm:X.env.frame=a_ X.env.locals)(hgD:Gl X D)(hmD:X.mg D=a_ (.ref CD))(hdD:(D == ("__debug__":aN))=d_)
  (hi:X.N[i]?=a_ x)(hli:Loc X.env.scope x)(hfi:X.fn x=c_\/X.env.scope.names.lookup x=a_ .local)
  (hm:X.N[m]?=a_ n)(hlm:X.env.scope.names.lookup n=a_ .local)(hj:X.N[j]?=a_ y)(hlj:Loc X.env.scope y)(hfn:X.fn y=c_\/X.env.scope.names.lookup y=a_ .local)(hn1:(n == ("__debug__":aN))=d_)(hn2:(n == ("__classdict__":aN))=d_)
  (F:iX X.prog X.w X.K X.mg X.base (rM X.prog X.w) k f fd ps sp)(hr:iJ k X.A)(hg:Gl X fn)(hmf:X.mg fn=a_ (.ref f))(hk:cX X.K (.ref f)=c_)(hb:Binds X.K fd ps [])(hdb:(fn == ("__debug__":aN))=d_)
  (ha:PA X.kl (e::es) t)(he:aI (e::es) X.env=(d_,eval e X.env)::aI es X.env)(hpl:(backTo cpos (aI es X.env)).any (·.1)=d_) :
  PS X (.Try [.Assign [.Name x px] (.Call (.Name fn p) (e::es) [] cpos) apos] [.ExceptHandler (a_ (.Name D dp)) (a_ n) [.Assign [.Name y py] (.Name n np) ypos] hpos] [] [] pos) (Tg X.K sp CD i j m t):=by
 intro h_ s σ H Dn I h;refine wpAny_Try_except (wd (wpAny_Assign_Name (fD (n4 I hg hmf ?_ hdb)) rfl));refine AH (h₀:=X.base) I.ok.mod.kin hk (bJ (ha cpos h_ s σ H _ (I.m7 _) h) (λus s1 ⟨vs,H1,I1,r,q⟩=>⟨I1.ik.rR,?_⟩) λ_ _ z=>bF z) he hpl;have I1:=I1.ik;have hl:us.length=ps.length:=by rw[<-r.length];exact F.len _ _ _ _ q
 have hb':=hb s1 us I1.rR (by rw[bN];exact hl);rw[bN]at hb';refine sA (fT (F.run X.A X.stack s1 H1 ⟨us,[]⟩ us vs _ _ hr I1.RN hb' r q) λr s' hq=>?_)
 cases r with
 |error e=>
   obtain⟨a,C,dx,H2,B,rfl,ho,hgn,FB,C',dx',e1,e2,hx,q2⟩:=hq;cases e1;cases e2;exact Jm hN hst hfm hgD hmD hdD hm hlm hj hlj hfn hn1 hn2 I1 FB ho hgn hx (q2 a FB.fr)
 |ok fl=>
   cases fl with
   |ret u=>
     obtain⟨v,H2,I2,r2,q2⟩:=I1.after hq;exact ni I2 hN hi hli r2 (λs3 I3=>lr (lr ⟨_,_,I3,q2⟩)) hfi
   |next=>exact bF hq
   |brk=>exact bF hq
   |cont=>exact bF hq
end
end L2
namespace M
open PySem PySem.Spec PyProof.Rows L2
inductive Dat where
 |non|bl (b:Bool)|int (i:Int)|str (x:aN)|tup (xs:List Dat)|lst (xs:List Dat)|dct (ks:List Key) (vs:List Dat)|dcn (ks:List (List NK))|exc (c:Nat) (f:aN) (k:Key)
 deriving Inhabited
noncomputable abbrev Fg:=aB
def Tq(K:Fg)(F:Hp)(a:af)(vs:List V):Prop:=F a=a_ (.tup vs)\/∃(o:er) (its:Array aa) (n:Nat),K.lookup a=a_ o/\o.cls=.type "tuple"/\o.data=.seq its n/\its.size<=aD/\bZ vs its.toList
def Tq.sq{K:Fg}{F:Hp}{a:af}{vs:List V}(h:Tq K F a vs):rL K F a vs:=by
 rcases h with h|h
 ·exact .inl (.inl h)
 ·exact .inr h
def Tq.mono{K:Fg}{F F':Hp}{a:af}{vs:List V}(s:bS F F')(h:Tq K F a vs):Tq K F' a vs:=by
 rcases h with h|h
 ·exact .inl (s _ _ h)
 ·exact .inr h
noncomputable def J2(K:Fg)(F:Hp):List N2->List V->Prop
 |[],vs=>vs=[]
 |.inl k::ks,vs=>∃r,vs=kV k::r/\J2 K F ks r
 |.inr q::ks,vs=>∃b r,vs=.ref b::r/\Tq K F b (q.map kV)/\J2 K F ks r
noncomputable def J1(K:Fg)(F:Hp):List NK->List V->Prop
 |[],vs=>vs=[]
 |.inl k::ks,vs=>∃r,vs=kV k::r/\J1 K F ks r
 |.inr q::ks,vs=>∃b r us,vs=.ref b::r/\Tq K F b us/\J2 K F q us/\J1 K F ks r
def FK(K:Fg)(F:Hp)(k:List NK)(a:af):Prop:=∃vs,Tq K F a vs/\J1 K F k vs
def B6(K:Fg)(F:Hp)(ks:List (List NK))(xs:List (List NK×af)):Prop:=xs.map (·.1)=ks/\∀x∈xs,FK K F x.1 x.2
theorem J2.imp{K:Fg}{F F':Hp}(f:∀b vs,Tq K F b vs->Tq K F' b vs):∀{ks:List N2}{vs:List V},J2 K F ks vs->J2 K F' ks vs
 |[],_,h=>h
 |.inl k::ks,_,h=>by obtain⟨r,e,h⟩:=h;exact⟨r,e,J2.imp f h⟩
 |.inr q::ks,_,h=>by obtain⟨b,r,e,t,h⟩:=h;exact⟨b,r,e,f _ _ t,J2.imp f h⟩
theorem J1.imp{K:Fg}{F F':Hp}(f:∀b vs,Tq K F b vs->Tq K F' b vs):∀{ks:List NK}{vs:List V},J1 K F ks vs->J1 K F' ks vs
 |[],_,h=>h
 |.inl k::ks,_,h=>by obtain⟨r,e,h⟩:=h;exact⟨r,e,J1.imp f h⟩
 |.inr q::ks,_,h=>by obtain⟨b,r,us,e,t,u,h⟩:=h;exact⟨b,r,us,e,f _ _ t,u.imp f,J1.imp f h⟩
def B6.imp{K:Fg}{F F':Hp}(f:∀b vs,Tq K F b vs->Tq K F' b vs){ks:List (List NK)}{xs:List (List NK×af)}(h:B6 K F ks xs):B6 K F' ks xs:=
 ⟨h.1,λx hx=>let ⟨vs,t,r⟩:=h.2 x hx;⟨vs,f _ _ t,r.imp f⟩⟩
mutual
noncomputable def Rep(K:Fg)(F:Hp):Dat->V->Prop
 |.non,v=>v=.non
 |.bl b,v=>v=.bl b
 |.int i,v=>v=.int i
 |.str x,v=>v=.str x
 |.tup ds,v=>∃a vs,v=.ref a/\Tq K F a vs/\cv K F ds vs
 |.lst ds,v=>∃a vs,v=.ref a/\mB K F a vs/\cv K F ds vs
 |.dct ks ds,v=>∃a k_,v=.ref a/\F a=a_ (.dK k_)/\k_.map (·.1)=ks/\cv K F ds (k_.map (·.2))
 |.dcn ks,v=>∃a xs,v=.ref a/\F a=a_ (.dN xs)/\B6 K F ks xs
 |.exc c f k,v=>∃a dx,v=.ref a/\F a=a_ (.ext (XO a c dx))/\F dx=a_ (.xd [(f,kV k)])
noncomputable def cv(K:Fg)(F:Hp):List Dat->List V->Prop
 |[],vs=>vs=[]
 |d::ds,vs=>∃v r,vs=v::r/\Rep K F d v/\cv K F ds r
end
mutual
theorem Rep.mono{K:Fg}{F F':Hp}(s:bS F F'):∀(d:Dat){v:V},Rep K F d v->Rep K F' d v
 |.non,_,h=>h
 |.bl _,_,h=>h
 |.int _,_,h=>h
 |.str _,_,h=>h
 |.tup ds,_,⟨a,vs,e,t,r⟩=>⟨a,vs,e,t.mono s,cv.mono s ds r⟩
 |.lst ds,_,⟨a,vs,e,t,r⟩=>⟨a,vs,e,s.seq t,cv.mono s ds r⟩
 |.dct _ ds,_,⟨a,k_,e,t,k,r⟩=>⟨a,k_,e,s _ _ t,k,cv.mono s ds r⟩
 |.dcn _,_,⟨a,xs,e,t,r⟩=>⟨a,xs,e,s _ _ t,r.imp λ_ _ q=>q.mono s⟩
 |.exc _ _ _,_,⟨a,dx,e,t,r⟩=>⟨a,dx,e,s _ _ t,s _ _ r⟩
theorem cv.mono{K:Fg}{F F':Hp}(s:bS F F'):∀(ds:List Dat){vs:List V},cv K F ds vs->cv K F' ds vs
 |[],_,h=>h
 |d::ds,_,⟨v,r,e,h1,h2⟩=>⟨v,r,e,Rep.mono s d h1,cv.mono s ds h2⟩
end
theorem cv.length{K:Fg}{F:Hp}:∀{ds:List Dat}{vs:List V},cv K F ds vs->vs.length=ds.length
 |[],_,h=>by rw[show _=[]from h];rfl
 |d::ds,_,z2=>by obtain⟨v,r,e,_,h2⟩:=z2;rw[e,aQ,aQ,cv.length h2]
theorem cv.get{K:Fg}{F:Hp}:∀{ds:List Dat}{vs:List V}{i:Nat}{d:Dat},cv K F ds vs->ds[i]?=a_ d->∃v,vs[i]?=a_ v/\Rep K F d v
 |[],_,_,_,_,e=>by simp at e
 |d::ds,_,0,_,z4,z=>by obtain⟨v,r,e,h1,_⟩:=z4;simp at z;subst z;subst e;exact⟨v,rfl,h1⟩
 |d::ds,_,i+1,_,z4,z=>by
   obtain⟨v,r,e,_,h2⟩:=z4;subst e;obtain⟨w,q1,q2⟩:=cv.get (i:=i) h2 (by simpa using z);exact⟨w,by simpa using q1,q2⟩
theorem cv.append{K:Fg}{F:Hp}:∀{ds es:List Dat}{vs us:List V},cv K F ds vs->cv K F es us->cv K F (ds++es) (vs++us)
 |[],_,_,_,h,h'=>by rw[show _=[]from h];exact h'
 |d::ds,_,_,_,z4,h'=>by obtain⟨v,r,e,h1,h2⟩:=z4;subst e;exact⟨v,r++_,rfl,h1,cv.append h2 h'⟩
def cv.one{K:Fg}{F:Hp}{d:Dat}{v:V}(h:Rep K F d v):cv K F [d] [v]:=⟨v,[],rfl,h,rfl⟩
theorem cv.take{K:Fg}{F:Hp}:∀(n:Nat){ds:List Dat}{vs:List V},cv K F ds vs->cv K F (ds.take n) (vs.take n)
 |0,_,_,_=>by simp[cv]
 |n+1,[],_,h=>by rw[show _=[]from h];exact rfl
 |n+1,d::ds,_,z3=>by obtain⟨v,r,e,h1,h2⟩:=z3;subst e;exact⟨v,r.take n,rfl,h1,cv.take n h2⟩
theorem cv.drop{K:Fg}{F:Hp}:∀(n:Nat){ds:List Dat}{vs:List V},cv K F ds vs->cv K F (ds.drop n) (vs.drop n)
 |0,_,_,h=>h
 |n+1,[],_,h=>by rw[show _=[]from h];exact rfl
 |n+1,d::ds,_,z3=>by obtain⟨v,r,e,h1,h2⟩:=z3;subst e;exact cv.drop n h2
mutual
noncomputable def im:Dat->Bool
 |.lst _=>d_
 |.dct _ _=>d_
 |.dcn _=>d_
 |.exc _ _ _=>d_
 |.tup ds=>je ds
 |_=>c_
noncomputable def je:List Dat->Bool
 |[]=>c_
 |d::ds=>im d && je ds
end
structure Good(F H:Hp):Prop where
 sub:bS F H
 tup:∀a vs,H a=a_ (.tup vs)->F a=a_ (.tup vs)
structure Step(F H F' H':Hp):Prop where
 good:Good F' H'
 ff:bS F F'
 hh:bS H H'
 un:∀a o,H a=a_ o->F a=b_->F' a=b_
def Step.refl{F H:Hp}(g:Good F H):Step F H F H:=⟨g,bS.refl _,bS.refl _,λ_ _ _ n=>n⟩
def Step.trans{F H F1 H1 F2 H2:Hp}(a:Step F H F1 H1)(b:Step F1 H1 F2 H2):Step F H F2 H2:=
 ⟨b.good,a.ff.trans b.ff,a.hh.trans b.hh,λx o h n=>b.un x o (a.hh x o h) (a.un x o h n)⟩
def bS.upd{H:Hp}{p:af}{o:HO}(hp:H p=b_):bS H (upd H p o):=λb u e=>by rw[bB (cG e hp)];exact e
def Step.alloc{F H:Hp}{p:af}{o:HO}(g:Good F H)(hp:H p=b_):Step F H (upd F p o) (upd H p o):=by
 have hF:F p=b_:=by
  cases q:F p with
  |none=>rfl
  |some u=>rw[g.sub p u q]at hp;cases hp
 refine⟨⟨λb u e=>?_,λa vs e=>?_⟩,bS.upd hF,bS.upd hp,λa u h n=>?_⟩
 ·by_cases hb:b=p
  ·subst hb;rw[bu]at e ⊢;exact e
  ·rw[bB hb]at e ⊢;exact g.sub b u e
 ·by_cases hb:a=p
  ·subst hb;rw[bu]at e ⊢;exact e
  ·rw[bB hb]at e ⊢;exact g.tup a vs e
 ·rw[bB (cG h hp)];exact n
noncomputable def shr(F H F1:Hp):Hp:=λa=>match F a,H a with
 |none,a_ _=>b_
 |_,_=>F1 a
def Pu{F H F1:Hp}{a:af}{o:HO}(h:shr F H F1 a=a_ o):F1 a=a_ o:=by
 unfold shr at h
 cases q:F a with
 |none=>
   cases q2:H a with
   |none=>rw[q,q2]at h;exact h
   |some u=>rw[q,q2]at h;cases h
 |some u=>rw[q]at h;exact h
def A9{F H F1:Hp}{a:af}(h:F a≠b_\/H a=b_):shr F H F1 a=F1 a:=by
 unfold shr
 cases q:F a with
 |none=>
   cases q2:H a with
   |none=>rfl
   | some u=>rcases h with h|h
             ·exact absurd q h
             ·rw[q2]at h;cases h
 |some u=>rfl
def Step.shrink{F H Fp F1 H1:Hp}(g:Good F H)(s:bS F Fp)(st:Step Fp H F1 H1):Step F H (shr F H F1) H1:=by
 refine⟨⟨λa o e=>st.good.sub a o (Pu e),λa vs e=>?_⟩,λa o e=>?_,st.hh,λa o h n=>?_⟩
 ·have e1:=st.good.tup a vs e;rw[A9 ?_]
  ·exact e1
  ·cases q:H a with
   |none=>exact .inr rfl
   |some u=>
     have:=st.hh a u q;rw[e]at this;cases this;exact .inl (by rw[g.tup a vs q];simp)
 ·rw[A9 (.inl (by rw[e];simp))];exact st.ff a o (s a o e)
 ·unfold shr;rw[n,h]
def Tq.shrink{K:Fg}{F H Fp F1 H1:Hp}(g:Good F H)(st:Step Fp H F1 H1){a:af}{vs:List V}(h:Tq K F1 a vs):Tq K (shr F H F1) a vs:=by
 rcases h with h|h
 ·refine .inl ?_;rw[A9 ?_]
  ·exact h
  ·cases q:H a with
   |none=>exact .inr rfl
   |some u=>
     have:=st.hh a u q;rw[st.good.sub a _ h]at this;cases this;exact .inl (by rw[g.tup a vs q];simp)
 ·exact .inr h
mutual
theorem Rep.shrink{K:Fg}{F H Fp F1 H1:Hp}(g:Good F H)(st:Step Fp H F1 H1):∀(d:Dat){v:V},im d=c_->Rep K F1 d v->Rep K (shr F H F1) d v
 |.non,_,_,h=>h
 |.bl _,_,_,h=>h
 |.int _,_,_,h=>h
 |.str _,_,_,h=>h
 |.tup ds,_,m,⟨a,vs,e,t,r⟩=>⟨a,vs,e,t.shrink g st,cv.shrink g st ds m r⟩
 |.lst ds,_,m,_=>nomatch m
 |.dct _ _,_,m,_=>nomatch m
 |.dcn _,_,m,_=>nomatch m
 |.exc _ _ _,_,m,_=>nomatch m
theorem cv.shrink{K:Fg}{F H Fp F1 H1:Hp}(g:Good F H)(st:Step Fp H F1 H1):∀(ds:List Dat){vs:List V},je ds=c_->cv K F1 ds vs->cv K (shr F H F1) ds vs
 |[],_,_,h=>h
 |d::ds,_,m,z3=>by
   obtain⟨v,r,e,h1,h2⟩:=z3;have m':im d=c_/\je ds=c_:=by simpa [je]using m
   exact⟨v,r,e,Rep.shrink g st d m'.1 h1,cv.shrink g st ds m'.2 h2⟩
end
mutual
noncomputable def kY(K:Fg)(H:Hp):Dat->V->List af->Prop
 |.non,v,S=>v=.non/\S=[]
 |.bl b,v,S=>v=.bl b/\S=[]
 |.int i,v,S=>v=.int i/\S=[]
 |.str x,v,S=>v=.str x/\S=[]
 |.tup ds,v,S=>∃a vs,v=.ref a/\Tq K H a vs/\cD K H ds vs S
 |.lst ds,v,S=>∃a vs S',v=.ref a/\H a=a_ (.lst vs)/\cD K H ds vs S'/\S=a::S'
 |.dct ks ds,v,S=>∃a k_ S',v=.ref a/\H a=a_ (.dK k_)/\k_.map (·.1)=ks/\cD K H ds (k_.map (·.2)) S'/\S=a::S'
 |.dcn ks,v,S=>∃a xs,v=.ref a/\H a=a_ (.dN xs)/\B6 K H ks xs/\S=[a]
 |.exc c f k,v,S=>∃a dx,v=.ref a/\H a=a_ (.ext (XO a c dx))/\H dx=a_ (.xd [(f,kV k)])/\S=[a,dx]
noncomputable def cD(K:Fg)(H:Hp):List Dat->List V->List af->Prop
 |[],vs,S=>vs=[]/\S=[]
 |d::ds,vs,S=>∃v r S1 S2,vs=v::r/\kY K H d v S1/\cD K H ds r S2/\S=S1++S2
end
mutual
theorem kY.mono{K:Fg}{H H':Hp}(s:bS H H'):∀(d:Dat){v:V}{S:List af},kY K H d v S->kY K H' d v S
 |.non,_,_,h=>h
 |.bl _,_,_,h=>h
 |.int _,_,_,h=>h
 |.str _,_,_,h=>h
 |.tup ds,_,_,⟨a,vs,e,t,r⟩=>⟨a,vs,e,t.mono s,cD.mono s ds r⟩
 |.lst ds,_,_,⟨a,vs,S',e,t,r,q⟩=>⟨a,vs,S',e,s _ _ t,cD.mono s ds r,q⟩
 |.dct _ ds,_,_,⟨a,k_,S',e,t,k,r,q⟩=>⟨a,k_,S',e,s _ _ t,k,cD.mono s ds r,q⟩
 |.dcn _,_,_,⟨a,xs,e,t,r,q⟩=>⟨a,xs,e,s _ _ t,r.imp λ_ _ z=>z.mono s,q⟩
 |.exc _ _ _,_,_,⟨a,dx,e,t,r,q⟩=>⟨a,dx,e,s _ _ t,s _ _ r,q⟩
theorem cD.mono{K:Fg}{H H':Hp}(s:bS H H'):∀(ds:List Dat){vs:List V}{S:List af},cD K H ds vs S->cD K H' ds vs S
 |[],_,_,h=>h
 |d::ds,_,_,⟨v,r,S1,S2,e,h1,h2,q⟩=>⟨v,r,S1,S2,e,kY.mono s d h1,cD.mono s ds h2,q⟩
end
noncomputable def JJ:HO->Prop
 |.lst _=>True
 |.dK _=>True
 |.dN _=>True
 |.ext _=>True
 |.xd _=>True
 |_=>False
mutual
theorem kY.yk{K:Fg}{H:Hp}:∀(d:Dat){v:V}{S:List af},kY K H d v S->∀a∈S,∃o,H a=a_ o/\JJ o
 |.non,_,_,h=>by rw[h.2];intro a m;cases m
 |.bl _,_,_,h=>by rw[h.2];intro a m;cases m
 |.int _,_,_,h=>by rw[h.2];intro a m;cases m
 |.str _,_,_,h=>by rw[h.2];intro a m;cases m
 |.tup ds,_,_,⟨a,vs,e,t,r⟩=>cD.yk ds r
 |.lst ds,_,_,z3=>by
   obtain⟨a,vs,S',e,t,r,q⟩:=z3;subst q;intro b m
   rcases ah.mp m with rfl|m
   ·exact⟨_,t,trivial⟩
   ·exact cD.yk ds r b m
 |.dct _ ds,_,_,z3=>by
   obtain⟨a,k_,S',e,t,k,r,q⟩:=z3;subst q;intro b m
   rcases ah.mp m with rfl|m
   ·exact⟨_,t,trivial⟩
   ·exact cD.yk ds r b m
 |.dcn _,_,_,z3=>by
   obtain⟨a,xs,e,t,r,q⟩:=z3;subst q;intro b m;rw[aZ.mp m];exact⟨_,t,trivial⟩
 |.exc _ _ _,_,_,z3=>by
   obtain⟨a,dx,e,t,r,q⟩:=z3;subst q;intro b m
   rcases ah.mp m with rfl|m
   ·exact⟨_,t,trivial⟩
   ·rw[aZ.mp m];exact⟨_,r,trivial⟩
theorem cD.yk{K:Fg}{H:Hp}:∀(ds:List Dat){vs:List V}{S:List af},cD K H ds vs S->∀a∈S,∃o,H a=a_ o/\JJ o
 |[],_,_,h=>by rw[h.2];intro a m;cases m
 |d::ds,_,_,z3=>by
   obtain⟨v,r,S1,S2,e,h1,h2,q⟩:=z3;subst q;intro b m
   rcases aK.mp m with m|m
   ·exact kY.yk d h1 b m
   ·exact cD.yk ds h2 b m
end
noncomputable def fz(F H:Hp)(S:List af):Hp:=λa=>if a∈S then H a else F a
def tX{F H:Hp}{S:List af}{a:af}(h:a∈S):fz F H S a=H a:=if_pos h
def qP{F H:Hp}{S:List af}{a:af}(h:a∉S):fz F H S a=F a:=if_neg h
def RC{F H:Hp}{S:List af}(g:bS F H):bS (fz F H S) H:=λa o e=>by
 by_cases m:a∈S
 ·rw[tX m]at e;exact e
 ·rw[qP m]at e;exact g a o e
def qO{F H:Hp}{S:List af}(g:bS F H):bS F (fz F H S):=λa o e=>by
 by_cases m:a∈S
 ·rw[tX m];exact g a o e
 ·rw[qP m];exact e
def xA{F H:Hp}{S:List af}(g:Good F H):Good (fz F H S) H:=⟨RC g.sub,λa vs e=>qO g.sub a _ (g.tup a vs e)⟩
mutual
theorem kY.kh{K:Fg}{F H:Hp}(g:Good F H):∀(d:Dat){v:V}{S T:List af},kY K H d v S->(∀a∈S,a∈T)->Rep K (fz F H T) d v
 |.non,_,_,_,h,_=>h.1
 |.bl _,_,_,_,h,_=>h.1
 |.int _,_,_,_,h,_=>h.1
 |.str _,_,_,_,h,_=>h.1
 |.tup ds,_,_,_,z4,m=>by
   obtain⟨a,vs,e,t,r⟩:=z4;refine⟨a,vs,e,?_,cD.kh g ds r m⟩
   rcases t with t|t
   ·exact .inl (qO g.sub _ _ (g.tup _ _ t))
   ·exact .inr t
 |.lst ds,_,_,_,z4,m=>by
   obtain⟨a,vs,S',e,t,r,q⟩:=z4;subst q;refine⟨a,vs,e,.inl (.inl ?_),cD.kh g ds r λb hb=>m b (jN _ hb)⟩;rw[tX (m a jB)];exact t
 |.dct _ ds,_,_,_,z4,m=>by
   obtain⟨a,k_,S',e,t,k,r,q⟩:=z4;subst q;refine⟨a,k_,e,?_,k,cD.kh g ds r λb hb=>m b (jN _ hb)⟩;rw[tX (m a jB)];exact t
 |.dcn _,_,_,_,z4,m=>by
   obtain⟨a,xs,e,t,r,q⟩:=z4;subst q;refine⟨a,xs,e,?_,r.imp λb vs z=>?_⟩
   ·rw[tX (m a jB)];exact t
   ·rcases z with z|z
    ·exact .inl (qO g.sub _ _ (g.tup _ _ z))
    ·exact .inr z
 |.exc _ _ _,_,_,_,z4,m=>by
   obtain⟨a,dx,e,t,r,q⟩:=z4;subst q;refine⟨a,dx,e,?_,?_⟩
   ·rw[tX (m a jB)];exact t
   ·rw[tX (m dx (jN _ jB))];exact r
theorem cD.kh{K:Fg}{F H:Hp}(g:Good F H):∀(ds:List Dat){vs:List V}{S T:List af},cD K H ds vs S->(∀a∈S,a∈T)->cv K (fz F H T) ds vs
 |[],_,_,_,h,_=>h.1
 |d::ds,_,_,_,z4,m=>by
   obtain⟨v,r,S1,S2,e,h1,h2,q⟩:=z4;subst q;exact⟨v,r,e,kY.kh g d h1 λa ha=>m a (aL _ ha),cD.kh g ds h2 λa ha=>m a (ax _ ha)⟩
end
mutual
theorem kY.jL{K:Fg}{F H:Hp}(g:bS F H):∀(d:Dat){v:V},im d=c_->Rep K F d v->kY K H d v []
 |.non,_,_,h=>⟨h,rfl⟩
 |.bl _,_,_,h=>⟨h,rfl⟩
 |.int _,_,_,h=>⟨h,rfl⟩
 |.str _,_,_,h=>⟨h,rfl⟩
 |.tup ds,_,m,⟨a,vs,e,t,r⟩=>⟨a,vs,e,t.mono g,cD.jL g ds m r⟩
 |.lst ds,_,m,_=>nomatch m
 |.dct _ _,_,m,_=>nomatch m
 |.dcn _,_,m,_=>nomatch m
 |.exc _ _ _,_,m,_=>nomatch m
theorem cD.jL{K:Fg}{F H:Hp}(g:bS F H):∀(ds:List Dat){vs:List V},je ds=c_->cv K F ds vs->cD K H ds vs []
 |[],_,_,h=>⟨h,rfl⟩
 |d::ds,_,m,z3=>by
   obtain⟨v,r,e,h1,h2⟩:=z3;have m':im d=c_/\je ds=c_:=by simpa [je]using m
   exact⟨v,r,[],[],e,kY.jL g d m'.1 h1,cD.jL g ds m'.2 h2,rfl⟩
end
mutual
theorem kY.upd{K:Fg}{H:Hp}{p:af}{o:HO}(hp:∀vs,H p≠a_ (.tup vs)):∀(d:Dat){v:V}{S:List af},kY K H d v S->p∉S->kY K (upd H p o) d v S
 |.non,_,_,h,_=>h
 |.bl _,_,_,h,_=>h
 |.int _,_,_,h,_=>h
 |.str _,_,_,h,_=>h
 |.tup ds,_,_,z3,n=>by
   obtain⟨a,vs,e,t,r⟩:=z3;refine⟨a,vs,e,?_,cD.upd hp ds r n⟩
   rcases t with t|t
   ·refine .inl ?_;rw[bB (λz=>hp vs (by rw[<-z];exact t))];exact t
   ·exact .inr t
 |.lst ds,_,_,z3,n=>by
   obtain⟨a,vs,S',e,t,r,q⟩:=z3;subst q;have hne:a≠p:=λz=>n (z▸jB);exact⟨a,vs,S',e,(bB hne).trans t,cD.upd hp ds r (λm=>n (jN _ m)),rfl⟩
 |.dct _ ds,_,_,z3,n=>by
   obtain⟨a,k_,S',e,t,k,r,q⟩:=z3;subst q;have hne:a≠p:=λz=>n (z▸jB);exact⟨a,k_,S',e,(bB hne).trans t,k,cD.upd hp ds r (λm=>n (jN _ m)),rfl⟩
 |.dcn _,_,_,z3,n=>by
   obtain⟨a,xs,e,t,r,q⟩:=z3;subst q;have hne:a≠p:=λz=>n (z▸jB);refine⟨a,xs,e,(bB hne).trans t,r.imp λb vs z=>?_,rfl⟩
   rcases z with z|z
   ·refine .inl ?_;rw[bB (λy=>hp vs (by rw[<-y];exact z))];exact z
   ·exact .inr z
 |.exc _ _ _,_,_,z3,n=>by
   obtain⟨a,dx,e,t,r,q⟩:=z3;subst q;have h1:a≠p:=λz=>n (by rw[<-z];exact jB);have h2:dx≠p:=λz=>n (by rw[<-z];exact jN _ jB);exact⟨a,dx,e,(bB h1).trans t,(bB h2).trans r,rfl⟩
theorem cD.upd{K:Fg}{H:Hp}{p:af}{o:HO}(hp:∀vs,H p≠a_ (.tup vs)):∀(ds:List Dat){vs:List V}{S:List af},cD K H ds vs S->p∉S->cD K (upd H p o) ds vs S
 |[],_,_,h,_=>h
 |d::ds,_,_,z3,n=>by
   obtain⟨v,r,S1,S2,e,h1,h2,q⟩:=z3;subst q;exact⟨v,r,S1,S2,e,kY.upd hp d h1 (λm=>n (aL _ m)),cD.upd hp ds h2 (λm=>n (ax _ m)),rfl⟩
end
theorem cD.length{K:Fg}{H:Hp}:∀{ds:List Dat}{vs:List V}{S:List af},cD K H ds vs S->vs.length=ds.length
 |[],_,_,h=>by rw[h.1];rfl
 |d::ds,_,_,z3=>by obtain⟨v,r,S1,S2,e,_,h2,_⟩:=z3;rw[e,aQ,aQ,cD.length h2]
theorem cD.append{K:Fg}{H:Hp}:∀{ds es:List Dat}{vs us:List V}{S T:List af},cD K H ds vs S->cD K H es us T->cD K H (ds++es) (vs++us) (S++T)
 |[],_,_,_,_,_,h,h'=>by rw[h.1,h.2];exact h'
 |d::ds,_,_,_,_,_,z6,h'=>by obtain⟨v,r,S1,S2,e,h1,h2,q⟩:=z6;subst e q;exact⟨v,r++_,S1,S2++_,rfl,h1,cD.append h2 h',by rw[lK]⟩
def cD.one{K:Fg}{H:Hp}{d:Dat}{v:V}{S:List af}(h:kY K H d v S):cD K H [d] [v] S:=⟨v,[],S,[],rfl,h,⟨rfl,rfl⟩,by simp⟩
noncomputable abbrev St:=L2.St
noncomputable abbrev eM:=List (Option Dat)
def lZ(K:Fg)(F:Hp)(σ:St)(ρ:eM):Prop:=∀(i:Nat)d,ρ[i]?=a_ (a_ d)->∃v,σ[i]?=a_ (a_ v)/\Rep K F d v
def lZ.mono{K:Fg}{F F':Hp}{σ:St}{ρ:eM}(s:bS F F')(h:lZ K F σ ρ):lZ K F' σ ρ:=λi d e=>let ⟨v,q1,q2⟩:=h i d e;⟨v,q1,q2.mono s⟩
def fJ(K:Fg)(H H':Hp)(d:Dat)(v:V):Prop:=∃S:List af,S.Nodup/\(∀a∈S,H a=b_)/\kY K H' d v S
def eO(K:Fg)(H H':Hp)(ds:List Dat)(vs:List V):Prop:=∃S:List af,S.Nodup/\(∀a∈S,H a=b_)/\cD K H' ds vs S
def fJ.back{K:Fg}{F H0 H H':Hp}{d:Dat}{v:V}(s:bS H0 H)(h:fJ K H H' d v):fJ K H0 H' d v:=by
 obtain⟨S,n,e,r⟩:=h;exact⟨S,n,λa m=>s.free (e a m),r⟩
def eO.back{K:Fg}{F H0 H H':Hp}{ds:List Dat}{vs:List V}(s:bS H0 H)(h:eO K H H' ds vs):eO K H0 H' ds vs:=by
 obtain⟨S,n,e,r⟩:=h;exact⟨S,n,λa m=>s.free (e a m),r⟩
def fJ.jL{K:Fg}{F H H':Hp}{d:Dat}{v:V}(g:Good F H')(m:im d=c_)(r:Rep K F d v):fJ K H H' d v:=⟨[],ji,(λa z=>by cases z),kY.jL g.sub d m r⟩
def eO.jL{K:Fg}{F H H':Hp}{ds:List Dat}{vs:List V}(g:Good F H')(m:je ds=c_)(r:cv K F ds vs):eO K H H' ds vs:=⟨[],ji,(λa z=>by cases z),cD.jL g.sub ds m r⟩
def eO.cons{K:Fg}{H H1 H2:Hp}{d:Dat}{ds:List Dat}{v:V}{vs:List V}(s:bS H H1)(s':bS H1 H2)(h:fJ K H H1 d v)(hs:eO K H1 H2 ds vs):eO K H H2 (d::ds) (v::vs):=by
 obtain⟨S,n,e,r⟩:=h;obtain⟨T,n',e',r'⟩:=hs;refine⟨S++T,dq.mpr ⟨n,n',λa ha b hb z=>?_⟩,λa m=>?_,v,vs,S,T,rfl,r.mono s',r',rfl⟩
 ·subst z;obtain⟨o,ho,_⟩:=r.yk _ a ha;rw[e' a hb]at ho;cases ho
 ·rcases aK.mp m with m|m
  ·exact e a m
  ·exact s.free (e' a m)
def eO.snoc{K:Fg}{H H1 H2:Hp}{d:Dat}{ds:List Dat}{v:V}{vs:List V}(s:bS H H1)(s':bS H1 H2)(hs:eO K H H1 ds vs)(h:fJ K H1 H2 d v):eO K H H2 (ds++[d]) (vs++[v]):=by
 obtain⟨S,n,e,r⟩:=hs;obtain⟨T,n',e',r'⟩:=h;refine⟨S++T,dq.mpr ⟨n,n',λa ha b hb z=>?_⟩,λa m=>?_,(r.mono s').append (.one r')⟩
 ·subst z;obtain⟨o,ho,_⟩:=r.yk _ a ha;rw[e' a hb]at ho;cases ho
 ·rcases aK.mp m with m|m
  ·exact e a m
  ·exact s.free (e' a m)
def eO.mono{K:Fg}{H H1 H':Hp}{ds:List Dat}{vs:List V}(s:bS H1 H')(h:eO K H H1 ds vs):eO K H H' ds vs:=by
 obtain⟨S,n,e,r⟩:=h;exact⟨S,n,e,r.mono s⟩
def eO.nil{K:Fg}{H H1:Hp}:eO K H H1 [] []:=⟨[],ji,(λa z=>by cases z),rfl,rfl⟩
def fJ.lst{K:Fg}{H H1:Hp}{ds:List Dat}{vs:List V}{p:af}(s:bS H H1)(hp:H1 p=b_)(h:eO K H H1 ds vs):fJ K H (L2.upd H1 p (.lst vs)) (.lst ds) (.ref p):=by
 obtain⟨S,n,e,r⟩:=h;refine⟨p::S,bM.mpr ⟨λm=>?_,n⟩,λa m=>?_,p,vs,S,rfl,bu,r.mono (bS.upd hp),rfl⟩
 ·obtain⟨o,ho,_⟩:=r.yk _ p m;rw[hp]at ho;cases ho
 ·rcases ah.mp m with rfl|m
  ·exact s.free hp
  ·exact e a m
def fJ.tup{K:Fg}{H H1:Hp}{ds:List Dat}{vs:List V}{p:af}(hp:H1 p=b_)(h:eO K H H1 ds vs):fJ K H (L2.upd H1 p (.tup vs)) (.tup ds) (.ref p):=by
 obtain⟨S,n,e,r⟩:=h;exact⟨S,n,e,p,vs,rfl,.inl bu,r.mono (bS.upd hp)⟩
noncomputable def tE(K:Fg)(ρ:eM)(d:Dat)(fr:Bool):TE:=λσ H Q=>∃F,Good F H/\lZ K F σ ρ/\∀v F' H',Step F H F' H'->Rep K F' d v->(fr=c_->fJ K H H' d v)->Q v H'
noncomputable def X7(K:Fg)(ρ:eM)(ds:List Dat):TA:=λσ H Q=>∃F,Good F H/\lZ K F σ ρ/\∀vs F' H',Step F H F' H'->cv K F' ds vs->Q vs H'
noncomputable def tT(K:Fg)(ρ:eM)(b:Bool):TT:=λσ H Q=>∃F,Good F H/\lZ K F σ ρ/\∀F' H',Step F H F' H'->Q b H'
noncomputable def X6(K:Fg)(ρ:eM)(ds:List Dat)(al:Bool):TA:=λσ H Q=>∃F,Good F H/\lZ K F σ ρ/\∀vs F' H',Step F H F' H'->cv K F' ds vs->(al=c_->eO K H H' ds vs)->Q vs H'
noncomputable def rD(K:Fg)(da db:Dat)(d:Dat)(fr:Bool):R2:=λx y H Q=>∃F,Good F H/\Rep K F da x/\Rep K F db y/\∀v F' H',Step F H F' H'->Rep K F' d v->(fr=c_->fJ K H H' d v)->Q v H'
def X9(K:Fg)(ds:List Dat)(d:Dat)(fr:Bool):List V->Hp->VK->Prop:=λxs H Q=>∃F,Good F H/\cv K F ds xs/\∀v F' H',Step F H F' H'->Rep K F' d v->(fr=c_->fJ K H H' d v)->Q v H'
section
variable{X:Cx}
def PE.imp{e:aF}{t t':TE}(h:PE X e t)(f:∀σ H Q,t' σ H Q->t σ H Q):PE X e t':=λh_ s σ H Q I q=>h h_ s σ H Q I (f _ _ _ q)
def PT.imp{e:aF}{t t':TT}(h:PT X e t)(f:∀σ H Q,t' σ H Q->t σ H Q):PT X e t':=λh_ s σ H Q I q=>h h_ s σ H Q I (f _ _ _ q)
def PA.imp{e:List aF}{t t':TA}(h:PA X e t)(f:∀σ H Q,t' σ H Q->t σ H Q):PA X e t':=λp h_ s σ H Q I q=>h p h_ s σ H Q I (f _ _ _ q)
def PS.imp{e:fw}{t t':TS}(h:PS X e t)(f:∀D σ H,t' D σ H->t D σ H):PS X e t':=λh_ s σ H D I q=>h h_ s σ H D I (f _ _ _ q)
def B5.imp{e:List fw}{t t':TS}(h:B5 X e t)(f:∀D σ H,t' D σ H->t D σ H):B5 X e t':=λh_ s σ H D I q=>h h_ s σ H D I (f _ _ _ q)
def ie.imp{f:aa->aa->Sem aa}{r r':R2}(h:ie X f r)(g:∀x y H Q,r' x y H Q->r x y H Q):ie X f r':=λh_ s σ H x y v u Q I rx ry q=>h h_ s σ H x y v u Q I rx ry (g _ _ _ _ q)
end
end M
namespace L2
open PySem PySem.Spec PyProof.Rows
def FJ(xs:Array Nat):Prop:=xs.toList.Pairwise (·< ·)
def FJ.get{xs:Array Nat}(h:FJ xs){i j:Nat}(hj:j<xs.size)(hij:i<j):xs[i]'(by omega)<xs[j]:=by
 have:=(List.pairwise_iff_getElem.mp h) i j (by simpa using(by omega:i<xs.size)) (by simpa using hj) hij;simpa using this
theorem BZ{xs:Array Nat}{j:Nat}(hs:FJ xs):∀(fuel lo hi:Nat),lo<=hi->hi<=xs.size->hi - lo<=fuel->(∀i (h:i<xs.size),i<lo->xs[i]<j)->(∀i (h:i<xs.size),hi<=i->j<=xs[i])->
  jW xs j fuel lo hi<=xs.size/\(∀i(h:i<xs.size),i<jW xs j fuel lo hi->xs[i]<j)/\∀i(h:i<xs.size),jW xs j fuel lo hi<=i->j<=xs[i]
 |0,lo,hi,h1,h2,h3,h4,h5=>by
   have e:lo=hi:=by omega
   subst e;exact⟨h2,h4,h5⟩
 |fuel+1,lo,hi,h1,h2,h3,h4,h5=>by
   simp only[jW];by_cases hl:lo<hi
   ·rw[if_pos hl];have hm:(lo+hi) / 2<xs.size:=by omega
    have hg:xs.getD ((lo+hi) / 2) j=xs[(lo+hi) / 2]:=by rw[kB,bq hm];rfl
    rw[hg];by_cases hx:xs[(lo+hi) / 2]<j
    ·rw[if_pos hx];refine BZ hs fuel _ hi (by omega) h2 (by omega) (λi h q=>?_) h5;by_cases hi2:i=(lo+hi) / 2
     ·subst hi2;exact hx
     ·exact jq (hs.get hm (by omega)) hx
    ·rw[if_neg hx];refine BZ hs fuel lo _ (by omega) (by omega) (by omega) h4 (λi h q=>?_);by_cases hi2:(lo+hi) / 2=i
     ·subst hi2;omega
     ·have:=hs.get h (show(lo+hi) / 2<i by omega);omega
   ·rw[if_neg hl];have e:lo=hi:=by omega
    subst e;exact⟨h2,h4,h5⟩
def W5{xs:Array Nat}(hs:FJ xs)(j:Nat):bc xs j<=xs.size/\(∀i(h:i<xs.size),i<bc xs j->xs[i]<j)/\∀i(h:i<xs.size),bc xs j<=i->j<=xs[i]:=
 BZ hs xs.size 0 xs.size (fK _) (aM _) (by omega) (λi _ q=>absurd q (N5 _)) (λi h q=>by omega)
def Jy{xs:Array Nat}(hs:FJ xs):bc xs 0=0:=by
 obtain⟨h1,h2,_⟩:=W5 hs 0
 cases q:bc xs 0 with
 |zero=>rfl
 |succ n=>exact absurd (h2 0 (by omega) (by omega)) (N5 _)
def Jz{xs:Array Nat}(hs:FJ xs){i:Nat}(hi:i<xs.size):bc xs (xs[i]+1)=i+1:=by
 obtain⟨h1,h2,h3⟩:=W5 hs (xs[i]+1)
 rcases Nat.lt_trichotomy (bc xs (xs[i]+1)) (i+1)with h|h|h
 ·have:=h3 i hi (by omega);omega
 ·exact h
 ·have a:=h2 (i+1) (by omega) h;have b:=hs.get (i:=i) (j:=i+1) (by omega) (by omega);omega
def Lq{xs:Array Nat}(hs:FJ xs){j:Nat}(hn:xs[bc xs j]?≠a_ j):FJ (SetTable.insertAt xs (bc xs j) j):=by
 obtain⟨h1,h2,h3⟩:=W5 hs j;unfold FJ;rw[SetTable.toList_insertAt];have hs':xs.toList.Pairwise (·< ·):=hs;refine List.pairwise_append.mpr ⟨hs'.sublist (F7 _ _),gJ.mpr ⟨λy hy=>?_,hs'.sublist (List.drop_sublist _ _)⟩,λx hx y hy=>?_⟩
 ·obtain⟨k,hk,rfl⟩:=ic.mp hy;rw[F8];have hk':bc xs j+k<xs.size:=by simpa [Nat.add_comm]using(by simp at hk;omega:bc xs j+k<xs.size)
  have a:=h3 (bc xs j+k) hk' (by omega)
  have hne:xs[bc xs j+k]≠j:=by
   intro e
   cases k with
   |zero=>exact hn (by rw[bq (by simpa using hk')];simpa using e)
   |succ k=>
     have b:=hs.get hk' (show bc xs j<bc xs j+(k+1) by omega);have c:=h3 (bc xs j) (by omega) (aM _);omega
  have:j<xs[bc xs j+k]:=by omega
  simpa using this
 ·obtain⟨k,hk,rfl⟩:=ic.mp hx;rw[List.getElem_take];have hk2:k<bc xs j:=by simp at hk;omega
  have a:=h2 k (by omega) hk2;have a':xs.toList[k]'(by simp;omega)<j:=by simpa using a
  rcases ah.mp hy with rfl|hy
  ·exact a'
  ·obtain⟨m,hm,rfl⟩:=ic.mp hy;rw[F8];have hm':bc xs j+m<xs.size:=by simp at hm;omega
   have b:=h3 (bc xs j+m) hm' (by omega);have b':j<=xs.toList[bc xs j+m]'(by simp;omega):=by simpa using b
   omega
structure rh(led:Bool)(t:cV):Prop where
 d:t.dummies=#[]
 r:FJ t.place
 l:t.led=led
def Ei(n:Nat):FJ (Array.range n):=by
 unfold FJ;rw[Array.toList_range];exact Ax
def rh.fresh(led:Bool):rh led (.fresh 0 0 led):=⟨rfl,by show List.Pairwise _ _;exact vh,rfl⟩
def rh.Cq{led:Bool}{t:cV}(h:rh led t)(n:Nat):rh led (t.standIn n):=⟨rfl,Ei n,h.l⟩
def rh.off{led:Bool}{t:cV}(h:rh led t):rh led { t with plain:=d_ }:=⟨h.d,h.r,h.l⟩
def Dp(j:Nat):u6 #[] j=d_:=by simp[u6]
def A6{t:cV}(hd:t.dummies=#[]){j:Nat}(h:t.slot j=.empty):t.place[bc t.place j]?≠a_ j:=by
 intro e;unfold FT at h;simp only[e,beq_self_eq_true,if_true]at h;cases h
def A7{t:cV}(hd:t.dummies=#[]){j:Nat}(h:t.slot j=.dummy):False:=by
 unfold FT at h;rw[hd,Dp]at h;dsimp only at h;split at h
 ·cases h
 ·simp at h
def Fl{t:cV}{p:Fv}(h:p.dummy=b_):(t.advance p).dummy=b_:=by
 unfold SetTable.advance;split
 ·exact h
 ·exact h
theorem tz{t:cV}(hd:t.dummies=#[]){ha:Nat->Int}{hh:Int}:∀(fuel:Nat) (p:Fv) {j:Nat} {d:Option Nat},p.dummy=b_->mQ t ha hh fuel p=a_ (.empty j d)->
  d=b_/\t.place[bc t.place j]?≠a_ j
 |0,_,_,_,_,h=>by simp only[mQ]at h;cases h
 |fuel+1,p,j,d,hp,h=>by
   simp only[mQ]at h
   cases q:t.slot p.j with
   |empty=>
     rw[q]at h
     injection h with h
     injection h with h1 h2
     subst h1;subst h2;exact⟨hp,A6 hd q⟩
   |dummy=>exact(A7 hd q).elim
   |live i=>
     rw[q]at h;dsimp only at h;split at h
     ·injection h with h;cases h
     ·exact tz hd fuel _ (Fl hp) h
set_option tactic.hygienic true
def MT{t:cV}(hd:t.dummies=#[]){hh:Int}{j:Nat}{b:Bool}(h:t.freeSlot hh=a_ (j,b)):t.place[bc t.place j]?≠a_ j:=by
 unfold SetTable.freeSlot at h;split at h
 ·rename_i j' d hq;have:=tz hd _ _ (by rfl) hq;obtain⟨e1,e2⟩:=this;subst e1
  injection h with h
  injection h with h1 h2
  subst h1;exact e2
 ·cases h
def rh.put{led:Bool}{t:cV}(h:rh led t){j:Nat}(hn:t.place[bc t.place j]?≠a_ j):rh led (t.put j).1:=by
 refine⟨?_,Lq h.r hn,h.l⟩;show(if u6 t.dummies j then _ else t.dummies)=_;rw[h.d,Dp];rfl
def rh.or{led:Bool}{t:cV}(h:rh led t)(n:Nat):rh led (t.orStandIn n):=by
 unfold SetTable.orStandIn;split
 ·exact h
 ·exact h.Cq n
def rh.lay{led:Bool}{t:cV}(h:rh led t)(es:Array (Int×aa))(hh:Int)(x:aa):rh led (layNew t es hh x).2.1:=by
 unfold layNew;split
 ·rename_i j b hq;exact(h.put (MT h.d hq)).or _
 ·exact h.Cq _
def rh.laid{led:Bool}{mask f m:Nat}{pl:Bool}{hs:Array Int}{t:cV}{o:Array Nat}(h:FU mask f m led pl hs=a_ (t,o)):rh led t:=by
 unfold FU at h;simp only[Option.bind_eq_bind,wq]at h;obtain⟨ow,h1,h⟩:=h
 injection h with h
 injection h with h2 h3
 subst h2;refine⟨rfl,?_,rfl⟩;show(List.map _ _).toArray.toList.Pairwise _;rw[pv,rm,List.pairwise_filterMap];refine List.Pairwise.imp ?_ Ax;intro a b hab x hx y hy;obtain⟨c,_,rfl⟩:=dJ hx;obtain⟨e,_,rfl⟩:=dJ hy;exact hab
def rh.TY{led:Bool}{t:cV}(h:rh led t)(es:Array (Int×aa))(n:Nat):rh led (relayAll t es n).2.1:=by
 unfold relayAll;split
 ·rename_i t' o hq;dsimp only;split
  ·unfold SetTable.relaid at hq;rw[h.l]at hq;exact rh.laid hq
  ·exact h.Cq _
 ·exact h.Cq _
set_option tactic.hygienic false
structure lY(led:Bool)(h:bx)(S:af)(es:Array (Int×aa))(ep:Nat)(t:cV):Prop where
 obj:h.get? S=a_ { cls:=.type "set",dict:=b_,data:=.set es ep t }
 fits:t.fits es.size=c_
 ok:rh led t
def lY.keep{led:Bool}{h h':bx}{S:af}{es:Array (Int×aa)}{ep:Nat}{t:cV}(y:lY led h S es ep t)(k:∀o,h.get? S=a_ o->h'.get? S=a_ o):lY led h' S es ep t:=⟨k _ y.obj,y.fits,y.ok⟩
noncomputable abbrev nD(w:bh):Bool:=!w.params.followText "set-order"
def nA{α β:Type}{R:α->β->Prop}{l l':List α}(p:l'.Perm l):∀{ks:List β},iZ R l ks->∃ks',iZ R l' ks'/\ks'.Perm ks:=by
 induction p with
 |nil=>intro ks h;cases h;exact⟨[],.nil,.nil⟩
 | cons x p ih=>intro ks h;cases h with
   |cons a b=>obtain⟨ks',c,d⟩:=ih b;exact⟨_::ks',.cons a c,d.cons _⟩
 | swap x y l=>intro ks h;cases h with
   | cons a b=>cases b with
     |cons c d=>exact⟨_,.cons c (.cons a d),.swap _ _ _⟩
 |trans p q ih1 ih2=>
   intro ks h;obtain⟨k1,a,b⟩:=ih2 h;obtain⟨k2,c,d⟩:=ih1 a;exact⟨k2,c,d.trans b⟩
theorem rn{α β:Type}{R:α->β->Prop}{x:α}{y:β}(h:R x y):∀{l:List α}{ks:List β},iZ R l ks->iZ R (l++[x]) (ks++[y])
 |_,_,.nil=>.cons h .nil
 |_,_,.cons a b=>.cons a (rn h b)
theorem mo{α β:Type}{R:α->β->Prop}:∀{l:List α}{ks:List β},iZ R l ks->l.length=ks.length
 |_,_,.nil=>rfl
 |_,_,.cons a b=>by rw[aQ,aQ,mo b]
theorem rq{α β:Type}{R:α->β->Prop}{x:α}:∀{l:List α}{ks:List β},iZ R l ks->x∈l->∃y∈ks,R x y
 |_,_,.nil,h=>by cases h
 |_,_,.cons a b,h=>by
   rcases ah.mp h with rfl|h
   ·exact⟨_,.head _,a⟩
   ·obtain⟨y,c,d⟩:=rq b h;exact⟨y,.tail _ c,d⟩
theorem pV{α β:Type}{R:α->β->Prop}{y:β}:∀{l:List α}{ks:List β},iZ R l ks->y∈ks->∃x∈l,R x y
 |_,_,.nil,h=>by cases h
 |_,_,.cons a b,h=>by
   rcases ah.mp h with rfl|h
   ·exact⟨_,.head _,a⟩
   ·obtain⟨x,c,d⟩:=pV b h;exact⟨x,.tail _ c,d⟩
section
variable{prog:aO}{w:bh}{K:Type}[DecidableEq K]{knd:lF prog w K}{A:bp}{E:aa->ae->Prop}{s:ae}{led:Bool}{S:af}{es:Array (Int×aa)}{ep:Nat}{t:cV}
def yG{es':Array (Int×aa)}{t':cV}{Q:Unit->ae->Prop}(y:lY led s.heap S es ep t)(f:t'.fits es'.size=c_)(o:rh led t')(hz:es'.size<=aD)
  (k:∀h',dB S s.heap h'->lY led h' S es' (ep+1) t'->Q () { s with heap:=h' }):aA (aE prog w) A (storeSet S es' t') Q E s:=by
 refine wpAny_storeSet_of y.obj rfl (k _ (mE ..) ⟨?_,f,o⟩) hz;have e:=du (Obj.putSet es' t') y.obj (by rw[putSet_of es' t' rfl];rfl);rw[putSet_of es' t' rfl]at e;exact e
def Cr{g:Bool->Sem Unit}(hg:∀(c:Bool) (s1:ae) (R:Unit->ae->Prop),R () s1->aA (aE prog w) A (g c) R E s1){es1:Array (Int×aa)}{t1:cV}{d:Bool}{R:Option Bool->ae->Prop}
  (y:lY led s.heap S es ep t)(f:t1.fits es1.size=c_)(o:rh led t1)(hz:es1.size<oi)
  (k:∀h' es' ep' t',dB S s.heap h'->lY led h' S es' ep' t'->es'.toList.Perm es1.toList->R (a_ c_) { s with heap:=h' }) :
  aA (aE prog w) A (do
      storeSet S es1 t1
      if(!d && t1.tooFull)=c_ then do
         g (relayAll t1 es1 (kj es1.size)).2.2
         storeSet S (relayAll t1 es1 (kj es1.size)).1 (relayAll t1 es1 (kj es1.size)).2.1
         pure (a_ c_)
       else pure (a_ c_)) R E s:=by
 refine wb9 (yG y f o (fits_of_scanBound hz) λh1 sb y1=>?_);split
 ·have hp:=relayAll_perm t1 es1 (kj es1.size);have sz:(relayAll t1 es1 (kj es1.size)).1.size=es1.size:=by rw[<-bA,hp.length_eq,bA]
  refine wb9 (hg _ _ _ (wb9 (yG y1 (relayAll_fits ..) (o.TY ..) (by rw[sz];exact fits_of_scanBound hz) λh2 sb2 y2=>?_)));exact wu9 (k h2 _ _ _ (sb.trans sb2) y2 hp)
 ·exact wu9 (k h1 _ _ _ sb y1 (.refl _))
def Pc{k:K}{x:aa}{Q:Bool->ae->Prop}(hk:knd.is k x=c_)(hx:x.scannable=c_)(y:lY led s.heap S es ep t)(el:N4 knd es.toList)(room:es.size+1<oi)
  (old:∀b,(∃e∈es.toList,knd.is k e.2=c_)->Q b s)
  (new:∀b h' es' ep' t',(¬ ∃e∈es.toList,knd.is k e.2=c_)->dB S s.heap h'->lY led h' S es' ep' t'->es'.toList.Perm (es.toList++[(knd.hash k,x)])->Q b { s with heap:=h' }) :
  aA (aE prog w) A (setAddHashed S x (knd.hash k)) Q E s:=by
 unfold setAddHashed setAddHashedIn;refine cz (wb9 (iu y.obj rfl y.fits ?_));dsimp only;rw[byScan_of hx (JR room) el,if_pos rfl];unfold setAddByScan;refine wb9 (wb9 (jl (wb9 (wpAny_setScan_of hk y.obj rfl y.fits el ?_))))
 cases q:List.findIdx? (λe=>knd.is k e.2) es.toList with
 |some j=>
   obtain⟨hj,hp,_⟩:=qu.mp q;exact wu9 (wu9 (old _ ⟨es.toList[j],cm hj,hp⟩))
 |none=>
   dsimp only
   have no:¬ ∃e∈es.toList,knd.is k e.2=c_:=by
    rintro⟨e,he,hp⟩;have:=wt.mp q e he;rw[hp]at this;cases this
   have gw:∀(c:Bool)(s1:ae)(R:Unit->ae->Prop),R () s1->aA (aE prog w) A (match c with|true=>rule "set.scan.the-table-gave-way"|false=>pure ()) R E s1:=by
    intro c s1 R h;cases c
    ·exact wu9 h
    ·exact jl h
   have p1:=layNew_perm t es (knd.hash k) x;have f1:=layNew_fits t es (knd.hash k) x;have o1:=y.ok.lay es (knd.hash k) x;generalize layNew t es (knd.hash k) x=L at p1 f1 o1 ⊢;obtain⟨es1,t1,d,gv⟩:=L;dsimp only at p1 f1 o1 ⊢;rw[FE]at p1;have z1:es1.size=es.size+1:=by rw[<-bA,p1.length_eq,cw,bA];rfl
   refine wb9 (gw _ _ _ ?_);have fin:∀h' es' ep' t',dB S s.heap h'->lY led h' S es' ep' t'->es'.toList.Perm es1.toList->Q c_ { s with heap:=h' }:=λh' es' ep' t' a b c=>new _ h' es' ep' t' no a b (c.trans p1);split
   ·refine wb9 ?_;rw[hashByValue_scannable 8 hx];refine wu9 ?_;refine Cr gw y ?_ ?_ (by omega) λh' es' ep' t' a b c=>wu9 (fin h' es' ep' t' a b c)
    ·split
     ·exact f1
     ·exact SetTable.fits_plain_off f1
    ·split
     ·exact o1
     ·exact o1.off
   ·refine wb9 (wu9 ?_);simp only[↓reduceIte];exact Cr gw y f1 o1 (by omega) λh' es' ep' t' a b c=>wu9 (fin h' es' ep' t' a b c)
end
def kP{prog:aO}{w:bh}{K:Type}[DecidableEq K](knd:lF prog w K)(led:Bool)(h:bx)(S:af)(n:Nat)(M:K->Prop):Prop:=
 ∃es ep t ks,lY led h S es ep t/\N4 knd es.toList/\iZ (λ(e:Int×aa)k=>knd.is k e.2=c_) es.toList ks/\ks.Nodup/\ks.length<=n/\∀q,q∈ks↔M q
section
variable{prog:aO}{w:bh}{K:Type}[DecidableEq K]{knd:lF prog w K}{A:bp}{R:Result->ae->Prop}{I:af}{fp wr:List af}{G:Array om->Array om->Prop}{n:Nat}{P:Nat->aa->Prop}{St:Nat->ae->Prop}{led:Bool}
def kP.keep{h h':bx}{S:af}{M:K->Prop}(y:kP knd led h S n M)(k:∀o,h.get? S=a_ o->h'.get? S=a_ o):kP knd led h' S n M:=
 let ⟨es,ep,t,ks,a,r⟩:=y
 ⟨es,ep,t,ks,a.keep k,r⟩
def tK{val:Nat->K}{i:Nat}{q:K}:(∃j,j<i+1/\val j=q)↔(∃j,j<i/\val j=q)\/val i=q:=by
 constructor
 ·rintro⟨j,h,e⟩;by_cases hj:j=i
  ·subst hj;exact .inr e
  ·exact .inl ⟨j,by omega,e⟩
 ·rintro(⟨j,h,e⟩|e)
  ·exact⟨j,by omega,e⟩
  ·exact⟨i,by omega,e⟩
def Gh(W:WalksS prog w A.in1 I fp wr G n P St)(S:af)(hS:S∉fp)(val:Nat->K)(hv:∀i v,P i v->knd.is (val i) v=c_/\v.scannable=c_)(hb:n+1<oi) :
  ∀(k i:Nat)(s:ae),n - i=k->i<=n->St i s->kP knd led s.heap S i (λq=>∃j,j<i/\val j=q)->
   (∀s',Moved (S::wr) G s s'->kP knd led s'.heap S n (λq=>∃j,j<n/\val j=q)->R (.ok (.ret .none)) s')->
   codeAny (aE prog w) A (.builtin "set.update.loop" ⟨[.ref S,.ref I],[]⟩) R s:=by
 have hSw:S∉wr:=λh=>hS (W.sub _ h);have sub:∀b∈wr,b∈S::wr:=λb m=>jN _ m;intro k
 induction k with
 |zero=>
   intro i s hk hi hst y hR;obtain rfl:i=n:=by omega
   refine jg l6 ?_;rw[jR gX];show aA _ A.in1 (pyNext (.ref I) >>= _) _ _ s;refine wb9 (W.done s _ _ hst λs' m=>?_);exact wu9 (hR s' (m.mono sub) (y.keep λo e=>m.heap S o hSw e))
 |succ k ih=>
   intro i s hk hi hst y hR;refine jg l6 ?_;rw[jR gX];show aA _ A.in1 (pyNext (.ref I) >>= _) _ _ s;refine wb9 (W.item i s _ _ (by omega) hst λv s' hP hst' m=>?_);obtain⟨v1,v2⟩:=hv i v hP;obtain⟨es,ep,t,ks,ya,yb,yc,yd,ye,yf⟩:=y.keep λo e=>m.heap S o hSw e;show aA _ A.in1 (holding [v] (setAdd S v) >>= _) _ _ s';refine wb9 (cz ?_);unfold setAdd;refine cz (wb9 (knd.pyHash v1 ?_));have len:=mo yc;rw[bA]at len
   have has:(∃e∈es.toList,knd.is (val i) e.2=c_)↔val i∈ks:=by
    constructor
    ·rintro⟨e,e1,e2⟩;obtain⟨q,q1,q2⟩:=rq yc e1;rw[knd.inj _ _ _ e2 q2];exact q1
    ·intro q;obtain⟨e,e1,e2⟩:=pV yc q;exact⟨e,e1,e2⟩
   have go:∀h',dB S s'.heap h'->kP knd led h' S (i+1) (λq=>∃j,j<i+1/\val j=q)->
     aA (aE prog w) A.in1 (again (.builtin "set.update.loop" ⟨[.ref S,.ref I],[]⟩)) (λfin s''=>match fin with | .done f=>R (.ok f) s'' | .again c'=>c'.quiet=c_/\codeAny (aE prog w) A c' R s'') (λe s''=>R (.error e) s'') { s' with heap:=h',toks:=s'.toks+1 }:=by
    intro h' sb y';refine wu9 ⟨DV gX _,ih (i+1) _ (by omega) (by omega) (W.frame _ s' _ _ hst' (kb _) λb hb o e=>?_) y' λs2 m2 y2=>?_⟩
    ·rw[sb.2 b λz=>hS (z▸hb)];exact e
    ·refine hR s2 (Moved.trans W.gtrans ((m.mono sub).then_heap (kb _) λb o hb e=>?_) m2) y2;rw[sb.2 b λz=>hb (z▸jB)];exact e
   refine Pc (led:=led) (s:={ s' with toks:=s'.toks+1 }) v1 v2 ya yb (by omega) (λb hq=>?_) (λb h' es' ep' t' hq sb y' p=>?_)
   ·refine go s'.heap (Heap.SameBut.refl ..) ⟨es,ep,t,ks,ya,yb,yc,yd,by omega,λq=>?_⟩;show q∈ks↔∃j,j<i+1/\val j=q;rw[tK,show(∃j,j<i/\val j=q)↔q∈ks from(yf q).symm];refine⟨.inl,λz=>z.elim id λe=>?_⟩;rw[<-e];exact has.mp hq
   ·obtain⟨ks',c1,c2⟩:=nA p (rn (R:=λ(e:Int×aa)k=>knd.is k e.2=c_) (x:=(knd.hash (val i),v)) (y:=val i) v1 yc);have nk:val i∉ks:=λz=>hq (has.mpr z);refine go h' sb ⟨es',ep',t',ks',y',(yb.push v1 v2).perm p,c1,?_,?_,λq=>?_⟩
    ·refine c2.nodup_iff.mpr (dq.mpr ⟨yd,bM.mpr ⟨by simp,ji⟩,λa ha b hb=>?_⟩);rw[aZ]at hb;subst hb;exact λz=>nk (z▸ha)
    ·rw[c2.length_eq,cw,AM];omega
    ·show q∈ks'↔∃j,j<i+1/\val j=q;rw[c2.mem_iff,aK,aZ,tK,show(∃j,j<i/\val j=q)↔q∈ks from(yf q).symm];exact⟨λz=>z.imp id Eq.symm,λz=>z.imp id Eq.symm⟩
end
section
variable{prog:aO}{w:bh}{A:bp}{E:aa->ae->Prop}{s:ae}
noncomputable abbrev uQ(w:bh):er:={ cls:=.type "set",dict:=b_,data:=.set #[] 0 (.fresh 0 0 (nD w)) }
def KY(a:aa){Q:aa->ae->Prop}(k:Q (.ref s.heap.objs.size) { s with heap:=s.heap.push (uQ w) }):codeAny (aE prog w) A (.call (.builtin "set.__new__") ⟨[.type "set",a],[]⟩) (wants Q E) s:=by
 refine fU PySem.F.plain_set_new PySem.F.entry_set_new (J4 (PySem.F.newCall_set_1 a) ?_);unfold fh.«set.__new__» Kb;have ss:=sub_set_self;obtain⟨hp,g,d,tk,os⟩:=s;dsimp only
 wp_walk
 refine we ?_;refine wu9 ?_;dsimp only;simp only[newObj];exact wb9 (wpAny_alloc (wu9 (wu9 k)))
def xQ{T nI iI:String}{B:fh}{args:List aa}{Q Q1:aa->ae->Prop}(ft:TypeCalled T nI iI)(ct:checkTypeCall T ⟨args,[]⟩=pure ())(eI:entryFor table iI=a_ B)
  (hn:codeAny (aE prog w) A.in1 (.call (.builtin nI) ⟨.type T::args,[]⟩) (wants Q1 E) s)
  (hx:∀ob s1,Q1 ob s1->s1.TypeIs ob T/\codeAny (aE prog w) A.in1 (.call (.builtin iI) ⟨ob::args,[]⟩) (wants (λr s2=>r=.none/\Q ob s2) E) s1) :
  aA (aE prog w) A (call (.type T) args) Q E s:=by
 obtain⟨c,tl,e1⟩:=ft.mro;have e2:=ft.made;have e3:=ft.sub;refine sA (codeAny_of_tree ?_);show aA _ _ (callAny (.type T) _) _ _ _;refine wu9 (Kf (la _ (by decide +kernel)) (jg PySem.F.entry_type_call ?_));rw[Around.under_plain (weight_type_call_type T args []) rfl];have e4:=ft.notType;have e5:=ft.canCreate
 repeat any_goals first|assumption|wp_step
 refine fT hn λr s1 hr=>?_
 cases r with
 |error e=>exact hr
 |ok fl=>
   cases fl with
   |ret ob=>
     obtain⟨hT,hI⟩:=hx _ _ hr;have e6:=ft.init.lookup;have e7:=ft.init.bind ob
     repeat any_goals first|assumption|wp_step
     refine fT hI λr2 s2 hr2=>?_
     cases r2 with
     |error e=>exact hr2
     |ok fl2=>
       cases fl2 with
       |ret r=>
         obtain⟨rfl,hq⟩:=hr2
         repeat any_goals first|assumption|wp_step
       |_=>exact hr2.elim
   |_=>exact hr.elim
def Fk{M:xZ}{v:aa}{T:String}{Q:Bool->ae->Prop}(ty:s.TypeIs v T)(a:isSubtype (.type T) (.type "set")=pure d_)(b:isSubtype (.type T) (.type "frozenset")=pure d_)(k:Q d_ s):aA M A (oo v) Q E s:=by
 unfold oo;show aA M A (isInstance v (.type "set") >>= _) Q E s;refine wb9 (gP ty a ?_);exact gP ty b k
variable{K:Type}[DecidableEq K]{knd:lF prog w K}
def JI(prog:aO)(w:bh)(h:bx)(v:aa)(n:Nat)(P:Nat->aa->Prop):Prop:=
 ∀(A1:bp)(E1:aa->ae->Prop)(s1:ae)(Q1:aa->ae->Prop),h.objs.size<s1.heap.objs.size->(∀b o,h.get? b=a_ o->s1.heap.get? b=a_ o)->
  (∀(o:er)(fp:List af)(St:Nat->bx->Prop),(∀A',A'.handled=b_->Walks prog w A' s1.heap.objs.size fp [s1.heap.objs.size] n P St)->(∀b∈fp,b=s1.heap.objs.size\/b<h.objs.size)->St 0 (s1.heap.push o)->
   Q1 (.ref s1.heap.objs.size) { s1 with heap:=s1.heap.push o })->aA (aE prog w) A1 (FN v) Q1 E1 s1
def sS{v:aa}{T:String}{n:Nat}{P:Nat->aa->Prop}{Q:aa->ae->Prop}(hh:A.handled=b_)(ty:∀s1:ae,(∀b o,s.heap.get? b=a_ o->s1.heap.get? b=a_ o)->s1.TypeIs v T)
  (a:isSubtype (.type T) (.type "set")=pure d_)(b:isSubtype (.type T) (.type "frozenset")=pure d_)(nd:(jD T == jD "dict")=d_)(itr:JI prog w s.heap v n P)
  (val:Nat->K)(hv:∀i v,P i v->knd.is (val i) v=c_/\v.scannable=c_)(hb:n+1<oi)
  (k:∀h' tk,kP knd (nD w) h' s.heap.objs.size n (λq=>∃j,j<n/\val j=q)->(∀b o,s.heap.get? b=a_ o->h'.get? b=a_ o)->Q (.ref s.heap.objs.size) { s with heap:=h',toks:=tk }) :
  aA (aE prog w) A (call (.type "set") [v]) Q E s:=by
 refine xQ (Q1:=λob s1=>ob=.ref s.heap.objs.size/\s1={ s with heap:=s.heap.push (uQ w) }) AJ (PySem.F.typeCall_set_1 v) wm (KY v ⟨rfl,rfl⟩) ?_;rintro ob s1 ⟨rfl,rfl⟩;have gS:(s.heap.push (uQ w)).get? s.heap.objs.size=a_ (uQ w):=aJ _ rfl;have hT:uZ { s with heap:=s.heap.push (uQ w) } (.ref s.heap.objs.size) "set":=⟨_,gS,rfl⟩
 refine⟨hT,fU AJ.init.plain wm (check_set_init_1 hT ?_)⟩;have e1:∀b o,s.heap.get? b=a_ o->(s.heap.push (uQ w)).get? b=a_ o:=λb o e=>hp9 _ e;unfold fh.«set.__init__» noKeywords;generalize hU:mW=U
 wp_walk
 subst hU;unfold mW;refine wb9 (Fk (ty _ e1) a b ?_);simp only[aT,if_false];refine wb9 (jS (ty _ e1) ?_);rw[nd];simp only[aT,if_false];have sz:(s.heap.push (uQ w)).objs.size=s.heap.objs.size+1:=dz ..;refine wb9 (itr _ _ _ _ (by show s.heap.objs.size<(s.heap.push (uQ w)).objs.size;omega) e1 λo fp St W hfp st=>?_);have h3:A.in1.in1.in1.handled=b_:=by simp[hh]
 refine wb9 (wpAny_runValue ?_);refine Gh (knd:=knd) (led:=nD w) (W _ h3).toS s.heap.objs.size (λm=>?_) val hv hb n 0 _ rfl (fK _) st ?_ ?_
 ·rcases hfp _ m with q|q
  ·have q':s.heap.objs.size=(s.heap.push (uQ w)).objs.size:=q;rw[sz]at q';exact absurd q' (ba (iE _))
  ·exact absurd q (bC _)
 ·refine⟨#[],0,_,[],⟨hp9 _ gS,by rfl,rh.fresh _⟩,λe he=>by simp at he,.nil,ji,aM _,λq=>?_⟩;simp
 ·intro s' m y;refine wu9 ?_;obtain⟨h',g',d',tk',os'⟩:=s';obtain rfl:g'=s.gens:=m.gens;obtain rfl:d'=s.drawn:=m.drawn;obtain rfl:os'=s.os:=m.os;refine wu9 ⟨rfl,k h' tk' y λb o e=>m.heap b o (λz=>?_) (hp9 _ (hp9 _ e))⟩;have lt:=hl9 e;simp only[ah,aS,or_false]at z
  rcases z with z|z
  ·rw[z]at lt;exact absurd lt (bC _)
  ·have z':b=(s.heap.push (uQ w)).objs.size:=z;rw[z',sz]at lt;exact absurd (JR lt) (bC _)
end
def zX:entryFor table "set.__iter__"=a_ fh.«frozenset.__iter__» :=entryFor_alias (id':="frozenset.__iter__") (by kernel_rfl) rfl (by decide +kernel) (by kernel_rfl)
def oK:entryFor table "set_iterator.__next__"=a_ fh.«set_iterator.__next__» :=entryFor_of_tree (by kernel_rfl)
def eP:Slot "set_iterator" "__next__" "set_iterator.__next__":=.of (owner:="set_iterator") (n:="__next__") (by rw[typeLookup_type,JN];kernel_rfl) (by decide +kernel) (by decide +kernel) (by decide +kernel) (.inl (by decide +kernel)) (by rw[qo];kernel_rfl)
def yX:Manifest.owners.lookup (String.ofList ['r','o','t','a','r','e','t','i','_','t','e','s'].reverse)=a_ Manifest.sig_set_iterator:=by kernel_rfl
def oN(a:aa):argsOk "set_iterator.__next__" ⟨[a],[]⟩:=by
 unfold argsOk;rw[signature?_of (id:="set_iterator.__next__") (n:=['_','_','t','x','e','n','_','_']) (o:=['r','o','t','a','r','e','t','i','_','t','e','s']) (by kernel_rfl) yX];kernel_rfl
theorem o7{α:Type}:∀{xs:List α}{i:Nat}(h:i<xs.length),(xs[i]::xs.eraseIdx i).Perm xs
 |x::r,0,_=>by simp
 |x::r,i+1,h=>by
   have:=o7 (xs:=r) (i:=i) (by simpa using h);simp only[Ay,yw];exact(List.Perm.swap _ _ _).trans (this.cons x)
theorem CQ{α:Type}(nx:Nat->Nat):∀(fuel k:Nat)(left:List α)(out:Array α),left.length<=fuel->(ur nx fuel k left out).toList.Perm (out.toList++left)
 |0,k,left,out,h=>by
   obtain rfl:left=[]:=mG.mp (by omega);simp only[ur,bN];exact .refl _
 |fuel+1,k,left,out,h=>by
   simp only[ur]
   cases q:left[nx k % left.length]? with
   |none=>
     have:left=[]:=by
      cases left with
      |nil=>rfl
      |cons x r=>
        have hlt:nx k % (x::r).length<(x::r).length:=Nat.mod_lt _ (by simp);rw[au hlt]at q;cases q
     subst this;simp
   |some x=>
     obtain⟨hlt,e⟩:=a9.mp q;have ih:=CQ nx fuel (k+1) (left.eraseIdx (nx k % left.length)) (out.push x) (by rw[vg hlt];omega);refine ih.trans ?_;rw[FE,lK];refine List.Perm.append_left _ ?_;rw[<-e];exact o7 hlt
def qC{α:Type}(nx:Nat->Nat)(xs:Array α):(pickOrder nx xs).toList.Perm xs.toList:=by
 have:=CQ nx xs.size 0 xs.toList #[] (by simp);simpa [pickOrder]using this
section
variable{prog:aO}{w:bh}{A:bp}{E:aa->ae->Prop}{s:ae}
def EZ{src:Source}{n:Nat}{Q:Nat->ae->Prop}(hn:n≠0)(k:∀i d,i<n->Q i { s with drawn:=d }):aA (aE prog w) A (choose src n) Q E s:=λΓ p _=>by
 unfold choose;rw[Sem.wp_choose];exact⟨hn,k _ _ (Nat.mod_lt _ (by omega))⟩
theorem Dy{α:Type}:∀(n:Nat)(xs:List α)(s:ae){Q:List α->ae->Prop},xs.length<=n->(∀ys d,ys.Perm xs->Q ys { s with drawn:=d })->aA (aE prog w) A (drawOrder n xs) Q E s
 |0,xs,s,Q,h,k=>by
   obtain rfl:xs=[]:=mG.mp (by omega);exact wu9 (k [] s.drawn (.refl _))
 |n+1,[],s,Q,h,k=>wu9 (k [] s.drawn (.refl _))
 |n+1,x::r,s,Q,h,k=>by
   simp only[drawOrder];refine wb9 (EZ (by simp) λi d hlt=>?_);rw[au hlt];refine wb9 (Dy n ((x::r).eraseIdx i) _ (by rw[vg hlt];omega) λys d pm=>wu9 (k _ d ?_));exact(pm.cons _).trans (o7 hlt)
end
inductive Mode where
 |tx|dr (T:af) (ps:List Nat)|pl
noncomputable def slotAt(t:cV):Nat->Nat
 |0=>0
 |i+1=>t.place.getD i 0+1
noncomputable def Mode.first(t:cV)(i:Nat):Mode->aa
 |.tx=>rawInt 0
 |.dr T _=>.ref T
 |.pl=>rawInt (slotAt t i)
noncomputable def Mode.Ok(w:bh)(es:Array (Int×aa))(t:cV)(h:bx)(I:af):Mode->Prop
 |.tx=>w.params.followText "set-order"=c_
 |.dr T ps=>T≠I/\ps.Perm (aR es.size)/\h.get? T=a_ { cls:=.type "tuple",data:=.seq (ps.map λ(p:Nat)=>rawInt p).toArray }
 |.pl=>w.params.followText "set-order"=d_/\(!t.plain && decide (es.size > 1))=d_
noncomputable def Mode.ord(w:bh)(S:af)(es:Array (Int×aa))(ep:Nat):Mode->List aa
 |.tx=>(pickOrder (w.params.setOrder S ep) es).toList.map (·.2)
 |.dr _ ps=>ps.map λp=>(es[p]?.map (·.2)).getD .none
 |.pl=>es.toList.map (·.2)
def Mode.HE{w:bh}{S:af}{es:Array (Int×aa)}{ep:Nat}{t:cV}{h:bx}{I:af}:∀{m:Mode},m.Ok w es t h I->(m.ord w S es ep).Perm (es.toList.map (·.2))
 |.tx,_=>(qC _ _).map _
 |.dr T ps,h=>by
   refine(h.2.1.map _).trans ?_;rw[show(aR es.size).map (λp=>(es[p]?.map (·.2)).getD cJ)=es.toList.map (·.2)from ?_];apply rX (by simp);intro n h1 h2;simp at h1 h2;simp[h1]
 |.pl,_=>.refl _
structure Ap(w:bh)(h:bx)(I S:af)(es:Array (Int×aa))(ep:Nat)(t:cV)(m:Mode)(i:Nat):Prop where
 it:h.get? I=a_ { cls:=.type "set_iterator",data:=.fields #[m.first t i,rawInt i,.ref S,rawInt es.size,rawInt ep] }
 st:lY (nD w) h S es ep t
 md:m.Ok w es t h I
 ne:S≠I
section
variable{prog:aO}{w:bh}{A:bp}{E:aa->ae->Prop}{s:ae}{I S:af}{es:Array (Int×aa)}{ep:Nat}{t:cV}{m:Mode}{i:Nat}
def Mode.Ok.keep{h h':bx}(y:m.Ok w es t h I)(k:∀b o,b≠I->h.get? b=a_ o->h'.get? b=a_ o):m.Ok w es t h' I:=by
 cases m with
 |dr T ps=>exact⟨y.1,y.2.1,k _ _ y.1 y.2.2⟩
 |_=>exact y
def n9{Q:Bool->ae->Prop}(k:Q (w.params.followText "set-order") s):aA (aE prog w) A setsByText Q E s:=by
 unfold setsByText;exact wb9 (we (wu9 k))
def Kn{Q:Array (Int×aa)->ae->Prop}(y:lY (nD w) s.heap S es ep t)(h:w.params.followText "set-order"=c_)(k:Q (pickOrder (w.params.setOrder S ep) es) s):aA (aE prog w) A (setWalk S) Q E s:=by
 unfold setWalk;refine wb9 (iu y.obj rfl y.fits ?_);dsimp only;refine wb9 (n9 ?_);rw[h,if_pos rfl];exact wb9 (we (wu9 k))
def oU(y:lY (nD w) s.heap S es ep t):t.place.size=es.size:=by
 have:=y.fits;simp only[SetTable.fits,aq,beq_iff_eq]at this;exact this.1
def C6{Q:Option (aa×Nat)->ae->Prop}{g e:Nat}(y:lY (nD w) s.heap S es ep t)(h:w.params.followText "set-order"=d_)(hd:(!t.plain && decide (es.size > 1))=d_)(hi:i<=es.size)
  (k:Q (match es[i]? with|some x=>a_ (x.2,slotAt t (i+1))|none=>b_) s):aA (aE prog w) A (setNext S (slotAt t i) g e) Q E s:=by
 unfold setNext;refine wb9 (iu y.obj rfl y.fits ?_);dsimp only;refine wb9 (n9 ?_);rw[h,if_neg df];show aA (aE prog w) A (if(!t.plain && decide (es.size > 1))=c_ then _ else _) Q E s;rw[hd,if_neg df];show aA (aE prog w) A ((if(!t.led && !es.isEmpty)=c_ then _ else pure ()) >>= _) Q E s;rw[y.ok.l,nD,h];rw[if_neg (by simp)];refine wb9 (wu9 (wu9 ?_))
 have hb:bc t.place (slotAt t i)=i:=by
  cases i with
  |zero=>exact Jy y.ok.r
  |succ j=>
    have hj:j<t.place.size:=by rw[oU y];omega
    show bc t.place (t.place.getD j 0+1)=j+1;rw[show t.place.getD j 0=t.place[j] by rw[kB,bq hj];rfl];exact Jz y.ok.r hj
 rw[hb]
 cases q:es[i]? with
 |none=>rw[q]at k;exact k
 |some x=>
   rw[q]at k
   have hlt:i<es.size:=by
    rcases cZ.mp q with⟨a,_⟩;exact a
   have hp:t.place[i]?=a_ (t.place[i]'(by rw[oU y];exact hlt)):=bq _;rw[hp];simp only[slotAt]at k;rw[show t.place.getD i 0=t.place[i]'(by rw[oU y];exact hlt) by rw[kB,hp];rfl]at k;exact k
def C5{Q:Option (aa×Nat)->ae->Prop}{sl:Nat}(y:lY (nD w) s.heap S es ep t)(h:w.params.followText "set-order"=c_)(k:Q (((pickOrder (w.params.setOrder S ep) es)[i]?).map λe=>(e.2,sl)) s):aA (aE prog w) A (setNext S sl i ep) Q E s:=by
 unfold setNext;refine wb9 (iu y.obj rfl y.fits ?_);dsimp only;refine wb9 (n9 ?_);rw[h,if_pos rfl];simp only[bne_self_eq_false,aT,if_false];exact wb9 (Kn y h (wu9 k))
def L8{Q:aa->ae->Prop}{p:Nat}{x:Int×aa}(y:lY (nD w) s.heap S es ep t)(hx:es[p]?=a_ x)(k:Q x.2 s):aA (aE prog w) A (setNextDrawn S p ep) Q E s:=by
 unfold setNextDrawn;refine wb9 (iu y.obj rfl y.fits ?_);dsimp only;simp only[bne_self_eq_false,aT,if_false];rw[hx];exact wu9 k
def Iu{a b c:aa}{Q:Fin->ae->Prop}{r:aa}(y:Ap w s.heap I S es ep t m i)(k:∀h',Ap w h' I S es ep t m (i+1)->dB I s.heap h'->Q (.done (.ret r)) { s with heap:=h' })(hf:a=m.first t (i+1))(hb:b=rawInt ((i:Int)+1)) :
  aA (aE prog w) A (do setField (.ref I) 0 a;setField (.ref I) 1 b;ret r) Q E s:=by
 subst hf;subst hb;refine wb9 (cg y.it (by simp) λh1 g1 s1=>wb9 (cg g1 (by simp) λh2 g2 s2=>wu9 ?_));have kp:∀b o,b≠I->s.heap.get? b=a_ o->h2.get? b=a_ o:=λb o n e=>s2.extBut _ _ n (s1.extBut _ _ n e);refine k h2 ⟨?_,y.st.keep λo e=>kp _ _ y.ne e,y.md.keep kp,y.ne⟩ (s1.trans s2);rw[g2];simp
end
section
variable{prog:aO}{w:bh}{A:bp}{E:aa->ae->Prop}{s:ae}{I S:af}{es:Array (Int×aa)}{ep:Nat}{t:cV}{m:Mode}{i:Nat}
def Cy{Q:Fin->ae->Prop}(y:Ap w s.heap I S es ep t m i)
  (k:aA (aE prog w) A (if let .int slot _:=m.first t i then do
    match <-setNext S slot.toNat (i:Int).toNat (ep:Int).toNat with
    |some (x,next)=>do setField (.ref I) 0 (rawInt next);setField (.ref I) 1 (rawInt ((i:Int)+1));ret x
    |none=>do setField (.ref I) 2 .none;raiseNew (<-newExc (.type "StopIteration") [])
   else do
    let a_ places <-seqItems? (m.first t i)|unsupported "internal:set_iterator"
    match places[(i:Int).toNat]? with
    |some (.int place _)=>do let x <-setNextDrawn S place.toNat (ep:Int).toNat;setField (.ref I) 1 (rawInt ((i:Int)+1));ret x
    |some _=>unsupported "internal:set_iterator"
    |none=>do setField (.ref I) 0 (rawInt 0);setField (.ref I) 2 .none;raiseNew (<-newExc (.type "StopIteration") [])) Q E s) :
  aA (aE prog w) A (fh.«set_iterator.__next__» ⟨[.ref I],[]⟩) Q E s:=by
 show aA (aE prog w) A (fieldsOf (.ref I) >>= _) Q E s;refine wb9 (wpAny_fieldsOf y.it rfl ?_);dsimp only[rawInt];refine wb9 (NZ y.st.obj rfl y.st.fits ?_);simp only[bne_self_eq_false,aT,if_false];exact k
def wA{α:Type}{Q:α->ae->Prop}(nh:A.handled=b_)(k:∀h' e,(∀b o,s.heap.get? b=a_ o->h'.get? b=a_ o)->(∃o,h'.get? e=a_ o/\o.cls=.type "StopIteration")->E (.ref e) { s with heap:=h' }) :
  aA (aE prog w) A (do raiseNew (<-newExc (.type "StopIteration") []):Sem α) Q E s:=by
 refine wb9 ?_;simp only[newExc,newTuple];refine wb9 (cN (wb9 (m:=firstArgMember _ _) (J4 (a:=cJ) (by first|rfl|(simp only[firstArgMember];rfl)) (cN ?_ (by size_fits)))) (by size_fits));simp only[raiseNew];refine wb9 (wpAny_handled ?_);rw[nh];exact wb9 (wu9 (wpAny_throw (k _ _ (λb o e=>hp9 _ (hp9 _ e)) ⟨_,aJ _ rfl,rfl⟩)))
def KO{Q:aa->ae->Prop}(y:Ap w s.heap I S es ep t m i)(hi:i<es.size)(k:∀h' v,(m.ord w S es ep)[i]?=a_ v->Ap w h' I S es ep t m (i+1)->dB I s.heap h'->Q v { s with heap:=h' }) :
  aA (aE prog w) A (fh.«set_iterator.__next__» ⟨[.ref I],[]⟩) (λf s'=>∃v,f=.done (.ret v)/\Q v s') E s:=by
 refine Cy y ?_
 cases m with
 |tx=>
   show aA (aE prog w) A (setNext S 0 i ep >>= _) _ E s;refine wb9 (C5 y.st y.md ?_)
   have hz:(pickOrder (w.params.setOrder S ep) es).size=es.size:=by
    have:=(qC (w.params.setOrder S ep) es).length_eq;simpa using this
   have hl:i<(pickOrder (w.params.setOrder S ep) es).size:=by rw[hz];exact hi
   rw[bq hl];dsimp only[mF];refine Iu (c:=.none) y (λh' y' sb=>⟨_,rfl,k h' _ ?_ y' sb⟩) rfl rfl;simp only[Mode.ord,aW,m6];rw[bq hl];rfl
 |dr T ps=>
   obtain⟨y1,y2,y3⟩:=id y.md;show aA (aE prog w) A (seqItems? (.ref T) >>= _) _ E s;refine wb9 (dn y3 rfl ?_);have hl:ps.length=es.size:=by rw[y2.length_eq,eJ]
   have hps:i<ps.length:=by omega
   have hp:ps[i]<es.size:=bW.mp (y2.mem_iff.mp (cm hps));have hg:((ps.map λ(p:Nat)=>rawInt p).toArray)[(i:Int).toNat]?=a_ (rawInt (ps[i]:Nat)):=by simp[hps]
   dsimp only;rw[hg];dsimp only[rawInt];refine wb9 (L8 (p:=ps[i]) y.st (bq hp) ?_);refine wb9 (cg y.it (by simp) λh1 g1 s1=>wu9 ⟨_,rfl,k h1 _ ?_ ⟨?_,y.st.keep λo e=>s1.extBut _ _ y.ne e,y.md.keep λb o n e=>s1.extBut _ _ n e,y.ne⟩ s1⟩)
   ·simp only[Mode.ord,aW];rw[au hps];simp[bq hp]
   ·rw[g1];simp[Mode.first,rawInt]
 |pl=>
   show aA (aE prog w) A (setNext S (slotAt t i) i ep >>= _) _ E s;refine wb9 (C6 y.st y.md.1 y.md.2 (mY hi) ?_);rw[bq hi];dsimp only;refine Iu (c:=.none) y (λh' y' sb=>⟨_,rfl,k h' _ ?_ y' sb⟩) rfl rfl;simp[Mode.ord,hi]
def Po{Q:Fin->ae->Prop}(nh:A.handled=b_)(y:Ap w s.heap I S es ep t m es.size)(k:∀h' e,(∀b o,b≠I->s.heap.get? b=a_ o->h'.get? b=a_ o)->(∃o,h'.get? e=a_ o/\o.cls=.type "StopIteration")->E (.ref e) { s with heap:=h' }) :
  aA (aE prog w) A (fh.«set_iterator.__next__» ⟨[.ref I],[]⟩) Q E s:=by
 refine Cy y ?_
 cases m with
 |tx=>
   show aA (aE prog w) A (setNext S 0 es.size ep >>= _) _ E s;refine wb9 (C5 y.st y.md ?_)
   have hz:(pickOrder (w.params.setOrder S ep) es).size=es.size:=by
    have:=(qC (w.params.setOrder S ep) es).length_eq;simpa using this
   rw[gC (by omega)];dsimp only[mF];refine wb9 (cg y.it (by simp) λh1 g1 s1=>?_);exact wA nh λh' e kp he=>k h' e (λb o n q=>kp _ _ (s1.extBut _ _ n q)) he
 |dr T ps=>
   obtain⟨y1,y2,y3⟩:=id y.md;show aA (aE prog w) A (seqItems? (.ref T) >>= _) _ E s;refine wb9 (dn y3 rfl ?_);have hl:ps.length=es.size:=by rw[y2.length_eq,eJ]
   dsimp only;rw[gC (by simp[hl])];dsimp only;refine wb9 (cg y.it (by simp) λh1 g1 s1=>wb9 (cg g1 (by simp) λh2 g2 s2=>?_));exact wA nh λh' e kp he=>k h' e (λb o n q=>kp _ _ (s2.extBut _ _ n (s1.extBut _ _ n q))) he
 |pl=>
   show aA (aE prog w) A (setNext S (slotAt t es.size) es.size ep >>= _) _ E s;refine wb9 (C6 y.st y.md.1 y.md.2 (aM _) ?_);rw[gC (by omega)];dsimp only;refine wb9 (cg y.it (by simp) λh1 g1 s1=>?_);exact wA nh λh' e kp he=>k h' e (λb o n q=>kp _ _ (s1.extBut _ _ n q)) he
def Ap.ty(y:Ap w s.heap I S es ep t m i):s.TypeIs (.ref I) "set_iterator":=⟨_,y.it,rfl⟩
def KJ{Q:Option aa->ae->Prop}(y:Ap w s.heap I S es ep t m i)(hi:i<es.size)(k:∀h' v,(m.ord w S es ep)[i]?=a_ v->Ap w h' I S es ep t m (i+1)->dB I s.heap h'->Q (a_ v) { s with heap:=h' }) :
  aA (aE prog w) A (pyNext (.ref I)) Q E s:=by
 unfold pyNext;exact wb9 (mT (dh (name:=ag "__next__") y.ty eP (cu eP y.ty oK (KO y hi λh' v a b c=>wu9 (k h' v a b c)) (oN _))))
def Pn{Q:Option aa->ae->Prop}(nh:A.handled=b_)(y:Ap w s.heap I S es ep t m es.size)(k:∀h',(∀b o,b≠I->s.heap.get? b=a_ o->h'.get? b=a_ o)->Q b_ { s with heap:=h' }) :
  aA (aE prog w) A (pyNext (.ref I)) Q E s:=by
 unfold pyNext;refine wb9 (mT (dh (name:=ag "__next__") y.ty eP (cu eP y.ty oK (Po nh y λh' e kp he=>?_) (oN _))));obtain⟨o,ho,hc⟩:=he;exact wb9 (gP (T:="StopIteration") (b:=c_) ⟨o,ho,hc⟩ isSubtype_stop (wu9 (k _ kp)))
end
def uV:entryFor table "set_iterator.__iter__"=a_ fh.«dict_keyiterator.__iter__» :=entryFor_alias (id':="dict_keyiterator.__iter__") (by kernel_rfl) rfl (by decide +kernel) (by kernel_rfl)
def oG:Slot "set_iterator" "__iter__" "set_iterator.__iter__":=.of (owner:="set_iterator") (n:="__iter__") (by rw[typeLookup_type,JN];kernel_rfl) (by decide +kernel) (by decide +kernel) (by decide +kernel) (.inl (by decide +kernel)) (by rw[qo];kernel_rfl)
def uX(a:aa):argsOk "set_iterator.__iter__" ⟨[a],[]⟩:=by
 unfold argsOk;rw[signature?_of (id:="set_iterator.__iter__") (n:=['_','_','r','e','t','i','_','_']) (o:=['r','o','t','a','r','e','t','i','_','t','e','s']) (by kernel_rfl) yX];kernel_rfl
noncomputable def Mode.fp:Mode->List af
 |.dr T _=>[T]
 |_=>[]
section
variable{prog:aO}{w:bh}{A:bp}{E:aa->ae->Prop}{s:ae}{I S:af}{es:Array (Int×aa)}{ep:Nat}{t:cV}{m:Mode}{i:Nat}
def Ap.frame{h h':bx}(y:Ap w h I S es ep t m i)(k:∀b∈I::S::m.fp,∀o,h.get? b=a_ o->h'.get? b=a_ o):Ap w h' I S es ep t m i:=by
 refine⟨k I (.head _) _ y.it,y.st.keep λo e=>k S (.tail _ (.head _)) o e,?_,y.ne⟩
 cases m with
 |dr T ps=>exact⟨y.md.1,y.md.2.1,k T (.tail _ (.tail _ (.head _))) _ y.md.2.2⟩
 |tx=>exact y.md
 |pl=>exact y.md
def yI(hh:A.handled=b_):Walks prog w A I (I::S::m.fp) [I] es.size (λi v=>(m.ord w S es ep)[i]?=a_ v) (λi h=>Ap w h I S es ep t m i) where
 sub:=λb hb=>by rw[aZ.mp hb];exact .head _
 frame:=λi h h' st k=>st.frame k
 item:=λi s Q E hi st k=>KJ st hi λh' v a b c=>k v h' s.toks a b λb o hb e=>c.extBut _ _ (λz=>hb (z▸aZ.mpr rfl)) e
 done:=λs Q E st k=>Pn hh st λh' kp=>k h' s.toks λb o hb e=>kp b o (λz=>hb (z▸aZ.mpr rfl)) e
 self:=λi s Q E st k=>by
  refine wpAny_pyIter_slot st.ty oG (cu oG st.ty uV ?_ (uX _));show aA _ _ (ret (.ref I)) _ _ s;exact wu9 ⟨_,rfl,"set_iterator",_,st.ty,eP.lookup,k⟩
def Bj{Q:aa->ae->Prop}(y:lY (nD w) s.heap S es ep t)(hz:es.size<=aD)
  (k:∀(h1:bx)d I m,s.heap.objs.size<=I->(∀b∈m.fp,s.heap.objs.size<=b)->(∀b o,s.heap.get? b=a_ o->h1.get? b=a_ o)->Ap w h1 I S es ep t m 0->Q (.ref I) { s with heap:=h1,drawn:=d }) :
  aA (aE prog w) A (FN (.ref S)) Q E s:=by
 have ty:s.TypeIs (.ref S) "set":=⟨_,y.obj,rfl⟩
 have lt:=hl9 y.obj;refine wpAny_pyIter_slot ty x5 (cu x5 ty zX ?_ (PySem.F.args_set_iter_1 _));show aA (aE prog w) _ (oR S >>= _) _ _ s;unfold oR;refine wb9 (wb9 (NZ y.obj rfl y.fits (wu9 ?_)))
 have dr:∀{A1:bp}{E1:aa->ae->Prop}{Q1:Bool->ae->Prop},Q1 (!w.params.followText "set-order" && (!t.plain && decide (es.size > 1))) s->aA (aE prog w) A1 (setDrawn S) Q1 E1 s:=by
  intro A1 E1 Q1 h;unfold setDrawn;refine wb9 (iu y.obj rfl y.fits ?_);dsimp only;exact wb9 (n9 (wu9 h))
 have one:∀{A1:bp} {E1:aa->ae->Prop} {Q1:Fin->ae->Prop} {m:Mode} (s1:ae) (f:aa),f=m.first t 0->m.Ok w es t s1.heap s1.heap.objs.size->s.heap.objs.size<=s1.heap.objs.size->(∀b o,s.heap.get? b=a_ o->s1.heap.get? b=a_ o)->
   (∀h1,h1=s1.heap.push { cls:=.type "set_iterator",data:=.fields #[m.first t 0,rawInt (0:Nat),.ref S,rawInt es.size,rawInt ep] }->Ap w h1 s1.heap.objs.size S es ep t m 0->Q1 (.done (.ret (.ref s1.heap.objs.size))) { s1 with heap:=h1 })->
   aA (aE prog w) A1 (do ret (<-newFields "set_iterator" [f,rawInt 0,.ref S,rawInt es.size,rawInt (<-setEpoch S)])) Q1 E1 s1:=by
  intro A1 E1 Q1 m s1 f hf ok le ex h;have y1:=y.keep (h':=s1.heap) λo e=>ex _ _ e;refine wb9 (wpAny_setEpoch_of y1.obj rfl y1.fits ?_);refine wb9 ?_;unfold newFields;refine cN ?_ (by size_fits);subst hf;exact wu9 (h _ rfl ⟨aJ _ rfl,y1.keep λo e=>hp9 _ e,ok.keep λb o n e=>hp9 _ e,by have:=aY lt le;exact ba this⟩)
 refine wb9 (dr ?_)
 cases hb:w.params.followText "set-order" with
 |true=>
   simp only[fL,lj,aT,if_false];refine wb9 (wu9 ?_);refine one (m:=.tx) s _ rfl hb (aM _) (λb o e=>e) λh1 e1 y1=>⟨_,rfl,"set_iterator",_,y1.ty (s:={ s with heap:=h1 }),eP.lookup,?_⟩
   subst e1;exact k _ s.drawn _ .tx (aM _) (λb h=>by cases h) (λb o e=>hp9 _ e) y1
 |false=>
   cases hd:(!t.plain && decide (es.size > 1))with
   |false=>
     simp only[vi,jk,aT,if_false];refine wb9 (wu9 ?_);refine one (m:=.pl) s _ rfl ⟨hb,hd⟩ (aM _) (λb o e=>e) λh1 e1 y1=>⟨_,rfl,"set_iterator",_,y1.ty (s:={ s with heap:=h1 }),eP.lookup,?_⟩
     subst e1;exact k _ s.drawn _ .pl (aM _) (λb h=>by cases h) (λb o e=>hp9 _ e) y1
   |true=>
     simp only[vi,bO,if_true];refine wb9 (Dy es.size (aR es.size) s (by simp) λps d pm=>?_);have hl:ps.length=es.size:=by rw[pm.length_eq,eJ]
     refine wb9 (wpAny_newTuple ?_ (by rw[ak,hl];exact hz));refine one (m:=.dr s.heap.objs.size ps) _ _ rfl ⟨?_,pm,?_⟩ ?_ ?_ ?_
     ·show s.heap.objs.size≠(s.heap.push _).objs.size;rw[dz];exact ba (iE _)
     ·exact aJ _ rfl
     ·show s.heap.objs.size<=(s.heap.push _).objs.size;rw[dz];exact kb _
     ·exact λb o e=>hp9 _ e
     ·intro h1 e1 y1;refine⟨_,rfl,"set_iterator",_,y1.ty (s:={ s with heap:=h1,drawn:=d }),eP.lookup,?_⟩;subst e1;refine k _ d _ _ ?_ ?_ ?_ y1
      ·show s.heap.objs.size<=(s.heap.push _).objs.size;rw[dz];exact kb _
      ·intro b hb;rw[aZ.mp hb];exact aM _
      ·exact λb o e=>hp9 _ (hp9 _ e)
end
section
variable{prog:aO}{w:bh}{A:bp}{E:aa->ae->Prop}{s:ae}
def A5:splitId "set.__len__"=a_ ("set","__len__"):=by decide +kernel
def IC{M:xZ}{v:aa}{Q:Bool->ae->Prop}(ty:s.TypeIs v "set")(k:Q d_ s):aA M A (pI v) Q E s:=by
 unfold pI;refine wb9 (lp ty PySem.F.slot_set_len.lookup ?_);dsimp only;rw[A5];dsimp only;refine wb9 (gP ty sub_set_self ?_);simp only[fL,aT,if_false];rw[if_pos (by decide +kernel)];refine wb9 (jS ty ?_);exact wu9 k
def BD{ord:List aa}{acc:Array aa}(h:ItemsOf (λi v=>ord[i]?=a_ v) acc ord.length):acc.toList=ord:=by
 obtain⟨h1,h2⟩:=h;apply Ga;intro i;by_cases hi:i<acc.size
 ·have:=h2 i acc[i] (bq hi);rw[this,m6,bq hi]
 ·rw[jH (by simpa using hi),jH (by omega)]
def rH{Q:List aa->ae->Prop}{S:af}{es:Array (Int×aa)}{ep:Nat}{t:cV}(hh:A.handled=b_)(y:lY (nD w) s.heap S es ep t)(hz:es.size<=aD)
  (k:∀h1 d tk vs,(∀b o,s.heap.get? b=a_ o->h1.get? b=a_ o)->s.heap.objs.size<=h1.objs.size->vs.Perm (es.toList.map (·.2))->Q vs { s with heap:=h1,drawn:=d,toks:=tk }):aA (aE prog w) A (collect (.ref S)) Q E s:=by
 unfold collect;refine wb9 (wpAny_runValue (jg PySem.F.entry_proto_collect ?_));rw[jR PySem.F.plain_proto_collect];show aA _ A.in1 (newList [] >>= λl=>again (.builtin "list.__iadd__" ⟨[l,.ref S],[]⟩)) _ _ s;refine wb9 (cN ?_);refine wu9 (Kf (DV vb _) (jg PySem.F.entry_list_iadd ?_));rw[jR vb];have lt:=hl9 y.obj;generalize hL:s.heap.objs.size=L;generalize hlo:({ cls:=.type "list",data:=.seq ([]:List aa).toArray }:er)=lo;have y1:lY (nD w) (s.heap.push lo) S es ep t:=y.keep λo e=>hp9 _ e;have gL:(s.heap.push lo).get? L=a_ { cls:=.type "list",data:=.seq (#[]:Array aa) }:=by rw[<-hL];exact(aJ _ (by rw[<-hlo];rfl)).trans (by rw[<-hlo])
 have szL:(s.heap.push lo).objs.size=L+1:=by rw[dz,hL]
 have ne:L≠S:=by rw[<-hL];exact jo lt
 have ty:uZ { s with heap:=s.heap.push lo } (.ref S) "set":=⟨_,y1.obj,rfl⟩
 show aA _ A.in1 (pJ (.ref L) (.ref S) (.ref L)) _ _ { s with heap:=s.heap.push lo };unfold pJ;refine wb9 (jS ty ?_);have b1:rl (.ref L) (.ref S)=d_:=by simp[rl,ne]
 have b2:(jD "set" == jD "list")=d_:=by decide
 have b3:(jD "set" == jD "tuple")=d_:=by decide
 simp only[b1,b2,b3,Bool.or_false,aT,if_false];refine wb9 (Bj y1 hz λh1 d I m hI hm ex it=>?_);have ty2:uZ { s with heap:=h1,drawn:=d } (.ref S) "set":=⟨_,it.st.obj,rfl⟩
 refine wb9 (cz (IC ty2 ?_));rw[if_pos (by decide +kernel)];refine wb9 (jl ?_);have g1:=ex _ _ gL;refine wb9 ?_;show aA _ A.in1 (updateSeq L (·.push .none) >>= λ_=>updateSeq L (·.pop)) _ _ _;refine wb9 (pg g1 rfl ?_);have g2:=du (fO (·.push cJ)) g1 rfl;refine pg g2 rfl ?_;have g3:=du (fO (·.pop)) g2 rfl
 have oth:∀b o,b≠L->h1.get? b=a_ o->((h1.update L (fO (·.push cJ))).update L (fO (·.pop))).get? b=a_ o:=
  λb o n e=>(dm _ _ (eW n)).trans ((dm _ _ (eW n)).trans e)
 have hI':L<I:=by have:(s.heap.push lo).objs.size<=I:=hI;rw[szL]at this;exact this
 have nf:L∉I::S::m.fp:=by
  intro z
  rcases ah.mp z with z|z
  ·rw[z]at hI';exact absurd hI' (bC _)
  ·rcases ah.mp z with z|z
   ·exact ne z
   ·have:=hm _ z;have this':(s.heap.push lo).objs.size<=L:=this;rw[szL]at this';exact absurd this' (Nat.not_succ_le_self _)
 have W:=(yI (prog:=prog) (w:=w) (A:=A.in1) (I:=I) (S:=S) (es:=es) (ep:=ep) (t:=t) (m:=m) (by simp[hh])).toS;refine wu9 (Kf (DV PySem.F.plain_extend_loop _) (codeAny_extend_loopS W hz _ nf _ es.size 0 _ _ _ rfl (fK _) (it.frame λb hb o e=>oth b o (λz=>nf (z▸hb)) e) g3 (ItemsOf.nil _) λs' acc c mv gS hacc=>?_));show aA _ A (load L >>= _) _ _ s';refine wb9 (wpAny_load gS ?_);have hp:=Mode.HE (S:=S) (ep:=ep) it.md;have hl:(m.ord w S es ep).length=es.size:=by rw[hp.length_eq,ak,bA]
 rw[<-hl]at hacc;have e:=BD hacc;show aA _ A (pure acc.toList) _ _ s';rw[e];obtain⟨h',g',d',tk',os'⟩:=s';obtain rfl:g'=s.gens:=mv.gens;obtain rfl:d'=d:=mv.drawn;obtain rfl:os'=s.os:=mv.os;refine wu9 (k h' _ tk' _ (λb o q=>mv.heap b o (λz=>?_) (oth b o (λz=>?_) (ex _ _ (hp9 _ q)))) (by rw[hL];exact mY (hl9 gS)) hp)
 ·have lb:=hl9 q
  rcases ah.mp z with z|z
  ·rw[z,<-hL]at lb;exact absurd lb (bC _)
  ·rw[aZ.mp z,hL]at lb;exact absurd (jq lb hI') (bC _)
 ·have lb:=hl9 q;rw[z,<-hL]at lb;exact absurd lb (bC _)
end
section
variable{prog:aO}{w:bh}{A:bp}{E:aa->ae->Prop}{s:ae}
def Fq(prog:aO)(w:bh)(A:bp)(s:ae)(v:aa)(Gd:List aa->Prop):Prop:=
 ∀(A':bp)(E':aa->ae->Prop)(Q':List aa->ae->Prop),A'.handled=A.handled->(∀vs h1 d tk,(∀b o,s.heap.get? b=a_ o->h1.get? b=a_ o)->s.heap.objs.size<=h1.objs.size->Gd vs->Q' vs { s with heap:=h1,drawn:=d,toks:=tk })->
  aA (aE prog w) A' (collect v) Q' E' s
def GO{v:aa}{is:List Int}{Q:aa->ae->Prop}(h64:is.length<64)(hc:Fq prog w A s v (λvs=>∃is',jY vs is'/\is'.Perm is))
  (k:∀h' d tk l(out:List aa)is' e,(∀b o,s.heap.get? b=a_ o->h'.get? b=a_ o)->s.heap.objs.size<=l->h'.get? l=a_ (seqObj "list" out.toArray e)->jY out is'->is'.Perm is->is'.Pairwise (·<=·)->Q (.ref l) { s with heap:=h',drawn:=d,toks:=tk }) :
  aA (aE prog w) A (call (.builtin "sorted") [v]) Q E s:=by
 refine ve kind_sorted plain_sorted entry_sorted (args_sorted1 _) ?_;unfold fh.«sorted»;refine wb9 (m:=checkCount "sorted" 1 1 _) (wu9 ?_);refine wb9 (hc _ _ _ (by rfl) λvs h1 d tk ex sz ⟨is1,i1,i2⟩=>?_);have hl:vs.length<64:=by rw[FZ i1,i2.length_eq];exact h64
 refine wb9 (wpAny_newList ?_ (by rw[bT];omega));have g1:(h1.push (seqObj "list" vs.toArray 0)).get? h1.objs.size=a_ (seqObj "list" vs.toArray 0):=aJ _ rfl;refine wb9 (cz (cu slot_list_sort ⟨_,g1,rfl⟩ entry_list_sort (list_sort_tree (s:={ s with heap:=h1.push (seqObj "list" vs.toArray 0),drawn:=d,toks:=tk }) g1 i1 hl λout is' a1 a2 a3=>⟨_,rfl,?_⟩) (args_list_sort _)));obtain⟨e,he⟩:=sortedHeap_at (out:=out) g1;refine wu9 ⟨_,rfl,k _ d tk _ out.toList is' e (λb o q=>?_) ?_ (by simpa using he) a1 (a2.trans i2) a3⟩
 ·have lb:=hl9 (ex b o q);exact(sortedHeap_old (ba lb) (by rw[size_push'];exact jr lb)).trans (hp9 _ (ex b o q))
 ·exact sz
def GN{v:aa}{ss:List aN}{Q:aa->ae->Prop}(h64:ss.length<64)(hc:Fq prog w A s v (λvs=>∃ss',oS vs ss'/\ss'.Perm ss))
  (k:∀h' d tk l(out:List aa)ss' e,(∀b o,s.heap.get? b=a_ o->h'.get? b=a_ o)->s.heap.objs.size<=l->h'.get? l=a_ (seqObj "list" out.toArray e)->oS out ss'->ss'.Perm ss->sortedS ss'=c_->Q (.ref l) { s with heap:=h',drawn:=d,toks:=tk }) :
  aA (aE prog w) A (call (.builtin "sorted") [v]) Q E s:=by
 refine ve kind_sorted plain_sorted entry_sorted (args_sorted1 _) ?_;unfold fh.«sorted»;refine wb9 (m:=checkCount "sorted" 1 1 _) (wu9 ?_);refine wb9 (hc _ _ _ (by rfl) λvs h1 d tk ex sz ⟨ss1,i1,i2⟩=>?_);have hl:vs.length<64:=by rw[show vs.length=ss1.length by rw[<-i1.strs,ak],i2.length_eq];exact h64
 refine wb9 (wpAny_newList ?_ (by rw[bT];omega));have g1:(h1.push (seqObj "list" vs.toArray 0)).get? h1.objs.size=a_ (seqObj "list" vs.toArray 0):=aJ _ rfl;refine wb9 (cz (cu slot_list_sort ⟨_,g1,rfl⟩ entry_list_sort (list_sort_treeK (s:={ s with heap:=h1.push (seqObj "list" vs.toArray 0),drawn:=d,toks:=tk }) strKind_oneLt g1 i1.keysOf (λv₁ v₂ r e=>keyKind_strs (by rw[<-e];exact i1)) hl λst' hp hs=>⟨_,rfl,?_⟩) (args_list_sort _)));obtain⟨ss',a1,a2,a3⟩:=sorted_out_str i1 hp hs;obtain⟨e,he⟩:=sortedHeap_at (out:=(arrOf st').map (·.2)) g1;refine wu9 ⟨_,rfl,k _ d tk _ ((arrOf st').map (·.2)).toList ss' e (λb o q=>?_) ?_ (by rw[Array.toArray_toList];exact he) a1 (a2.trans i2) a3⟩
 ·have lb:=hl9 (ex b o q);exact(sortedHeap_old (ba lb) (by rw[size_push'];exact jr lb)).trans (hp9 _ (ex b o q))
 ·exact sz
end
end L2
namespace M
open PySem PySem.Spec PyProof.Rows L2
inductive OW|add|sub|mul|fdiv|mod|shr|shl|band|bor|pow|mn|mx
inductive Fo|eq|ne|lt|le|gt|ge|isin|nin|isn|nisn
inductive Ty|int|bool|str|tuple|list
inductive J3|len|list|tuple|all|any|isi (t:Ty)|listrev|int|str|min|max|sorted|sset|abs|sum
inductive SG|join|split|upper|lower|find|index|count|get|startswith|isalpha|tindex
inductive uq|app|ext|ins|clr|seti|dput
mutual
noncomputable def nH:Dat->Dat->Bool
 | .non,y9=>match y9 with
   |.non=>c_
   |_=>d_
 | .bl a,y9=>match y9 with
   |.bl b=>a == b
   |.int j=>(if a then 1 else 0) == j
   |_=>d_
 | .int i,y9=>match y9 with
   |.bl b=>i == (if b then 1 else 0)
   |.int j=>i == j
   |_=>d_
 | .str x,y9=>match y9 with
   |.str y=>x == y
   |_=>d_
 | .tup xs,y9=>match y9 with
   |.tup ys=>kX xs ys
   |_=>d_
 | .lst xs,y9=>match y9 with
   |.lst ys=>kX xs ys
   |_=>d_
 |_,_=>d_
noncomputable def kX:List Dat->List Dat->Bool
 |[],[]=>c_
 |x::xs,y::ys=>nH x y && kX xs ys
 |_,_=>d_
end
mutual
noncomputable def fE:Nat->Dat->Bool
 |_,.dct _ _=>d_
 |_,.dcn _=>d_
 |_,.exc _ _ _=>d_
 |0,.tup _=>d_
 |0,.lst _=>d_
 |n+1,.tup xs=>eh n xs
 |n+1,.lst xs=>eh n xs
 |_,_=>c_
noncomputable def eh:Nat->List Dat->Bool
 |_,[]=>c_
 |n,x::xs=>fE n x && eh n xs
end
noncomputable def iP:Dat->Option Bool
 |.non=>a_ d_
 |.bl b=>a_ b
 |.int i=>a_ (i != 0)
 |.str x=>if x.length<=aD then a_ ((x.length:Int) != 0)else b_
 |.tup xs=>a_ (!xs.isEmpty)
 |.lst xs=>a_ (!xs.isEmpty)
 |.dct ks _=>a_ (!ks.isEmpty)
 |.dcn _=>b_
 |.exc _ _ _=>b_
noncomputable instance (i j:Int):Decidable (Fu i j):=by unfold Fu;infer_instance
noncomputable instance (i j:Int):Decidable (NX i j):=by unfold NX;infer_instance
noncomputable instance (i j:Int):Decidable (JL i j):=by unfold JL;infer_instance
noncomputable instance (x:aN) (j:Int):Decidable (AI x j):=by unfold AI;infer_instance
abbrev g_:=Option (Dat×Bool)
noncomputable def ym(f:Int->Int->g_):Dat->Dat->g_
 |.int i,.int j=>f i j
 |_,_=>b_
noncomputable def xU:Dat->Dat->g_
 |.int i,.int j=>a_ (.int (i+j),d_)
 |.str x,.str y=>if x.length+y.length<=aD then a_ (.str (x++y),d_)else b_
 |.lst xs,.lst ys=>if xs.length+ys.length<=aD then a_ (.lst (xs++ys),je (xs++ys))else b_
 |.tup xs,.tup ys=>if xs.length+ys.length<=aD then a_ (.tup (xs++ys),d_)else b_
 |_,_=>b_
noncomputable def xT:Dat->Dat->g_
 |.int i,.int j=>if Fu i j then a_ (.int (i * j),d_)else b_
 |.str x,.int j=>if AI x j then a_ (.str (PySem.Txt.mul x j),d_)else b_
 |_,_=>b_
noncomputable def gr:OW->Dat->Dat->g_
 |.add,a,b=>xU a b
 |.sub,a,b=>ym (λi j=>a_ (.int (i - j),d_)) a b
 |.mul,a,b=>xT a b
 |.mn,a,b=>ym (λi j=>a_ (.int (if j<i then j else i),d_)) a b
 |.mx,a,b=>ym (λi j=>a_ (.int (if i<j then j else i),d_)) a b
 |.fdiv,a,b=>ym (λi j=>if NX i j then a_ (.int (i / j),d_)else b_) a b
 |.mod,a,b=>ym (λi j=>if 0<j then a_ (.int (i % j),d_)else b_) a b
 |.shr,a,b=>ym (λi j=>if 0<=j then a_ (.int (i / 2 ^ j.toNat),d_)else b_) a b
 |.shl,a,b=>ym (λi j=>if JL i j then a_ (.int (i * 2 ^ j.toNat),d_)else b_) a b
 |.band,a,b=>ym (λi j=>a_ (.int (sG i j),d_)) a b
 |.bor,a,b=>ym (λi j=>a_ (.int (JQ i j),d_)) a b
 |.pow,a,b=>ym (λi j=>if JL i j then a_ (.int (i ^ j.toNat),d_)else b_) a b
noncomputable def nF:Dat->Option Key
 |.int i=>a_ (.inl i)
 |.str x=>a_ (.inr x)
 |_=>b_
noncomputable instance Xt (k:List NK) (ks:List (List NK)):Decidable (k∈ks):=@List.instDecidableMemOfLawfulBEq _ instBEqOfDecidableEq inferInstance k ks
noncomputable def Dh:List Dat->Option (List Key)
 |[]=>a_ []
 |d::ds=>(nF d).bind λk=>(Dh ds).map λr=>k::r
noncomputable def Wx:Dat->Option N2
 |.int i=>a_ (.inl (.inl i))
 |.str x=>a_ (.inl (.inr x))
 |.tup ds=>(Dh ds).map .inr
 |_=>b_
noncomputable def SQ:List Dat->Option (List N2)
 |[]=>a_ []
 |d::ds=>(Wx d).bind λk=>(SQ ds).map λr=>k::r
noncomputable def Wu:Dat->Option NK
 |.int i=>a_ (.inl (.inl i))
 |.str x=>a_ (.inl (.inr x))
 |.tup ds=>(SQ ds).map .inr
 |_=>b_
noncomputable def Uy:List Dat->Option (List NK)
 |[]=>a_ []
 |d::ds=>(Wu d).bind λk=>(Uy ds).map λr=>k::r
noncomputable def zd:Dat->Option (List NK)
 |.tup ds=>Uy ds
 |_=>b_
noncomputable def Uv:List Key->Bool
 |[]=>c_
 |k::ks=>!(ks.any λj=>decide (j=k)) && Uv ks
noncomputable def jO(k:Key):List Key->List Dat->Option Dat
 |j::ks,v::vs=>if j=k then a_ v else jO k ks vs
 |_,_=>b_
noncomputable def HJ(k:Key):List Key->Bool
 |[]=>c_
 |j::ks=>if j=k then !(ks.any λi=>decide (i=k))else HJ k ks
noncomputable def putD(k:Key)(d:Dat):List Key->List Dat->List Key×List Dat
 |j::ks,v::vs=>if j=k then(j::ks,d::vs)else((j::(putD k d ks vs).1),(v::(putD k d ks vs).2))
 |_,_=>([k],[d])
noncomputable def AD(f:Int->Int->Bool):Dat->Dat->Option Bool
 |.int i,.int j=>a_ (f i j)
 |_,_=>b_
noncomputable def Ff(a:Dat):Dat->Option Bool
 | .str y=>match a with
   |.str x=>a_ (!(dv y x 0 y.length 1).isEmpty)
   |_=>b_
 |.lst ys=>if fE 20 a && eh 20 ys then a_ (ys.any λy=>nH y a)else b_
 |.tup ys=>if fE 20 a && eh 20 ys then a_ (ys.any λy=>nH y a)else b_
 | .dct ks vs=>match nF a with
   |some k=>a_ (jO k ks vs).isSome
   |none=>if ks.isEmpty=c_ then(zd a).map λ_=>d_ else b_
 |.dcn ks=>(zd a).map λk=>decide (k∈ks)
 |_=>b_
noncomputable def qU(a:Dat):Dat->Option Bool
 | .str y=>match a with
   |.str x=>a_ (!(!(dv y x 0 y.length 1).isEmpty))
   |_=>b_
 |.lst ys=>if fE 20 a && eh 20 ys then a_ (!(ys.any λy=>nH y a))else b_
 |.tup ys=>if fE 20 a && eh 20 ys then a_ (!(ys.any λy=>nH y a))else b_
 |.dct ks vs=>(nF a).map λk=>!(jO k ks vs).isSome
 |_=>b_
noncomputable def DF(b:Bool)(a:Dat):Dat->Option Bool
 |.non=>a_ (match a with | .non=>b|_=>!b)
 |_=>b_
noncomputable def eV:Fo->Dat->Dat->Option Bool
 |.eq,a,b=>if fE 20 a && fE 20 b then a_ (nH a b)else b_
 |.ne,a,b=>if fE 20 a && fE 20 b then a_ (!nH a b)else b_
 |.lt,a,b=>AD (λi j=>decide (i<j)) a b
 |.le,a,b=>AD (λi j=>decide (i<=j)) a b
 |.gt,a,b=>AD (λi j=>decide (j<i)) a b
 |.ge,a,b=>AD (λi j=>decide (j<=i)) a b
 |.isin,a,b=>Ff a b
 |.nin,a,b=>qU a b
 |.isn,a,b=>DF c_ a b
 |.nisn,a,b=>DF d_ a b
noncomputable def EH:Dat->Dat->Option Dat
 |.lst xs,.int i=>kO xs i
 |.tup xs,.int i=>kO xs i
 |.str z,.int i=>if z.length<=aD then(kO z.cps.toList i).map λc=>.str ⟨#[c]⟩else b_
 |.dct ks vs,k=>(nF k).bind λk=>jO k ks vs
 |_,_=>b_
noncomputable def HA(r:g_):Option (Option Int):=r.bind λx=>match x.1 with
 |.int i=>a_ (a_ i)
 |_=>b_
noncomputable def cutD{α:Type}(xs:List α)(lo hi:Option Int):List α:=(xs.drop (HT.fV xs.length 0 lo)).take (HT.fV xs.length xs.length hi - HT.fV xs.length 0 lo)
noncomputable def Of:Dat->Option Int->Option Int->g_
 |.str x,lo,hi=>if x.length<=aD then a_ (.str (jE x lo hi),d_)else b_
 |.lst xs,lo,hi=>a_ (.lst (cutD xs lo hi),je (cutD xs lo hi))
 |.tup xs,lo,hi=>a_ (.tup (cutD xs lo hi),d_)
 |_,_,_=>b_
noncomputable def VA:Dat->Bool
 |.exc _ _ _=>c_
 |_=>d_
noncomputable def kg:Ty->Dat->Bool
 |.int,.int _=>c_
 |.int,.bl _=>c_
 |.bool,.bl _=>c_
 |.str,.str _=>c_
 |.tuple,.tup _=>c_
 |.list,.lst _=>c_
 |_,_=>d_
noncomputable def jx:List Dat->Option (List Bool)
 |[]=>a_ []
 |.bl b::ds=>(jx ds).map λr=>b::r
 |_::_=>b_
noncomputable def oF:List Dat->Option (List aN)
 |[]=>a_ []
 |.str x::ds=>(oF ds).map λr=>x::r
 |_::_=>b_
noncomputable def j8:List Dat->Option (List Int)
 |[]=>a_ []
 |.int x::ds=>(j8 ds).map λr=>x::r
 |_::_=>b_
noncomputable def tS{α:Type}(lt:α->α->Bool)(x:α):List α->List α
 |[]=>[x]
 |y::ys=>if lt x y=c_ then x::y::ys else if lt y x=c_ then y::tS lt x ys else y::ys
noncomputable def fQ{α:Type}(lt:α->α->Bool):List α->List α
 |[]=>[]
 |x::xs=>tS lt x (fQ lt xs)
noncomputable def ltI(i j:Int):Bool:=decide (i<j)
noncomputable def sh(x y:aN):Bool:=decide (x.cps.toList<y.cps.toList)
noncomputable def lz(x:aN):List aN:=x.cps.toList.map λc=>⟨#[c]⟩
noncomputable def vt(ss:List aN):g_:=if ss.length<4000/\(fQ sh ss).length<64 then a_ (.lst ((fQ sh ss).map .str),c_)else b_
noncomputable def Oe(is:List Int):g_:=if is.length<4000/\(fQ ltI is).length<64 then a_ (.lst ((fQ ltI is).map .int),c_)else b_
noncomputable def vE:Int->List Int->Int
 |i,[]=>i
 |i,j::r=>vE (if i<j then j else i) r
noncomputable def b1(f:Dat->g_):List Dat->g_
 |[d]=>f d
 |_=>b_
noncomputable def qZ:Dat->g_
 |.lst xs=>a_ (.int xs.length,d_)
 |.tup xs=>a_ (.int xs.length,d_)
 |.str x=>if x.length<=aD then a_ (.int x.length,d_)else b_
 |.dct ks _=>a_ (.int ks.length,d_)
 |_=>b_
noncomputable def lX:Dat->g_
 |.lst xs=>a_ (.lst xs,je xs)
 |.tup xs=>a_ (.lst xs,je xs)
 |_=>b_
noncomputable def qY:Dat->g_
 |.lst xs=>a_ (.lst xs.reverse,je xs.reverse)
 |.tup xs=>if xs.length<=1000000 then a_ (.lst xs.reverse,je xs.reverse)else b_
 |.str x=>if x.length<=1000000 then a_ (.lst ((lz x).reverse.map .str),c_)else b_
 |_=>b_
noncomputable def qW:Dat->g_
 |.lst xs=>a_ (.tup xs,d_)
 |.tup xs=>a_ (.tup xs,d_)
 |_=>b_
noncomputable def bL(f:List Dat->g_):Dat->g_
 |.lst xs=>f xs
 |_=>b_
noncomputable def Fi(f:List Dat->g_)(g:aN->g_):Dat->g_
 |.lst xs=>f xs
 |.str x=>g x
 |_=>b_
noncomputable def rd:Dat->g_
 |.int i=>a_ (.int i,d_)
 |.bl b=>a_ (.int (if b then 1 else 0),d_)
 |.str x=>if x.length<=640 then(PySem.intText? x).map λi=>(.int i,d_)else b_
 |_=>b_
noncomputable def qX:Dat->g_
 |.int i=>if i.natAbs.log2<1920 then a_ (.str (toString i),d_)else b_
 |_=>b_
noncomputable def dw:J3->List Dat->g_
 |.len,l=>b1 qZ l
 |.list,l=>b1 lX l
 |.listrev,l=>b1 qY l
 |.tuple,l=>b1 qW l
 |.all,l=>b1 (bL λxs=>(jx xs).map λbs=>(.bl (bs.all id),d_)) l
 |.any,l=>b1 (bL λxs=>(jx xs).map λbs=>(.bl (bs.any id),d_)) l
 |.isi t,l=>b1 (λd=>if VA d=c_ then b_ else a_ (.bl (kg t d),d_)) l
 | .sset,l=>b1 (Fi (λds=>match j8 ds,oF ds with
   |some is,_=>Oe is
   |none,a_ ss=>vt ss
   |none,b_=>b_) λx=>vt (lz x)) l
 |.sorted,_=>b_
 |.int,l=>b1 rd l
 |.sum,l=>b1 (bL λds=>(j8 ds).map λis=>(.int is.sum,d_)) l
 | .max,l=>b1 (bL λds=>(j8 ds).bind λis=>match is with
   |[]=>b_
   |i::r=>a_ (.int (vE i r),d_)) l
 |.str,l=>b1 qX l
 |.min,_=>b_
 |.abs,_=>b_
noncomputable def iq:Dat->Option (List Dat)
 |.lst xs=>a_ xs
 |.tup xs=>a_ xs
 |.str x=>a_ (x.cps.toList.map λc=>Dat.str ⟨#[c]⟩)
 |_=>b_
noncomputable def TF:Dat->Option (List Dat)
 |.lst xs=>a_ xs
 |.tup xs=>a_ xs
 |_=>b_
noncomputable def Eh:List Dat->Option (List Dat)
 |[.int j]=>if j<=1000000/\-1000000<=j then a_ ((aR j.toNat).map λk:Nat=>Dat.int k)else b_
 |[.int i,.int j]=>if -1000000<=i/\i<=1000000/\-1000000<=j/\j<=1000000 then a_ ((aR (j - i).toNat).map λk:Nat=>Dat.int (i+k))else b_
 |_=>b_
noncomputable def kc:List Dat->List Dat->List Dat
 |x::xs,y::ys=>.tup [x,y]::kc xs ys
 |_,_=>[]
noncomputable def mO:Nat->List Dat->List Dat
 |_,[]=>[]
 |k,x::xs=>.tup [.int k,x]::mO (k+1) xs
noncomputable def oW(f:Dat->Option g_):List Dat->Option (List Dat×Bool)
 |[]=>a_ ([],c_)
 | d::ds=>(f d).bind λo=>(oW f ds).map λr=>match o with
   |some y=>(y.1::r.1,(y.2 || im y.1) && r.2)
   |none=>r
noncomputable def wI:Nat->List Dat->eM->eM
 |_,[],ρ=>ρ
 |k,d::ds,ρ=>wI (k+1) ds (ρ.set k (a_ d))
noncomputable def DH(nt:Nat)(one:Bool)(d:Dat)(ρ:eM):Option eM:=match one with
 |true=>a_ (ρ.set 0 (a_ d))
 | false=>match d with
   |.tup ds=>if ds.length=nt then a_ (wI 0 ds ρ)else b_
   |_=>b_
noncomputable def dS(nt:Nat)(caps:List Nat)(ρ:eM):eM:=bI nt b_++caps.map λj=>(ρ[j]?).join
noncomputable def findD(d:Dat):List Dat->Nat->Option Nat
 |[],_=>b_
 |x::xs,k=>if nH x d=c_ then a_ k else findD d xs (k+1)
noncomputable def UD(f:aN->g_):Dat->List Dat->g_
 |.str x,[]=>f x
 |_,_=>b_
noncomputable def Q0(f:aN->aN->g_):Dat->List Dat->g_
 |.str x,[.str y]=>f x y
 |_,_=>b_
noncomputable def Wz(f:aN->List Dat->g_):Dat->List Dat->g_
 |.str x,[.lst ds]=>f x ds
 |_,_=>b_
noncomputable def QZ:Dat->List Dat->g_
 |.tup ds,[d]=>if fE 20 d && eh 20 ds then(findD d ds 0).map λk=>(.int k,d_)else b_
 |_,_=>b_
noncomputable def Q2:Dat->List Dat->g_
 | .dct ks vs,[k]=>(nF k).bind λk=>match jO k ks vs with
   |some d=>a_ (d,d_)
   |none=>a_ (.non,d_)
 |_,_=>b_
noncomputable def mL:SG->Dat->List Dat->g_
 |.join,a,l=>Wz (λx ds=>(oF ds).bind λys=>if(ys.map (·.length)).sum+ys.length * x.length<=1000000 then a_ (.str (rN x ys),d_)else b_) a l
 |.split,a,l=>Q0 (λx y=>if 0<y.length/\x.length<=1000000 then a_ (.lst ((PySem.Txt.split x y).map Dat.str),c_)else b_) a l
 |.upper,a,l=>UD (λx=>if x.length<=1000000 then a_ (.str (PySem.Txt.upper x),d_)else b_) a l
 |.lower,a,l=>UD (λx=>if x.length<=1000000 then a_ (.str (PySem.Txt.lower x),d_)else b_) a l
 |.find,a,l=>Q0 (λx y=>a_ (.int (rO x y),d_)) a l
 | .index,a,l=>Q0 (λx y=>match dv x y 0 x.length 1 with
   |i::_=>a_ (.int i,d_)
   |[]=>b_) a l
 |.count,a,l=>Q0 (λx y=>a_ (.int (PySem.Txt.count x y),d_)) a l
 |.startswith,a,l=>Q0 (λx y=>a_ (.bl (PySem.Txt.startswith x y),d_)) a l
 |.tindex,a,l=>QZ a l
 |.isalpha,a,l=>UD (λx=>a_ (.bl (PySem.Txt.isalpha x),d_)) a l
 |.get,a,l=>Q2 a l
noncomputable def insI{α:Type}(x:α)(i:Int)(xs:List α):List α:=xs.take (HT.fV xs.length 0 (a_ i))++x::xs.drop (HT.fV xs.length 0 (a_ i))
noncomputable def GQ{α:Type}(x:α)(i:Int)(xs:List α):Option (List α):=(JX xs.length i).map λk=>xs.set k x
noncomputable def uO:Dat->List Dat->Option Dat
 |.lst ds,[d]=>if ds.length<aD then a_ (.lst (ds++[d]))else b_
 |_,_=>b_
noncomputable def uM:Dat->List Dat->Option Dat
 | .lst ds,l=>match l with
   |[.lst es]=>if ds.length+es.length<=aD then a_ (.lst (ds++es))else b_
   |[.tup es]=>if ds.length+es.length<=aD then a_ (.lst (ds++es))else b_
   |_=>b_
 |_,_=>b_
noncomputable def uL:Dat->List Dat->Option Dat
 | .lst ds,l=>match l with
   |[.int i,d]=>if ds.length<aD/\-1000000<=i/\i<=1000000 then a_ (.lst (insI d i ds))else b_
   |_=>b_
 |_,_=>b_
noncomputable def uN:Dat->List Dat->Option Dat
 |.lst _,[]=>a_ (.lst [])
 |_,_=>b_
noncomputable def uJ:Dat->List Dat->Option Dat
 | .lst ds,l=>match l with
   |[d,.int i]=>if -1000000<=i/\i<=1000000 then(GQ d i ds).map .lst else b_
   |_=>b_
 | .dct ks vs,l=>match l with
   |[d,k]=>(nF k).bind λk=>if ks.length<aD/\HJ k ks=c_ then a_ (.dct (putD k d ks vs).1 (putD k d ks vs).2)else b_
   |_=>b_
 |_,_=>b_
noncomputable def uK:Dat->List Dat->Option Dat
 | .dct ks _,l=>match l with
   |[.bl c_,k]=>if ks.isEmpty=c_ then(zd k).map λk=>.dcn [k]else b_
   |_=>b_
 | .dcn ks,l=>match l with
   |[.bl c_,k]=>(zd k).bind λk=>if ks.length<aD/\k∉ks then a_ (.dcn (ks++[k]))else b_
   |_=>b_
 |_,_=>b_
noncomputable def ju:uq->Dat->List Dat->Option Dat
 |.app,a,l=>uO a l
 |.ext,a,l=>uM a l
 |.ins,a,l=>uL a l
 |.clr,a,l=>uN a l
 |.seti,a,l=>uJ a l
 |.dput,a,l=>uK a l
noncomputable abbrev Fs:=Nat->List Dat->g_
structure Ex where
 fv:List Nat
 ev:Fs->eM->g_
noncomputable def bw(C:Fs)(e:Ex)(ρ:eM):g_:=e.ev C ρ
noncomputable def hZ(C:Fs):List Ex->eM->Option (List Dat)
 |[],_=>a_ []
 |e::es,ρ=>(bw C e ρ).bind λx=>(hZ C es ρ).map λr=>x.1::r
noncomputable def lD(C:Fs):List Ex->eM->Option (List Dat×Bool)
 |[],_=>a_ ([],c_)
 |e::es,ρ=>(bw C e ρ).bind λx=>(lD C es ρ).map λr=>(x.1::r.1,(x.2 || im x.1) && r.2)
noncomputable def vU(C:Fs):List Ex->eM->Option Bool
 |[],_=>a_ c_
 |e::es,ρ=>(bw C e ρ).bind λx=>(iP x.1).bind λz=>if z=c_ then vU C es ρ else a_ d_
noncomputable def MQ(es:List Ex):List Nat:=es.flatMap (·.fv)
inductive Iw where
 |itv (a:Ex)|rng (es:List Ex)|zip (es:List Ex)|enu (a:Ex)
noncomputable def Yg:Iw->List Nat
 |.itv a=>a.fv
 |.rng _=>[]
 |.zip es=>MQ es
 |.enu a=>a.fv
noncomputable def Gc(ds:List Dat):Option (List Dat):=match ds with
 |[.lst xs,.lst ys]=>a_ (kc xs ys)
 |[.tup xs,.tup ys]=>a_ (kc xs ys)
 |[.lst xs,.tup ys]=>a_ (kc xs ys)
 |[.tup xs,.lst ys]=>a_ (kc xs ys)
 |_=>b_
noncomputable def xF(C:Fs)(it:Iw)(ρ:eM):Option (List Dat):=match it with
 |.itv a=>(bw C a ρ).bind λx=>iq x.1
 |.rng es=>(hZ C es ρ).bind Eh
 |.zip es=>(hZ C es ρ).bind Gc
 |.enu a=>(bw C a ρ).bind λx=>(TF x.1).map λxs=>mO 0 xs
noncomputable def Si(C:Fs)(ρ:eM):Option Ex->Option (Option Int)
 |none=>a_ b_
 |some e=>HA (bw C e ρ)
noncomputable def Wv:Dat->g_
 |.int i=>a_ (.int (-i),d_)
 |_=>b_
noncomputable def Sm(k:g_):Dat->g_
 |.bl b=>if b=c_ then k else a_ (.bl d_,d_)
 |_=>b_
noncomputable def Wt(k:g_):Dat->g_
 |.bl b=>if b=c_ then a_ (.bl c_,d_)else k
 |_=>b_
noncomputable def gD(C:Fs)(nt:Nat)(one:Bool)(ρ0:eM)(ifs:List Ex)(elt:Ex)(d:Dat):Option g_:=
 (DH nt one d ρ0).bind λρ1=>(vU C ifs ρ1).bind λb=>if b=c_ then(bw C elt ρ1).map a_ else a_ b_
namespace Ex
noncomputable def con(d:Dat):Ex:=⟨[],λ_ _=>a_ (d,d_)⟩
abbrev e_(i:Int):Ex:=con (.int i)
abbrev f_(x:aN):Ex:=con (.str x)
noncomputable def v(i:Nat):Ex:=⟨[i],λ_ ρ=>((ρ[i]?).join).map λd=>(d,d_)⟩
noncomputable def bin(o:OW)(a b:Ex):Ex:=⟨a.fv++b.fv,λC ρ=>(bw C a ρ).bind λx=>(bw C b ρ).bind λy=>gr o x.1 y.1⟩
noncomputable def neg(a:Ex):Ex:=⟨[],λC ρ=>(bw C a ρ).bind λx=>Wv x.1⟩
noncomputable def cmp(o:Fo)(a b:Ex):Ex:=⟨[],λC ρ=>(bw C a ρ).bind λx=>(bw C b ρ).bind λy=>(eV o x.1 y.1).map λr=>(.bl r,d_)⟩
noncomputable def Jk(o o':Fo)(a b c:Ex):Ex:=⟨[],λC ρ=>(bw C a ρ).bind λx=>(bw C b ρ).bind λy=>(eV o x.1 y.1).bind λr=>
 if r=c_ then(bw C c ρ).bind λz=>(eV o' y.1 z.1).map λr=>(.bl r,d_)else a_ (.bl d_,d_)⟩
noncomputable def and(a b:Ex):Ex:=⟨a.fv++b.fv,λC ρ=>(bw C a ρ).bind λx=>Sm (bw C b ρ) x.1⟩
noncomputable def or(a b:Ex):Ex:=⟨a.fv++b.fv,λC ρ=>(bw C a ρ).bind λx=>Wt (bw C b ρ) x.1⟩
noncomputable def not(a:Ex):Ex:=⟨[],λC ρ=>(bw C a ρ).bind λx=>(iP x.1).map λb=>(.bl (!b),d_)⟩
noncomputable def ite(c a b:Ex):Ex:=⟨c.fv++a.fv++b.fv,λC ρ=>(bw C c ρ).bind λx=>(iP x.1).bind λz=>if z=c_ then bw C a ρ else bw C b ρ⟩
noncomputable def tup(es:List Ex):Ex:=⟨MQ es,λC ρ=>(lD C es ρ).bind λx=>if x.1.length<=1000000 then a_ (.tup x.1,x.2)else b_⟩
noncomputable def lst(es:List Ex):Ex:=⟨MQ es,λC ρ=>(lD C es ρ).bind λx=>if x.1.length<=1000000 then a_ (.lst x.1,x.2)else b_⟩
noncomputable def ix(a b:Ex):Ex:=⟨a.fv++b.fv,λC ρ=>(bw C a ρ).bind λx=>(bw C b ρ).bind λy=>(EH x.1 y.1).map λd=>(d,d_)⟩
noncomputable def Xr(o:Option Ex):List Nat:=match o with
 |none=>[]
 |some e=>e.fv
noncomputable def sl(a:Ex)(lo hi:Option Ex):Ex:=⟨a.fv++Xr lo++Xr hi,λC ρ=>(bw C a ρ).bind λx=>(Si C ρ lo).bind λl=>(Si C ρ hi).bind λh=>Of x.1 l h⟩
noncomputable def call(f:Nat)(es:List Ex):Ex:=⟨MQ es,λC ρ=>(hZ C es ρ).bind λds=>C f ds⟩
noncomputable def blt(b:J3)(es:List Ex):Ex:=⟨MQ es,λC ρ=>(hZ C es ρ).bind λds=>dw b ds⟩
noncomputable def mM(m:SG)(o:Ex)(es:List Ex):Ex:=⟨o.fv++MQ es,λC ρ=>(bw C o ρ).bind λx=>(hZ C es ρ).bind λds=>mL m x.1 ds⟩
noncomputable def BO:Ex:=⟨[],λ_ _=>a_ (.dct [] [],c_)⟩
noncomputable def comp(nt:Nat)(one:Bool)(caps:List Nat)(it:Iw)(ifs:List Ex)(elt:Ex):Ex:=⟨caps++Yg it,λC ρ=>(xF C it ρ).bind λitems=>if items.length<=1000000 then
 (oW (gD C nt one (dS nt caps ρ) ifs elt) items).map λys=>(.lst ys.1,ys.2)else b_⟩
end Ex
noncomputable abbrev bQ:=List g_
inductive Out where
 |nx (ρ:bQ)|rt (d:Dat) (fr:Bool)|bk (ρ:bQ)|ct (ρ:bQ)
 |xc (c:Nat) (f:aN) (d:Dat)
noncomputable def rP(ρ:bQ):eM:=ρ.map λo=>match o with
 |some (d,d_)=>a_ d
 |_=>b_
noncomputable def full(ρ:bQ):eM:=ρ.map λo=>o.map (·.1)
noncomputable def o5(ρ:bQ):bQ:=ρ.map λo=>o.map λs=>(s.1,d_)
def AN(ρ:bQ):rP (o5 ρ)=full ρ:=by
 unfold rP o5 full;rw[br];exact pz λo _=>by cases o<;>rfl
noncomputable def kh(is:List Nat)(ρ:bQ):bQ:=is.foldl (λρ i=>ρ.modify i λo=>o.map λs=>(s.1,d_)) ρ
noncomputable def ou(C:Fs)(e:Ex)(ρ:bQ):Option (Dat×Bool×bQ):=(bw C e (full ρ)).bind λx=>if(im x.1 || x.2)=c_ then a_ (x.1,x.2,ρ)
 else(bw C e (rP (kh e.fv ρ))).map λy=>(y.1,y.2,kh e.fv ρ)
noncomputable def RK(C:Fs)(it:Iw)(ρ:bQ):Option (List Dat×bQ):=match it with
 |.itv a=>(ou C a ρ).bind λx=>(iq x.1).map λds=>(ds,x.2.2)
 |.rng es=>(xF C (.rng es) (full ρ)).map λds=>(ds,ρ)
 |.zip es=>(xF C (.zip es) (rP (kh (MQ es) ρ))).map λds=>(ds,kh (MQ es) ρ)
 |.enu a=>(xF C (.enu a) (rP (kh a.fv ρ))).map λds=>(ds,kh a.fv ρ)
noncomputable def nW:List Nat->List Dat->bQ->bQ
 |i::is,d::ds,ρ=>nW is ds (ρ.set i (a_ (d,d_)))
 |_,_,ρ=>ρ
noncomputable def eF(one:Bool)(ts:List Nat)(d:Dat)(ρ:bQ):Option bQ:=match one with
 | true=>match ts with
   |[i]=>a_ (ρ.set i (a_ (d,d_)))
   |_=>b_
 | false=>match d with
   |.tup ds=>if ds.length=ts.length then a_ (nW ts ds ρ)else b_
   |_=>b_
noncomputable def oE(k:bQ->Option Out):Out->Option Out
 |.nx ρ=>k ρ
 |.ct ρ=>k ρ
 |.bk ρ=>a_ (.nx ρ)
 |.rt d fr=>a_ (.rt d fr)
 |.xc c f d=>a_ (.xc c f d)
noncomputable def eL(bnd:Dat->bQ->Option bQ)(body:bQ->Option Out):List Dat->bQ->Option Out
 |[],ρ=>a_ (.nx ρ)
 |d::ds,ρ=>(bnd d ρ).bind λρ1=>(body ρ1).bind (oE (eL bnd body ds))
structure Sx where
 ex:Fs->bQ->Option Out
noncomputable def fH(C:Fs)(s:Sx)(ρ:bQ):Option Out:=s.ex C ρ
noncomputable def K4(k:bQ->Option Out):Out->Option Out
 |.nx ρ=>k ρ
 |o=>a_ o
noncomputable def bH(C:Fs):List Sx->bQ->Option Out
 |[],ρ=>a_ (.nx ρ)
 |s::ss,ρ=>(fH C s ρ).bind (K4 (bH C ss))
noncomputable def VV(ts:List Nat)(ρ:bQ):Dat->Option Out
 |.tup ds=>if ds.length=ts.length then a_ (.nx (nW ts ds ρ))else b_
 |_=>b_
noncomputable def Mf(op:uq)(i:Nat)(ρ:bQ)(ds:List Dat):g_->Option Out
 |some (d,c_)=>(ju op d ds).map λd'=>.nx (ρ.set i (a_ (d',c_)))
 |_=>b_
namespace Sx
noncomputable def set(i:Nat)(e:Ex):Sx:={ ex:=λC ρ=>(ou C e ρ).map λx=>.nx (x.2.2.set i (a_ (x.1,x.2.1 && !im x.1))) }
noncomputable def vo(ts:List Nat)(e:Ex):Sx:={ ex:=λC ρ=>(ou C e ρ).bind λx=>VV ts x.2.2 x.1 }
noncomputable def ret(e:Ex):Sx:={ ex:=λC ρ=>(bw C e (full ρ)).map λx=>.rt x.1 x.2 }
noncomputable def tu(i:Nat):Sx:={ ex:=λ_ ρ=>((ρ[i]?).join).map λx=>.rt x.1 x.2 }
noncomputable def pass:Sx:={ ex:=λ_ ρ=>a_ (.nx ρ) }
noncomputable def Kz:Sx:={ ex:=λ_ _=>b_ }
noncomputable def brk:Sx:={ ex:=λ_ ρ=>a_ (.bk ρ) }
noncomputable def ifs(c:Ex)(a b:List Sx):Sx:={ ex:=λC ρ=>(bw C c (full ρ)).bind λx=>(iP x.1).bind λz=>if z=c_ then bH C a ρ else bH C b ρ }
noncomputable def loop(one:Bool)(ts:List Nat)(it:Iw)(body:List Sx):Sx:={ ex:=λC ρ=>(RK C it ρ).bind λx=>eL (eF one ts) (bH C body) x.1 x.2 }
noncomputable def «mut» (op:uq)(i:Nat)(es:List Ex):Sx:={ ex:=λC ρ=>(lD C es (full ρ)).bind λx=>if x.2=c_ then Mf op i ρ x.1 (ρ[i]?).join else b_ }
end Sx
noncomputable def vT:Dat->Option V
 |.int i=>a_ (.int i)
 |.str x=>a_ (.str x)
 |_=>b_
noncomputable def t6:Dat->Option Out
 | .tup l=>match l with
   |[.int c,.str f,d]=>a_ (.xc c.toNat f d)
   |_=>b_
 |_=>b_
noncomputable def We(c:Nat)(f:aN)(d:Dat):Option Out:=(vT d).map λ_=>.xc c f d
noncomputable def pM:Nat:=1000
noncomputable def Sx.yj(c:Nat)(f:aN)(e:Ex):Sx:={ ex:=λC ρ=>(bw C e (full ρ)).bind λx=>We c f x.1 }
noncomputable def Sx.MV(j:Nat)(es:List Ex):Sx:={ ex:=λC ρ=>match bw C (.call j es) (full ρ)with
 |some _=>a_ (.nx ρ)
 |none=>(bw C (.call (j+pM) es) (full ρ)).bind λx=>t6 x.1 }
noncomputable def Sx.TL(j:Nat)(es:List Ex):Sx:={ ex:=λC ρ=>match bw C (.call j es) (full ρ)with
 |some x=>a_ (.rt x.1 x.2)
 |none=>(bw C (.call (j+pM) es) (full ρ)).bind λx=>t6 x.1 }
noncomputable def WY:Out->g_
 |.xc c f d=>a_ (.tup [.int c,.str f,d],d_)
 |_=>b_
noncomputable def RO:Out->g_
 |.nx _=>a_ (.non,d_)
 |.rt d fr=>a_ (d,fr)
 |_=>b_
noncomputable def uT(C:Fs)(np nl:Nat)(body:List Sx)(ds:List Dat):g_:=
 if ds.length=np then(bH C body (ds.map (λd=>a_ (d,d_))++bI (nl - np) b_)).bind RO else b_
noncomputable def IX(C:Fs)(np nl:Nat)(body:List Sx)(ds:List Dat):g_:=
 if ds.length=np then(bH C body (ds.map (λd=>a_ (d,d_))++bI (nl - np) b_)).bind WY else b_
noncomputable def gE(K:Fg)(C:Fs)(x:Ex):TE:=λσ H Q=>∃ρ d fr,bw C x ρ=a_ (d,fr)/\tE K ρ d fr σ H Q
noncomputable def gA(K:Fg)(C:Fs)(xs:List Ex):TA:=λσ H Q=>∃ρ ds,hZ C xs ρ=a_ ds/\X7 K ρ ds σ H Q
noncomputable def gF(K:Fg)(C:Fs)(xs:List Ex):TA:=λσ H Q=>∃ρ ds al,lD C xs ρ=a_ (ds,al)/\X6 K ρ ds al σ H Q
noncomputable def gT(K:Fg)(C:Fs)(x:Ex):TT:=λσ H Q=>∃ρ d fr b,bw C x ρ=a_ (d,fr)/\iP d=a_ b/\tT K ρ b σ H Q
abbrev SE(X:Cx)(C:Fs)(e:aF)(x:Ex):Prop:=PE X e (gE X.K C x)
abbrev SA(X:Cx)(C:Fs)(es:List aF)(xs:List Ex):Prop:=PA X es (gA X.K C xs)
abbrev SF(X:Cx)(C:Fs)(es:List aF)(xs:List Ex):Prop:=PA X es (gF X.K C xs)
abbrev ST(X:Cx)(C:Fs)(e:aF)(x:Ex):Prop:=PT X e (gT X.K C x)
noncomputable def gB(K:Fg)(f:Dat->Dat->g_):R2:=λx y H Q=>∃da db d fr,f da db=a_ (d,fr)/\rD K da db d fr x y H Q
def gL(K:Fg)(f:List Dat->g_):List V->Hp->VK->Prop:=λxs H Q=>∃ds d fr,f ds=a_ (d,fr)/\X9 K ds d fr xs H Q
section
variable{X:Cx}{C:Fs}{a b c e:aF}{xa xb xc:Ex}{pos:dZ}{es:List aF}{xs:List Ex}
def aV{K:Fg}{H H':Hp}{d:Dat}{v:V}:(d_=c_->fJ K H H' d v):=λh=>nomatch h
def Py(i:Nat){x:aN}(hN:X.N[i]?=a_ x)(hv:JF X.env.scope x)(hd:(x == ("__debug__":aN))=d_)
  (hcd:(x == ("__classdict__":aN))=d_):SE X C (.Name x pos) (.v i):=
 PE.imp (nv hN hv hd hcd) λσ H Q z3=>by
  obtain⟨ρ,d,fr,h,F,g,R,k⟩:=z3;obtain⟨d',h1,h2⟩:=dJ h;cases h2
  have h1':ρ[i]?=a_ (a_ d):=by
   cases q:ρ[i]? with
   |none=>rw[q]at h1;cases h1
   |some z=>rw[q]at h1;exact congrArg a_ h1
  obtain⟨v,e1,r⟩:=R i d h1';exact⟨v,e1,k v F H (Step.refl g) r aV⟩
def sU{d:Dat}{v:V}(h:PE X e (tC v))(hd:∀F,Rep X.K F d v):SE X C e (.con d):=
 PE.imp h λσ H Q z3=>by
  obtain⟨ρ,d',fr,h,F,g,R,k⟩:=z3;cases h;exact k v F H (Step.refl g) (hd _) aV
def PN{i:Int}{j}:SE X C (.Constant (.int i) j pos) (.con (.int i)):=sU Hv λ_=>rfl
def GX{b:Bool}{j}:SE X C (.Constant (.bool b) j pos) (.con (.bl b)):=sU Um λ_=>rfl
def PD{j}:SE X C (.Constant .none j pos) (.con .non):=sU Qp λ_=>rfl
def PC{x:aN}{j}:SE X C (.Constant (.str x) j pos) (.con (.str x)):=sU Qn λ_=>rfl
def Ld{x:aN}{d:Dat}{v:V}{u:aa}(hg:Gl X x)(hm:X.mg x=a_ u)(r:RelV v u)(hd':∀F,Rep X.K F d v)(hd:(x == ("__debug__":aN))=d_):SE X C (.Name x pos) (.con d):=sU (wQ hg hm r hd) hd'
def Aj{α β γ:Type}{o:Option α}{o':Option β}{f:α->β->Option γ}{z:γ}(h:(o.bind λx=>o'.bind λy=>f x y)=a_ z):∃x y,o=a_ x/\o'=a_ y/\f x y=a_ z:=by
 obtain⟨x,h1,h⟩:=bV h;obtain⟨y,h2,h⟩:=bV h;exact⟨x,y,h1,h2,h⟩
def wz{f:Dat->Dat->g_}{x:Ex}(hev:∀ρ d fr,bw C x ρ=a_ (d,fr)->∃p q,bw C xa ρ=a_ p/\bw C xb ρ=a_ q/\f p.1 q.1=a_ (d,fr)) :
  ∀σ H Q,gE X.K C x σ H Q->O5 (gB X.K f) (gE X.K C xa) (gE X.K C xb) σ H Q:=λσ H Q z3=>by
 obtain⟨ρ,d,fr,h,F,g,R,k⟩:=z3;obtain⟨⟨da,fa⟩,⟨db,fb⟩,h1,h2,h3⟩:=hev ρ d fr h;refine⟨ρ,da,fa,h1,F,g,R,λv F1 H1 st1 r1 _=>⟨ρ,db,fb,h2,F1,st1.good,R.mono st1.ff,λw F2 H2 st2 r2 _=>?_⟩⟩;exact⟨da,db,d,fr,h3,F2,st2.good,r1.mono st2.ff,r2,λu F3 H3 st3 r3 f3=>k u F3 H3 ((st1.trans st2).trans st3) r3 λz=>(f3 z).back (F:=F) (st1.hh.trans st2.hh)⟩
def PR{op:uy}{o:OW}(ho:ie X (binaryOp op) (gB X.K (gr o)))(ha:SE X C a xa)(hb:SE X C b xb):SE X C (.BinOp a op b pos) (.bin o xa xb):=
 PE.imp (Ul ho ha hb) (wz λρ d fr h=>by
  exact Aj h)
noncomputable def lT(o:Fo)(x y:Dat):g_:=(eV o x y).map λr=>(.bl r,d_)
def PQ{op:pq}{o:Fo}(ho:ie X (compareOp op) (gB X.K (lT o)))(ha:SE X C a xa)(hb:SE X C b xb)(hm:behindInMarks op b=d_):SE X C (.Compare a [op] [b] pos) (.cmp o xa xb):=
 PE.imp (LG ho ha hb hm) (wz λρ d fr h=>by
  exact Aj h)
def Pa{op:pq}{o:Fo}(ho:ie X (compareOp op) (gB X.K (lT o)))(ha:SE X C a xa)(hb:SE X C b xb)(hm:behindInMarks op b=d_):ST X C (.Compare a [op] [b] pos) (.cmp o xa xb):=
 PT.imp (Ly ho ha hb hm) λσ H Q z3=>by
  obtain⟨ρ,d,fr,b,h,hb,F,g,R,k⟩:=z3
  refine wz (X:=X) (x:=.cmp o xa xb) (f:=lT o) (λρ d fr h=>by
   exact Aj h) σ H _ ⟨ρ,d,fr,h,F,g,R,λv F1 H1 st r _=>?_⟩
  obtain⟨p,q,_,_,h3⟩:=Aj h;obtain⟨z,_,h4⟩:=dJ h3;cases h4;cases hb;exact⟨_,r,k F1 H1 st⟩
def TK(hr:Tc X (gB X.K λx y=>(EH x y).map λd=>(d,d_)))(ha:SE X C a xa)(hb:SE X C b xb)(hs:xW b):SE X C (.Subscript a b pos) (.ix xa xb):=
 PE.imp (Oo hr ha hb hs) (wz λρ d fr h=>by
  exact Aj h)
def PF(ha:SE X C a xa):SE X C (.UnaryOp .USub a pos) (.neg xa):=
 PE.imp (Uh O1 ha) λσ H Q z3=>by
  obtain⟨ρ,d,fr,h,F,g,R,k⟩:=z3;obtain⟨⟨da,fa⟩,h1,h⟩:=bV h;refine⟨ρ,da,fa,h1,F,g,R,λv F1 H1 st1 r1 _=>?_⟩
  cases da with
  |int i=>cases h;exact⟨i,r1,k _ F1 H1 st1 rfl aV⟩
  |_=>cases h
set_option tactic.hygienic true in
def Cf{K:Fg}{F H:Hp}{d:Dat}{v:V}{b:Bool}(g:Good F H)(r:Rep K F d v)(h:iP d=a_ b):Sr K v H b:=by
 cases d with
 |non=>rw[show v=.non from r];cases h;exact rfl
 |bl c=>rw[show v=.bl c from r];cases h;exact rfl
 |int i=>rw[show v=.int i from r];cases h;exact rfl
 |str x=>
   rw[show v=.str x from r];simp only[iP]at h;split at h
   ·rename_i hz;cases h;exact⟨hz,rfl⟩
   ·cases h
 |tup ds=>
   obtain⟨p,vs,rfl,t,r⟩:=r;cases h
   have e:(!ds.isEmpty)=!vs.isEmpty:=by
    have:=r.length
    cases ds<;>cases vs<;>first|rfl|cases this
   rw[e];exact .inr (.inl ⟨vs,(t.mono g.sub).sq,rfl⟩)
 |lst ds=>
   obtain⟨p,vs,rfl,t,r⟩:=r;cases h
   have e:(!ds.isEmpty)=!vs.isEmpty:=by
    have:=r.length
    cases ds<;>cases vs<;>first|rfl|cases this
   rw[e];exact .inl ⟨vs,g.sub.seq t,rfl⟩
 |dcn _=>cases h
 |exc _ _ _=>cases h
 |dct ks ds=>
   obtain⟨p,k_,rfl,t,kk,r⟩:=r;cases h
   have e:(!ks.isEmpty)=!k_.isEmpty:=by
    rw[<-kk];cases k_<;>rfl
   rw[e];exact .inr (.inr ⟨k_,g.sub _ _ t,rfl⟩)
def kC(h:SE X C e xa)(he:∀whole,isTrue e X.env whole=(do let v <-whole;standAt e.pos;holding [v] (truthy v)):=by intro _;rfl):ST X C e xa:=
 PT.imp (He h he) λσ H Q ⟨ρ,d,fr,b,h,hb,F,g,R,k⟩=>⟨ρ,d,fr,h,F,g,R,λv F1 H1 st1 r1 _=>⟨b,Cf st1.good r1 hb,k F1 H1 st1⟩⟩
abbrev SW(X:Cx)(C:Fs)(e:aF)(x:Ex):Prop:=PW X e (gT X.K C x)
def Kw(ha:ST X C a xa):SW X C (.BoolOp .And [a] pos) xa:=Lv ha
def O7(ha:ST X C a xa):SW X C (.BoolOp .Or [a] pos) xa:=Qe ha
def PW.imp{t t':TT}(h:PW X e t)(f:∀σ H Q,t' σ H Q->t σ H Q):PW X e t':=λwh h_ s σ H Q I q=>h wh h_ s σ H Q I (f _ _ _ q)
def O8{rest:List aF}(ha:ST X C a xa)(hb:SW X C (.BoolOp .And (b::rest) pos) xb):SW X C (.BoolOp .And (a::b::rest) pos) (.and xa xb):=
 PW.imp (Qf ha hb) λσ H Q z3=>by
  obtain⟨ρ,d,fr,z,h,hz,F,g,R,k⟩:=z3;obtain⟨⟨da,fa⟩,h1,h⟩:=bV h
  cases da with
  |bl c=>
    cases c with
    |true=>exact⟨ρ,_,fa,c_,h1,rfl,F,g,R,λF1 H1 st1=>by
      refine BF ?_
      exact⟨ρ,d,fr,z,h,hz,F1,st1.good,R.mono st1.ff,λF2 H2 st2=>k F2 H2 (st1.trans st2)⟩⟩
    |false=>
      cases h;cases hz
      exact⟨ρ,_,fa,d_,h1,rfl,F,g,R,λF1 H1 st1=>by
       refine BG ?_
       exact k F1 H1 st1⟩
  |_=>cases h
def Tu{rest:List aF}(ha:ST X C a xa)(hb:SW X C (.BoolOp .Or (b::rest) pos) xb):SW X C (.BoolOp .Or (a::b::rest) pos) (.or xa xb):=
 PW.imp (Ua ha hb) λσ H Q z3=>by
  obtain⟨ρ,d,fr,z,h,hz,F,g,R,k⟩:=z3;obtain⟨⟨da,fa⟩,h1,h⟩:=bV h
  cases da with
  |bl c=>
    cases c with
    |false=>exact⟨ρ,_,fa,d_,h1,rfl,F,g,R,λF1 H1 st1=>by
      refine BG ?_
      exact⟨ρ,d,fr,z,h,hz,F1,st1.good,R.mono st1.ff,λF2 H2 st2=>k F2 H2 (st1.trans st2)⟩⟩
    |true=>
      cases h;cases hz
      exact⟨ρ,_,fa,c_,h1,rfl,F,g,R,λF1 H1 st1=>by
       refine BF ?_
       exact k F1 H1 st1⟩
  |_=>cases h
def O9(ha:ST X C a xa):ST X C (.UnaryOp .Not a pos) (.not xa):=
 PT.imp (Qh ha) λσ H Q z3=>by
  obtain⟨ρ,d,fr,z,h,hz,F,g,R,k⟩:=z3;obtain⟨⟨da,fa⟩,h1,h⟩:=bV h;obtain⟨b',hb,h⟩:=dJ h;cases h;cases hz;exact⟨ρ,da,fa,b',h1,hb,F,g,R,k⟩
def CA{op}(ha:SE X C a xa):SE X C (.BoolOp op [a] pos) xa:=Qo ha
def PV{rest:List aF}(ha:SE X C a xa)(hb:SE X C (.BoolOp .And (b::rest) pos) xb):SE X C (.BoolOp .And (a::b::rest) pos) (.and xa xb):=
 PE.imp (Qt ha hb) λσ H Q z3=>by
  obtain⟨ρ,d,fr,h,F,g,R,k⟩:=z3;obtain⟨⟨da,fa⟩,h1,h⟩:=bV h
  cases da with
  |bl c=>
    refine⟨ρ,_,fa,h1,F,g,R,λv F1 H1 st1 r1 _=>⟨c,r1,?_⟩⟩
    cases c with
    |true=>
      refine BF ?_;exact⟨ρ,d,fr,h,F1,st1.good,R.mono st1.ff,λv F2 H2 st2 r2 f2=>k v F2 H2 (st1.trans st2) r2 λz=>(f2 z).back (F:=F) st1.hh⟩
    |false=>
      cases h;exact BG (k _ F1 H1 st1 rfl aV)
  |_=>cases h
def TJ{rest:List aF}(ha:SE X C a xa)(hb:SE X C (.BoolOp .Or (b::rest) pos) xb):SE X C (.BoolOp .Or (a::b::rest) pos) (.or xa xb):=
 PE.imp (Uk ha hb) λσ H Q z3=>by
  obtain⟨ρ,d,fr,h,F,g,R,k⟩:=z3;obtain⟨⟨da,fa⟩,h1,h⟩:=bV h
  cases da with
  |bl c=>
    refine⟨ρ,_,fa,h1,F,g,R,λv F1 H1 st1 r1 _=>⟨c,r1,?_⟩⟩
    cases c with
    |false=>
      refine BG ?_;exact⟨ρ,d,fr,h,F1,st1.good,R.mono st1.ff,λv F2 H2 st2 r2 f2=>k v F2 H2 (st1.trans st2) r2 λz=>(f2 z).back (F:=F) st1.hh⟩
    |true=>
      cases h;exact BF (k _ F1 H1 st1 rfl aV)
  |_=>cases h
def PJ{cnd:aF}(hc:ST X C cnd xc)(ha:SE X C a xa)(hb:SE X C b xb):SE X C (.IfExp cnd a b pos) (.ite xc xa xb):=
 PE.imp (Hw hc ha hb) λσ H Q z3=>by
  obtain⟨ρ,d,fr,h,F,g,R,k⟩:=z3;obtain⟨⟨da,fa⟩,h1,h⟩:=bV h;obtain⟨z,hz,h⟩:=bV h;refine⟨ρ,da,fa,z,h1,hz,F,g,R,λF1 H1 st1=>?_⟩
  cases z with
  |true=>
    refine BF ?_;exact⟨ρ,d,fr,h,F1,st1.good,R.mono st1.ff,λv F2 H2 st2 r2 f2=>k v F2 H2 (st1.trans st2) r2 λz=>(f2 z).back (F:=F) st1.hh⟩
  |false=>
    refine BG ?_;exact⟨ρ,d,fr,h,F1,st1.good,R.mono st1.ff,λv F2 H2 st2 r2 f2=>k v F2 H2 (st1.trans st2) r2 λz=>(f2 z).back (F:=F) st1.hh⟩
def kE:SA X C [] []:=PA.imp qD λσ H Q z3=>by
 obtain⟨ρ,ds,h,F,g,R,k⟩:=z3;simp only[hZ]at h;cases h;exact k [] F H (Step.refl g) rfl
def fM(ha:SE X C e xa)(hr:SA X C es xs)(hs:aI (e::es) X.env=(d_,eval e X.env)::aI es X.env):SA X C (e::es) (xa::xs):=
 PA.imp (kd ha hr hs) λσ H Q z3=>by
  obtain⟨ρ,ds,h,F,g,R,k⟩:=z3;simp only[hZ]at h;obtain⟨⟨d,fr⟩,h1,h⟩:=bV h;obtain⟨r,h2,h⟩:=dJ h;cases h;exact⟨ρ,d,fr,h1,F,g,R,λv F1 H1 st1 r1 _=>⟨ρ,r,h2,F1,st1.good,R.mono st1.ff,λvs F2 H2 st2 r2=>k _ F2 H2 (st1.trans st2) ⟨v,vs,rfl,r1.mono st2.ff,r2⟩⟩⟩
def p6{n:Nat}(h:n<=1000000):n<=aD:=by rw[bT];omega
def Pw:SF X C [] []:=PA.imp qD λσ H Q z3=>by
 obtain⟨ρ,ds,al,h,F,g,R,k⟩:=z3;simp only[lD]at h;cases h;exact k [] F H (Step.refl g) rfl λ_=>⟨[],ji,(λa z=>by cases z),rfl,rfl⟩
def KW(ha:SE X C e xa)(hr:SF X C es xs)(hs:aI (e::es) X.env=(d_,eval e X.env)::aI es X.env):SF X C (e::es) (xa::xs):=
 PA.imp (kd ha hr hs) λσ H Q z3=>by
  obtain⟨ρ,ds,al,h,F,g,R,k⟩:=z3;simp only[lD]at h;obtain⟨⟨d,fr⟩,h1,h⟩:=bV h;obtain⟨⟨r,ar⟩,h2,h⟩:=dJ h;cases h;refine⟨ρ,d,fr,h1,F,g,R,λv F1 H1 st1 r1 f1=>⟨ρ,r,ar,h2,F1,st1.good,R.mono st1.ff,λvs F2 H2 st2 r2 f2=>k _ F2 H2 (st1.trans st2) ⟨v,vs,rfl,r1.mono st2.ff,r2⟩ λz=>?_⟩⟩;simp only[aq,m4]at z;refine eO.cons st1.hh st2.hh ?_ (f2 z.2)
  rcases z.1 with z1|z1
  ·exact f1 z1
  ·exact .jL st1.good z1 r1
set_option tactic.hygienic true
def PB{x1}(h:SF X C es xs):SE X C (.Tuple es x1 pos) (.tup xs):=
 PE.imp (Ht h) λσ H Q z3=>by
  obtain⟨ρ,d,fr,h,F,g,R,k⟩:=z3;obtain⟨⟨ds,al⟩,h1,h⟩:=bV h;dsimp only at h;split at h
  ·rename_i hz;cases h;refine⟨ρ,ds,_,h1,F,g,R,λvs F1 H1 st1 r1 f1=>⟨by rw[r1.length];exact p6 hz,λp hp=>?_⟩⟩;exact k _ _ _ (st1.trans (Step.alloc st1.good hp)) ⟨p,vs,rfl,.inl bu,r1.mono (bS.upd (st1.good.sub.free hp))⟩ λz=>.tup hp (f1 z)
  ·cases h
def PH(h:SF X C es xs):SE X C (.List es pos) (.lst xs):=
 PE.imp (Qq h) λσ H Q z3=>by
  obtain⟨ρ,d,fr,h,F,g,R,k⟩:=z3;obtain⟨⟨ds,al⟩,h1,h⟩:=bV h;dsimp only at h;split at h
  ·rename_i hz;cases h;refine⟨ρ,ds,_,h1,F,g,R,λvs F1 H1 st1 r1 f1=>⟨by rw[r1.length];exact p6 hz,λp hp=>?_⟩⟩;have r2:=r1.mono (bS.upd (o:=.lst vs) (st1.good.sub.free hp));exact k _ _ _ (st1.trans (Step.alloc st1.good hp)) ⟨p,vs,rfl,.inl (.inl bu),r2⟩ λz=>.lst st1.hh hp (f1 z)
  ·cases h
set_option tactic.hygienic false
noncomputable def SM(K:Fg)(n:Nat)(f:List Dat->g_):Sp:=λvs H Q _=>vs.length=n/\gL K f vs H Q
def qf{f:List Dat->g_}{x:Ex}(hev:∀ρ d fr,bw C x ρ=a_ (d,fr)->∃ds,hZ C xs ρ=a_ ds/\f ds=a_ (d,fr)) :
  ∀σ H Q,gE X.K C x σ H Q->V8 (gL X.K f) (gA X.K C xs) σ H Q:=λσ H Q z3=>by
 obtain⟨ρ,d,fr,h,F,g,R,k⟩:=z3;obtain⟨ds,h1,h2⟩:=hev ρ d fr h;refine⟨ρ,ds,h1,F,g,R,λvs F1 H1 st1 r1=>⟨ds,d,fr,h2,F1,st1.good,r1,λv F2 H2 st2 r2 f2=>k v F2 H2 (st1.trans st2) r2 λz=>(f2 z).back (F:=F) st1.hh⟩⟩
theorem kK:∀{xs:List Ex}{ρ:eM}{ds:List Dat},hZ C xs ρ=a_ ds->ds.length=xs.length
 |[],ρ,ds,h=>by simp only[hZ]at h;cases h;rfl
 |x::xs,ρ,ds,h=>by
   simp only[hZ]at h;obtain⟨d,_,h⟩:=bV h;obtain⟨r,h2,h⟩:=dJ h;cases h;rw[aQ,aQ,kK h2]
def Lg{k:Nat}{f:af}{fd:cx}{ps:List aN}{x:aN}{p:dZ}(j n:Nat)(G:iX X.prog X.w X.K X.mg X.base DR k f fd ps (SM X.K n (C j)))(hr:iJ k X.A)(hg:Gl X x)(hm:X.mg x=a_ (.ref f))(hk:cX X.K (.ref f)=c_)(hb:Binds X.K fd ps [])
  (ha:SA X C (e::es) (xa::xs))(hn:(xa::xs).length=n)(hdb:(x == ("__debug__":aN))=d_)(he:aI (e::es) X.env=(d_,eval e X.env)::aI es X.env)(hpl:(backTo pos (aI es X.env)).any (·.1)=d_) :
  SE X C (.Call (.Name x p) (e::es) [] pos) (.call j (xa::xs)):=
 PE.imp (wR G hr hg hm hk hb .nil Oq ha hdb he hpl) λσ H Q h=>by
  have h':=qf (X:=X) (xs:=xa::xs) (f:=C j) (x:=.call j (xa::xs)) (λρ d fr h=>by
   exact bV h) σ H Q h
  obtain⟨ρ,ds,h1,F,g,R,k⟩:=h';refine⟨ρ,ds,h1,F,g,R,λvs F1 H1 st1 r1=>?_⟩;show SM X.K n (C j) (vs++[]) H1 Q E0;rw[bN];exact⟨by rw[r1.length,kK h1,hn],k vs F1 H1 st1 r1⟩
def wN{x:aN}{p:dZ}{id:String}{bt:J3}(hc:ig X (.builtin id) (gL X.K (dw bt)))(hg:Gl X x)(hm:X.mg x=b_)(hv:bootBuiltins x=a_ (.builtin id))(ha:SA X C (e::es) xs)(hn:x≠"__name__")(hdb:(x == ("__debug__":aN))=d_)
  (he:aI (e::es) X.env=(d_,eval e X.env)::aI es X.env)(hpl:(backTo pos (aI es X.env)).any (·.1)=d_):SE X C (.Call (.Name x p) (e::es) [] pos) (.blt bt xs):=
 PE.imp (ny hc hg hm hv ha hn hdb he hpl) (qf λρ d fr h=>by
  exact bV h)
def wM{x:aN}{p:dZ}{T:String}{bt:J3}(hc:ig X (.type T) (gL X.K (dw bt)))(hg:Gl X x)(hm:X.mg x=b_)(hv:bootBuiltins x=a_ (.type T))(ha:SA X C (e::es) xs)(hn:x≠"__name__")(hdb:(x == ("__debug__":aN))=d_)
  (he:aI (e::es) X.env=(d_,eval e X.env)::aI es X.env)(hpl:(backTo pos (aI es X.env)).any (·.1)=d_):SE X C (.Call (.Name x p) (e::es) [] pos) (.blt bt xs):=
 PE.imp (En hc hg hm hv ha hn hdb he hpl) (qf λρ d fr h=>by
  exact bV h)
end
section
variable{X:Cx}{C:Fs}{a b c e:aF}{xa xb xc:Ex}{pos:dZ}{es:List aF}{xs:List Ex}{h_:List (af×er)}{σ:St}{F H:Hp}{s:ae}
theorem nV:∀{n:Nat}{ds:List Dat}{j:Nat}{d:Dat},eh n ds=c_->ds[j]?=a_ d->fE n d=c_
 |_,[],_,_,_,e=>by simp at e
 |n,x::xs,0,d,h,e=>by
   simp only[eh,aq]at h;simp at e;subst e;exact h.1
 |n,x::xs,j+1,d,h,e=>by
   simp only[eh,aq]at h;exact nV h.2 (by simpa using e)
theorem o8:∀xs ys:List Dat,kX xs ys=((aR (min xs.length ys.length)).all (λj=>nH (xs.getD j .non) (ys.getD j .non)) && xs.length == ys.length)
 |[],[]=>by simp[kX]
 |[],y::ys=>by simp[kX]
 |x::xs,[]=>by simp[kX]
 |x::xs,y::ys=>by
   have h:=o8 xs ys;simp only[kX,aQ,Nat.succ_min_succ,Nat.succ_eq_add_one];rw[h,mS,eQ,List.all_map];simp[Function.comp_def,N8]
def _root_.L2.Inv.lstR{a:af}{vs:List V}(I:Inv X h_ σ H s)(g:Good F H)(h:mB X.K F a vs):∃its:List aa,bZ vs its/\PlainL s.heap a its.toArray/\vs.length<=aD:=I.list (g.sub.seq h)
def _root_.L2.Inv.tupR{a:af}{vs:List V}(I:Inv X h_ σ H s)(g:Good F H)(h:Tq X.K F a vs):∃its:List aa,bZ vs its/\Kc s.heap a its.toArray/\vs.length<=aD:=I.tuple (h.mono g.sub).sq
def _root_.L2.Inv.noLT{a:af}{vs ws:List V}(I:Inv X h_ σ H s)(g:Good F H)(h:mB X.K F a vs)(h':Tq X.K F a ws):False:=by
 obtain⟨its,_,⟨o,n,e,c,_⟩,_⟩:=I.lstR g h;obtain⟨its',_,⟨o',e',c',_⟩,_⟩:=I.tupR g h';rw[e]at e';cases e';rw[c]at c'
 injection c' with z
 exact absurd z (by decide)
mutual
noncomputable def vD:Dat->Bool
 |.dct _ _=>d_
 |.dcn _=>d_
 |.exc _ _ _=>d_
 |.tup xs=>kH xs
 |.lst xs=>kH xs
 |_=>c_
noncomputable def kH:List Dat->Bool
 |[]=>c_
 |x::xs=>vD x && kH xs
end
mutual
theorem tF:∀(n:Nat)(d:Dat),fE n d=c_->vD d=c_
 |n,.non,_=>rfl
 |n,.bl _,_=>rfl
 |n,.int _,_=>rfl
 |n,.str _,_=>rfl
 |0,.tup _,h=>by simp[fE]at h
 |0,.lst _,h=>by simp[fE]at h
 |n+1,.tup xs,h=>qH n xs (by simpa [fE]using h)
 |n+1,.lst xs,h=>qH n xs (by simpa [fE]using h)
 |n,.dct _ _,h=>by cases n<;>simp[fE]at h
 |n,.dcn _,h=>by cases n<;>simp[fE]at h
 |n,.exc _ _ _,h=>by cases n<;>simp[fE]at h
theorem qH:∀(n:Nat)(ds:List Dat),eh n ds=c_->kH ds=c_
 |n,[],_=>rfl
 |n,d::ds,h=>by
   have h':fE n d=c_/\eh n ds=c_:=by cases n<;>simpa [eh]using h
   simp only[kH,tF n d h'.1,qH n ds h'.2,pL]
end
mutual
theorem yR(I:Inv X h_ σ H s)(g:Good F H):∀(da db:Dat){x:V},vD da=c_->vD db=c_->Rep X.K F da x->Rep X.K F db x->nH da db=c_
 |.non,db,x,na,nb,ra,rb=>by
   rw[show x=.non from ra]at rb
   cases db with
   |non=>rfl
   |tup _=>obtain⟨_,_,z,_⟩:=rb;cases z
   |lst _=>obtain⟨_,_,z,_⟩:=rb;cases z
   |dct _ _=>exact nomatch nb
   |dcn _=>exact nomatch nb
   |exc _ _ _=>exact nomatch nb
   |_=>cases rb
 |.bl b,db,x,na,nb,ra,rb=>by
   rw[show x=.bl b from ra]at rb
   cases db with
   |bl c=>cases rb;simp[nH]
   |tup _=>obtain⟨_,_,z,_⟩:=rb;cases z
   |lst _=>obtain⟨_,_,z,_⟩:=rb;cases z
   |dct _ _=>exact nomatch nb
   |dcn _=>exact nomatch nb
   |exc _ _ _=>exact nomatch nb
   |_=>cases rb
 |.int i,db,x,na,nb,ra,rb=>by
   rw[show x=.int i from ra]at rb
   cases db with
   |int c=>cases rb;simp[nH]
   |tup _=>obtain⟨_,_,z,_⟩:=rb;cases z
   |lst _=>obtain⟨_,_,z,_⟩:=rb;cases z
   |dct _ _=>exact nomatch nb
   |dcn _=>exact nomatch nb
   |exc _ _ _=>exact nomatch nb
   |_=>cases rb
 |.str i,db,x,na,nb,ra,rb=>by
   rw[show x=.str i from ra]at rb
   cases db with
   |str c=>cases rb;simp[nH]
   |tup _=>obtain⟨_,_,z,_⟩:=rb;cases z
   |lst _=>obtain⟨_,_,z,_⟩:=rb;cases z
   |dct _ _=>exact nomatch nb
   |dcn _=>exact nomatch nb
   |exc _ _ _=>exact nomatch nb
   |_=>cases rb
 |.dct _ _,_,_,na,_,_,_=>nomatch na
 |.dcn _,_,_,na,_,_,_=>nomatch na
 |.exc _ _ _,_,_,na,_,_,_=>nomatch na
 |.tup ds,db,x,na,nb,z5,rb=>by
   obtain⟨p,vs,e,t,r⟩:=z5;subst e
   cases db with
   |tup es=>
     obtain⟨q,us,e',t',r'⟩:=rb;cases e';have ev:vs=us:=I.nQ (t.mono g.sub).sq (t'.mono g.sub).sq;subst ev;simp only[nH];exact qz I g ds es na nb r r'
   |lst es=>
     obtain⟨q,us,e',t',r'⟩:=rb;cases e';exact(I.noLT g t' t).elim
   |dct _ _=>exact nomatch nb
   |dcn _=>exact nomatch nb
   |exc _ _ _=>exact nomatch nb
   |_=>cases rb
 |.lst ds,db,x,na,nb,z5,rb=>by
   obtain⟨p,vs,e,t,r⟩:=z5;subst e
   cases db with
   |lst es=>
     obtain⟨q,us,e',t',r'⟩:=rb;cases e';have ev:vs=us:=I.p5 (g.sub.seq t) (g.sub.seq t');subst ev;simp only[nH];exact qz I g ds es na nb r r'
   |tup es=>
     obtain⟨q,us,e',t',r'⟩:=rb;cases e';exact(I.noLT g t t').elim
   |dct _ _=>exact nomatch nb
   |dcn _=>exact nomatch nb
   |exc _ _ _=>exact nomatch nb
   |_=>cases rb
theorem qz(I:Inv X h_ σ H s)(g:Good F H):∀(ds es:List Dat){vs:List V},kH ds=c_->kH es=c_->cv X.K F ds vs->cv X.K F es vs->kX ds es=c_
 |[],es,vs,na,nb,h,h'=>by
   rw[show vs=[]from h]at h'
   cases es with
   |nil=>rfl
   |cons _ _=>obtain⟨_,_,z,_⟩:=h';cases z
 |d::ds,es,vs,na,nb,z5,h'=>by
   obtain⟨v,r,e,h1,h2⟩:=z5;subst e
   cases es with
   |nil=>exact nomatch (show v::r=[]from h')
   |cons f fs=>
     obtain⟨v',r',e',h1',h2'⟩:=h';cases e';simp only[kX,aq];have na':vD d=c_/\kH ds=c_:=by simpa [kH]using na
     have nb':vD f=c_/\kH fs=c_:=by simpa [kH]using nb
     exact⟨yR I g d f na'.1 nb'.1 h1 h1',qz I g ds fs na'.2 nb'.2 h2 h2'⟩
end
def Ce{vs:List V}{its:List aa}{j:Nat}(r:bZ vs its)(h:j<its.toArray.size):∃v,vs[j]?=a_ v/\RelV v its.toArray[j]:=by
 have hl:=r.length;have hj:j<vs.length:=by simp at h;omega
 obtain⟨u,q1,q2⟩:=r.get (au hj);refine⟨_,au hj,?_⟩
 have:its.toArray[j]=u:=by
  have h':j<its.length:=by simpa using h
  rw[oB];rw[au h']at q1;exact aP q1
 rw[this];exact q2
def QP{n c:Nat}{f:aN}{k:Key}(h:fE n (.exc c f k)=c_):False:=by
 cases n<;>simp[fE]at h
def QR{n:Nat}{ks:List (List NK)}(h:fE n (.dcn ks)=c_):False:=by
 cases n<;>simp[fE]at h
def QQ{n:Nat}{ks:List Key}{vs:List Dat}(h:fE n (.dct ks vs)=c_):False:=by
 cases n<;>simp[fE]at h
inductive Vw (s:ae):Dat->aa->Prop
 |non:Vw s .non .none
 |bl (b:Bool):Vw s (.bl b) (.bool b)
 |int (i:Int) (t:Tok):Vw s (.int i) (.int i t)
 |str (x:aN) (t:Tok):Vw s (.str x) (.str x t)
 |tup {ds:List Dat} {p:af} {its:Array aa}:s.heap.IsTuple p its->Vw s (.tup ds) (.ref p)
 |lst {ds:List Dat} {p:af} {its:Array aa}:s.heap.IsList p its->Vw s (.lst ds) (.ref p)
def vw(I:Inv X h_ σ H s)(g:Good F H){n:Nat}{da:Dat}{x:V}{u:aa}(sa:fE n da=c_)(ra:Rep X.K F da x)(rx:RelV x u):Vw s da u:=by
 cases da with
 |non=>cases ra;rw[show u=.none from rx];exact .non
 |bl b=>cases ra;rw[show u=.bool b from rx];exact .bl b
 |int i=>cases ra;obtain⟨t,rfl⟩:=rx;exact .int i t
 |str z=>cases ra;obtain⟨t,rfl⟩:=rx;exact .str z t
 |tup ds=>
   obtain⟨p,vs,rfl,t,r⟩:=ra;obtain⟨its,w1,pl,_⟩:=I.tupR g t;rw[show u=.ref p from rx];exact .tup pl
 |lst ds=>
   obtain⟨p,vs,rfl,t,r⟩:=ra;obtain⟨its,w1,pl,_⟩:=I.lstR g t;rw[show u=.ref p from rx];exact .lst pl.isList
 |dct _ _=>exact(QQ sa).elim
 |dcn _=>exact(QR sa).elim
 |exc _ _ _=>exact(QP sa).elim
noncomputable def Yb:Dat->Bool
 |.tup _=>c_
 |_=>d_
noncomputable def Yc:Dat->Bool
 |.lst _=>c_
 |_=>d_
noncomputable def JE(a b:Dat):Bool:=match a with
 |.tup _=>Yb b
 |.lst _=>Yc b
 |_=>d_
def Xk(A:bp)(s:ae)(u w:aa)(b:Bool):Prop:=ux A s u w b/\DY A s u w b/\yr A s u w (!b)
def IZ{A:bp}{da db:Dat}{u w:aa}(hu:A.units<di)(a:Vw s da u)(b:Vw s db w)(h:JE da db=d_):Xk A s u w (nH da db):=by
 cases a with
 |non=>
   cases b with
   |non=>exact⟨.same _,.none_none,.none_none⟩
   |bl _=>exact⟨.none_bool _,.none_bool _,.none_bool _⟩
   |int _ _=>exact⟨.none_int _ _,.none_int _ _,.none_int _ _⟩
   |str _ _=>exact⟨.none_str _ _,.none_str _ _,.none_str _ _⟩
   |tup q=>exact⟨.none_tuple q hu,.none_tuple q hu,.none_tuple q hu⟩
   |lst q=>exact⟨.none_list q hu,.none_list q hu,.none_list q hu⟩
 |bl _=>
   cases b with
   |non=>exact⟨.bool_none _,.bool_none _,.bool_none _⟩
   |bl _=>exact⟨.bool_bool _ _,.bool_bool _ _,.bool_bool _ _⟩
   |int _ _=>exact⟨.bool_int _ _ _,.bool_int _ _ _,.bool_int _ _ _⟩
   |str _ _=>exact⟨.bool_str _ _ _,.bool_str _ _ _,.bool_str _ _ _⟩
   |tup q=>exact⟨.bool_tuple _ q hu,.bool_tuple _ q hu,.bool_tuple _ q hu⟩
   |lst q=>exact⟨.bool_list _ q hu,.bool_list _ q hu,.bool_list _ q hu⟩
 |int _ _=>
   cases b with
   |non=>exact⟨.int_none _ _,.int_none _ _,.int_none _ _⟩
   |bl _=>exact⟨.int_bool _ _ _,.int_bool _ _ _,.int_bool _ _ _⟩
   |int _ _=>exact⟨.int_int _ _ _ _,.int_int _ _ _ _,.int_int _ _ _ _⟩
   |str _ _=>exact⟨.int_str _ _ _ _,.int_str _ _ _ _,.int_str _ _ _ _⟩
   |tup q=>exact⟨.int_tuple _ _ q hu,.int_tuple _ _ q hu,.int_tuple _ _ q hu⟩
   |lst q=>exact⟨.int_list _ _ q hu,.int_list _ _ q hu,.int_list _ _ q hu⟩
 |str _ _=>
   cases b with
   |non=>exact⟨.str_none _ _,.str_none _ _,.str_none _ _⟩
   |bl _=>exact⟨.str_bool _ _ _,.str_bool _ _ _,.str_bool _ _ _⟩
   |int _ _=>exact⟨.str_int _ _ _ _,.str_int _ _ _ _,.str_int _ _ _ _⟩
   |str _ _=>exact⟨.str_str _ _ _ _,.str_str _ _ _ _,.str_str _ _ _ _⟩
   |tup q=>exact⟨.str_tuple _ _ q hu,.str_tuple _ _ q hu,.str_tuple _ _ q hu⟩
   |lst q=>exact⟨.str_list _ _ q hu,.str_list _ _ q hu,.str_list _ _ q hu⟩
 |tup p=>
   cases b with
   |non=>exact⟨.tuple_none p hu,.tuple_none p hu,.tuple_none p hu⟩
   |bl _=>exact⟨.tuple_bool _ p hu,.tuple_bool _ p hu,.tuple_bool _ p hu⟩
   |int _ _=>exact⟨.tuple_int _ _ p hu,.tuple_int _ _ p hu,.tuple_int _ _ p hu⟩
   |str _ _=>exact⟨.tuple_str _ _ p hu,.tuple_str _ _ p hu,.tuple_str _ _ p hu⟩
   |tup q=>cases h
   |lst q=>exact⟨.tuple_list p q hu,.tuple_list p q hu,.tuple_list p q hu⟩
 |lst p=>
   cases b with
   |non=>exact⟨.list_none p hu,.list_none p hu,.list_none p hu⟩
   |bl _=>exact⟨.list_bool _ p hu,.list_bool _ p hu,.list_bool _ p hu⟩
   |int _ _=>exact⟨.list_int _ _ p hu,.list_int _ _ p hu,.list_int _ _ p hu⟩
   |str _ _=>exact⟨.list_str _ _ p hu,.list_str _ _ p hu,.list_str _ _ p hu⟩
   |tup q=>exact⟨.list_tuple p q hu,.list_tuple p q hu,.list_tuple p q hu⟩
   |lst q=>cases h
def qb(I:Inv X h_ σ H s)(g:Good F H):∀(n:Nat) (A:bp) (da db:Dat) {x y:V} {u w:aa},A.units+n<di->fE n da=c_->fE n db=c_->Rep X.K F da x->Rep X.K F db y->RelV x u->RelV y w->
  Xk A s u w (nH da db):=by
 intro n
 induction n with
 |zero=>
   intro A da db x y u w hu sa sb ra rb rx ry;exact IZ hu (vw I g sa ra rx) (vw I g sb rb ry) (by cases da<;>first|rfl|(cases sa;done))
 |succ n ih=>
   intro A da db x y u w hu sa sb ra rb rx ry;have hu0:A.units<di:=by omega
   by_cases hk:JE da db=d_
   ·exact IZ hu0 (vw I g sa ra rx) (vw I g sb rb ry) hk
   have hu1:A.in1.units+n<di:=by show A.units+1+n<di;omega
   have items:∀{ds es:List Dat} {vs us:List V} {its j_:List aa},eh n ds=c_->eh n es=c_->cv X.K F ds vs->cv X.K F es us->bZ vs its->bZ us j_->
     (∀j(h1:j<its.toArray.size)(h2:j<j_.toArray.size),ux A.in1 s its.toArray[j] j_.toArray[j] (nH (ds.getD j .non) (es.getD j .non)))/\its.toArray.size=ds.length/\j_.toArray.size=es.length:=by
    intro ds es vs us its j_ s1 s2 r1 r2 w1 w2;refine⟨λj h1 h2=>?_,by rw[aH,<-w1.length,r1.length],by rw[aH,<-w2.length,r2.length]⟩;obtain⟨v,e1,q1⟩:=Ce w1 h1;obtain⟨v',e2,q2⟩:=Ce w2 h2;have l1:j<ds.length:=by have:=r1.length;have:=(a9.mp e1).1;omega
    have l2:j<es.length:=by have:=r2.length;have:=(a9.mp e2).1;omega
    obtain⟨z1,f1,p1⟩:=r1.get (au l1);obtain⟨z2,f2,p2⟩:=r2.get (au l2);rw[e1]at f1;cases f1;rw[e2]at f2;cases f2;have g1:ds.getD j .non=ds[j]:=by simp[List.getD,l1]
    have g2:es.getD j .non=es[j]:=by simp[List.getD,l2]
    rw[g1,g2];exact(ih A.in1 _ _ hu1 (nV s1 (au l1)) (nV s2 (au l2)) p1 p2 q1 q2).1
   have both:∀{p q:af},x=.ref p->y=.ref q->DY A s (.ref p) (.ref q) (nH da db)->yr A s (.ref p) (.ref q) (!nH da db)->Xk A s u w (nH da db):=by
    intro p q e1 e2 h h';subst e1 e2;obtain rfl:u=.ref p:=rx;obtain rfl:w=.ref q:=ry;refine⟨?_,h,h'⟩;by_cases hpq:p=q
    ·subst hpq;rw[yR I g da db (tF _ _ sa) (tF _ _ sb) ra rb];exact .same _
    ·exact .of_refs hpq h
   cases da with
   |tup ds=>
     cases db with
     |tup es=>
       obtain⟨p,vs,rfl,t,r⟩:=id ra;obtain⟨its,w1,pl,_⟩:=I.tupR g t;obtain⟨q,us,rfl,t',r'⟩:=id rb;obtain⟨j_,w2,pl2,_⟩:=I.tupR g t';obtain⟨hi,e1,e2⟩:=items sa sb r r' w1 w2;have h1:=SeqAt.RcAt.tuples pl pl2 hu0 hi;have h2:=SeqAt.RcNeAt.tuples pl pl2 hu0 hi;rw[e1,e2,<-o8]at h1 h2;exact both rfl rfl h1 h2
     |_=>exact absurd rfl hk
   |lst ds=>
     cases db with
     |lst es=>
       obtain⟨p,vs,rfl,t,r⟩:=id ra;obtain⟨its,w1,pl,_⟩:=I.lstR g t;obtain⟨q,us,rfl,t',r'⟩:=id rb;obtain⟨j_,w2,pl2,_⟩:=I.lstR g t';obtain⟨hi,e1,e2⟩:=items sa sb r r' w1 w2;have e:=o8 ds es;by_cases hsz:its.toArray.size=j_.toArray.size
       ·have h1:=SeqAt.RcAt.lists pl.isList pl2.isList hsz hu0 hi;have h2:=SeqAt.RcNeAt.lists pl.isList pl2.isList hsz hu0 hi;have e3:(ds.length == es.length)=c_:=by rw[<-e1,<-e2,hsz];exact beq_self_eq_true _
        rw[e3,bO,<-e1,<-e2,<-hsz,Nat.min_self]at e;rw[<-e]at h1 h2;exact both rfl rfl h1 h2
       ·have hz:(its.toArray.size != j_.toArray.size)=c_:=by simpa using hsz
        have h1:=SeqAt.RcAt.lists_lengths pl.isList pl2.isList hz hu0;have h2:=SeqAt.RcNeAt.lists_lengths pl.isList pl2.isList hz hu0;have e3:(ds.length == es.length)=d_:=by rw[<-e1,<-e2];simpa using hsz
        rw[e3,jk]at e;refine both rfl rfl ?_ ?_
        ·show DY _ _ _ _ (kX ds es);rw[e];exact h1
        ·show yr _ _ _ _ (!kX ds es);rw[e];exact h2
     |_=>exact absurd rfl hk
   |_=>exact absurd rfl hk
end
section
variable{X:Cx}{C:Fs}{a b c e:aF}{xa xb xc:Ex}{pos:dZ}{es:List aF}{xs:List Ex}{h_:List (af×er)}{σ:St}{F H:Hp}{s:ae}
def Cw{α β:Type}{a a':α}{b b':β}(h:a_ (a,b)=a_ (a',b')):a=a'/\b=b':=by cases h;exact⟨rfl,rfl⟩
def HH:ie X (binaryOp .Add) (λx y H Q=>∃a b ys,x=.ref a/\y=.ref b/\rL X.K H a []/\rL X.K H b ys/\Q (.ref b) H):=by
 intro h_ s σ H x y v u Q I rx ry h;obtain⟨a,b,ys,rfl,rfl,ha,hb,q⟩:=h;cases rx;cases ry;obtain⟨its,r1,p1,_⟩:=I.tuple ha;obtain⟨j_,r2,p2,_⟩:=I.tuple hb;cases r1;obtain⟨⟨cls,dd,data,sl⟩,ho,hc,n,hd⟩:=id p1;obtain⟨⟨cls2,dd2,data2,yi⟩,ho2,hc2,n2,hd2⟩:=id p2;simp only at hc hd hc2 hd2;subst hc hd hc2 hd2;exact uv ⟨_,ho,rfl⟩ ⟨_,ho2,rfl⟩ wg DU mj lG (lx _ _) (tuple_addW0 a b _ j_.toArray n n2 dd dd2 sl yi rfl) ⟨ho,ho2,.ref b,H,I,rfl,q⟩
set_option tactic.hygienic true
def LX:ie X (binaryOp .Add) (gB X.K (gr .add)):=by
 intro h_ s σ H x y v u Q I rx ry h;obtain⟨da,db,d,fr,h,F,g,ra,rb,k⟩:=h;cases da<;>cases db<;>simp only[gr,ym,xU,xT,reduceCtorEq]at h
 ·obtain⟨rfl,rfl⟩:=Cw h;exact QI h_ s σ H _ _ v u Q I rx ry ⟨_,_,ra,rb,k _ F H (Step.refl g) rfl aV⟩
 ·split at h
  ·rename_i hz;obtain⟨rfl,rfl⟩:=Cw h;exact Bq h_ s σ H _ _ v u Q I rx ry ⟨_,_,ra,rb,hz,k _ F H (Step.refl g) rfl aV⟩
  ·cases h
 ·split at h
  ·rename_i xs ys hz;obtain⟨rfl,rfl⟩:=Cw h;obtain⟨p,vs,rfl,t,r⟩:=ra;obtain⟨q,us,rfl,t',r'⟩:=rb;by_cases hv:vs=[]
   ·subst hv;have e:xs=[]:=sH r.length.symm;subst e;exact HH h_ s σ H _ _ v u Q I rx ry ⟨p,q,us,rfl,rfl,(t.mono g.sub).sq,(t'.mono g.sub).sq,k _ F H (Step.refl g) ⟨q,us,rfl,t',r'⟩ aV⟩
   refine LV h_ s σ H _ _ v u Q I rx ry ⟨p,q,vs,us,rfl,rfl,(t.mono g.sub).sq,(t'.mono g.sub).sq,hv,?_,?_,?_⟩
   ·rw[r.length,r'.length];exact hz
   ·intro z;subst z;have:=r'.length;have e:ys=[]:=sH this.symm;subst e;refine k _ F H (Step.refl g) ⟨p,vs,rfl,t,?_⟩ aV;rw[bN];exact r
   ·intro _ l hl;exact k _ _ _ (Step.alloc g hl) ⟨l,vs++us,rfl,.inl bu,(r.append r').mono (bS.upd (g.sub.free hl))⟩ aV
  ·cases h
 ·split at h
  ·rename_i xs ys hz;obtain⟨rfl,rfl⟩:=Cw h;obtain⟨p,vs,rfl,t,r⟩:=ra;obtain⟨q,us,rfl,t',r'⟩:=rb;obtain⟨its,w1,pl,_⟩:=I.lstR g t;obtain⟨j_,w2,pl2,_⟩:=I.lstR g t';obtain rfl:v=.ref p:=rx;obtain rfl:u=.ref q:=ry;obtain⟨⟨cls,dd,data,sl⟩,ho,hc,n,hd⟩:=pl.isList;obtain⟨⟨cls2,dd2,data2,yi⟩,ho2,hc2,n2,hd2⟩:=pl2.isList;simp only at hc hd hc2 hd2;subst hc hd hc2 hd2;refine uv ⟨_,ho,rfl⟩ ⟨_,ho2,rfl⟩ noFill_list_add seq_list_add PySem.F.slot_list_add PySem.F.entry_list_add (PySem.F.args_list_add_2 _ _) (list_addW p q its.toArray j_.toArray n n2 dd dd2 sl yi (by rw[aH,aH,<-w1.length,<-w2.length,r.length,r'.length];exact hz)) ⟨ho,ho2,?_⟩;have ea:its.toArray++j_.toArray=(its++j_).toArray:=by simp
   rw[ea];have hz':(vs++us).length<=aD:=by rw[cw,r.length,r'.length];exact hz
   have r2:=(r.append r').mono (bS.upd (o:=.lst (vs++us)) (g.sub.free I.fresh));exact⟨.ref _,_,I.WD (t':=s.toks) (w1.append w2) hz',rfl,k _ _ _ (Step.alloc g I.fresh) ⟨_,vs++us,rfl,.inl (.inl bu),r2⟩ λz=>.lst (bS.refl _) I.fresh (.jL g z (r.append r'))⟩
  ·cases h
def C1{op:uy}{o:OW}{Cd:Int->Int->Prop}{f:Int->Int->Int}(h:ie X (binaryOp op) (rI Cd λi j=>.int (f i j)))
  (hb:∀da db d fr,gr o da db=a_ (d,fr)->∃i j,da=.int i/\db=.int j/\Cd i j/\d=.int (f i j)/\fr=d_):ie X (binaryOp op) (gB X.K (gr o)):=
 ie.imp h λx y H Q z4=>by
  obtain⟨da,db,d,fr,h,F,g,ra,rb,k⟩:=z4;obtain⟨i,j,rfl,rfl,hc,rfl,rfl⟩:=hb da db d fr h;exact⟨i,j,ra,rb,hc,k _ F H (Step.refl g) rfl aV⟩
def HI{op:uy}{o:OW}{f:Int->Int->Int}(h:ie X (binaryOp op) (Hc λi j=>.int (f i j)))
  (hb:∀da db d fr,gr o da db=a_ (d,fr)->∃i j,da=.int i/\db=.int j/\d=.int (f i j)/\fr=d_):ie X (binaryOp op) (gB X.K (gr o)):=
 ie.imp h λx y H Q z4=>by
  obtain⟨da,db,d,fr,h,F,g,ra,rb,k⟩:=z4;obtain⟨i,j,rfl,rfl,rfl,rfl⟩:=hb da db d fr h;exact⟨i,j,ra,rb,k _ F H (Step.refl g) rfl aV⟩
def LK:ie X (binaryOp .Sub) (gB X.K (gr .sub)):=HI Qu λda db d fr h=>by
 cases da<;>cases db<;>simp only[gr,ym,xU,xT,reduceCtorEq]at h
 cases h;exact⟨_,_,rfl,rfl,rfl,rfl⟩
def LW:ie X (binaryOp .BitAnd) (gB X.K (gr .band)):=HI QH λda db d fr h=>by
 cases da<;>cases db<;>simp only[gr,ym,xU,xT,reduceCtorEq]at h
 cases h;exact⟨_,_,rfl,rfl,rfl,rfl⟩
def LQ:ie X (binaryOp .Mult) (gB X.K (gr .mul)):=by
 intro h_ s σ H x y v u Q I rx ry h;obtain⟨da,db,d,fr,h,F,g,ra,rb,k⟩:=h;cases da<;>cases db<;>simp only[gr,ym,xU,xT,reduceCtorEq]at h
 ·split at h
  ·rename_i hz;cases h;exact Qy h_ s σ H _ _ v u Q I rx ry ⟨_,_,ra,rb,hz,k _ F H (Step.refl g) rfl aV⟩
  ·cases h
 ·split at h
  ·rename_i z j hz;cases h;rw[show x=.str z from ra]at rx;rw[show y=.int j from rb]at ry;obtain⟨t,rfl⟩:=rx;obtain⟨t',rfl⟩:=ry;exact PySem.SB.mul hz λt2 k2=>⟨.str _,H,I.tok k2,⟨t2,rfl⟩,k _ F H (Step.refl g) rfl aV⟩
  ·cases h
def HG:ie X (binaryOp .FloorDiv) (gB X.K (gr .fdiv)):=C1 LU λda db d fr h=>by
 cases da<;>cases db<;>simp only[gr,ym,xU,xT,reduceCtorEq]at h
 split at h
 ·rename_i hz;cases h;exact⟨_,_,rfl,rfl,hz,rfl,rfl⟩
 ·cases h
def LR:ie X (binaryOp .Mod) (gB X.K (gr .mod)):=C1 Qz λda db d fr h=>by
 cases da<;>cases db<;>simp only[gr,ym,xU,xT,reduceCtorEq]at h
 split at h
 ·rename_i hz;cases h;exact⟨_,_,rfl,rfl,hz,rfl,rfl⟩
 ·cases h
def LL:ie X (binaryOp .RShift) (gB X.K (gr .shr)):=C1 Qv λda db d fr h=>by
 cases da<;>cases db<;>simp only[gr,ym,xU,xT,reduceCtorEq]at h
 split at h
 ·rename_i hz;cases h;exact⟨_,_,rfl,rfl,hz,rfl,rfl⟩
 ·cases h
def LM:ie X (binaryOp .Pow) (gB X.K (gr .pow)):=C1 Qw λda db d fr h=>by
 cases da<;>cases db<;>simp only[gr,ym,xU,xT,reduceCtorEq]at h
 split at h
 ·rename_i hz;cases h;exact⟨_,_,rfl,rfl,hz,rfl,rfl⟩
 ·cases h
def jw{o:Fo}{da db d:Dat}{fr:Bool}(h:lT o da db=a_ (d,fr)):∃b,eV o da db=a_ b/\d=.bl b/\fr=d_:=by
 obtain⟨b,h1,h2⟩:=dJ h;cases h2;exact⟨b,h1,rfl,rfl⟩
def xO{op:pq}{o:Fo}{f:Int->Int->Bool}(h:ie X (compareOp op) (Hc λi j=>.bl (f i j)))(hb:∀da db b,eV o da db=a_ b->∃i j,da=.int i/\db=.int j/\b=f i j):ie X (compareOp op) (gB X.K (lT o)):=
 ie.imp h λx y H Q z4=>by
  obtain⟨da,db,d,fr,h,F,g,ra,rb,k⟩:=z4;obtain⟨b,hd,rfl,rfl⟩:=jw h;obtain⟨i,j,rfl,rfl,rfl⟩:=hb da db b hd;exact⟨i,j,ra,rb,k _ F H (Step.refl g) rfl aV⟩
def QA:ie X (compareOp .Lt) (gB X.K (lT .lt)):=xO Up λda db b h=>by
 cases da<;>cases db<;>simp only[eV,AD,Ff,qU,DF,reduceCtorEq]at h
 cases h;exact⟨_,_,rfl,rfl,rfl⟩
def QB:ie X (compareOp .LtE) (gB X.K (lT .le)):=xO Uq λda db b h=>by
 cases da<;>cases db<;>simp only[eV,AD,Ff,qU,DF,reduceCtorEq]at h
 cases h;exact⟨_,_,rfl,rfl,rfl⟩
def QE:ie X (compareOp .Gt) (gB X.K (lT .gt)):=xO Ur λda db b h=>by
 cases da<;>cases db<;>simp only[eV,AD,Ff,qU,DF,reduceCtorEq]at h
 cases h;exact⟨_,_,rfl,rfl,rfl⟩
def QF:ie X (compareOp .GtE) (gB X.K (lT .ge)):=xO Us λda db b h=>by
 cases da<;>cases db<;>simp only[eV,AD,Ff,qU,DF,reduceCtorEq]at h
 cases h;exact⟨_,_,rfl,rfl,rfl⟩
def QG(hu:X.A.units+20<di):ie X (compareOp .Eq) (gB X.K (lT .eq)):=λh_ s σ H x y v u Q I rx ry z12=>by
 obtain⟨da,db,d,fr,h,F,g,ra,rb,k⟩:=z12;obtain⟨b,hd,rfl,rfl⟩:=jw h;simp only[eV,AD,Ff,qU,DF]at hd;split at hd
 ·rename_i hs;cases hd;simp only[aq]at hs;exact(qb I g 20 X.A da db hu hs.1 hs.2 ra rb rx ry).2.1 X.prog X.w _ _ ⟨.bl _,H,I,rfl,k _ F H (Step.refl g) rfl aV⟩
 ·cases hd
set_option tactic.hygienic false
end
structure Ow(K:Fg)(H₀ F H:Hp)(σ:St)(ρ:bQ)(Ss:Nat->List af):Prop where
 own:∀(i:Nat)d,ρ[i]?=a_ (a_ (d,c_))->∃v,σ[i]?=a_ (a_ v)/\kY K H d v (Ss i)/\(Ss i).Nodup/\∀a∈Ss i,F a=b_/\H₀ a=b_
 sep:∀(i j:Nat)d d',i≠j->ρ[i]?=a_ (a_ (d,c_))->ρ[j]?=a_ (a_ (d',c_))->∀a∈Ss i,a∉Ss j
structure Rl(K:Fg)(Fz H₀ F H:Hp)(σ:St)(ρ:bQ):Prop where
 step:Step Fz H₀ F H
 len:σ.length=ρ.length
 val:∀(i:Nat)d,ρ[i]?=a_ (a_ (d,d_))->∃v,σ[i]?=a_ (a_ v)/\Rep K F d v
 ow:∃Ss,Ow K H₀ F H σ ρ Ss
section
variable{K:Fg}{Fz H₀ F H F' H':Hp}{σ:St}{ρ:bQ}
def Kp{i:Nat}{d:Dat}(h:(rP ρ)[i]?=a_ (a_ d)):ρ[i]?=a_ (a_ (d,d_)):=by
 unfold rP at h;rw[aW]at h
 cases q:ρ[i]? with
 |none=>rw[q]at h;cases h
 |some o=>
   rw[q]at h;have h':=aP h
   cases o with
   |none=>cases h'
   |some z=>
     obtain⟨d',b⟩:=z
     cases b with
     |true=>cases h'
     |false=>cases h';rfl
def Rl.rP(R:Rl K Fz H₀ F H σ ρ):lZ K F σ (rP ρ):=λi d e=>R.val i d (Kp e)
def Ow.moved{Ss:Nat->List af}(O:Ow K H₀ F H σ ρ Ss)(st:Step F H F' H'):Ow K H₀ F' H' σ ρ Ss where
 own:=λi d e=>by
  obtain⟨v,q1,q2,q3,q4⟩:=O.own i d e;refine⟨v,q1,q2.mono st.hh,q3,λa m=>⟨?_,(q4 a m).2⟩⟩;obtain⟨o,ho,_⟩:=q2.yk _ a m;exact st.un a o ho (q4 a m).1
 sep:=O.sep
def Rl.moved(R:Rl K Fz H₀ F H σ ρ)(st:Step F H F' H'):Rl K Fz H₀ F' H' σ ρ where
 step:=R.step.trans st
 len:=R.len
 val:=λi d e=>let ⟨v,q1,q2⟩:=R.val i d e;⟨v,q1,q2.mono st.ff⟩
 ow:=let ⟨Ss,O⟩:=R.ow;⟨Ss,O.moved st⟩
def C9(i j:Nat)(f:g_->g_):(ρ.modify i f)[j]?=if i=j then(ρ[j]?).map f else ρ[j]? :=by
 rw[List.getElem?_modify];by_cases h:i=j
 ·simp only[h,if_true];rfl
 ·simp only[h,if_false];cases ρ[j]?<;>rfl
def iS{i j:Nat}{d:Dat}{b:Bool}(q:(ρ.modify i λo=>o.map λs=>(s.1,d_))[j]?=a_ (a_ (d,b))):(i=j/\b=d_/\∃b',ρ[j]?=a_ (a_ (d,b')))\/(i≠j/\ρ[j]?=a_ (a_ (d,b))):=by
 rw[C9]at q;by_cases h:i=j
 ·rw[if_pos h]at q;refine .inl ⟨h,?_⟩
  cases z:ρ[j]? with
  |none=>rw[z]at q;cases q
  |some o=>
    rw[z]at q
    cases o with
    |none=>cases q
    |some s=>cases q;exact⟨rfl,s.2,rfl⟩
 ·rw[if_neg h]at q;exact .inr ⟨h,q⟩
def Rl.MR(R:Rl K Fz H₀ F H σ ρ)(i:Nat):∃F',bS F F'/\Rl K Fz H₀ F' H σ (ρ.modify i λo=>o.map λs=>(s.1,d_)):=by
 obtain⟨Ss,O⟩:=R.ow;by_cases ho:∃d,ρ[i]?=a_ (a_ (d,c_))
 ·obtain⟨d,ho⟩:=ho;obtain⟨v,e1,e2,e3,e4⟩:=O.own i d ho;have sF:bS F (fz F H (Ss i)):=qO R.step.good.sub;refine⟨fz F H (Ss i),sF,⟨⟨xA R.step.good,R.step.ff.trans sF,R.step.hh,λa o q n=>?_⟩,?_,λj d' q=>?_,Ss,λj d' q=>?_,λj k d1 d2 hjk q1 q2=>?_⟩⟩
  ·rw[qP λm=>?_]
   ·exact R.step.un a o q n
   ·rw[(e4 a m).2]at q;cases q
  ·rw[FA];exact R.len
  ·rcases iS q with⟨rfl,_,b',q'⟩|⟨_,q'⟩
   ·rw[ho]at q';cases q';exact⟨v,e1,e2.kh R.step.good d λa m=>m⟩
   ·obtain⟨w,g1,g2⟩:=R.val j d' q';exact⟨w,g1,g2.mono sF⟩
  ·rcases iS q with⟨_,z,_⟩|⟨hne,q'⟩
   ·cases z
   ·obtain⟨w,g1,g2,g3,g4⟩:=O.own j d' q';refine⟨w,g1,g2,g3,λa m=>⟨?_,(g4 a m).2⟩⟩;rw[qP (O.sep j i d' d (eW hne) q' ho a m)];exact(g4 a m).1
  ·rcases iS q1 with⟨_,z,_⟩|⟨_,q1'⟩
   ·cases z
   ·rcases iS q2 with⟨_,z,_⟩|⟨_,q2'⟩
    ·cases z
    ·exact O.sep j k d1 d2 hjk q1' q2'
 ·refine⟨F,bS.refl _,⟨R.step,by rw[FA];exact R.len,λj d' q=>?_,Ss,λj d' q=>?_,λj k d1 d2 hjk q1 q2=>?_⟩⟩
  ·rcases iS q with⟨rfl,_,b',q'⟩|⟨_,q'⟩
   ·cases b' with
    |true=>exact absurd ⟨_,q'⟩ ho
    |false=>exact R.val _ d' q'
   ·exact R.val j d' q'
  ·rcases iS q with⟨_,z,_⟩|⟨_,q'⟩
   ·cases z
   ·exact O.own j d' q'
  ·rcases iS q1 with⟨_,z,_⟩|⟨_,q1'⟩
   ·cases z
   ·rcases iS q2 with⟨_,z,_⟩|⟨_,q2'⟩
    ·cases z
    ·exact O.sep j k d1 d2 hjk q1' q2'
def Rl.freeze(R:Rl K Fz H₀ F H σ ρ):∀is:List Nat,∃F',bS F F'/\Rl K Fz H₀ F' H σ (kh is ρ):=by
 intro is
 induction is generalizing F ρ with
 |nil=>exact⟨F,bS.refl _,R⟩
 |cons i is ih=>
   obtain⟨F1,s1,R1⟩:=R.MR i;obtain⟨F2,s2,R2⟩:=ih R1;exact⟨F2,s1.trans s2,R2⟩
theorem Dr:∀(is:List Nat)(ρ:bQ)(j:Nat),(kh is ρ)[j]?=if j∈is then(ρ[j]?).map (λo=>o.map λs=>(s.1,d_))else ρ[j]?
 |[],ρ,j=>by simp[kh]
 |i::is,ρ,j=>by
   have e:kh (i::is) ρ=kh is (ρ.modify i λo=>o.map λs=>(s.1,d_)):=rfl;rw[e,Dr is,C9];by_cases h:i=j
   ·subst h;rw[if_pos rfl,if_pos (jB)];by_cases m:i∈is
    ·rw[if_pos m]
     cases ρ[i]? with
     |none=>rfl
     |some o=>cases o<;>rfl
    ·rw[if_neg m]
   ·rw[if_neg h];by_cases m:j∈is
    ·rw[if_pos m,if_pos (jN _ m)]
    ·rw[if_neg m,if_neg λz=>(ah.mp z).elim (λz=>h z.symm) m]
def EM:kh (aR ρ.length) ρ=o5 ρ:=by
 apply Ga;intro j;rw[Dr];unfold o5;rw[aW];by_cases h:j∈aR ρ.length
 ·rw[if_pos h]
 ·rw[if_neg h];have:ρ[j]?=b_:=jH (by simpa using h);rw[this];rfl
def Rl.jv(R:Rl K Fz H₀ F H σ ρ):∃F',bS F F'/\Rl K Fz H₀ F' H σ (o5 ρ):=by
 obtain⟨F',s,R'⟩:=R.freeze (aR ρ.length);rw[EM]at R';exact⟨F',s,R'⟩
def eX{i j:Nat}{x:g_}{d:Dat}{b:Bool}(q:(ρ.set i x)[j]?=a_ (a_ (d,b))):(i=j/\x=a_ (d,b))\/(i≠j/\ρ[j]?=a_ (a_ (d,b))):=by
 rw[lJ]at q;by_cases h:i=j
 ·rw[if_pos h]at q;split at q
  ·exact .inl ⟨h,aP q⟩
  ·cases q
 ·rw[if_neg h]at q;exact .inr ⟨h,q⟩
def Oa{i:Nat}{v:V}(hl:i<σ.length):(σ.set i (a_ v))[i]?=a_ (a_ v):=jj hl
def vF{i:Nat}{x:g_}{y:g_}(q:(ρ.set i x)[i]?=a_ y):i<ρ.length:=by
 rw[lJ,if_pos rfl]at q;split at q
 ·assumption
 ·cases q
def Rl.Ba{i:Nat}{d:Dat}{v:V}(R:Rl K Fz H₀ F H σ ρ)(r:Rep K F d v):Rl K Fz H₀ F H (σ.set i (a_ v)) (ρ.set i (a_ (d,d_))):=by
 obtain⟨Ss,O⟩:=R.ow;refine⟨R.step,by simpa using R.len,λj d' q=>?_,Ss,λj d' q=>?_,λj k d1 d2 hjk q1 q2=>?_⟩
 ·rcases eX q with⟨rfl,e⟩|⟨hne,q'⟩
  ·cases e;exact⟨v,Oa (by rw[R.len];exact vF q),r⟩
  ·obtain⟨w,g1,g2⟩:=R.val j d' q';exact⟨w,by rw[cH hne];exact g1,g2⟩
 ·rcases eX q with⟨rfl,e⟩|⟨hne,q'⟩
  ·cases e
  ·obtain⟨w,g1,g2⟩:=O.own j d' q';exact⟨w,by rw[cH hne];exact g1,g2⟩
 ·rcases eX q1 with⟨_,e⟩|⟨_,q1'⟩
  ·cases e
  ·rcases eX q2 with⟨_,e⟩|⟨_,q2'⟩
   ·cases e
   ·exact O.sep j k d1 d2 hjk q1' q2'
def Rl.Px{i:Nat}{d:Dat}{v:V}{S:List af}{Ss:Nat->List af}(R:Rl K Fz H₀ F H σ ρ)(O:Ow K H₀ F H σ ρ Ss)(o:kY K H d v S)(nd:S.Nodup)(hS:∀a∈S,F a=b_/\H₀ a=b_)
  (hsep:∀(j:Nat)d',i≠j->ρ[j]?=a_ (a_ (d',c_))->∀a∈Ss j,a∉S):Rl K Fz H₀ F H (σ.set i (a_ v)) (ρ.set i (a_ (d,c_))):=by
 refine⟨R.step,by simpa using R.len,λj d' q=>?_,λj=>if j=i then S else Ss j,λj d' q=>?_,λj k d1 d2 hjk q1 q2=>?_⟩
 ·rcases eX q with⟨rfl,e⟩|⟨hne,q'⟩
  ·cases e
  ·obtain⟨w,g1,g2⟩:=R.val j d' q';exact⟨w,by rw[cH hne];exact g1,g2⟩
 ·rcases eX q with⟨rfl,e⟩|⟨hne,q'⟩
  ·cases e;rw[if_pos rfl];exact⟨v,Oa (by rw[R.len];exact vF q),o,nd,hS⟩
  ·obtain⟨w,g1,g2⟩:=O.own j d' q';rw[if_neg (eW hne)];exact⟨w,by rw[cH hne];exact g1,g2⟩
 ·intro a m
  rcases eX q1 with⟨rfl,e⟩|⟨h1,q1'⟩
  ·rw[if_pos rfl]at m
   rcases eX q2 with⟨e2,_⟩|⟨h2,q2'⟩
   ·exact absurd e2 hjk
   ·rw[if_neg (eW h2)];exact λm'=>hsep k d2 h2 q2' a m' m
  ·rw[if_neg (eW h1)]at m
   rcases eX q2 with⟨rfl,e⟩|⟨h2,q2'⟩
   ·rw[if_pos rfl];exact hsep j d1 h1 q1' a m
   ·rw[if_neg (eW h2)];exact O.sep j k d1 d2 hjk q1' q2' a m
def Rl.full{K:Fg}{Fz H₀ F H:Hp}{σ:St}{ρ:bQ}(R:Rl K Fz H₀ F H σ (o5 ρ)):lZ K F σ (M.full ρ):=by rw[<-AN];exact R.rP
noncomputable def uz(F:Hp)(S:List af):Hp:=λa=>if a∈S then b_ else F a
def vm{F:Hp}{S:List af}{a:af}(h:a∈S):uz F S a=b_:=if_pos h
def ng{F:Hp}{S:List af}{a:af}(h:a∉S):uz F S a=F a:=if_neg h
def Step.VW{S:List af}{d:Dat}{v:V}(st:Step F H F' H')(g:Good F H)(hS:∀a∈S,H a=b_)(o:kY K H' d v S):Step F H (uz F' S) H':=by
 refine⟨⟨λa o' q=>?_,λa vs q=>?_⟩,λa o' q=>?_,st.hh,λa o' q n=>?_⟩
 ·by_cases m:a∈S
  ·rw[vm m]at q;cases q
  ·rw[ng m]at q;exact st.good.sub a o' q
 ·rw[ng λm=>?_]
  ·exact st.good.tup a vs q
  ·obtain⟨u,hu,mu⟩:=o.yk _ a m;rw[q]at hu;cases hu;exact mu
 ·rw[ng λm=>?_]
  ·exact st.ff a o' q
  ·rw[g.sub.free (hS a m)]at q;cases q
 ·by_cases m:a∈S
  ·exact vm m
  ·rw[ng m];exact st.un a o' q n
def Dw{C:Fs}{e:Ex}{d:Dat}{fr:Bool}{ρ':bQ}(R:Rl K Fz H₀ F H σ ρ)(h:ou C e ρ=a_ (d,fr,ρ')){Q:VK}
  (k:∀v Fm F' H',bS F Fm->Rl K Fz H₀ Fm H σ ρ'->Step Fm H F' H'->Rep K F' d v->(fr=c_->fJ K H H' d v)->Q v H'):∃ρe,bw C e ρe=a_ (d,fr)/\tE K ρe d fr σ H Q:=by
 unfold ou at h;obtain⟨⟨d1,f1⟩,h2,h⟩:=bV h;dsimp only at h;by_cases hm:(im d1 || f1)=c_
 ·rw[if_pos hm]at h;have hh:d=d1/\fr=f1/\ρ'=ρ:=by cases h;exact⟨rfl,rfl,rfl⟩
  obtain⟨hh1,hh2,hh3⟩:=hh;subst hh1 hh2 hh3;obtain⟨Fp,sp,Rp⟩:=R.jv;refine⟨_,h2,Fp,Rp.step.good,Rp.full,λv F1 H1 st r f=>?_⟩;have stS:=Step.shrink R.step.good sp st
  cases hi:im d with
  |true=>exact k v F (shr F H F1) H1 (bS.refl _) R stS (r.shrink R.step.good st d hi) f
  |false=>
    rw[hi,pK]at hm;obtain⟨S,n,e1,o⟩:=f hm;have g2:=xA (S:=S) stS.good
    have st2:Step F H (fz (shr F H F1) H1 S) H1:=by
     refine⟨g2,stS.ff.trans (qO stS.good.sub),stS.hh,λa u q nn=>?_⟩;rw[qP λm=>?_]
     ·exact stS.un a u q nn
     ·rw[e1 a m]at q;cases q
    exact k v F _ H1 (bS.refl _) R st2 (o.kh stS.good d λa m=>m) f
 ·rw[if_neg hm]at h;obtain⟨⟨d2,f2⟩,h3,h⟩:=dJ h;cases h;obtain⟨F2,s2,R2⟩:=R.freeze e.fv;exact⟨_,h3,F2,R2.step.good,R2.rP,λv F' H' st r f=>k v F2 F' H' s2 R2 st r f⟩
def xE{C:Fs}{e:Ex}{d:Dat}{fr:Bool}{ρ':bQ}(R:Rl K Fz H₀ F H σ ρ)(h:ou C e ρ=a_ (d,fr,ρ')){Q:VK}
  (k:∀v Fm F' H',bS F Fm->Rl K Fz H₀ Fm H σ ρ'->Step Fm H F' H'->Rep K F' d v->(fr=c_->fJ K H H' d v)->Q v H'):gE K C e σ H Q:=
 let ⟨ρe,h1,h2⟩:=Dw R h k;⟨ρe,d,fr,h1,h2⟩
end
noncomputable def p9(K:Fg)(Fz H₀ F:Hp)(D:Ends)(EE:XK):Out->Prop
 |.xc c f d=>∀v F' H' dx,vT d=a_ v->Step Fz H₀ F' H'->H' dx=b_->EE (.ref c) (a_ dx) (upd H' dx (.xd [(f,v)]))
 |.nx ρ'=>∀F' H' σ',bS F F'->Rl K Fz H₀ F' H' σ' ρ'->D.nx σ' H'
 |.bk ρ'=>∀F' H' σ',bS F F'->Rl K Fz H₀ F' H' σ' ρ'->D.bk σ' H'
 |.ct ρ'=>∀F' H' σ',bS F F'->Rl K Fz H₀ F' H' σ' ρ'->D.ct σ' H'
 |.rt d fr=>∀v F' H',Step Fz H₀ F' H'->Rep K F' d v->(fr=c_->fJ K H₀ H' d v)->D.rt v H'
def p9.mono{K:Fg}{Fz H₀ F F1:Hp}{D:Ends}{EE:XK}{o:Out}(s:bS F F1)(h:p9 K Fz H₀ F D EE o):p9 K Fz H₀ F1 D EE o:=by
 cases o with
 |nx ρ'=>exact λF' H' σ' s' R=>h F' H' σ' (s.trans s') R
 |bk ρ'=>exact λF' H' σ' s' R=>h F' H' σ' (s.trans s') R
 |ct ρ'=>exact λF' H' σ' s' R=>h F' H' σ' (s.trans s') R
 |rt d fr=>exact h
 |xc c f d=>exact h
noncomputable def gS(K:Fg)(C:Fs)(EE:XK)(x:Sx):TS:=λD σ H=>∃Fz H₀ F ρ out,fH C x ρ=a_ out/\Rl K Fz H₀ F H σ ρ/\p9 K Fz H₀ F D EE out
noncomputable def Xv(K:Fg)(C:Fs)(EE:XK)(xs:List Sx):TS:=λD σ H=>∃Fz H₀ F ρ out,bH C xs ρ=a_ out/\Rl K Fz H₀ F H σ ρ/\p9 K Fz H₀ F D EE out
abbrev SS(X:Cx)(C:Fs)(EE:XK)(st:fw)(x:Sx):Prop:=PS X st (gS X.K C EE x)
abbrev FI(X:Cx)(C:Fs)(EE:XK)(st:List fw)(xs:List Sx):Prop:=B5 X st (Xv X.K C EE xs)
section
variable{X:Cx}{C:Fs}{e cnd:aF}{xe xc:Ex}{st:fw}{x:Sx}{sts sa sb:List fw}{xs ya yb:List Sx}{pos pos':dZ}
def KA:FI X C EE [] []:=B5.imp Lz λD σ H z3=>by
 obtain⟨Fz,H₀,F,ρ,out,h,R,k⟩:=z3;simp only[bH]at h;cases h;exact k F H σ (bS.refl _) R
def GJ(h1:SS X C EE st x)(h2:FI X C EE sts xs):FI X C EE (st::sts) (x::xs):=B5.imp (Hg h1 h2) λD σ H z3=>by
 obtain⟨Fz,H₀,F,ρ,out,h,R,k⟩:=z3;simp only[bH]at h;obtain⟨o,ho,h⟩:=bV h;refine⟨Fz,H₀,F,ρ,o,ho,R,?_⟩
 cases o with
 |nx ρ1=>exact λF1 H1 σ1 s1 R1=>⟨Fz,H₀,F1,ρ1,out,h,R1,k.mono s1⟩
 |bk ρ1=>cases h;exact k
 |ct ρ1=>cases h;exact k
 |rt d fr=>cases h;exact k
 |xc c f d=>cases h;exact k
def Pf{st:fw}:SS X C EE st .Kz:=λh_ s σ H D I z6=>by
 obtain⟨Fz,H₀,F,ρ,out,h,R,k⟩:=z6;cases h
def Pj(he:SE X C e xe):SS X C EE (.Return (a_ e) pos) (.ret xe):=PS.imp (Bl he) λD σ H z3=>by
 obtain⟨Fz,H₀,F,ρ,out,h,R,k⟩:=z3;obtain⟨⟨d,fr⟩,h1,h⟩:=dJ h;cases h;obtain⟨Fp,sp,Rp⟩:=R.jv;exact⟨_,d,fr,h1,Fp,Rp.step.good,Rp.full,λv F' H' st r f=>k v F' H' (Rp.step.trans st) r λz=>(f z).back (F:=F) R.step.hh⟩
def KD{i:Nat}{x:aN}{p:dZ}(hN:X.N[i]?=a_ x)(hv:JF X.env.scope x)(hd:(x == ("__debug__":aN))=d_)(hcd:(x == ("__classdict__":aN))=d_):SS X C EE (.Return (a_ (.Name x p)) pos) (.tu i):=
 PS.imp (Bl (nv hN hv hd hcd)) λD σ H z3=>by
  obtain⟨Fz,H₀,F,ρ,out,h,R,k⟩:=z3;obtain⟨⟨d,b⟩,h1,h⟩:=dJ h;cases h
  have h1':ρ[i]?=a_ (a_ (d,b)):=by
   cases q:ρ[i]? with
   |none=>rw[q]at h1;cases h1
   |some z=>rw[q]at h1;exact congrArg a_ h1
  cases b with
  |false=>
    obtain⟨v,e1,r⟩:=R.val i d h1';exact⟨v,e1,k v F H R.step r aV⟩
  |true=>
    obtain⟨Ss,O⟩:=R.ow;obtain⟨v,e1,e2,e3,e4⟩:=O.own i d h1';have sF:bS F (fz F H (Ss i)):=qO R.step.good.sub
    have st:Step Fz H₀ (fz F H (Ss i)) H:=by
     refine⟨xA R.step.good,R.step.ff.trans sF,R.step.hh,λa o q n=>?_⟩;rw[qP λm=>?_]
     ·exact R.step.un a o q n
     ·rw[(e4 a m).2]at q;cases q
    exact⟨v,e1,k v _ H st (e2.kh R.step.good d λa m=>m) λ_=>⟨Ss i,e3,λa m=>(e4 a m).2,e2⟩⟩
def Tx(hc:ST X C cnd xc)(ha:FI X C EE sa ya)(hb:FI X C EE sb yb):SS X C EE (.If cnd sa sb pos) (.ifs xc ya yb):=PS.imp (Ub hc ha hb) λD σ H z3=>by
 obtain⟨Fz,H₀,F,ρ,out,h,R,k⟩:=z3;obtain⟨⟨d,fr⟩,h1,h⟩:=bV h;obtain⟨z,hz,h⟩:=bV h;obtain⟨Fp,sp,Rp⟩:=R.jv;refine⟨_,d,fr,z,h1,hz,Fp,Rp.step.good,Rp.full,λF1 H1 st=>?_⟩;have stS:=Step.shrink R.step.good sp st
 cases z with
 |true=>
   exact BF ⟨Fz,H₀,_,ρ,out,h,R.moved stS,k.mono stS.ff⟩
 |false=>
   exact BG ⟨Fz,H₀,_,ρ,out,h,R.moved stS,k.mono stS.ff⟩
def qx{i:Nat}{D:Ends}{σ:St}{H Fz H₀ F:Hp}{ρ ρ':bQ}{d:Dat}{fr:Bool}(R:Rl X.K Fz H₀ F H σ ρ)(h1:ou C xe ρ=a_ (d,fr,ρ'))(k:p9 X.K Fz H₀ F D EE (.nx (ρ'.set i (a_ (d,fr && !im d))))) :
  ∃ρe,bw C xe ρe=a_ (d,fr)/\tE X.K ρe d fr σ H (λv H'=>D.nx (σ.set i (a_ v)) H'):=by
 refine Dw R h1 λv Fm F' H' sm Rm st r f=>?_;show D.nx (σ.set i (a_ v)) H';have k':∀F' H' σ',bS F F'->Rl X.K Fz H₀ F' H' σ' (ρ'.set i (a_ (d,fr && !im d)))->D.nx σ' H':=k
 cases hm:fr && !im d with
 |false=>
   rw[hm]at k';exact k' F' H' _ (sm.trans st.ff) ((Rm.moved st).Ba r)
 |true=>
   rw[hm]at k';simp only[aq]at hm;obtain⟨S,nd,e1,o⟩:=f hm.1;have st2:=Step.VW st Rm.step.good e1 o;obtain⟨Ss0,O0⟩:=Rm.ow;refine k' (uz F' S) H' _ (sm.trans st2.ff) ((Rm.moved st2).Px (O0.moved st2) o nd (λa m=>⟨vm m,R.step.hh.free (e1 a m)⟩) λj d2 _ q a m1 m2=>?_);obtain⟨w',g1',g2',_,_⟩:=O0.own j d2 q;obtain⟨u,hu,_⟩:=g2'.yk _ a m1;rw[e1 a m2]at hu;cases hu
def yJ{te:TE}{i:Nat}(hte:∀σ H Q,gE X.K C xe σ H Q->te σ H Q):∀D σ H,gS X.K C EE (.set i xe) D σ H->AZ te (jP i) D σ H:=λD σ H z3=>by
 obtain⟨Fz,H₀,F,ρ,out,h,R,k⟩:=z3;obtain⟨⟨d,fr,ρ'⟩,h1,h⟩:=dJ h;cases h;obtain⟨ρe,e1,e2⟩:=qx R h1 k;exact hte _ _ _ ⟨ρe,d,fr,e1,e2⟩
def GK{i:Nat}{x:aN}(hN:X.N.Nodup)(hi:X.N[i]?=a_ x)(hx:Loc X.env.scope x)(he:SE X C e xe)(hs:swapsWith e (a_ (.Name x pos')) pos.line X.env=pure d_)
  (hf:X.fn x=c_\/X.env.scope.names.lookup x=a_ .local):SS X C EE (.Assign [.Name x pos'] e pos) (.set i xe):=
 PS.imp (Hh hN hi hx he hs hf) (yJ λ_ _ _ h=>h)
end
end M
namespace L2
open PySem PySem.Spec PyProof.Rows
noncomputable def eo(X:Cx)(scope:fk)(cl:List (aN×af))(N:List aN)(s₂:ae)(H₂:Hp)(C:af)(ex:List af):Cx:=
 { X with N:=N,s₀:=s₂,H₀:=H₂,env:=compEnvC scope cl C X.env,outer:=X.stack,stack:=X.stack,ex:=ex,fn:=λ_=>d_,pn:=[],xe:=λ_ _=>False }
def J0(X:Cx)(ifs:List aF)(t:TT):Prop:=
 ∀(h_:List (af×er))(s:ae)(σ:St)(H:Hp)(Q:Bool->Hp->Prop),Inv X h_ σ H s->t σ H Q->
  aA (aE X.prog X.w) X.A (forIn ifs c_ λc r=>if r=c_ then do let ok <-isTrue c X.env (eval c X.env);pure (iB ok)else pure (iB r)) (TP X h_ σ Q) X.xe s
def Lx{X:Cx}:J0 X [] (λ_ H Q=>Q c_ H):=λ_ _ _ H _ I h=>wpAny_tests_nil ⟨H,I,h⟩
def Lw{X:Cx}{c:aF}{t:TT}(h:PT X c t):J0 X [c] t:=λh_ s σ H Q I hq=>wpAny_tests_one (h h_ s σ H Q I hq)
noncomputable def gR(nt:Nat)(caps:List Nat)(σ:St):St:=bI nt b_++caps.map λj=>(σ[j]?).join
noncomputable def GF(wi:TI)(nt:Nat)(caps:List Nat)(g:TG)(tt:TT)(te:TE):TE:=λσ H Q=>wi σ H λJ H1=>∃W:Nat->Nat->List V->Hp->Prop,(∃m,W 0 m [] H1)/\∀i m ys H,W i m ys H->
 (J.stop i H/\ys.length<=aD/\∀p,H p=b_->Q (.ref p) (upd H p (.lst ys)))\/
 (J.go i H/\ys.length<aD/\∀x H',J.yld i H x H'->g x (gR nt caps σ) H' λσ2 H2=>tt σ2 H2 λb H3=>
  if b=c_ then te σ2 H3 λy H4=>∃m',m'<m/\W (i+1) m' (ys++[y]) H4 else ∃m',m'<m/\W (i+1) m' ys H3)
structure iU(X:Cx)(scope:fk)(tn cn:List aN)(caps:List Nat):Prop where
 kind:scope.kind=.function
 nocell:∀y∈scope.names,y.2≠.cell
 locs:∀y∈scope.names,y.2=.local->scope.names.lookup y.1=a_ .local
 frees:∀y∈scope.names,y.2=.free->X.env.kindOf y.1=a_ .cell\/X.env.kindOf y.1=a_ .free
 nofree:∀x,scope.names.lookup x=a_ .free->(x,dH)∈scope.names
 caps:caps.map (λj=>X.N[j]?)=cn.map a_
 capk:∀x∈cn,X.env.kindOf x=a_ .cell\/X.env.kindOf x=a_ .free
 capn:∀x∈cn,scope.names.lookup x=a_ .free
theorem tw{env:mK}(x:aN):∀names:List (aN×jf),(names.map λ(n,k)=>if(k == dH && env.scope.kind == .function && env.kindOf n == a_ .cell)then(n,kZ)else(n,k)).lookup x =
  (names.lookup x).map λk=>if(k == dH && env.scope.kind == .function && env.kindOf x == a_ .cell)then kZ else k
 |[]=>rfl
 |(n,k)::r=>by
   by_cases hx:x=n
   ·subst hx;simp only[aw,List.lookup_cons_self,aC];split<;>simp
   ·have hb:(x == n)=d_:=by simpa using hx
    rw[cC,hb,<-tw x r,aw];dsimp only;split<;>rw[cC,hb]
def nj{scope:fk}{env:mK}(x:aN):(relabel scope env).names.lookup x=(scope.names.lookup x).map λk=>if(k == dH && env.scope.kind == .function && env.kindOf x == a_ .cell)then kZ else k:=tw x scope.names
def wO{scope:fk}{env:mK}{x:aN}(hc:∀y∈scope.names,y.2≠kZ)(h:(relabel scope env).names.lookup x=a_ .cell\/(relabel scope env).names.lookup x=a_ .free):scope.names.lookup x=a_ .free:=by
 rw[nj]at h
 cases q:scope.names.lookup x with
 |none=>rw[q]at h;simp at h
 |some k=>
   rw[q]at h;simp only[aC,iO]at h;by_cases hk:k=.free
   ·rw[hk]
   ·have hb:(k == dH)=d_:=by simpa using hk
    rw[hb]at h;simp only[lj,aT,if_false]at h
    rcases h with h|h
    ·subst h;exact absurd rfl (hc (x,.cell) (fS q))
    ·exact absurd h hk
def pS{scope:fk}{env:mK}{x:aN}(h:scope.names.lookup x=a_ .free):(relabel scope env).names.lookup x≠a_ .local:=by
 rw[nj,h];simp only[aC,ne_eq,iO];split<;>(intro z;cases z)
section
variable{X:Cx}{h_:List (af×er)}{σ:St}{H:Hp}{s:ae}
theorem o9{env:mK}:∀(names:List (aN×jf)) (cs:List (aN×af)),(∀y∈names,y.2=.free->∃c,env.cells.lookup y.1=a_ c)->(∀n c,cs.lookup n=a_ c->env.cells.lookup n=a_ c)->
  ∃cl:List (aN×af),(forIn (m:=Sem) names cs λx r=>if(x.2 == dH)=c_ then do let a <-cellOf env x.1;pure (iB ((x.1,a)::r))else pure (iB r))=pure cl/\(∀n c,cl.lookup n=a_ c->env.cells.lookup n=a_ c)/\
   (∀n c,cs.lookup n=a_ c->∃c',cl.lookup n=a_ c')/\∀n,(n,dH)∈names->∃c,cl.lookup n=a_ c
 |[],cs,_,h2=>⟨cs,rfl,h2,λn c e=>⟨c,e⟩,λn z=>nomatch z⟩
 |(n,k)::r,cs,h1,h2=>by
   by_cases hk:k=.free
   ·subst hk;obtain⟨c,hc⟩:=h1 (n,.free) jB rfl
    have hcell:cellOf env n=pure c:=by
     unfold cellOf;rw[hc]
    obtain⟨cl,e,q1,q2,q3⟩:=o9 r ((n,c)::cs) (λy hy=>h1 y (jN _ hy)) (λm d e=>by
     rw[cC]at e;by_cases hm:m=n
     ·subst hm;simp at e;rw[<-e];exact hc
     ·have:(m == n)=d_:=by simpa using hm
      rw[this]at e
      exact h2 m d e)
    refine⟨cl,?_,q1,λm d hd=>?_,λm hm=>?_⟩
    ·rw[mZ];simp only[beq_self_eq_true,if_true,hcell,pure_bind];exact e
    ·by_cases hmn:m=n
     ·subst hmn;exact q2 m c (by simp)
     ·have:(m == n)=d_:=by simpa using hmn
      exact q2 m d (by rw[cC,this];exact hd)
    ·rcases ah.mp hm with z|z
     ·cases z;exact q2 n c (by simp)
     ·exact q3 m z
   ·have hb:(k == dH)=d_:=by simpa using hk
    obtain⟨cl,e,q1,q2,q3⟩:=o9 r cs (λy hy=>h1 y (jN _ hy)) h2;refine⟨cl,?_,q1,q2,λm hm=>?_⟩
    ·rw[mZ];simp only[hb,aT,if_false,pure_bind];exact e
    ·rcases ah.mp hm with z|z
     ·cases z;exact absurd rfl hk
     ·exact q3 m z
def t8{scope:fk}{tn cn:List aN}{caps:List Nat}(ok:X.Ok)(S:iU X scope tn cn caps):∃cl:List (aN×af),closureFor scope X.env=pure cl/\(∀n c,cl.lookup n=a_ c->X.env.cells.lookup n=a_ c)/\∀n,(n,dH)∈scope.names->∃c,cl.lookup n=a_ c:=by
 obtain⟨cl,e,q1,_,q3⟩:=o9 (env:=X.env) scope.names [] (λy hy hk=>ok.has y.1 (S.frees y hy hk)) (λn c e=>by simp at e);refine⟨cl,?_,q1,q3⟩;unfold closureFor;rw[bind_pure];exact e
def Inv.Gx{D:af}{o:HO}(I:Inv X h_ σ H s)(hD:pf X h_ H D)(hs:X.s₀.heap.objs.size<=D)(new:hJ X.prog X.w (upd H D o) s.heap D o):Inv X h_ σ (upd H D o) s:=by
 obtain⟨hn,hL,hf,_,hc,hp⟩:=hD
 have old:∀b ob,X.s₀.heap.get? b=a_ ob->b≠D:=λb ob e z=>by
  subst z;exact absurd (aY (hl9 e) hs) (bC _)
 refine⟨I.ok,I.os,I.bare,⟨I.base.keep,I.base.slot,λb ob e n hx=>?_,I.base.there,λb xs e=>?_,λb ob u e=>?_,λb ps e=>?_⟩,I.loc,I.cell,?_,λx c e=>?_,λp hpp=>?_,λb u e=>?_,I.len⟩
 ·rw[bB (old b ob e)];exact I.base.free b ob e n hx
 ·rw[bB (cG (I.base.tups b xs e) hn)];exact I.base.tups b xs e
 ·rw[bB (cG (I.base.frzs b ob u e) hn)];exact I.base.frzs b ob u e
 ·obtain⟨m,q⟩:=I.base.tbls b ps e;exact⟨m,by rw[bB (cG q hn)];exact q⟩
 ·rw[bB (eW hL)];exact I.free
 ·rw[bB (hc x c e)];exact I.freeC x c e
 ·obtain⟨q1,q2,q3,q4,q5⟩:=I.pin p hpp;exact⟨q1,by rw[bB (hp p hpp)];exact q2,q3,q4,q5⟩
 ·by_cases hb:b=D
  ·subst hb;rw[bu]at e;cases e;exact new
  ·rw[bB hb]at e;exact(I.hok b u e).lM (λ_ _ _ q=>q) (λc q=>by rw[bB (cG q hn)];exact q) λc xs q=>by rw[bB (cG q hn)];exact q
def nJ{prog:aO}{w:bh}{A:bp}{R:Result->ae->Prop}{elt target iter:aF}{ifs:List aF}{scope:fk}{pos:dZ}{it acc:aa}{env:mK}(J:Nat->ae->Prop)
  (turn:∀n s,J n s->aA (aE prog w) A (pyNext it) (λr s₁=>match r with
   |none=>R (.ok .next) s₁
   |some v=>aA (aE prog w) A (letOwnedTupleGo target it v) (λ_ s₁'=>aA (aE prog w) A (assign target env v) (λ_ s₂=>
     aA (aE prog w) A (forIn ifs c_ λc r=>if r=c_ then do let ok <-isTrue c env (eval c env);pure (iB ok)else pure (iB r)) (λok s₃=>
      if ok=c_ then aA (aE prog w) A (eval elt env) (λx s₄=>
       aA (aE prog w) A (call (.builtin "list.append") [acc,x]) (λ_ s₅=>∃m,m<n/\J m s₅) (λ_ _=>False) s₄) (λ_ _=>False) s₃
      else ∃m,m<n/\J m s₃) (λ_ _=>False) s₂) (λ_ _=>False) s₁') (λ_ _=>False) s₁) (λ_ _=>False) s)
  (n:Nat){s:ae}(h:J n s) :
  codeAny (aE prog w) A (.compLoop (.ListComp elt [⟨target,iter,ifs,0⟩] scope pos) 0 it acc env) R s:=by
 refine codeAny_loop rfl J (λn s hI=>?_) n h;show aA _ A ((compTurn (.ListComp elt [⟨target,iter,ifs,0⟩] scope pos) 0 it acc env).onRaise (λx=>do noteFrame x env;theTreesLotGoes x)) _ _ s;refine wpAny_noted ?_;rw[compTurn_list];refine wb9 (kT (wb9 (bJ (turn n s hI) (λr s₁ h₁=>?_) λ_ _ h'=>h'.elim)))
 cases r with
 |none=>exact wu9 h₁
 |some v=>
   refine wb9 (bJ h₁ (λ_ s₁' h₁'=>?_) λ_ _ h'=>h'.elim);refine wb9 (bJ h₁' (λ_ s₂ h₂=>wb9 (bJ h₂ (λok s₃ h₃=>?_) λ_ _ h'=>h'.elim)) λ_ _ h'=>h'.elim)
   cases ok with
   |false=>exact wu9 ⟨rfl,h₃⟩
   |true=>
     exact wb9 (wb9 (bJ h₃ (λx s₄ h₄=>wb9 (bJ h₄ (λ_ s₅ h₅=>wu9 (wu9 ⟨rfl,h₅⟩)) λ_ _ h'=>h'.elim)) λ_ _ h'=>h'.elim))
def oO(nt:Nat)(g:TG):Prop:=∀x σ H Q,g x σ H Q->g x σ H λσ2 H2=>Q σ2 H2/\σ2.length=σ.length/\∀i,nt<=i->σ2[i]?=σ[i]?
def sM{nt i:Nat}(h:i<nt):oO nt (jP i):=λx σ H Q q=>by
 refine⟨q,by simp,λj hj=>?_⟩;rw[cH (by omega)]
def uf(nt:Nat)(g:Fn):Prop:=∀xs σ H Q,g xs σ H Q->g xs σ H λσ2 H2=>Q σ2 H2/\σ2.length=σ.length/\∀i,nt<=i->σ2[i]?=σ[i]?
def D8{nt:Nat}:uf nt EL:=λxs σ H Q ⟨e,q⟩=>⟨e,q,rfl,λ_ _=>rfl⟩
def AU{nt:Nat}{t:TG}{u:Fn}(mono:∀x σ H Q Q',(∀σ2 H2,Q σ2 H2->Q' σ2 H2)->t x σ H Q->t x σ H Q')(monou:∀x σ H Q Q',(∀σ2 H2,Q σ2 H2->Q' σ2 H2)->u x σ H Q->u x σ H Q')(ht:oO nt t)(hu:uf nt u):uf nt (vR t u):=λxs σ H Q z4=>by
 obtain⟨v,r,e,q⟩:=z4;refine⟨v,r,e,?_⟩;refine mono _ _ _ _ _ (λσ2 H2 ⟨q2,l2,s2⟩=>?_) (ht _ _ _ _ q);exact monou _ _ _ _ _ (λσ3 H3 ⟨q3,l3,s3⟩=>⟨q3,l3.trans l2,λi hi=>(s3 i hi).trans (s2 i hi)⟩) (hu _ _ _ _ q2)
def D7{K:aB}{nt n:Nat}{u:Fn}(hu:uf nt u):oO nt (IF K n u):=λx σ H Q ⟨a,xs,e,h1,h2,q⟩=>⟨a,xs,e,h1,h2,hu _ _ _ _ q⟩
def tW{i:Nat}:∀x σ H Q Q',(∀σ2 H2,Q σ2 H2->Q' σ2 H2)->jP i x σ H Q->jP i x σ H Q':=λ_ _ _ _ _ h q=>h _ _ q
def EK:∀x σ H Q Q',(∀σ2 H2,Q σ2 H2->Q' σ2 H2)->EL x σ H Q->EL x σ H Q':=λ_ _ _ _ _ h q=>⟨q.1,h _ _ q.2⟩
def BJ{t:TG}{u:Fn}(mt:∀x σ H Q Q',(∀σ2 H2,Q σ2 H2->Q' σ2 H2)->t x σ H Q->t x σ H Q')(mu:∀x σ H Q Q',(∀σ2 H2,Q σ2 H2->Q' σ2 H2)->u x σ H Q->u x σ H Q') :
  ∀x σ H Q Q',(∀σ2 H2,Q σ2 H2->Q' σ2 H2)->vR t u x σ H Q->vR t u x σ H Q':=λ_ _ _ _ _ h ⟨v,r,e,q⟩=>⟨v,r,e,mt _ _ _ _ _ (λ_ _ q2=>mu _ _ _ _ _ h q2) q⟩
def BE(X:Cx)(h_:List (af×er))(σ:St)(Q:VK)(acc:aa)(C:af)(r:Result)(s':ae):Prop:=
 r=.ok .next/\∃D H',acc=.ref D/\(∃m,s'.heap.Ns C m)/\Inv X h_ σ H' s'/\pf X h_ H' C/\Q (.ref D) H'
def t7{elt iter tg:aF}{ifs:List aF}{scope:fk}{pos:dZ}{tn cn:List aN}{caps:List Nat}{g:TG}{tt:TT}{te:TE}{Q:VK}{s₂:ae}{itv:aa}{cl:List (aN×af)}{E:aa->ae->Prop}
  (hcalm:X.calm=c_)(S:iU X scope tn cn caps)(hclos:∀n c,cl.lookup n=a_ c->X.env.cells.lookup n=a_ c)(hhas:∀n,(n,dH)∈scope.names->∃c,cl.lookup n=a_ c)
  (hg:∀(cl:List (aN×af))(s₂:ae)(H₂:Hp)(C:af)(ex:List af),PG (eo X scope cl (tn++cn) s₂ H₂ C ex) tg g)(touch:oO tn.length g)
  (ht:∀(cl:List (aN×af))(s₂:ae)(H₂:Hp)(C:af)(ex:List af),J0 (eo X scope cl (tn++cn) s₂ H₂ C ex) ifs tt)
  (he:∀(cl:List (aN×af))(s₂:ae)(H₂:Hp)(C:af)(ex:List af),PE (eo X scope cl (tn++cn) s₂ H₂ C ex) elt te)
  (hi:Xc X h_ σ tg (λJ H1=>∃W:Nat->Nat->List V->Hp->Prop,(∃m,W 0 m [] H1)/\∀i m ys H,W i m ys H->
   (J.stop i H/\ys.length<=aD/\∀p,H p=b_->Q (.ref p) (upd H p (.lst ys)))\/
   (J.go i H/\ys.length<aD/\∀x H',J.yld i H x H'->g x (gR tn.length caps σ) H' λσ2 H2=>tt σ2 H2 λb H3=>
    if b=c_ then te σ2 H3 λy H4=>∃m',m'<m/\W (i+1) m' (ys++[y]) H4 else ∃m',m'<m/\W (i+1) m' ys H3)) itv s₂) :
  aA (aE X.prog X.w) X.A (newList []) (λacc s₃=>aA (aE X.prog X.w) X.A (newFunctionEnv scope X.env.globals cl [] X.env.qual b_ .none (a_ X.env)) (λcenv s₄=>
   codeAny (aE X.prog X.w) X.A (.compStart (.ListComp elt [⟨tg,iter,ifs,0⟩] scope pos) 0 itv acc { cenv with scope:=relabel scope X.env }) (BE X h_ σ Q acc cenv.locals) s₄) E s₃) E s₂:=by
 obtain⟨it,fp,tnn,J,H2,e,I2,T,st2,f2,W,⟨m0,w0⟩,turn⟩:=hi;subst e;refine cN (wpAny_newFunctionEnv S.nocell (by intro y hy;simp at hy) (λh₁ hns₁ hsb₁=>?_) S.kind);dsimp only at hns₁ hsb₁ ⊢;generalize hH2:s₂.heap.push { cls:=.type "list",dict:=b_,data:=.seq ([]:List aa).toArray }=G2 at hns₁ hsb₁ ⊢;have hC:G2.objs.size=s₂.heap.objs.size+1:=by rw[<-hH2,dz]
 have hDC:s₂.heap.objs.size≠G2.objs.size:=by rw[hC];exact ba (iE _)
 have old:∀b o,s₂.heap.get? b=a_ o->h₁.get? b=a_ o:=λb o e=>hsb₁.extBut b o (by rw[hC];exact ba (jr (hl9 e))) (hp9 _ (hH2▸hp9 _ e));have hacc:h₁.get? s₂.heap.objs.size=a_ { cls:=.type "list",data:=.seq ([]:List aa).toArray }:=hsb₁.extBut _ _ hDC (hp9 _ (hH2▸aJ _ rfl));generalize hDd:s₂.heap.objs.size=D at *;generalize hCd:G2.objs.size=C at *;have hCD:@Eq Nat C (D+1):=hC;have hlt:D<C:=by rw[hC];exact iE _
 have hDD:@Eq Nat s₂.heap.objs.size D:=hDd;have sh:∀b o,s₂.heap.get? b=a_ o->b<D:=λb o e=>hDd▸hl9 e;have fresh:∀a,D<=a->H2 a=b_:=λa h=>I2.hok.fresh (hDd▸h);have hfpS:∀b∈fp,b<D:=λb hb=>by obtain⟨o,e,_⟩:=T.obj 0 _ st2 b hb;exact sh b o e
 have frL:∀b∈mH X.stack,b<D:=λb hb=>by
  obtain⟨_,o,ho,_⟩:=I2.stack.mem hb;exact sh b o ho
 have clL:∀x c,cl.lookup x=a_ c->c<D:=λx c e=>by
  obtain⟨v,q⟩:=I2.cell x c (hclos x c e);exact hDd▸q.lt
 let Y:Cx:=eo X scope cl (tn++cn) s₂ H2 C fp
 have okY:Y.Ok:=by
  refine⟨I2.ok.mod,S.kind,I2.ok.glob,I2.ok.blt,?_,λx y c h1 h2=>I2.ok.inj x y c (hclos x c h1) (hclos y c h2),λx hx=>?_,(λx c h=>nomatch h),I2.ok.hd,I2.ok.frames,.inl rfl,λb hb=>⟨?_,λx c e=>?_⟩,λb o e=>I2.bs b o e,?_,λb o e hb=>?_,λb hb z=>?_,I2.stack,I2.wC⟩
  ·show s₂.heap.objs.size<=C;omega
  ·have hx':(relabel scope X.env).names.lookup x=a_ .cell\/(relabel scope X.env).names.lookup x=a_ .free:=hx;have hfree:scope.names.lookup x=a_ .free:=wO S.nocell hx';exact hhas x (S.nofree x hfree)
  ·show b≠C;exact ba (jq (hfpS b hb) hlt)
  ·have e':cl.lookup x=a_ c:=e;exact(f2 b hb).2.2.2.2.1 x c (hclos x c e')
  ·show X.base.objs.size<=s₂.heap.objs.size;exact cW I2.ok.bsz I2.sz
  ·rcases(f2 b hb).2.2.2.1 with z|z
   ·exact I2.ok.noex b o e z
   ·exact absurd (aY (aY (hl9 e) I2.ok.bsz) z) (bC _)
  ·have hb':=f2 b hb
   rcases ah.mp (I2.sO b z)with q|q
   ·exact hb'.2.1 q
   ·exact hb'.2.2.1 q
 have invY:∀(s':ae) (m:aN->Option aa),s'.os=s₂.os->jZ s'.gens->(∀b o,s₂.heap.get? b=a_ o->s'.heap.get? b=a_ o)->s'.heap.Ns C m->(∀(i:Nat) (x:aN) (v:V),(tn++cn)[i]?=a_ x->(gR tn.length caps σ)[i]?=a_ (a_ v)->JF Y.env.scope x->∃u,RelV v u/\Look Y.env s'.heap m x u)->
   Inv Y (X.pn++h_) (gR tn.length caps σ) H2 s':=λs' m ho hb hk hn hl=>by
  refine⟨okY,ho,hb,Un.kept hk,⟨m,hn,hl⟩,λx c e=>?_,fresh C (by omega),λx c e=>I2.freeC x c (hclos x c e),λp hp=>?_,I2.hok.kept hk,?_⟩
  ·obtain⟨v,q⟩:=I2.cell x c (hclos x c e);exact⟨v,q.keeps hk⟩
  ·have hp':p∈X.pn++h_:=by simpa [Y,eo]using hp
   obtain⟨q1,q2,q3,q4,q5⟩:=I2.pin p hp';refine⟨hk _ _ q1,q2,?_,λz=>?_,q5⟩
   ·show p.1≠C;exact ba (jq (sh _ _ q1) hlt)
   ·rcases ah.mp (I2.sO p.1 z)with w|w
    ·exact q3 w
    ·exact q4 w
  ·show(gR tn.length caps σ).length=(tn++cn).length;have e:=congrArg lH S.caps;simp only[ak]at e;simp[gR,e]
 have loop:∀s₃:ae,s₃={ s₂ with heap:=h₁,toks:=s₂.toks+([]:List (aN×aa)).length }->
   codeAny (aE X.prog X.w) X.A (.compLoop (.ListComp elt [⟨tg,iter,ifs,0⟩] scope pos) 0 (.ref it) (.ref D) (compEnvC scope cl C X.env)) (BE X h_ σ Q (.ref D) C) s₃:=by
  rintro s₃ rfl
  have I3:Inv Y (X.pn++h_) (gR tn.length caps σ) H2 { s₂ with heap:=h₁,toks:=s₂.toks+([]:List (aN×aa)).length }:=by
   refine invY _ _ rfl I2.bare old hns₁ λi x v e1 e2 e3=>?_
   have hi:tn.length<=i:=by
    by_cases hi:tn.length<=i
    ·exact hi
    ·unfold gR at e2;rw[cK (by simpa using hi),eK]at e2;split at e2<;>cases e2
   unfold gR at e2;rw[de (by simpa using hi),jG]at e2;rw[de hi]at e1;rw[aW]at e2
   cases hj:caps[i - tn.length]? with
   |none=>rw[hj]at e2;cases e2
   |some j=>
     rw[hj]at e2;have e2':(σ[j]?).join=a_ v:=aP e2
     have hσ:σ[j]?=a_ (a_ v):=by
      cases q:σ[j]? with
      |none=>rw[q]at e2';cases e2'
      | some z=>rw[q]at e2';cases z with
        |none=>cases e2'
        |some z=>exact congrArg a_ e2'
     have hN:X.N[j]?=a_ x:=by
      have e:=congrArg (λl=>l[i - tn.length]?) S.caps;simp only[aW,hj,e1,aC]at e;exact aP e
     have hk:=S.capk x (eB e1);obtain⟨m,hn,hl⟩:=I2.loc;have hv:JF X.env.scope x:=hk.elim (λz=>.inr (.inl z)) λz=>.inr (.inr z);obtain⟨u,ru,l⟩:=hl j x v hN hσ hv;refine⟨u,ru,.inr ?_⟩
     rcases l with⟨k,_⟩|⟨k,c,ec,hcell⟩
     ·rw[k]at hk;rcases hk with z|z<;>cases z
     ·
      rcases e3 with z|z|z
      ·
       exact absurd z (pS (S.capn x (eB e1)))
      ·obtain⟨c',ec'⟩:=okY.has x (.inl z);have ecc:c'=c:=aP ((hclos x c' ec').symm.trans ec);rw[ecc]at ec';exact⟨.inl z,c,ec',hcell.keeps old⟩
      ·obtain⟨c',ec'⟩:=okY.has x (.inr z);have ecc:c'=c:=aP ((hclos x c' ec').symm.trans ec);rw[ecc]at ec';exact⟨.inr z,c,ec',hcell.keeps old⟩
  have pinD:∀{σ':St} {H':Hp} {s':ae} {its:List aa} {n:Nat},Inv Y (X.pn++h_) σ' H' s'->H' D=b_->s'.heap.get? D=a_ { cls:=.type "list",data:=.seq its.toArray n }->
    Inv Y ((X.pn++h_)++[(D,{ cls:=.type "list",data:=.seq its.toArray n })]) σ' H' s':=λ{σ' H' s' its n}I' hn hd=>by
   refine I'.pU λp hp=>?_
   rcases aK.mp hp with z|z
   ·exact I'.pin p (ax _ z)
   ·have e:=aZ.mp z;subst e;refine⟨hd,hn,hDC,λz=>?_,(λv z=>nomatch z)⟩;exact absurd (frL D z) (bC _)
  have fpD:∀{H':Hp},H' D=b_->∀b,b=D->pf Y (X.pn++h_) H' b:=λ{H'}hn b hb=>by
   subst hb;refine⟨hn,hDC,λz=>absurd (frL b z) (bC _),.inr (AL hDd),λx c e z=>?_,λp hp z=>?_⟩
   ·have:=clL x c e;rw[z]at this;exact absurd this (bC _)
   ·have hp':p∈X.pn++h_:=by simpa [Y,eo]using hp
    have:=sh _ _ (I2.pin p hp').1;rw[z]at this;exact absurd this (bC _)
  have stat:∀{H':Hp}{pl:List (af×er)},(∀b∈fp,H' b=b_)->(∀p∈pl,p.1=D)->∀b∈fp,pf Y ((X.pn++h_)++pl) H' b:=λ{H' pl}hn hpl b hb=>by
   obtain⟨g0,g1,g2,g3,g4,g5⟩:=f2 b hb;refine⟨hn b hb,?_,λz=>?_,.inl hb,λx c e=>g4 x c (hclos x c e),λp hp z=>?_⟩
   ·show b≠C;exact ba (jq (hfpS b hb) hlt)
   ·rcases ah.mp (I2.sO b z)with w|w
    ·exact g1 w
    ·exact g2 w
   ·have hp':p∈(X.pn++h_)++pl:=by simpa [Y,eo]using hp
    rcases aK.mp hp' with w|w
    ·exact g5 p w z
    ·have h1:=hpl p w;have h2:=hfpS b hb;rw[<-z,h1]at h2;exact absurd h2 (bC _)
  refine nJ (λn s'=>∃(i:Nat) (ys:List V) (its:List aa) (k:Nat) (H':Hp),Inv Y (X.pn++h_) (gR tn.length caps σ) H' s'/\H' D=b_/\s'.heap.get? D=a_ { cls:=.type "list",data:=.seq its.toArray k }/\bZ ys its/\
   tnn i s'.heap/\(∀b∈fp,H' b=b_)/\W i n ys H') ?_ m0 ⟨0,[],[],0,H2,I3,fresh D (aM _),hacc,.nil,T.keep _ _ _ st2 λb hb o e=>old b o e,λb hb=>(f2 b hb).1,w0⟩
  rintro n s4 ⟨i,ys,its,k,H4,I4,hD4,ho4,rv4,st4,fr4,w4⟩;have I4':=pinD I4 hD4 ho4
  have pl1:∀p∈[((D,{ cls:=.type "list",data:=.seq its.toArray k }):af×er)],p.1=D:=λp hp=>by
   rw[aZ.mp hp]
  rcases turn i n ys H4 w4 with⟨stop,hz,qn⟩|⟨go,hz,step⟩
  ·
   refine fW (T.done Y rfl rfl rfl hcalm i _ s4 _ H4 _ I4' (stat fr4 pl1) st4 stop) λr s5 ⟨hr,I5⟩=>?_;subst hr;have hd5:=(I5.pin (D,{ cls:=.type "list",data:=.seq its.toArray k }) (ax _ (ax _ (aZ.mpr rfl)))).1;have I5':Inv Y (X.pn++h_) (gR tn.length caps σ) H4 s5:=I5.lL;have J5:Inv X h_ σ H4 s5:=I2.OF (ch:=fp) I5'.os I5'.base I5'.hok I5'.bare λb hb=>⟨(f2 b hb).2.2.2.1,(f2 b hb).2.1,(f2 b hb).2.2.2.2.1,(f2 b hb).2.2.2.2.2⟩
   have up:∀a,D<=a->H4 a=b_->pf X h_ H4 a:=λa ha hn=>by
    refine⟨hn,?_,λz=>?_,.inr ?_,λx c e z=>?_,λp hp z=>?_⟩
    ·have h1:=I2.lt;intro z;rw[<-z,hDd]at h1;exact absurd (aY h1 ha) (bC _)
    ·exact I2.Ux (a:=a) (by rw[hDd];exact ha) z
    ·exact cW I2.sz (by rw[hDd];exact ha)
    ·obtain⟨v,q⟩:=I2.cell x c e;have h1:=q.lt;rw[z,hDd]at h1;exact absurd (aY h1 ha) (bC _)
    ·have h1:=sh _ _ (I2.pin p hp).1;rw[z]at h1;exact absurd (aY h1 ha) (bC _)
   have J6:Inv X h_ σ (upd H4 D (.lst ys)) s5:=J5.Gx (up D (aM _) hD4) (by have h1:=I2.sz;rw[hDd]at h1;exact h1) ⟨hz,its,k,rv4,hd5⟩;obtain⟨m5,hn5,_⟩:=I5'.loc;refine⟨rfl,D,upd H4 D (.lst ys),rfl,⟨m5,hn5⟩,J6,?_,qn D hD4⟩;have hC4:H4 C=b_:=I5'.free;obtain⟨u0,u1,u2,u3,u4,u5⟩:=up C (by omega) hC4;exact⟨by rw[bB (eW hDC)];exact u0,u1,u2,u3,u4,u5⟩
  ·refine fW (T.item Y rfl rfl rfl hcalm i _ s4 _ H4 _ I4' (stat fr4 pl1) st4 go) λr s5 ⟨u,hr,h5⟩=>?_;subst hr;refine fW h5 λ_ s6 ⟨x,H6,I6,r6,y6,st6,fr6⟩=>?_;have I6':=I6.pinned (stat fr6 pl1) (T.obj _ _ st6);refine fW (hg cl s₂ H2 C fp _ s6 _ H6 x u _ I6' r6 (touch _ _ _ _ (step x H6 y6))) λ_ s7 ⟨σ7,H7,I7,q7,l7,e7⟩=>?_
   have back:∀{H':Hp} {s':ae} {ys':List V} {its':List aa} {k':Nat} {n':Nat},Inv Y (X.pn++h_++lB fp s6.heap) σ7 H' s'->H' D=b_->s'.heap.get? D=a_ { cls:=.type "list",data:=.seq its'.toArray k' }->bZ ys' its'->W (i+1) n' ys' H'->
     ∃(i:Nat) (ys:List V) (its:List aa) (k:Nat) (H':Hp),Inv Y (X.pn++h_) (gR tn.length caps σ) H' s'/\H' D=b_/\s'.heap.get? D=a_ { cls:=.type "list",data:=.seq its.toArray k }/\bZ ys its/\tnn i s'.heap/\(∀b∈fp,H' b=b_)/\W i n' ys H':=
    λ{H' s' ys' its' k' n'}I' hd ho rv w=>by
     refine⟨i+1,ys',its',k',H',(I'.lL).weak (by rw[l7]) (λj v hj=>?_),hd,ho,rv,T.keep _ _ _ st6 λb hb o e=>(I'.pin (b,o) (ax _ (ax _ (mr hb e)))).1,λb hb=>?_,w⟩
     ·have hj':tn.length<=j:=by
       by_cases hj':tn.length<=j
       ·exact hj'
       ·unfold gR at hj;rw[cK (by simpa using hj'),eK]at hj;split at hj<;>cases hj
      rw[e7 j hj'];exact hj
     ·obtain⟨o,e,d⟩:=T.obj _ _ st6 b hb;exact(I'.pin (b,o) (ax _ (ax _ (mr hb e)))).2.1
   have pinOf:∀{σ':St}{H':Hp}{s':ae},Inv Y (((X.pn++h_)++[(D,{ cls:=.type "list",data:=.seq its.toArray k })])++lB fp s6.heap) σ' H' s'->s'.heap.get? D=a_ { cls:=.type "list",data:=.seq its.toArray k }/\H' D=b_:=λI'=>by
    obtain⟨q1,q2,_⟩:=I'.pin (D,{ cls:=.type "list",data:=.seq its.toArray k }) (ax _ (aL _ (ax _ (aZ.mpr rfl))));exact⟨q1,q2⟩
   have dropD:∀{σ':St}{H':Hp}{s':ae},Inv Y (((X.pn++h_)++[(D,{ cls:=.type "list",data:=.seq its.toArray k })])++lB fp s6.heap) σ' H' s'->Inv Y (X.pn++h_++lB fp s6.heap) σ' H' s':=λI'=>
    I'.pU λp hp=>I'.pin p (ax _ (by
     rcases aK.mp hp with z|z
     ·exact aL _ (aL _ z)
     ·exact ax _ z))
   refine fW (ht cl s₂ H2 C fp _ s7 σ7 H7 _ I7 q7) λb s8 ⟨H8,I8,q8⟩=>?_
   cases b with
   |false=>
     rw[if_neg df];rw[if_neg df]at q8;obtain⟨m',hm,w8⟩:=q8;exact⟨m',hm,back (dropD I8) (pinOf I8).2 (pinOf I8).1 rv4 w8⟩
   |true=>
     rw[if_pos rfl];rw[if_pos rfl]at q8;refine fW (he cl s₂ H2 C fp _ s8 σ7 H8 _ I8 q8) λv s9 ⟨y,H9,I9,r9,m',hm,w9⟩=>?_;obtain⟨ho9,hD9⟩:=pinOf I9;refine wpAny_list_append_plain (hsz:=by have:=rv4.length;simp;omega) (items:=its.toArray) ⟨k,ho9⟩ λh' hl' hs'=>?_;obtain⟨k',hk'⟩:=hl';have I9':=dropD I9;have f9:=fpD hD9 D rfl
     have I10:Inv Y (X.pn++h_++lB fp s6.heap) σ7 H9 { s9 with heap:=h' }:=by
      refine I9'.turned (t':=s9.toks) (it:=D) (λb o hb e=>hs'.extBut b o hb e) hD9 hDC (.inr (AL hDd)) f9.2.2.2.2.1 λp hp=>?_;have hp':p∈X.pn++h_++lB fp s6.heap:=by simpa [Y,eo]using hp
      rcases aK.mp hp' with z|z
      ·exact ba (sh _ _ (I2.pin p z).1)
      ·obtain⟨hb,_⟩:=vC z;exact ba (hfpS _ hb)
     refine⟨m',hm,back (ys':=ys++[y]) (its':=its++[v]) (k':=k') I10 hD9 ?_ (rv4.append (.cons r9 .nil)) w9⟩;simpa using hk'
 exact codeAny_compStart_list (loop _ rfl) (T.self X.A 0 _ _ _ (T.keep _ _ _ st2 λb hb o e=>old b o e) (loop _ rfl))
def LF{elt iter tg:aF}{ifs:List aF}{scope:fk}{pos:dZ}{tn cn:List aN}{caps:List Nat}{wi:TI}{g:TG}{tt:TT}{te:TE}
  (hcalm:X.calm=c_)(S:iU X scope tn cn caps)(hi:PI X tg iter wi)
  (hg:∀(cl:List (aN×af))(s₂:ae)(H₂:Hp)(C:af)(ex:List af),PG (eo X scope cl (tn++cn) s₂ H₂ C ex) tg g)(touch:oO tn.length g)
  (ht:∀(cl:List (aN×af))(s₂:ae)(H₂:Hp)(C:af)(ex:List af),J0 (eo X scope cl (tn++cn) s₂ H₂ C ex) ifs tt)
  (he:∀(cl:List (aN×af))(s₂:ae)(H₂:Hp)(C:af)(ex:List af),PE (eo X scope cl (tn++cn) s₂ H₂ C ex) elt te)
  (hs:∀x,foldedSetIterable iter X.env x=pure x):PE X (.ListComp elt [⟨tg,iter,ifs,0⟩] scope pos) (GF wi tn.length caps g tt te):=by
 intro h_ s σ H Q I h;obtain⟨cl,hcl,h1,h2⟩:=t8 I.ok S;rw[eval_ListComp];refine DT (use:=b_) rfl hs hcl S.kind S.locs (fW (hi h_ s σ H _ I h) λv s1 hv=>fW hv λitv s2 h2'=>?_);refine bJ (t7 (Q:=Q) (E:=X.xe) hcalm S h1 h2 hg touch ht he h2') (λacc s3 q3=>bJ q3 (λcenv s4 q4=>fT q4 λr s5 q5=>?_) λ_ _ z=>z) λ_ _ z=>z;obtain⟨rfl,D,H',rfl,⟨m,hn⟩,J,fC,q⟩:=q5;refine⟨m,hn,λh' hs'=>⟨.ref D,H',?_,rfl,q⟩⟩;exact J.turned (t':=s5.toks) (it:=cenv.locals) (λb o hb e=>hs'.extBut b o hb e) fC.1 fC.2.1 fC.2.2.2.1 fC.2.2.2.2.1 fC.2.2.2.2.2
def Bk{i:Nat}{x:aN}{elt iter tg:aF}{ifs:List aF}{scope:fk}{pos pos' spos:dZ}{tn cn:List aN}{caps:List Nat}{wi:TI}{g:TG}{tt:TT}{te:TE}(hN:X.N.Nodup)(hi':X.N[i]?=a_ x)(hx:Loc X.env.scope x)
  (hcalm:X.calm=c_)(S:iU X scope tn cn caps)(hi:PI X tg iter wi)
  (hg:∀(cl:List (aN×af))(s₂:ae)(H₂:Hp)(C:af)(ex:List af),PG (eo X scope cl (tn++cn) s₂ H₂ C ex) tg g)(touch:oO tn.length g)
  (ht:∀(cl:List (aN×af))(s₂:ae)(H₂:Hp)(C:af)(ex:List af),J0 (eo X scope cl (tn++cn) s₂ H₂ C ex) ifs tt)
  (he:∀(cl:List (aN×af))(s₂:ae)(H₂:Hp)(C:af)(ex:List af),PE (eo X scope cl (tn++cn) s₂ H₂ C ex) elt te)
  (hsw:swapsWith (.ListComp elt [⟨tg,iter,ifs,0⟩] scope pos) (a_ (.Name x pos')) spos.line X.env=pure c_)
  (hs:∀x,foldedSetIterable iter X.env x=pure x)(hf:X.fn x=c_\/X.env.scope.names.lookup x=a_ .local) :
  PS X (.Assign [.Name x pos'] (.ListComp elt [⟨tg,iter,ifs,0⟩] scope pos) spos) (AZ (GF wi tn.length caps g tt te) (jP i)):=by
 intro h_ s σ H D I h;obtain⟨cl,hcl,h1,h2⟩:=t8 I.ok S;rw[exec_Assign_Name_used _ _ _ _ hsw];refine wb9 (kT (wb9 ?_));show aA _ X.A (do let _ <-comprehension (.ListComp elt [⟨tg,iter,ifs,0⟩] scope pos) scope X.env _ (newList []) d_ (eval iter X.env) (a_ (assign (.Name x pos') X.env))) _ _ s;refine wb9 (bJ (DT (use:=a_ (assign (.Name x pos') X.env)) (Q:=λ_ s'=>SP X h_ D .next s') rfl hs hcl S.kind S.locs (fW (hi h_ s σ H _ I h) λv s1 hv=>fW hv λitv s2 h2'=>?_)) (λ_ s' hq=>wu9 (wu9 hq)) λ_ _ e=>e);refine bJ (t7 (Q:=λx H1=>jP i x σ H1 D.nx) (E:=X.xe) hcalm S h1 h2 hg touch ht he h2') (λacc s3 q3=>bJ q3 (λcenv s4 q4=>fT q4 λr s5 q5=>?_) λ_ _ z=>z) λ_ _ z=>z;obtain⟨rfl,D',H',rfl,⟨m,hn⟩,J,fC,q⟩:=q5;show aA _ X.A (assign (.Name x pos') X.env (.ref D')) _ _ _;refine wpAny_assign_Name ?_;obtain⟨oC,es,ep,hoC,hdC,hkC⟩:=id hn
 have J':Inv X (h_++[(cenv.locals,oC)]) σ H' s5:=J.pU λp hp=>by
  rcases aK.mp hp with z|z
  ·exact J.pin p (ax _ z)
  ·have e:p=(cenv.locals,oC):=by simpa using z
   subst e;exact⟨hoC,fC.1,fC.2.1,fC.2.2.1,λv z=>by rw[hdC]at z;cases z⟩
 refine ni J' hN hi' hx (v:=.ref D') (u:=.ref D') rfl (λs6 I6=>?_) hf;have e6:=(I6.pin (cenv.locals,oC) (by simp)).1;refine⟨m,⟨oC,es,ep,e6,hdC,hkC⟩,λh' hs'=>⟨_,H',?_,q⟩⟩;exact(I6.lL).turned (t':=s6.toks) (it:=cenv.locals) (λb o hb e=>hs'.extBut b o hb e) fC.1 fC.2.1 fC.2.2.2.1 fC.2.2.2.2.1 fC.2.2.2.2.2
end
end L2
namespace M
open PySem PySem.Spec PyProof.Rows L2
def kQ(K:Fg)(F1:Hp)(J:It)(items:List Dat):Prop:=∀F H,Good F H->bS F1 F->
 (∀(i:Nat)d,items[i]?=a_ d->J.go i H/\∀x H',J.yld i H x H'->∃F',Step F H F' H'/\Rep K F' d x)/\∀i,items.length<=i->J.stop i H
noncomputable def t5(x:Iw)(F:Hp):Hp:=match x with
 |.rng _=>λ_=>b_
 |_=>F
def zN{x:Iw}{F F':Hp}(h:bS F F'):bS (t5 x F) F':=by
 unfold t5;split
 ·intro a o e;cases e
 ·exact h
noncomputable def gI(K:Fg)(C:Fs)(x:Iw):TI:=λσ H R=>∃ρ items F,xF C x ρ=a_ items/\Good F H/\lZ K F σ ρ/\∀J F1 H1,Step F H F1 H1->kQ K (t5 x F1) J items->R J H1
abbrev SI(X:Cx)(C:Fs)(tg iter:aF)(x:Iw):Prop:=PI X tg iter (gI X.K C x)
noncomputable def VJ(x:aN):It:=⟨λi _=>i<x.cps.size,λi H v H'=>H'=H/\∃c,x.cps[i]?=a_ c/\v=V.str ⟨#[c]⟩,λi _=>x.cps.size<=i⟩
def Gp{P:aO}{w:bh}{K:aB}{tg:aF}(x:aN)(t:Tok)(it:af):Turn P w K tg (VJ x) [it] it (λi h=>h.IsStrIter it "str_ascii_iterator" x t i) where
 mem:=by simp
 obj:=λi h st b hb=>by
  have e:b=it:=by simpa using hb
  subst e;obtain⟨o,e,c,d⟩:=st;exact⟨o,e,λv z=>by rw[d]at z;cases z⟩
 keep:=λi h h' st k=>by
  obtain⟨o,e,c,d⟩:=st;exact⟨o,k it (by simp) o e,c,d⟩
 item:=by
  intro X hP hw hK hc i h_ s σ H E I hf st hg;subst hP hw hK;obtain⟨f0,f1,f2,f3,f4,f5⟩:=hf it (by simp);have hx:x.cps[i]?=a_ (x.cps[i]'hg):=bq hg;refine wpAny_pyNext_ascii_item st hx λh' st' sb=>?_;have I1:Inv X h_ σ H { s with heap:=h',toks:=s.toks+1 }:=I.turned (λb o hb e=>(sb.2 b hb).trans e) f0 f1 f3 f4 f5;obtain⟨o,e,c,d⟩:=id st';exact⟨_,rfl,zK (s:={ s with heap:=h',toks:=s.toks+1 }) e c d (by decide) ⟨.str ⟨#[x.cps[i]'hg]⟩,H,I1,⟨_,rfl⟩,⟨rfl,_,hx,rfl⟩,st',λb hb=>(hf b hb).1⟩⟩
 done:=by
  intro X hP hw hK hc i h_ s σ H E I hf st hg;subst hP hw hK;obtain⟨f0,f1,f2,f3,f4,f5⟩:=hf it (by simp);have hg':x.cps.size<=i:=hg;exact wpAny_pyNext_ascii_end (I.ok.hd hc) st (gC hg') λh' eb=>⟨rfl,I.turned (t':=s.toks) (λb o hb e=>eb b o hb e) f0 f1 f3 f4 f5⟩
 self:=λ_ _ _ _ _ st h=>wpAny_pyIter_striter_ascii st h
def Gk{P:aO}{w:bh}{K:aB}{tg:aF}(x:aN)(t:Tok)(it:af):Turn P w K tg (VJ x) [it] it (λi h=>h.IsStrIter it "str_iterator" x t i) where
 mem:=by simp
 obj:=λi h st b hb=>by
  have e:b=it:=by simpa using hb
  subst e;obtain⟨o,e,c,d⟩:=st;exact⟨o,e,λv z=>by rw[d]at z;cases z⟩
 keep:=λi h h' st k=>by
  obtain⟨o,e,c,d⟩:=st;exact⟨o,k it (by simp) o e,c,d⟩
 item:=by
  intro X hP hw hK hc i h_ s σ H E I hf st hg;subst hP hw hK;obtain⟨f0,f1,f2,f3,f4,f5⟩:=hf it (by simp);have hx:x.cps[i]?=a_ (x.cps[i]'hg):=bq hg;refine wpAny_pyNext_wide_item st hx λh' st' sb=>?_;have I1:Inv X h_ σ H { s with heap:=h',toks:=s.toks+1 }:=I.turned (λb o hb e=>(sb.2 b hb).trans e) f0 f1 f3 f4 f5;obtain⟨o,e,c,d⟩:=id st';exact⟨_,rfl,zK (s:={ s with heap:=h',toks:=s.toks+1 }) e c d (by decide) ⟨.str ⟨#[x.cps[i]'hg]⟩,H,I1,⟨_,rfl⟩,⟨rfl,_,hx,rfl⟩,st',λb hb=>(hf b hb).1⟩⟩
 done:=by
  intro X hP hw hK hc i h_ s σ H E I hf st hg;subst hP hw hK;obtain⟨f0,f1,f2,f3,f4,f5⟩:=hf it (by simp);have hg':x.cps.size<=i:=hg;exact wpAny_pyNext_wide_end (I.ok.hd hc) st (gC hg') λh' eb=>⟨rfl,I.turned (t':=s.toks) (λb o hb e=>eb b o hb e) f0 f1 f3 f4 f5⟩
 self:=λ_ _ _ _ _ st h=>wpAny_pyIter_striter_wide st h
noncomputable def WQ(tl:TE):TI:=λσ H R=>tl σ H λv H1=>∃x,v=.str x/\R (VJ x) H1
def Hn{X:Cx}{tg l:aF}{tl:TE}(hl:PE X l tl):PI X tg l (WQ tl):=by
 intro h_ s σ H R I h;refine fW (hl h_ s σ H _ I h) λv s1 ⟨y,H1,I1,r1,q1⟩=>?_;obtain⟨x,e,q⟩:=q1;subst e;obtain⟨t,rfl⟩:=r1
 have fin:∀b∈[s1.heap.objs.size],pf X h_ H1 b:=λb hb=>by
  have e:b=s1.heap.objs.size:=by simpa using hb
  subst e;exact I1.zO (aM _) (I1.hok.fresh (aM _))
 cases ha:x.cps.all (·< 128)with
 |true=>exact wpAny_pyIter_ascii ha ⟨s1.heap.objs.size,[s1.heap.objs.size],_,_,H1,rfl,I1.kept (t':=s1.toks) λb o e=>hp9 _ e,Gp x t _,⟨_,aJ _ rfl,rfl,rfl⟩,fin,q⟩
 |false=>exact wpAny_pyIter_wide ha ⟨s1.heap.objs.size,[s1.heap.objs.size],_,_,H1,rfl,I1.kept (t':=s1.toks) λb o e=>hp9 _ e,Gk x t _,⟨_,aJ _ rfl,rfl,rfl⟩,fin,q⟩
def zA{K:Fg}{F1:Hp}{x:aN}:kQ K F1 (VJ x) (x.cps.toList.map λc=>Dat.str ⟨#[c]⟩):=λF H g s=>by
 refine⟨λi d hd=>?_,λi hi=>(by simpa using hi:x.cps.size<=i)⟩;rw[aW]at hd;obtain⟨c,hc,rfl⟩:=dJ hd;have hc':x.cps[i]?=a_ c:=by rw[<-m6];exact hc
 refine⟨(cZ.mp hc').1,λv H' y=>?_⟩;obtain⟨rfl,c',e1,rfl⟩:=y;rw[hc']at e1;cases e1;exact⟨F,Step.refl g,rfl⟩
section
variable{X:Cx}{C:Fs}{tg iter e:aF}{xe:Ex}{pos:dZ}
def PI.imp{w w':TI}(h:PI X tg iter w)(f:∀σ H R,w' σ H R->w σ H R):PI X tg iter w':=λh_ s σ H R I q=>h h_ s σ H R I (f _ _ _ q)
def PI.or{w w':TI}(h:PI X tg iter w)(h':PI X tg iter w'):PI X tg iter (λσ H R=>w σ H R\/w' σ H R):=λh_ s σ H R I q=>by
 rcases q with q|q
 ·exact h h_ s σ H R I q
 ·exact h' h_ s σ H R I q
def vM{K:Fg}{F1:Hp}{a:af}{vs:List V}{ds:List Dat}(h:mB K F1 a vs)(r:cv K F1 ds vs):kQ K F1 (Xf K a) ds:=λF H g s=>by
 have hq:=g.sub.seq (s.seq h);refine⟨λi d hd=>?_,λi hi=>⟨vs,hq,by rw[r.length];exact hi⟩⟩;obtain⟨v,e1,e2⟩:=r.get hd;refine⟨⟨vs,v,hq,e1⟩,λx H' y=>?_⟩;obtain⟨rfl,y⟩:=y;have:=y vs hq;rw[e1]at this;cases this;exact⟨F,Step.refl g,e2.mono s⟩
def zy{K:Fg}{F1:Hp}{a:af}{vs:List V}{ds:List Dat}(h:Tq K F1 a vs)(r:cv K F1 ds vs):kQ K F1 (Xe K a) ds:=λF H g s=>by
 have hq:=((h.mono s).mono g.sub).sq;refine⟨λi d hd=>?_,λi hi=>⟨vs,hq,by rw[r.length];exact hi⟩⟩;obtain⟨v,e1,e2⟩:=r.get hd;refine⟨⟨vs,v,hq,e1⟩,λx H' y=>?_⟩;obtain⟨rfl,y⟩:=y;have:=y vs hq;rw[e1]at this;cases this;exact⟨F,Step.refl g,e2.mono s⟩
def Pr(h:SE X C e xe):SI X C tg e (.itv xe):=PI.imp (PI.or (PI.or (CS h) (Hm h)) (Hn h)) λσ H R z3=>by
 obtain⟨ρ,items,F,hi,g,RS,k⟩:=z3;obtain⟨⟨d,fr⟩,h1,h2⟩:=bV hi
 cases d with
 |lst ds=>
   cases h2;refine .inl (.inl ⟨ρ,_,fr,h1,F,g,RS,λv F1 H1 st r _=>?_⟩);obtain⟨a,vs,rfl,hq,r⟩:=r;exact⟨a,rfl,⟨vs,st.good.sub.seq hq⟩,k _ F1 H1 st (vM hq r)⟩
 |tup ds=>
   cases h2;refine .inl (.inr ⟨ρ,_,fr,h1,F,g,RS,λv F1 H1 st r _=>?_⟩);obtain⟨a,vs,rfl,hq,r⟩:=r;exact⟨a,rfl,⟨vs,(hq.mono st.good.sub).sq⟩,k _ F1 H1 st (zy hq r)⟩
 |str x=>
   cases h2;refine .inr ⟨ρ,_,fr,h1,F,g,RS,λv F1 H1 st r _=>?_⟩;cases r;exact⟨x,rfl,k _ F1 H1 st zA⟩
 |_=>cases h2
def Ip{K:Fg}{F1:Hp}{lo:Int}{n:Nat}:kQ K F1 (VL lo n) ((aR n).map λk:Nat=>Dat.int (lo+k)):=λF H g s=>by
 refine⟨λi d hd=>?_,λi hi=>(by simpa using hi:n<=i)⟩;rw[aW]at hd
 have hi:i<n:=by
  by_cases hi:i<n
  ·exact hi
  ·rw[jH (by simpa using hi)]at hd;cases hd
 rw[au (by simpa using hi)]at hd;simp only[FC,aC,iO]at hd;subst hd;refine⟨hi,λx H' y=>?_⟩;obtain⟨rfl,rfl⟩:=y;exact⟨F,Step.refl g,rfl⟩
set_option tactic.hygienic true in
def KS{a:aF}{xa:Ex}{p:dZ}(hg:Gl X "range")(hm:X.mg "range"=b_)(ha:SA X C [a] [xa])(hs:aI [a] X.env=[(d_,eval a X.env)]):SI X C tg (.Call (.Name "range" p) [a] [] pos) (.rng [xa]):=
 PI.imp (Em hg hm ha hs) λσ H R z3=>by
  obtain⟨ρ,items,F,hi,g,RS,k⟩:=z3;obtain⟨ds,h1,h2⟩:=bV hi;refine⟨ρ,ds,h1,F,g,RS,λvs F1 H1 st r=>?_⟩;unfold Eh at h2;split at h2
  ·rename_i j;split at h2
   ·rename_i hz;cases h2;obtain⟨v,w,rfl,rv,rw'⟩:=r;cases rv;cases rw';refine⟨j,rfl,by omega,by omega,k _ F1 H1 st ?_⟩;have:=Ip (K:=X.K) (F1:=t5 (.rng [xa]) F1) (lo:=0) (n:=j.toNat);simpa using this
   ·cases h2
  ·have:=kK h1;cases this
  ·cases h2
end
def EA{f:Dat->Option g_}{d:Dat}{ds:List Dat}{ys:List Dat×Bool}(h:oW f (d::ds)=a_ ys):∃o r,f d=a_ o/\oW f ds=a_ r/\ys=(match o with|some y=>(y.1::r.1,(y.2 || im y.1) && r.2)|none=>r):=by
 simp only[oW]at h;obtain⟨o,h1,h⟩:=bV h;obtain⟨r,h2,h⟩:=dJ h;exact⟨o,r,h1,h2,by cases o<;>exact h.symm⟩
def Sv(K:Fg)(nt:Nat)(one:Bool)(g:TG):Prop:=∀F H σ ρ d x ρ1 Q,Good F H->lZ K F σ ρ->nt<=σ.length->σ.length=ρ.length->Rep K F d x->DH nt one d ρ=a_ ρ1->(∀σ1,lZ K F σ1 ρ1->Q σ1 H)->g x σ H Q
def yU{K:Fg}{F:Hp}{σ:St}{ρ:eM}{i:Nat}{d:Dat}{v:V}(hl:σ.length=ρ.length)(R:lZ K F σ ρ)(r:Rep K F d v):lZ K F (σ.set i (a_ v)) (ρ.set i (a_ d)):=λj d' q=>by
 rw[lJ]at q ⊢;by_cases hj:i=j
 ·rw[if_pos hj]at q ⊢;split at q
  ·cases q;rw[if_pos (by omega)];exact⟨v,rfl,r⟩
  ·cases q
 ·rw[if_neg hj]at q ⊢;exact R j d' q
def Kt{K:Fg}{nt:Nat}:Sv K nt c_ (jP 0):=λF H σ ρ d x ρ1 Q g R hn hl r hb k=>by
 simp only[DH,iO]at hb;subst hb;exact k _ (yU hl R r)
def E4{K:Fg}{F:Hp}{σ:St}{ρ:eM}{nt:Nat}{caps:List Nat}(R:lZ K F σ ρ):lZ K F (gR nt caps σ) (dS nt caps ρ):=λi d q=>by
 unfold dS at q;unfold gR;by_cases hi:i<nt
 ·rw[cK (by simpa using hi),eK,if_pos hi]at q;cases q
 ·rw[de (by simpa using hi),jG,aW]at q;rw[de (by simpa using hi),jG,aW]
  cases hj:caps[i - nt]? with
  |none=>rw[hj]at q;cases q
  |some j=>
    rw[hj]at q;have q':(ρ[j]?).join=a_ d:=aP q
    have q2:ρ[j]?=a_ (a_ d):=by
     cases z:ρ[j]? with
     |none=>rw[z]at q';cases q'
     |some o=>rw[z]at q';exact congrArg a_ q'
    obtain⟨v,e1,e2⟩:=R j d q2;refine⟨v,?_,e2⟩;rw[aC,e1];rfl
noncomputable def SY(K:Fg)(C:Fs)(xs:List Ex):TT:=λσ H Q=>∃ρ b,vU C xs ρ=a_ b/\tT K ρ b σ H Q
section
variable{X Y:Cx}{C:Fs}{tg iter elt:aF}{it:Iw}{xe:Ex}{xs:List Ex}
def Ky:J0 Y [] (SY Y.K C []):=λh_ s σ H Q I z6=>by
 obtain⟨ρ,b,h,F,g,R,k⟩:=z6;simp only[vU]at h;cases h;exact Lx h_ s σ H Q I (k F H (Step.refl g))
def Kx{c:aF}(h:ST Y C c xe):J0 Y [c] (SY Y.K C [xe]):=λh_ s σ H Q I z6=>by
 obtain⟨ρ,b,hb,F,g,R,k⟩:=z6;refine Lw h h_ s σ H Q I ?_;simp only[vU]at hb;obtain⟨⟨d,fr⟩,h1,hb⟩:=bV hb;obtain⟨z,hz,hb⟩:=bV hb;refine⟨ρ,d,fr,z,h1,hz,F,g,R,λF1 H1 st=>?_⟩
 cases z with
 |true=>rw[if_pos rfl]at hb;cases hb;exact k F1 H1 st
 |false=>rw[if_neg df]at hb;cases hb;exact k F1 H1 st
set_option tactic.hygienic true in
def vW{nt:Nat}{one:Bool}{caps:List Nat}{g:TG}{K:Fg}(tgc:Sv K nt one g)(hcl:∀ρ items,xF C it ρ=a_ items->True) :
  ∀σ H Q,gE K C (.comp nt one caps it xs xe) σ H Q->GF (gI K C it) nt caps g (SY K C xs) (gE K C xe) σ H Q:=λσ H Q z3=>by
 obtain⟨ρ,d,fr,h,F,g0,R,k⟩:=z3;obtain⟨items,h1,h⟩:=bV h;split at h
 ·rename_i hz;obtain⟨⟨all,av⟩,h2,h⟩:=dJ h;cases h;refine⟨ρ,items,F,h1,g0,R,λJ F1 H1 st1 ok=>?_⟩;refine⟨λi m ys H'=>∃F' dy ay dr ar,Step F1 H1 F' H'/\oW (gD C nt one (dS nt caps ρ) xs xe) (items.drop i)=a_ (dr,ar)/\all=dy++dr/\av=(ay && ar)/\cv K F' dy ys/\(ay=c_->eO K H1 H' dy ys)/\m=items.length - i/\i<=items.length/\dy.length<=i,⟨items.length,F1,[],c_,all,av,Step.refl st1.good,h2,rfl,rfl,rfl,λ_=>.nil,rfl,fK _,aM _⟩,?_⟩;rintro i m ys H' ⟨F',dy,ay,dr,ar,st,hm,ha,hav,ry,fy,rfl,hi,hdy⟩;have hy:ys.length<=1000000:=by rw[ry.length];omega
  obtain⟨okg,Uw⟩:=ok F' H' st.good (zN st.ff);by_cases hlt:i<items.length
  ·obtain⟨go,yl⟩:=okg i items[i] (au hlt);refine .inr ⟨go,by rw[bT];omega,λx H2 y2=>?_⟩;obtain⟨F2,st2,r2⟩:=yl x H2 y2;rw[iF hlt]at hm;obtain⟨o,⟨rr,rv⟩,h3,h4,h5⟩:=EA hm;obtain⟨ρ1,h6,h3⟩:=bV h3;obtain⟨b,h7,h3⟩:=bV h3;have RS:lZ K F2 (gR nt caps σ) (dS nt caps ρ):=(E4 R).mono ((st1.ff.trans st.ff).trans st2.ff);refine tgc F2 H2 _ _ _ x ρ1 _ st2.good RS (by simp[gR]) (by simp[gR,dS]) r2 h6 λσ1 RS1=>?_;refine⟨ρ1,b,h7,F2,st2.good,RS1,λF3 H3 st3=>?_⟩
   cases b with
   |true=>
     rw[if_pos rfl]at h3 ⊢;obtain⟨⟨dy1,fr1⟩,h8,h3⟩:=dJ h3;cases h3;refine⟨ρ1,dy1,fr1,h8,F3,st3.good,RS1.mono st3.ff,λv F4 H4 st4 r4 f4=>?_⟩;have stA:=((st.trans st2).trans st3).trans st4;have e5:dr=dy1::rr/\ar=((fr1 || im dy1) && rv):=by cases h5;exact⟨rfl,rfl⟩
     refine⟨items.length - (i+1),by omega,F4,dy++[dy1],ay && (fr1 || im dy1),rr,rv,stA,h4,by rw[ha,e5.1];simp,by rw[hav,e5.2,N8],(ry.mono ((st2.ff.trans st3.ff).trans st4.ff)).append (.one r4),λz=>?_,rfl,hlt,by simp;omega⟩;simp only[aq,m4]at z;have s23:=st2.hh.trans st3.hh;refine eO.snoc (st.hh.trans s23) st4.hh ((fy z.1).mono s23) ?_
     rcases z.2 with z2|z2
     ·exact f4 z2
     ·exact .jL st4.good z2 r4
   |false=>
     rw[if_neg df]at h3 ⊢;cases h3;have e5:dr=rr/\ar=rv:=by cases h5;exact⟨rfl,rfl⟩
     exact⟨items.length - (i+1),by omega,F3,dy,ay,rr,rv,(st.trans st2).trans st3,h4,by rw[ha,e5.1],by rw[hav,e5.2],ry.mono (st2.ff.trans st3.ff),λz=>(fy z).mono (st2.hh.trans st3.hh),rfl,hlt,by omega⟩
  ·have e:i=items.length:=by omega
   subst e;refine .inl ⟨Uw _ (aM _),p6 hy,λp hp=>?_⟩;rw[JU]at hm;simp only[oW]at hm;cases hm;rw[bN]at ha;rw[bO]at hav;subst ha hav;have ry':=ry.mono (bS.upd (o:=.lst ys) (st.good.sub.free hp));exact k _ _ _ ((st1.trans st).trans (Step.alloc st.good hp)) ⟨p,ys,rfl,.inl (.inl bu),ry'⟩ λz=>.lst (st1.hh.trans st.hh) hp ((fy z).back (F:=F) st1.hh)
 ·cases h
end
def tP{K:Fg}{F:Hp}{d:Dat}{k:Key}{v:V}(h:nF d=a_ k)(r:Rep K F d v):v=kV k:=by
 cases d with
 |int i=>cases h;exact r
 |str x=>cases h;exact r
 |_=>cases h
set_option tactic.hygienic true
theorem nZ{K:Fg}{F:Hp}{k:Key}{d:Dat}:∀{ds:List Dat}{k_:List (Key×V)},jO k (k_.map (·.1)) ds=a_ d->cv K F ds (k_.map (·.2))->∃v,m9 k_ k=a_ v/\Rep K F d v
 |[],[],h,_=>by cases h
 |[],_::_,h,_=>by cases h
 |_::_,[],h,_=>by cases h
 |e::ds,p::k_,h,r=>by
   obtain⟨v,w,q,r1,r2⟩:=r;cases q;simp only[aw,jO]at h;split at h
   ·rename_i z;cases h;exact⟨p.2,pO z,r1⟩
   ·rename_i z;obtain⟨v,g1,g2⟩:=nZ h r2;exact⟨v,(m8 z).trans g1,g2⟩
theorem qJ{K:Fg}{F:Hp}{k:Key}:∀{ds:List Dat}{k_:List (Key×V)},jO k (k_.map (·.1)) ds=b_->cv K F ds (k_.map (·.2))->m9 k_ k=b_
 |_,[],_,_=>rfl
 |[],p::k_,_,r=>by cases r
 |e::ds,p::k_,h,r=>by
   obtain⟨v,w,q,r1,r2⟩:=r;cases q;simp only[aw,jO]at h;split at h
   ·cases h
   ·rename_i z;exact(m8 z).trans (qJ h r2)
set_option tactic.hygienic false
section
variable{X:Cx}{C:Fs}{a b c e:aF}{xa xb xc:Ex}{pos:dZ}{es:List aF}{xs:List Ex}{h_:List (af×er)}{σ:St}{F H:Hp}{s:ae}
def DJ{K:Fg}{F:Hp}{ds:List Dat}{vs:List V}{i:Int}{d:Dat}(r:cv K F ds vs)(h:kO ds i=a_ d):∃v,kO vs i=a_ v/\Rep K F d v:=by
 unfold kO at h ⊢;rw[r.length];obtain⟨j,h1,h2⟩:=bV h;obtain⟨v,e1,e2⟩:=r.get h2;exact⟨v,by rw[h1];exact e1,e2⟩
set_option tactic.hygienic true in
def WI(hu:X.A.units+1<di):Tc X (gB X.K λx y=>(EH x y).map λd=>(d,d_)):=by
 intro value slice h_ s σ H x y v u Q I rx ry h hs;obtain⟨da,db,d,fr,h,F,g,ra,rb,k⟩:=h;obtain⟨d',h1,h2⟩:=dJ h;obtain⟨rfl,rfl⟩:d'=d/\d_=fr:=by cases h2;exact⟨rfl,rfl⟩
 by_cases hdc:∃ks ds,da=.dct ks ds
 ·obtain⟨ks,ds,rfl⟩:=hdc;have h1':(nF db).bind (λk=>jO k ks ds)=a_ d':=by cases db<;>exact h1
  obtain⟨kk,hk,hl⟩:=bV h1';obtain⟨a,k_,rfl,hF,rfl,rr⟩:=ra;obtain⟨w,e1,e2⟩:=nZ hl rr;obtain rfl:=tP hk rb;cases rx;have dg:uY H a (kV kk) (a_ w):=by rw[<-e1];exact uY.k (g.sub _ _ hF)
  exact tail_any (zZ I dg) PySem.F.slot_dict_getitem.lookup (ET hu I dg ry λu' s' I' r'=>⟨w,H,I',r',k _ F H (Step.refl g) e2 aV⟩) hs
 cases da<;>first|exact absurd ⟨_,_,rfl⟩ hdc|skip
 all_goals cases db<;>simp only[EH,reduceCtorEq]at h1
 ·
  split at h1
  ·rename_i z i hz;obtain⟨c,h3,h4⟩:=dJ h1;subst h4;exact Rk value slice h_ s σ H x y v u Q I rx ry ⟨z,i,c,ra,rb,hz,h3,k _ F H (Step.refl g) rfl aV⟩ hs
  ·cases h1
 ·rename_i ds i;obtain⟨p,vs,rfl,t,r⟩:=ra;obtain⟨w,e1,e2⟩:=DJ r h1;exact Im value slice h_ s σ H _ y v u Q I rx ry ⟨p,vs,i,w,rfl,rb,(t.mono g.sub).sq,e1,k _ F H (Step.refl g) e2 aV⟩ hs
 ·rename_i ds i;obtain⟨p,vs,rfl,t,r⟩:=ra;obtain⟨w,e1,e2⟩:=DJ r h1;exact Mv value slice h_ s σ H _ y v u Q I rx ry ⟨p,vs,i,w,rfl,rb,g.sub.seq t,e1,k _ F H (Step.refl g) e2 aV⟩ hs
noncomputable def gO(K:Fg)(C:Fs)(x:Option Ex):TO:=λσ H Q=>∃ρ o F,Si C ρ x=a_ o/\Good F H/\lZ K F σ ρ/\∀F' H',Step F H F' H'->Q o H'
abbrev SO(X:Cx)(C:Fs)(e:Option aF)(x:Option Ex):Prop:=PO X e (gO X.K C x)
def PO.imp{e:Option aF}{t t':TO}(h:PO X e t)(f:∀σ H Q,t' σ H Q->t σ H Q):PO X e t':=λh_ s σ H Q I q=>h h_ s σ H Q I (f _ _ _ q)
def KN:SO X C b_ b_:=PO.imp LC λσ H Q z3=>by
 obtain⟨ρ,o,F,ho,g,R,k⟩:=z3;cases ho;exact k F H (Step.refl g)
def KL(h:SE X C e xa):SO X C (a_ e) (a_ xa):=PO.imp (LB h) λσ H Q z3=>by
 obtain⟨ρ,o,F,ho,g,R,k⟩:=z3;obtain⟨⟨d,fr⟩,h1,h2⟩:=bV ho
 cases d with
 |int i=>
   cases h2;exact⟨ρ,_,fr,h1,F,g,R,λv F1 H1 st r _=>⟨i,r,k F1 H1 st⟩⟩
 |_=>cases h2
def Ye(K:Fg):V->Option Int->Option Int->Hp->VK->Prop:=λx lo hi H Q=>∃da d fr F,Of da lo hi=a_ (d,fr)/\Good F H/\Rep K F da x/\∀v F' H',Step F H F' H'->Rep K F' d v->(fr=c_->fJ K H H' d v)->Q v H'
def xJ{K:Fg}{F:Hp}{ds:List Dat}{vs:List V}(lo hi:Option Int)(r:cv K F ds vs):cv K F (cutD ds lo hi) (xK vs lo hi):=by
 unfold cutD xK;rw[<-r.length];exact(r.drop _).take _
def p8{prog:aO}{w:bh}{A:bp}{E:aa->ae->Prop}{s:ae}{t sl:af}{items:Array aa}{vl vu:aa}{lo hi:Option Int}{Q:aa->ae->Prop}(ht:Kc s.heap t items)(hs:s.heap.IsSliceOf sl vl vu .none)(pl:qr vl lo)(pu:qr vu hi)
  (hw:HT.fV items.size 0 lo=0/\HT.fV items.size items.size hi=items.size)
  (h:Q (.ref t) s):aA (aE prog w) A (getItem (.ref t) (.ref sl)) Q E s:=by
 obtain⟨os,hos,hcs,hds⟩:=id hs;have hTs:s.TypeIs (.ref sl) "slice":=⟨os,hos,hcs⟩
 unfold getItem
 try with_reducible refine cz ?_
 first|refine wb9 (wu9 ?_)|skip
 refine wb9 (wpAny_sequenceKey ht.typeIs (by decide) ?_)
 refine wb9 (dh (name:=ag "__getitem__") ht.typeIs cQ
  (cu cQ ht.typeIs entry_tuple_getitem ?_ (args_tuple_getitem _ _)))
 show aA _ _ (jF (.ref t) >>= _) _ _ s;refine wb9 (tupleItemsOf_ ht ?_);refine wb9 (jS hTs ?_);rw[if_pos (by decide)];refine wb9 (HT.lN hs pl pu ?_)
 have hyes:((((HT.fV items.size 0 lo:Nat):Int) == 0 && (1:Int) == 1 && (HT.fV items.size items.size hi - HT.fV items.size 0 lo) == items.size)=c_):=by
  rw[hw.1,hw.2];simp
 show aA _ _ (if(((HT.fV items.size 0 lo:Nat):Int) == 0 && (1:Int) == 1 && (HT.fV items.size items.size hi - HT.fV items.size 0 lo) == items.size)=c_ then _ else _) _ _ s;rw[if_pos hyes];refine wb9 (m:=pG (.ref t)) ?_;unfold pG;refine wb9 (jS ht.typeIs (wu9 ?_));rw[if_pos (by decide)];exact wb9 (jl (wu9 ⟨_,rfl,wu9 h⟩))
set_option tactic.hygienic true
def Wc:VG X (Ye X.K):=by
 intro h_ s σ H x v vl vu lo hi sl Q I rx hs pl pu h;obtain⟨da,d,fr,F,h,g,ra,k⟩:=h
 cases da with
 |lst ds=>
   cases h;obtain⟨p,vs,rfl,t,r⟩:=ra;refine KP h_ s σ H _ v vl vu lo hi sl Q I rx hs pl pu ⟨p,vs,rfl,g.sub.seq t,λq hq=>?_⟩;have r2:=(xJ lo hi r).mono (bS.upd (o:=.lst (xK vs lo hi)) (g.sub.free hq));exact k _ _ _ (Step.alloc g hq) ⟨q,_,rfl,.inl (.inl bu),r2⟩ λz=>.lst (bS.refl _) hq (.jL g z (xJ lo hi r))
 |str z=>
   simp only[Of]at h;split at h
   ·rename_i hz;cases h;rw[show x=.str z from ra]at rx;obtain⟨t,rfl⟩:=rx;obtain⟨o,ho,hc,hd⟩:=hs;refine⟨"str",_,PySem.F.slot_str_getitem.lookup,typeIs_str _ _ _,?_⟩;have fin:∀t' k',EP X h_ σ Q (.str (jE z lo hi) t') { s with toks:=k' }:=λt' k'=>⟨.str _,H,I.tok k',⟨t',rfl⟩,k _ F H (Step.refl g) rfl aV⟩
    have hle:=cW (PySem.Txt.slice_le z lo hi) hz
    cases pl with
    |none=>
      cases pu with
      |none=>exact jy (l:=b_) (u:=b_) (st:=b_) ⟨o,ho,hc,hd⟩ rfl (pj ⟨hle,fin⟩)
      |int j uj=>exact jy (l:=b_) (u:=a_ (j,uj)) (st:=b_) ⟨o,ho,hc,hd⟩ rfl (pj ⟨hle,fin⟩)
    |int i ui=>
      cases pu with
      |none=>exact jy (l:=a_ (i,ui)) (u:=b_) (st:=b_) ⟨o,ho,hc,hd⟩ rfl (pj ⟨hle,fin⟩)
      |int j uj=>exact jy (l:=a_ (i,ui)) (u:=a_ (j,uj)) (st:=b_) ⟨o,ho,hc,hd⟩ rfl (pj ⟨hle,fin⟩)
   ·cases h
 |tup ds=>
   simp only[Of]at h;cases h;obtain⟨p,vs,rfl,t,r⟩:=ra;by_cases hw:HT.fV ds.length 0 lo=0/\HT.fV ds.length ds.length hi=ds.length
   ·have e:cutD ds lo hi=ds:=by
     unfold cutD;rw[hw.1,hw.2,eC,Nat.sub_zero,List.take_length]
    rw[e]at k;cases rx;obtain⟨its,w1,ht,hz⟩:=I.tuple (t.mono g.sub).sq;have hlen:its.toArray.size=ds.length:=by rw[aH,<-w1.length,r.length]
    exact⟨"tuple",_,cQ.lookup,ht.typeIs,p8 ht hs pl pu (by rw[hlen];exact hw) ⟨.ref p,H,I,rfl,k _ F H (Step.refl g) ⟨p,vs,rfl,t,r⟩ aV⟩⟩
   ·refine Pp h_ s σ H _ v vl vu lo hi sl Q I rx hs pl pu ⟨p,vs,rfl,(t.mono g.sub).sq,by rw[r.length];exact hw,λq hq=>?_⟩;exact k _ _ _ (Step.alloc g hq) ⟨q,_,rfl,.inl bu,(xJ lo hi r).mono (bS.upd (g.sub.free hq))⟩ aV
 |_=>cases h
def TH{lo hi:Option aF}{xb xc:Option Ex}{p2:dZ}(ha:SE X C a xa)(hl:SO X C lo xb)(hh:SO X C hi xc):SE X C (.Subscript a (.Slice lo hi b_ p2) pos) (.sl xa xb xc):=
 PE.imp (Hu Wc ha hl hh) λσ H Q z3=>by
  obtain⟨ρ,d,fr,h,F,g,R,k⟩:=z3;obtain⟨⟨da,fa⟩,h1,h⟩:=bV h;obtain⟨l,h2,h⟩:=bV h;obtain⟨u,h3,h⟩:=bV h;refine⟨ρ,da,fa,h1,F,g,R,λv F1 H1 st1 r1 _=>⟨ρ,l,F1,h2,st1.good,R.mono st1.ff,λF2 H2 st2=>⟨ρ,u,F2,h3,st2.good,R.mono (st1.ff.trans st2.ff),λF3 H3 st3=>?_⟩⟩⟩;exact⟨da,d,fr,F3,h,st3.good,r1.mono (st2.ff.trans st3.ff),λw F4 H4 st4 r4 f4=>k w F4 H4 (((st1.trans st2).trans st3).trans st4) r4 λz=>(f4 z).back (F:=F) ((st1.hh.trans st2.hh).trans st3.hh)⟩
def Qx(hu:X.A.units+20<di):ie X (compareOp .NotEq) (gB X.K (lT .ne)):=λh_ s σ H x y v u Q I rx ry z12=>by
 obtain⟨da,db,d,fr,h,F,g,ra,rb,k⟩:=z12;obtain⟨b,hd,rfl,rfl⟩:=jw h;simp only[eV,AD,Ff,qU,DF]at hd;split at hd
 ·rename_i hs;cases hd;simp only[aq]at hs;exact(qb I g 20 X.A da db hu hs.1 hs.2 ra rb rx ry).2.2 X.prog X.w _ _ ⟨.bl _,H,I,rfl,k _ F H (Step.refl g) rfl aV⟩
 ·cases hd
set_option tactic.hygienic false
def LS:ie X (compareOp .Is) (gB X.K (lT .isn)):=ie.imp QC λx y H Q z4=>by
 obtain⟨da,db,d,fr,h,F,g,ra,rb,k⟩:=z4;obtain⟨b,hd,rfl,rfl⟩:=jw h
 cases db with
 |non=>
   simp only[eV,AD,Ff,qU,DF]at hd;cases hd;refine⟨rb,?_⟩
   cases da with
   |non=>cases ra;exact k _ F H (Step.refl g) rfl aV
   |tup ds=>obtain⟨p,vs,rfl,_⟩:=ra;exact k _ F H (Step.refl g) rfl aV
   |lst ds=>obtain⟨p,vs,rfl,_⟩:=ra;exact k _ F H (Step.refl g) rfl aV
   |dct _ ds=>obtain⟨p,vs,rfl,_⟩:=ra;exact k _ F H (Step.refl g) rfl aV
   |dcn _=>obtain⟨p,vs,rfl,_⟩:=ra;exact k _ F H (Step.refl g) rfl aV
   |exc _ _ _=>obtain⟨p,vs,rfl,_⟩:=ra;exact k _ F H (Step.refl g) rfl aV
   |_=>cases ra;exact k _ F H (Step.refl g) rfl aV
 |_=>cases da<;>cases hd
def HF:ie X (compareOp .IsNot) (gB X.K (lT .nisn)):=ie.imp LN λx y H Q z4=>by
 obtain⟨da,db,d,fr,h,F,g,ra,rb,k⟩:=z4;obtain⟨b,hd,rfl,rfl⟩:=jw h
 cases db with
 |non=>
   simp only[eV,AD,Ff,qU,DF]at hd;cases hd;refine⟨rb,?_⟩
   cases da with
   |non=>cases ra;exact k _ F H (Step.refl g) rfl aV
   |tup ds=>obtain⟨p,vs,rfl,_⟩:=ra;exact k _ F H (Step.refl g) rfl aV
   |lst ds=>obtain⟨p,vs,rfl,_⟩:=ra;exact k _ F H (Step.refl g) rfl aV
   |dct _ ds=>obtain⟨p,vs,rfl,_⟩:=ra;exact k _ F H (Step.refl g) rfl aV
   |dcn _=>obtain⟨p,vs,rfl,_⟩:=ra;exact k _ F H (Step.refl g) rfl aV
   |exc _ _ _=>obtain⟨p,vs,rfl,_⟩:=ra;exact k _ F H (Step.refl g) rfl aV
   |_=>cases ra;exact k _ F H (Step.refl g) rfl aV
 |_=>cases da<;>cases hd
end
end M
namespace L2
open PySem PySem.Spec PyProof.Rows
def iR(tp:Bool)(h:bx)(it l:af)(i:Nat):Prop:=match tp with
 |true=>h.IsTupleIter it l i
 |false=>h.IsListIter it l i
def jd(tp:Bool)(h:bx)(l:af)(xs:Array aa):Prop:=match tp with
 |true=>h.IsTuple l xs
 |false=>h.IsList l xs
def iR.keep{tp:Bool}{h h':bx}{it l:af}{i:Nat}(y:iR tp h it l i)(k:∀o,h.get? it=a_ o->h'.get? it=a_ o):iR tp h' it l i:=by
 cases tp<;>exact(let ⟨o,e,r⟩:=y;⟨o,k o e,r⟩)
def jd.keep{tp:Bool}{h h':bx}{l:af}{xs:Array aa}(y:jd tp h l xs)(k:∀o,h.get? l=a_ o->h'.get? l=a_ o):jd tp h' l xs:=by
 cases tp<;>exact(let ⟨o,e,r⟩:=y;⟨o,k o e,r⟩)
def iR.obj{tp:Bool}{h:bx}{it l:af}{i:Nat}(y:iR tp h it l i):∃o,h.get? it=a_ o/\o.cls=.type (if tp then "tuple_iterator" else "list_iterator")/\o.data=.fields #[.ref l,.int i 0]:=by
 cases tp<;>exact y
def jd.obj{tp:Bool}{h:bx}{l:af}{xs:Array aa}(y:jd tp h l xs):∃o,h.get? l=a_ o/\o.cls=.type (if tp then "tuple" else "list")/\∃n,o.data=.seq xs n:=by
 cases tp<;>exact y
section
open Builtin
variable{prog:aO}{w:bh}{A:bp}{E:aa->ae->Prop}{s:ae}
def HK{it q:af}{i:Nat}{xs:Array aa}{v:aa}{Q:aa->ae->Prop}(gi:s.heap.IsTupleIter it q i)(gq:s.heap.IsTuple q xs)(gx:xs[i]?=a_ v)
  (k:∀h',h'.IsTupleIter it q (i+1)->dB it s.heap h'->Q v { s with heap:=h' }):aA (aE prog w) A (dk (.ref it)) Q E s:=by
 obtain⟨ob,gb,gc,gd⟩:=id gi;obtain⟨oq,gq1,_,nq,gq2⟩:=gq;unfold dk;refine wb9 (dh (name:=ag "__next__") gi.typeIs fA (cu fA gi.typeIs pk ?_ (oQ _)));show aA (aE prog w) _ (field (.ref it) 0 >>= _) _ _ s;refine wb9 (cO gb gd (x:=.ref q) rfl ?_);show aA (aE prog w) _ (if(bR q == cJ)=c_ then _ else _) _ _ s;rw[if_neg (show¬((bR q == cJ)=c_)from df)];show aA (aE prog w) _ (field (.ref it) 1 >>= _) _ _ s;refine wb9 (cO gb gd (x:=.int i 0) rfl ?_);show aA (aE prog w) _ (seqItems? (.ref q) >>= _) _ _ s;refine wb9 (dn gq1 gq2 ?_);simp only[eN,gx];refine wb9 (l8 gb gd (by simp) (wu9 ⟨v,rfl,wu9 (k _ ⟨_,du _ gb (oj (i6 gd _)),(JO ..).trans gc,?_⟩ (mE ..))⟩));rw[i6 gd];simp[rawInt]
def L6{it q:af}{i:Nat}{xs:Array aa}{Q:aa->ae->Prop}(nh:A.handled=b_)(gi:s.heap.IsTupleIter it q i)(gq:s.heap.IsTuple q xs)(gx:xs[i]?=b_)
  (k:∀h' e,Heap.ExtBut it s.heap h'->(∃o,h'.get? e=a_ o/\o.cls=.type "StopIteration")->E (.ref e) { s with heap:=h' }):aA (aE prog w) A (dk (.ref it)) Q E s:=by
 obtain⟨ob,gb,gc,gd⟩:=id gi;obtain⟨oq,gq1,_,nq,gq2⟩:=gq;unfold dk;refine wb9 (dh (name:=ag "__next__") gi.typeIs fA (cu fA gi.typeIs pk ?_ (oQ _)));show aA (aE prog w) _ (field (.ref it) 0 >>= _) _ _ s;refine wb9 (cO gb gd (x:=.ref q) rfl ?_);show aA (aE prog w) _ (if(bR q == cJ)=c_ then _ else _) _ _ s;rw[if_neg (show¬((bR q == cJ)=c_)from df)];show aA (aE prog w) _ (field (.ref it) 1 >>= _) _ _ s;refine wb9 (cO gb gd (x:=.int i 0) rfl ?_);show aA (aE prog w) _ (seqItems? (.ref q) >>= _) _ _ s;refine wb9 (dn gq1 gq2 ?_);simp only[eN,gx];refine wb9 (jl (wb9 (l8 gb gd (by simp) ?_)));show aA (aE prog w) _ (newExc (.type "StopIteration") [] >>= _) _ _ _;refine wb9 ?_;simp only[newExc,newTuple];refine wb9 (cN (wb9 (m:=firstArgMember _ _) (J4 (a:=cJ) (by first|rfl|(simp only[firstArgMember];rfl)) (cN ?_ (by size_fits)))) (by size_fits));simp only[raiseNew];refine wb9 (wpAny_handled ?_)
 first|rw[show A.in1.handled=b_ from nh]|rw[nh]
 exact wb9 (wu9 (wpAny_throw (k _ _ (((mE ..).extBut.push _).push _) ⟨_,aJ _ rfl,rfl⟩)))
def r8{tp:Bool}{it q:af}{i:Nat}{xs:Array aa}{v:aa}{Q:aa->ae->Prop}(gi:iR tp s.heap it q i)(gq:jd tp s.heap q xs)(gx:xs[i]?=a_ v)
  (k:∀h',iR tp h' it q (i+1)->dB it s.heap h'->Q v { s with heap:=h' }):aA (aE prog w) A (dk (.ref it)) Q E s:=by
 cases tp
 ·exact wpAny_nextOf_list_item gi gq gx k
 ·exact HK gi gq gx k
def w5{tp:Bool}{it q:af}{i:Nat}{xs:Array aa}{Q:aa->ae->Prop}(nh:A.handled=b_)(gi:iR tp s.heap it q i)(gq:jd tp s.heap q xs)(gx:xs[i]?=b_)
  (k:∀h' e,Heap.ExtBut it s.heap h'->(∃o,h'.get? e=a_ o/\o.cls=.type "StopIteration")->E (.ref e) { s with heap:=h' }):aA (aE prog w) A (dk (.ref it)) Q E s:=by
 cases tp
 ·exact wpAny_nextOf_list_end nh gi gq gx k
 ·exact L6 nh gi gq gx k
structure Vp(z T U i j a b:af):Prop where
 Tz:T≠z
 Uz:U≠z
 iz:i≠z
 jz:j≠z
 TU:T≠U
 Ti:T≠i
 Tj:T≠j
 Ui:U≠i
 Uj:U≠j
 ij:i≠j
 az:a≠z
 aU:a≠U
 ai:a≠i
 aj:a≠j
 bz:b≠z
 bU:b≠U
 bi:b≠i
 bj:b≠j
def Kg{tp tq:Bool}{z T U i j a b:af}{m n:Nat}{xs ys:Array aa}{x y c d:aa}{Q:aa->ae->Prop}(P:Vp z T U i j a b)(gz:mR s.heap z T U .none)(gT:gQ s.heap T (.ref i) (.ref j))(gU:gQ s.heap U c d)
  (gi:iR tp s.heap i a m)(gj:iR tq s.heap j b n)(ga:jd tp s.heap a xs)(gb:jd tq s.heap b ys)(gx:xs[m]?=a_ x)(gy:ys[n]?=a_ y)
  (k:∀h',mR h' z T U (rawInt s.heap.objs.size)->gQ h' U x y->iR tp h' i a (m+1)->iR tq h' j b (n+1)->gQ h' s.heap.objs.size x y->h'.objs.size=s.heap.objs.size+1->
   (∀e o,e≠z->e≠U->e≠i->e≠j->s.heap.get? e=a_ o->h'.get? e=a_ o)->Q (.ref s.heap.objs.size) { s with heap:=h' }) :
  aA (aE prog w) A (fh.«zip.__next__» ⟨[.ref z],[]⟩) (λf s'=>∃v,f=.done (.ret v)/\Q v s') E s:=by
 show aA (aE prog w) _ (field (.ref z) 2 >>= _) _ _ _;refine wb9 (cO gz rfl (x:=.bool d_) rfl ?_);show aA (aE prog w) _ (field (.ref z) 3 >>= _) _ _ _;refine wb9 (cO gz rfl (x:=.ref T) rfl (wb9 (dn gT rfl ?_)));show aA (aE prog w) _ (gu (.ref z) >>= _) _ _ _;refine wb9 ?_;unfold gu;refine wb9 (cO gz rfl (x:=.none) rfl (wu9 ?_));simp only[if_true];refine wb9 (jl (wb9 (cO gz rfl (x:=.ref U) rfl (wb9 (cg gz (by simp) λh1 gz1 s1=>?_)))));replace gz1:mR h1 z T U .ellipsis:=gz1;refine wb9 ?_;simp only[JS,Ke,mZ,N6];refine wb9 (wb9 (rT ?_));show aA (aE prog w) _ (dk (.ref i) >>= _) _ _ _;refine wb9 (r8 (gi.keep λo e=>s1.extBut _ o P.iz e) (ga.keep λo e=>s1.extBut _ o P.az e) gx λh2 gi2 s2=>wu9 ?_);have gU2:gQ h2 U c d:=s2.extBut _ _ P.Ui (s1.extBut _ _ P.Uz gU);refine wb9 (dn gU2 rfl (wb9 (ql gU2 λh3 gU3 s3=>wb9 (J7 (wu9 ?_)))));replace gU3:gQ h3 U x d:=gU3;refine wb9 (wb9 (rT ?_));show aA (aE prog w) _ (dk (.ref j) >>= _) _ _ _;refine wb9 (r8 (gj.keep λo e=>s3.extBut _ o P.Uj.symm (s2.extBut _ o P.ij.symm (s1.extBut _ o P.jz e))) (gb.keep λo e=>s3.extBut _ o P.bU (s2.extBut _ o P.bi (s1.extBut _ o P.bz e))) gy λh4 gj4 s4=>wu9 ?_);have gU4:gQ h4 U x d:=s4.extBut _ _ P.Uj gU3;refine wb9 (dn gU4 rfl (wb9 (ql gU4 λh5 gU5 s5=>wb9 (J7 (wu9 (wu9 ?_))))));replace gU5:gQ h5 U x y:=gU5;refine wb9 (dn gU5 rfl (wb9 (wpAny_newTuple ?_)));have sz:h5.objs.size=s.heap.objs.size:=by rw[s5.1,s4.1,s3.1,s2.1,s1.1]
 have gz5:mR h5 z T U .ellipsis:=s5.extBut _ _ P.Uz.symm (s4.extBut _ _ P.jz.symm (s3.extBut _ _ P.Uz.symm (s2.extBut _ _ P.iz.symm gz1)));have k5:∀e o,e≠z->e≠U->e≠i->e≠j->s.heap.get? e=a_ o->h5.get? e=a_ o:=λe o e1 e2 e3 e4 q=>s5.extBut _ _ e2 (s4.extBut _ _ e4 (s3.extBut _ _ e2 (s2.extBut _ _ e3 (s1.extBut _ _ e1 q))));have gi5:iR tp h5 i a (m+1):=gi2.keep λo e=>s5.extBut _ o P.Ui.symm (s4.extBut _ o P.ij (s3.extBut _ o P.Ui.symm e));have gj5:iR tq h5 j b (n+1):=gj4.keep λo e=>s5.extBut _ o P.Uj.symm e;have zlt:z<h5.objs.size:=hl9 gz5;show aA (aE prog w) _ (qg (.ref z) (.ref h5.objs.size) >>= _) _ _ _;refine wb9 ?_;unfold qg;have gz6:mR (h5.push { cls:=.type "tuple",data:=.seq #[x,y] }) z T U .ellipsis:=hp9 _ gz5;refine wb9 (cg gz6 (by simp) λh7 gz7 s7=>?_);replace gz7:mR h7 z T U (rawInt h5.objs.size):=gz7;refine cg gz7 (by simp) λh8 gz8 s8=>wu9 ⟨_,rfl,?_⟩;replace gz8:mR h8 z T U (rawInt h5.objs.size):=gz8;have up:∀e o,e≠z->h5.get? e=a_ o->h8.get? e=a_ o:=λe o e1 q=>s8.extBut _ _ e1 (s7.extBut _ _ e1 (hp9 _ q));have gN:gQ h8 h5.objs.size x y:=s8.extBut _ _ (jo zlt) (s7.extBut _ _ (jo zlt) (aJ _ rfl));have sz8:h8.objs.size=h5.objs.size+1:=by rw[s8.1,s7.1,dz]
 rw[sz]at gz8 gN sz8;show Q (.ref h5.objs.size) _;rw[sz];exact k h8 gz8 (up _ _ P.Uz gU5) (gi5.keep λo e=>up _ o P.iz e) (gj5.keep λo e=>up _ o P.jz e) gN sz8 λe o e1 e2 e3 e4 q=>up e o e1 (k5 e o e1 e2 e3 e4 q)
def OZ{tp tq:Bool}{z T U i j a b:af}{m n:Nat}{xs ys:Array aa}{c d:aa}{Q:Fin->ae->Prop}(nh:A.handled=b_)(P:Vp z T U i j a b)(gz:mR s.heap z T U .none)(gT:gQ s.heap T (.ref i) (.ref j))(gU:gQ s.heap U c d)
  (gi:iR tp s.heap i a m)(gj:iR tq s.heap j b n)(ga:jd tp s.heap a xs)(gb:jd tq s.heap b ys)(ge:xs[m]?=b_\/ys[n]?=b_)
  (k:∀h' e,(∀e o,e≠z->e≠U->e≠i->e≠j->s.heap.get? e=a_ o->h'.get? e=a_ o)->(∃o,h'.get? e=a_ o/\o.cls=.type "StopIteration")->E (.ref e) { s with heap:=h' }) :
  aA (aE prog w) A (fh.«zip.__next__» ⟨[.ref z],[]⟩) Q E s:=by
 show aA (aE prog w) _ (field (.ref z) 2 >>= _) _ _ _;refine wb9 (cO gz rfl (x:=.bool d_) rfl ?_);show aA (aE prog w) _ (field (.ref z) 3 >>= _) _ _ _;refine wb9 (cO gz rfl (x:=.ref T) rfl (wb9 (dn gT rfl ?_)));show aA (aE prog w) _ (gu (.ref z) >>= _) _ _ _;refine wb9 ?_;unfold gu;refine wb9 (cO gz rfl (x:=.none) rfl (wu9 ?_));simp only[if_true];refine wb9 (jl (wb9 (cO gz rfl (x:=.ref U) rfl (wb9 (cg gz (by simp) λh1 gz1 s1=>?_)))));replace gz1:mR h1 z T U .ellipsis:=gz1;refine wb9 ?_;simp only[JS,Ke,mZ,N6];refine wb9 (wb9 (rT ?_));show aA (aE prog w) _ (dk (.ref i) >>= _) _ _ _
 cases gx:xs[m]? with
 |none=>
   refine wb9 (w5 nh (gi.keep λo e=>s1.extBut _ o P.iz e) (ga.keep λo e=>s1.extBut _ o P.az e) gx λh2 e s2 he=>?_);obtain⟨oe,he1,he2⟩:=he;have gz2:mR h2 z T U .ellipsis:=s2 _ _ P.iz.symm gz1;have ez:e≠z:=λq=>by subst q;rw[gz2]at he1;cases he1;simp at he2
   exact cg gz2 (by simp) λh3 _ s3=>k h3 e (λc o c1 _ c3 _ q=>s3.extBut _ _ c1 (s2 _ _ c3 (s1.extBut _ _ c1 q))) ⟨oe,s3.extBut _ _ ez he1,he2⟩
 |some x=>
   have gy:ys[n]?=b_:=by
    rcases ge with q|q
    ·rw[gx]at q;cases q
    ·exact q
   refine wb9 (r8 (gi.keep λo e=>s1.extBut _ o P.iz e) (ga.keep λo e=>s1.extBut _ o P.az e) gx λh2 gi2 s2=>wu9 ?_);have gU2:gQ h2 U c d:=s2.extBut _ _ P.Ui (s1.extBut _ _ P.Uz gU);refine wb9 (dn gU2 rfl (wb9 (ql gU2 λh3 gU3 s3=>wb9 (J7 (wu9 ?_)))));refine wb9 (wb9 (rT ?_));show aA (aE prog w) _ (dk (.ref j) >>= _) _ _ _;refine wb9 (w5 nh (gj.keep λo e=>s3.extBut _ o P.Uj.symm (s2.extBut _ o P.ij.symm (s1.extBut _ o P.jz e))) (gb.keep λo e=>s3.extBut _ o P.bU (s2.extBut _ o P.bi (s1.extBut _ o P.bz e))) gy λh4 e s4 he=>?_);obtain⟨oe,he1,he2⟩:=he;have gz4:mR h4 z T U .ellipsis:=s4 _ _ P.jz.symm (s3.extBut _ _ P.Uz.symm (s2.extBut _ _ P.iz.symm gz1));have ez:e≠z:=λq=>by subst q;rw[gz4]at he1;cases he1;simp at he2
   exact cg gz4 (by simp) λh5 _ s5=>k h5 e (λc o c1 c2 c3 c4 q=>s5.extBut _ _ c1 (s4 _ _ c4 (s3.extBut _ _ c2 (s2.extBut _ _ c3 (s1.extBut _ _ c1 q))))) ⟨oe,s5.extBut _ _ ez he1,he2⟩
def Hd{tp tq:Bool}{z T U i j a b:af}{m n:Nat}{xs ys:Array aa}{x y c d:aa}{Q:Option aa->ae->Prop}(P:Vp z T U i j a b)(gz:mR s.heap z T U .none)(gT:gQ s.heap T (.ref i) (.ref j))(gU:gQ s.heap U c d)
  (gi:iR tp s.heap i a m)(gj:iR tq s.heap j b n)(ga:jd tp s.heap a xs)(gb:jd tq s.heap b ys)(gx:xs[m]?=a_ x)(gy:ys[n]?=a_ y)
  (k:∀h',mR h' z T U (rawInt s.heap.objs.size)->gQ h' U x y->iR tp h' i a (m+1)->iR tq h' j b (n+1)->gQ h' s.heap.objs.size x y->h'.objs.size=s.heap.objs.size+1->
   (∀e o,e≠z->e≠U->e≠i->e≠j->s.heap.get? e=a_ o->h'.get? e=a_ o)->Q (a_ (.ref s.heap.objs.size)) { s with heap:=h' }):aA (aE prog w) A (pyNext (.ref z)) Q E s:=by
 have ty:s.TypeIs (.ref z) "zip":=⟨_,gz,rfl⟩
 unfold pyNext;exact wb9 (mT (dh (name:=ag "__next__") ty jh (cu jh ty wk (Kg P gz gT gU gi gj ga gb gx gy λh' a1 a2 a3 a4 a5 a6 a7=>wu9 (k h' a1 a2 a3 a4 a5 a6 a7)) (vd _))))
def Lu{tp tq:Bool}{z T U i j a b:af}{m n:Nat}{xs ys:Array aa}{c d:aa}{Q:Option aa->ae->Prop}(nh:A.handled=b_)(P:Vp z T U i j a b)(gz:mR s.heap z T U .none)(gT:gQ s.heap T (.ref i) (.ref j))(gU:gQ s.heap U c d)
  (gi:iR tp s.heap i a m)(gj:iR tq s.heap j b n)(ga:jd tp s.heap a xs)(gb:jd tq s.heap b ys)(ge:xs[m]?=b_\/ys[n]?=b_)
  (k:∀h',(∀e o,e≠z->e≠U->e≠i->e≠j->s.heap.get? e=a_ o->h'.get? e=a_ o)->Q b_ { s with heap:=h' }):aA (aE prog w) A (pyNext (.ref z)) Q E s:=by
 have ty:s.TypeIs (.ref z) "zip":=⟨_,gz,rfl⟩
 unfold pyNext;refine wb9 (mT (dh (name:=ag "__next__") ty jh (cu jh ty wk (OZ nh P gz gT gU gi gj ga gb ge λh' e hk he=>?_) (vd _))));obtain⟨o,ho,hc⟩:=he;exact wb9 (gP (T:="StopIteration") (b:=c_) ⟨o,ho,hc⟩ isSubtype_stop (wu9 (k _ hk)))
end
noncomputable def WK(tp:Bool):String:=if tp then "tuple_iterator" else "list_iterator"
noncomputable def kJ(tp:Bool)(l:af):er:={ cls:=.type (WK tp),data:=.fields #[.ref l,.int 0 0] }
def xv{tp:Bool}{h:bx}{it l:af}(e:h.get? it=a_ (kJ tp l)):iR tp h it l 0:=by
 cases tp<;>exact⟨_,e,rfl,rfl⟩
section
variable{prog:aO}{w:bh}{A:bp}{E:aa->ae->Prop}{s:ae}
def lO{tp:Bool}{l:af}{xs:Array aa}{Q:aa->ae->Prop}(gl:jd tp s.heap l xs)(k:Q (.ref s.heap.objs.size) { s with heap:=s.heap.push (kJ tp l) }):aA (aE prog w) A (FN (.ref l)) Q E s:=by
 cases tp
 ·exact jT gl k
 ·exact me gl k
end
noncomputable abbrev Vx(tp tq:Bool)(h:bx)(a b:af):bx:=((h.push (kJ tp a)).push (kJ tq b)).push { cls:=.type "tuple",data:=.seq #[.ref h.objs.size,.ref (h.push (kJ tp a)).objs.size] }
noncomputable abbrev Vv(tp tq:Bool)(h:bx)(a b:af):bx:=(Vx tp tq h a b).push { cls:=.type "tuple",data:=.seq #[.none,.none] }
noncomputable abbrev SK(tp tq:Bool)(h:bx)(a b:af):bx:=(Vv tp tq h a b).push { cls:=.type "zip",data:=.fields #[.none,.bool d_,.bool d_,.ref ((h.push (kJ tp a)).push (kJ tq b)).objs.size,.ref (Vx tp tq h a b).objs.size] }
def OY{tp tq:Bool}(a b:af)(xs ys:Array aa):Meets (fh.«zip.__new__» ⟨[.type "zip",.ref a,.ref b],[]⟩) (λ_ R s=>jd tp s.heap a xs/\jd tq s.heap b ys/\R (.ok (.ret (.ref (Vv tp tq s.heap a b).objs.size))) { s with heap:=SK tp tq s.heap a b }):=
 .of_wp λprog w A R s q=>by
  obtain⟨hp,g,d,tk,os⟩:=s;obtain⟨q1,q2,q⟩:=q;have sz:=PySem.sub_zip;have e1:jd tp (As ⟨hp,g,d,tk,os⟩) a xs:=q1;have e2:jd tq (As ⟨hp.push (kJ tp a),g,d,tk,os⟩) b ys:=jd.keep q2 λo e=>hp9 _ e
  wp_walk using lO e1,lO e2
  exact⟨_,rfl,q⟩
section
variable{prog:aO}{w:bh}{A:bp}{E:aa->ae->Prop}{s:ae}
def Kh{tp tq:Bool}{a b:af}{xs ys:Array aa}{Q:aa->ae->Prop}(ga:jd tp s.heap a xs)(gb:jd tq s.heap b ys)
  (k:∀h',mR h' (s.heap.objs.size+4) (s.heap.objs.size+2) (s.heap.objs.size+3) .none->gQ h' (s.heap.objs.size+2) (.ref s.heap.objs.size) (.ref (s.heap.objs.size+1))->gQ h' (s.heap.objs.size+3) .none .none->
   iR tp h' s.heap.objs.size a 0->iR tq h' (s.heap.objs.size+1) b 0->(∀c o,s.heap.get? c=a_ o->h'.get? c=a_ o)->Q (.ref (s.heap.objs.size+4)) { s with heap:=h' }):aA (aE prog w) A (call (.type "zip") [.ref a,.ref b]) Q E s:=by
 refine callType_new PySem.F.called_zip (by decide) (PySem.F.typeCall_zip_2 _ _) (PySem.F.newCall_zip_2 _ _) (λob=>PySem.F.args_object_init_3 ob _ _) PySem.F.entry_zip_new (OY (tp:=tp) (tq:=tq) a b xs ys) ⟨ga,gb,?_⟩;have z1:(s.heap.push (kJ tp a)).objs.size=s.heap.objs.size+1:=dz ..;have z2:((s.heap.push (kJ tp a)).push (kJ tq b)).objs.size=s.heap.objs.size+2:=by rw[dz,z1]
 have z3:(Vx tp tq s.heap a b).objs.size=s.heap.objs.size+3:=by rw[dz,z2]
 have z4:(Vv tp tq s.heap a b).objs.size=s.heap.objs.size+4:=by rw[dz,z3]
 have g5:(SK tp tq s.heap a b).get? (Vv tp tq s.heap a b).objs.size=a_ _:=aJ _ rfl;have g4:(SK tp tq s.heap a b).get? (Vx tp tq s.heap a b).objs.size=a_ _:=hp9 _ (aJ _ rfl);have g3:(SK tp tq s.heap a b).get? ((s.heap.push (kJ tp a)).push (kJ tq b)).objs.size=a_ _:=hp9 _ (hp9 _ (aJ _ rfl));have g2:(SK tp tq s.heap a b).get? (s.heap.push (kJ tp a)).objs.size=a_ (kJ tq b):=hp9 _ (hp9 _ (hp9 _ (aJ _ rfl)));have g1:(SK tp tq s.heap a b).get? s.heap.objs.size=a_ (kJ tp a):=hp9 _ (hp9 _ (hp9 _ (hp9 _ (aJ _ rfl))));show _/\_;rw[z2,z3,z4]at g5;rw[z1,z2]at g3;rw[z3]at g4;rw[z1]at g2;rw[z4];exact⟨⟨_,g5,rfl⟩,k _ g5 g3 g4 (xv g1) (xv g2) λc o q=>hp9 _ (hp9 _ (hp9 _ (hp9 _ (hp9 _ q))))⟩
end
section
variable{X:Cx}{h_:List (af×er)}{σ:St}{H:Hp}{s:ae}{h':bx}
def Inv.rZ{t':Nat}{ch:List af}(I:Inv X h_ σ H s)(k:∀b o,b∉ch->s.heap.get? b=a_ o->h'.get? b=a_ o)(hf:∀b∈ch,pf X h_ H b):Inv X h_ σ H { s with heap:=h',toks:=t' }:=by
 have nit:∀b u,H b=a_ u->b∉ch:=λb u e z=>by rw[(hf b z).1]at e;cases e
 refine I.step (g':=s.gens) (d':=s.drawn) (ch:=ch) (λb hb=>⟨(hf b hb).2.2.2.1,(hf b hb).2.1,(hf b hb).2.2.2.2.1,(hf b hb).2.2.2.2.2⟩) (λb o _ _ hc e _=>k b o hc e) (λb o _ _ hc e _=>⟨o.slots,k b o hc e⟩) (λ_ _ _ _ n=>n)
  (λb o hc e=>⟨o,k b o hc e⟩) (λ_ _ e=>e) (λ_ _ _ e=>e) (λb ps e=>⟨#[],by rw[e];simp⟩) (λm hm=>?_) (λb u e=>?_) I.bare
 ·obtain⟨o,es,ep,ho,r⟩:=hm;exact⟨o,es,ep,k _ o (λz=>(hf _ z).2.1 rfl) ho,r⟩
 ·refine(I.hok b u e).lM (λc v hc q=>k c v ?_ q) (λ_ q=>q) λ_ _ q=>q
  rcases hc with z|z
  ·rw[z];exact nit b u e
  ·exact nit c _ z
end
def pD(tp:Bool)(K:aB)(H:Hp)(a:af)(xs:List V):Prop:=match tp with
 |true=>rL K H a xs
 |false=>mB K H a xs
def pD.inj{X:Cx}{h_:List (af×er)}{σ:St}{H:Hp}{s:ae}{tp:Bool}{a:af}{xs ys:List V}(I:Inv X h_ σ H s)(h:pD tp X.K H a xs)(h':pD tp X.K H a ys):xs=ys:=by
 cases tp
 ·exact I.p5 h h'
 ·exact I.nQ h h'
def pD.at{X:Cx}{h_:List (af×er)}{σ:St}{H:Hp}{s:ae}{tp:Bool}{a:af}{xs:List V}(I:Inv X h_ σ H s)(h:pD tp X.K H a xs):∃its:List aa,bZ xs its/\jd tp s.heap a its.toArray:=by
 cases tp
 ·obtain⟨its,rv,p,_⟩:=I.list h;exact⟨its,rv,p.isList⟩
 ·obtain⟨its,rv,p,_⟩:=I.tuple h;exact⟨its,rv,p⟩
noncomputable def Xd(tp tq:Bool)(K:aB)(a b:af):It:=
 ⟨λi H=>∃xs ys x y,pD tp K H a xs/\pD tq K H b ys/\xs[i]?=a_ x/\ys[i]?=a_ y,
  λi H x H'=>∃T,H T=b_/\x=.ref T/\∃x1 y1,(∀xs,pD tp K H a xs->xs[i]?=a_ x1)/\(∀ys,pD tq K H b ys->ys[i]?=a_ y1)/\H'=upd H T (.tup [x1,y1]),
  λi H=>∃xs ys,pD tp K H a xs/\pD tq K H b ys/\(xs.length<=i\/ys.length<=i)⟩
def Gj{tp tq:Bool}{P:aO}{w:bh}{K:aB}{elts:List aF}{k:Nat}{pos:dZ}(a b z TI TO i1 i2:af)(D:Vp z TI TO i1 i2 a b) :
  Turn P w K (.Tuple elts k pos) (Xd tp tq K a b) [z,TI,TO,i1,i2] z (λi h=>mR h z TI TO .none/\gQ h TI (.ref i1) (.ref i2)/\(∃u v,gQ h TO u v)/\iR tp h i1 a i/\iR tq h i2 b i) where
 mem:=by simp
 obj:=λi h st c hc=>by
  obtain⟨hz,hTI,⟨u,v,hTO⟩,h1,h2⟩:=st;obtain⟨o1,e1,_,d1⟩:=h1.obj;obtain⟨o2,e2,_,d2⟩:=h2.obj;simp only[ah,aS,or_false]at hc
  rcases hc with rfl|rfl|rfl|rfl|rfl
  ·exact⟨_,hz,λv z=>nomatch z⟩
  ·exact⟨_,hTI,λv z=>nomatch z⟩
  ·exact⟨_,hTO,λv z=>nomatch z⟩
  ·exact⟨_,e1,λv z=>by rw[d1]at z;cases z⟩
  ·exact⟨_,e2,λv z=>by rw[d2]at z;cases z⟩
 keep:=λi h h' st k=>by
  obtain⟨hz,hTI,⟨u,v,hTO⟩,h1,h2⟩:=st;exact⟨k z (by simp) _ hz,k TI (by simp) _ hTI,⟨u,v,k TO (by simp) _ hTO⟩,h1.keep λo e=>k i1 (by simp) o e,h2.keep λo e=>k i2 (by simp) o e⟩
 item:=by
  intro X hP hw hK hc i h_ s σ H E I hf st hg;subst hP hw hK;obtain⟨xs,ys,x,y,ha,hb,hx,hy⟩:=hg;obtain⟨its,rv,p⟩:=pD.at I ha;obtain⟨j_,rv2,p2⟩:=pD.at I hb;obtain⟨u,hu,ru⟩:=rv.get hx;obtain⟨u2,hu2,ru2⟩:=rv2.get hy;obtain⟨hz,hTI,⟨w1,w2,hTO⟩,h1,h2⟩:=st;refine Hd D hz hTI hTO h1 h2 p p2 (x:=u) (y:=u2) (by simpa using hu) (by simpa using hu2) λh' g1 g2 g3 g4 g5 g6 hk=>?_;refine⟨_,rfl,wpAny_letOwnedTupleGo_zip g1 λh'' g1' hs''=>?_⟩
  have fc:∀c∈[z,TO,i1,i2],pf X h_ H c:=λc hc=>hf c (by
   simp only[ah,aS,or_false]at hc ⊢
   rcases hc with rfl|rfl|rfl|rfl<;>simp)
  have kk:∀c o,c∉[z,TO,i1,i2]->s.heap.get? c=a_ o->h''.get? c=a_ o:=λc o hc e=>by
   simp only[ah,aS,or_false,not_or]at hc;exact hs''.extBut c o hc.1 (hk c o hc.1 hc.2.1 hc.2.2.1 hc.2.2.2 e)
  have I1:Inv X h_ σ H { s with heap:=h'' }:=I.rZ (t':=s.toks) kk fc;have nz:s.heap.objs.size≠z:=jo (hl9 hz);have hT:h''.get? s.heap.objs.size=a_ { cls:=.type "tuple",data:=.seq #[u,u2] }:=hs''.extBut _ _ nz g5;have hfr:H s.heap.objs.size=b_:=I.hok.fresh (aM _)
  have I2:Inv X h_ σ (upd H s.heap.objs.size (.tup [x,y])) { s with heap:=h'' }:=by
   refine I1.Gx (I.zO (aM _) hfr) I.sz ⟨by rw[bT];show 2<=16777216;decide,[u,u2],.cons ru (.cons ru2 .nil),?_⟩;exact⟨_,hT,rfl,_,rfl⟩
  refine⟨.ref s.heap.objs.size,_,I2,rfl,⟨_,hfr,rfl,x,y,λxs' h1=>by rw[pD.inj I h1 ha];exact hx,λys' h1=>by rw[pD.inj I h1 hb];exact hy,rfl⟩,⟨g1',?_,⟨u,u2,hs''.extBut _ _ D.Uz g2⟩,g3.keep λo e=>hs''.extBut _ o D.iz e,g4.keep λo e=>hs''.extBut _ o D.jz e⟩,λc hc=>?_⟩
  ·exact hs''.extBut _ _ D.Tz (hk _ _ D.Tz D.TU D.Ti D.Tj hTI)
  ·rw[bB ?_]
   ·exact(hf c hc).1
   ·have:c<s.heap.objs.size:=by
     simp only[ah,aS,or_false]at hc
     rcases hc with rfl|rfl|rfl|rfl|rfl
     ·exact hl9 hz
     ·exact hl9 hTI
     ·exact hl9 hTO
     ·obtain⟨_,e,_⟩:=h1.obj;exact hl9 e
     ·obtain⟨_,e,_⟩:=h2.obj;exact hl9 e
    exact ba this
 done:=by
  intro X hP hw hK hc i h_ s σ H E I hf st hg;subst hP hw hK;obtain⟨xs,ys,ha,hb,hx⟩:=hg;obtain⟨its,rv,p⟩:=pD.at I ha;obtain⟨j_,rv2,p2⟩:=pD.at I hb;obtain⟨hz,hTI,⟨w1,w2,hTO⟩,h1,h2⟩:=st;have l1:=rv.length;have l2:=rv2.length;refine Lu (I.ok.hd hc) D hz hTI hTO h1 h2 p p2 ?_ λh' hk=>⟨rfl,I.rZ (t':=s.toks) (ch:=[z,TO,i1,i2]) (λc o hc e=>?_) λc hc=>hf c ?_⟩
  ·rcases hx with hx|hx
   ·exact .inl (by simp;omega)
   ·exact .inr (by simp;omega)
  ·simp only[ah,aS,or_false,not_or]at hc;exact hk c o hc.1 hc.2.1 hc.2.2.1 hc.2.2.2 e
  ·simp only[ah,aS,or_false]at hc ⊢
   rcases hc with rfl|rfl|rfl|rfl<;>simp
 self:=λ_ _ _ _ _ st h=>wpAny_pyIter_zip st.1 h
def Jc{tp:Bool}{prog:aO}{w:bh}{A:bp}(hh:A.handled=b_)(it l:af)(hne:l≠it)(items:Array aa) :
  Draws prog w A it [it,l] items.size (λi v=>items[i]?=a_ v) (λi h=>iR tp h it l i/\jd tp h l items) where
 live:=λ_ _ st=>let ⟨o,ho,_⟩:=st.1.obj;⟨o,ho⟩
 frame:=λ_ _ _ st hk=>⟨st.1.keep λo e=>hk it (by simp) o e,st.2.keep λo e=>hk l (by simp) o e⟩
 item:=λi s Q E hi st hQ=>by
  refine r8 st.1 st.2 (v:=items[i]) (by simp[hi]) λh' hit' hs'=>?_;exact hQ _ h' s.toks (by simp[hi]) ⟨hit',st.2.keep λo e=>hs'.extBut _ o hne e⟩ hs'
 done:=λs Q E st hE=>w5 hh st.1 st.2 (by simp) hE
set_option tactic.hygienic true in
def RP{tp:Bool}(l:af)(items:Array aa) :
  Meets (fh.«enumerate.__new__» ⟨[.type "enumerate",.ref l],[]⟩) (λ_ R s=>jd tp s.heap l items/\
   R (.ok (.ret (.ref (s.heap.push (kJ tp l)).objs.size))) { s with heap:=(s.heap.push (kJ tp l)).push { cls:=.type "enumerate",data:=.fields #[.none,.bool d_,.ref s.heap.objs.size,rawInt 0,.none,.none] } }):=
 .of_wp λprog w A R s h=>by
  obtain⟨hp,g,d,tk,os⟩:=s;obtain⟨hl,h⟩:=h;have hsub:=sub_enumerate;have hL:jd tp (As ⟨hp,g,d,tk,os⟩) l items:=hl
  wp_walk
  refine wpAny_stack_any λst=>wu9 ?_;split
  ·rename_i c _ _ _ _ _;cases(c == jD "enumerate")
   ·wp_walk using lO hL
    exact⟨_,rfl,h⟩
   ·wp_walk using lO hL
    exact⟨_,rfl,h⟩
  ·wp_walk using lO hL
   exact⟨_,rfl,h⟩
section
variable{prog:aO}{w:bh}{A:bp}{E:aa->ae->Prop}{s:ae}
def M7{tp:Bool}{l:af}{items:Array aa}{Q:aa->ae->Prop}(hL:jd tp s.heap l items)
  (k:∀h',IsEnum h' (s.heap.objs.size+1) s.heap.objs.size 0 .none->iR tp h' s.heap.objs.size l 0->(∀b o,s.heap.get? b=a_ o->h'.get? b=a_ o)->Q (.ref (s.heap.objs.size+1)) { s with heap:=h' }) :
  aA (aE prog w) A (call (.type "enumerate") [.ref l]) Q E s:=by
 refine callType_new PySem.F.called_enumerate (by decide) (PySem.F.typeCall_enumerate_1 _) (PySem.F.newCall_enumerate_1 _) (λobj=>PySem.F.args_object_init_2 obj _) PySem.F.entry_enumerate_new (RP (tp:=tp) l items) ⟨hL,?_⟩;have z1:(s.heap.push (kJ tp l)).objs.size=s.heap.objs.size+1:=dz ..;have g1:((s.heap.push (kJ tp l)).push { cls:=.type "enumerate",data:=.fields #[.none,.bool d_,.ref s.heap.objs.size,rawInt 0,.none,.none] }).get? (s.heap.push (kJ tp l)).objs.size=a_ _:=aJ _ rfl;have g2:((s.heap.push (kJ tp l)).push { cls:=.type "enumerate",data:=.fields #[.none,.bool d_,.ref s.heap.objs.size,rawInt 0,.none,.none] }).get? s.heap.objs.size=a_ (kJ tp l):=hp9 _ (aJ _ rfl);show _/\_;rw[z1]at g1;rw[z1];exact⟨⟨_,g1,rfl⟩,k _ g1 (xv g2) λb o x=>hp9 _ (hp9 _ x)⟩
end
noncomputable def Xh(tp:Bool)(K:aB)(a:af):It:=
 ⟨λi H=>∃xs x,pD tp K H a xs/\xs[i]?=a_ x,
  λi H x H'=>∃T,H T=b_/\x=.ref T/\∃x1,(∀xs,pD tp K H a xs->xs[i]?=a_ x1)/\H'=upd H T (.tup [.int i,x1]),
  λi H=>∃xs,pD tp K H a xs/\xs.length<=i⟩
def ER{tp:Bool}{prog:aO}{w:bh}{A:bp}(hh:A.handled=b_)(it l:af)(items:Array aa)(i:Nat)(hi:items.size<=i) :
  Draws prog w A it [it,l] i (λ_ _=>True) (λj h=>j=i/\iR tp h it l i/\jd tp h l items) where
 live:=λ_ _ st=>let ⟨o,ho,_⟩:=st.2.1.obj;⟨o,ho⟩
 frame:=λ_ _ _ st hk=>⟨st.1,st.2.1.keep λo e=>hk it (by simp) o e,st.2.2.keep λo e=>hk l (by simp) o e⟩
 item:=λj s Q E hj st hQ=>absurd st.1 (ba hj)
 done:=λs Q E st hE=>w5 hh st.2.1 st.2.2 (by simp[hi]) hE
def Gm{tp:Bool}{P:aO}{w:bh}{K:aB}{elts:List aF}{k:Nat}{pos:dZ}(a e it:af)(hei:e≠it)(hae:a≠e)(hai:a≠it) :
  Turn P w K (.Tuple elts k pos) (Xh tp K a) [e,it] e (λi h=>(∃old,IsEnum h e it i old)/\iR tp h it a i) where
 mem:=by simp
 obj:=λi h st c hc=>by
  obtain⟨⟨old,he⟩,h1⟩:=st;obtain⟨o1,e1,_,d1⟩:=h1.obj;simp only[ah,aS,or_false]at hc
  rcases hc with rfl|rfl
  ·exact⟨_,he,λv z=>nomatch z⟩
  ·exact⟨_,e1,λv z=>by rw[d1]at z;cases z⟩
 keep:=λi h h' st k=>by
  obtain⟨⟨old,he⟩,h1⟩:=st;exact⟨⟨old,k e (by simp) _ he⟩,h1.keep λo q=>k it (by simp) o q⟩
 item:=by
  intro X hP hw hK hc i h_ s σ H E I hf st hg;subst hP hw hK;obtain⟨xs,x,ha,hx⟩:=hg;obtain⟨its,rv,p⟩:=pD.at I ha;obtain⟨u,hu,ru⟩:=rv.get hx;obtain⟨⟨old,he⟩,h1⟩:=st
  have hil:i<its.toArray.size:=by
   rw[aH];exact(a9.mp hu).1
  refine wpAny_pyNext_enum_itemD (Jc (tp:=tp) (A:=X.A.in1) (I.ok.hd hc) it a hai its.toArray) he ⟨h1,p⟩ hil hei (by simp[hei,eW hae]) λv h' tk hv g1 g2 g3 g4 hk=>?_
  have hv':v=u:=by
   have:its.toArray[i]?=a_ u:=by simpa using hu
   exact aP (hv.symm.trans this)
  subst hv';refine⟨_,rfl,wpAny_letOwnedTupleGo_enum g1 λh'' g1' hs''=>?_⟩;have fc:∀c∈[e,it],pf X h_ H c:=hf
  have kk:∀c o,c∉[e,it]->s.heap.get? c=a_ o->h''.get? c=a_ o:=λc o hc q=>by
   simp only[ah,aS,or_false,not_or]at hc;exact hs''.extBut c o hc.1 (hk c o hc.1 hc.2 q)
  have I1:Inv X h_ σ H { s with heap:=h'',toks:=tk+1 }:=I.rZ (t':=tk+1) kk fc;have nz:s.heap.objs.size≠e:=jo (hl9 he);have hT:h''.get? s.heap.objs.size=a_ { cls:=.type "tuple",data:=.seq #[.int i tk,v] }:=hs''.extBut _ _ nz g3;have hfr:H s.heap.objs.size=b_:=I.hok.fresh (aM _)
  have I2:Inv X h_ σ (upd H s.heap.objs.size (.tup [.int i,x])) { s with heap:=h'',toks:=tk+1 }:=by
   refine I1.Gx (I.zO (aM _) hfr) I.sz ⟨by rw[bT];show 2<=16777216;decide,[.int i tk,v],.cons ⟨_,rfl⟩ (.cons ru .nil),?_⟩;exact⟨_,hT,rfl,_,rfl⟩
  refine⟨.ref s.heap.objs.size,_,I2,rfl,⟨_,hfr,rfl,x,λxs' h1=>by rw[pD.inj I h1 ha];exact hx,rfl⟩,⟨⟨_,by simpa using g1'⟩,g2.1.keep λo q=>hs''.extBut _ o hei.symm q⟩,λc hc=>?_⟩;rw[bB ?_]
  ·exact(hf c hc).1
  ·have:c<s.heap.objs.size:=by
    simp only[ah,aS,or_false]at hc
    rcases hc with rfl|rfl
    ·exact hl9 he
    ·obtain⟨_,q,_⟩:=h1.obj;exact hl9 q
   exact ba this
 done:=by
  intro X hP hw hK hc i h_ s σ H E I hf st hg;subst hP hw hK;obtain⟨xs,ha,hx⟩:=hg;obtain⟨its,rv,p⟩:=pD.at I ha;obtain⟨⟨old,he⟩,h1⟩:=st;have l1:=rv.length;refine wpAny_pyNext_enum_endD (ER (tp:=tp) (A:=X.A.in1) (I.ok.hd hc) it a its.toArray i (by simp;omega)) he ⟨rfl,h1,p⟩ λh' hk=>⟨rfl,I.rZ (t':=s.toks) (ch:=[it]) (λc o hc q=>?_) λc hc=>hf c ?_⟩
  ·exact hk c o (by simpa using hc) q
  ·simp only[ah,aS,or_false]at hc ⊢;exact .inr hc
 self:=λ_ _ _ _ _ st h=>let ⟨⟨_,he⟩,_⟩:=st;wpAny_pyIter_enum he h
end L2
namespace M
open PySem PySem.Spec PyProof.Rows L2
section
variable{X:Cx}{C:Fs}{a b c e:aF}{xa xb xc:Ex}{pos:dZ}{es:List aF}{xs:List Ex}{h_:List (af×er)}{σ:St}{F H:Hp}{s:ae}{tg iter:aF}
noncomputable def WN(tp tq:Bool)(K:Fg)(ta:TA):TI:=λσ H R=>ta σ H λvs H1=>∃a b,vs=[.ref a,.ref b]/\(∃xs,pD tp K H1 a xs)/\(∃ys,pD tq K H1 b ys)/\R (Xd tp tq K a b) H1
def Ql{tp tq:Bool}{elts:List aF}{k:Nat}{tpos:dZ}{ta:TA}{p:dZ}(hg:Gl X "zip")(hm:X.mg "zip"=b_)(ha:PA X [a,b] ta)(hs:aI [a,b] X.env=[(d_,eval a X.env),(d_,eval b X.env)])(hs2:aI [b] X.env=[(d_,eval b X.env)]) :
  PI X (.Tuple elts k tpos) (.Call (.Name "zip" p) [a,b] [] pos) (WN tp tq X.K ta):=by
 intro h_ s σ H R I h;refine Call_ (nE I hg hm (by decide +kernel:bootBuiltins "zip"=a_ (.type "zip")) (eA (fW (ha pos h_ s σ H _ I h) λus s1 ⟨vs,H1,I1,r1,q1⟩=>?_) (by rw[hs,hs2]) (by rw[hs2];rfl)));obtain⟨l1,l2,e,⟨xs,hx⟩,⟨ys,hy⟩,q⟩:=q1;subst e
 cases r1 with
 |cons r rr=>
   cases rr with
   |cons r' rr=>
     cases rr;cases r;cases r';obtain⟨its,rv,pl⟩:=pD.at I1 hx;obtain⟨j_,rv2,pl2⟩:=pD.at I1 hy;refine Kh pl pl2 λh' g1 g2 g3 g4 g5 kk=>?_;have I2:Inv X h_ σ H1 { s1 with heap:=h' }:=I1.kept (t':=s1.toks) kk;have n1:@LT.lt Nat _ l1 s1.heap.objs.size:=by obtain⟨_,e,_⟩:=pl.obj;exact hl9 e
     have n2:@LT.lt Nat _ l2 s1.heap.objs.size:=by obtain⟨_,e,_⟩:=pl2.obj;exact hl9 e
     refine wpAny_pyIter_zip g1 ⟨_,[s1.heap.objs.size+4,s1.heap.objs.size+2,s1.heap.objs.size+3,s1.heap.objs.size,s1.heap.objs.size+1],_,_,H1,rfl,I2,
      Gj l1 l2 _ _ _ _ _ ⟨?_,?_,?_,?_,?_,?_,?_,?_,?_,?_,?_,?_,?_,?_,?_,?_,?_,?_⟩,⟨g1,g2,⟨_,_,g3⟩,g4,g5⟩,λc hc=>?_,q⟩
     all_goals try (show@Ne Nat _ _;omega)
     have hle:s1.heap.objs.size<=c:=by
      simp only[ah,aS,or_false]at hc
      rcases hc with rfl|rfl|rfl|rfl|rfl<;>first|exact Kd _ _|exact aM _
     exact I1.zO hle (I1.hok.fresh hle)
theorem yz:∀(xs ys:List Dat) (i:Nat),(kc xs ys)[i]?=match xs[i]?,ys[i]? with
  |some x,a_ y=>a_ (.tup [x,y])
  |_,_=>b_
 |[],_,_=>by simp[kc]
 |_::_,[],i=>by
   have:∀o:Option Dat,(match o,(b_:Option Dat)with|some x,a_ y=>a_ (Dat.tup [x,y])|_,_=>b_)=b_:=λo=>by cases o<;>rfl
   simp[kc,this]
 |x::xs,y::ys,0=>by simp[kc]
 |x::xs,y::ys,i+1=>by simp only[kc,be];exact yz xs ys i
theorem sI:∀(xs ys:List Dat),(kc xs ys).length=min xs.length ys.length
 |[],_=>by simp[kc]
 |_::_,[]=>by simp[kc]
 |x::xs,y::ys=>by simp only[kc,aQ,sI xs ys];omega
def S9(tp:Bool)(K:Fg)(F:Hp)(a:af)(vs:List V):Prop:=match tp with
 |true=>Tq K F a vs
 |false=>mB K F a vs
def S9.up{tp:Bool}{K:Fg}{F F' H:Hp}{a:af}{vs:List V}(h:S9 tp K F a vs)(s:bS F F')(g:Good F' H):pD tp K H a vs:=by
 cases tp
 ·exact g.sub.seq (s.seq h)
 ·exact((Tq.mono s h).mono g.sub).sq
def Io{tp tq:Bool}{K:Fg}{F1:Hp}{a b:af}{vs us:List V}{ds es:List Dat}(h:S9 tp K F1 a vs)(h':S9 tq K F1 b us)(r:cv K F1 ds vs)(r':cv K F1 es us):kQ K F1 (Xd tp tq K a b) (kc ds es):=λF H g s=>by
 have hq:=h.up s g;have hq':=h'.up s g;refine⟨λi d hd=>?_,λi hi=>⟨vs,us,hq,hq',?_⟩⟩
 ·rw[yz]at hd
  cases e1:ds[i]? with
  |none=>rw[e1]at hd;cases hd
  |some d1=>
    cases e2:es[i]? with
    |none=>rw[e1,e2]at hd;cases hd
    |some d2=>
      rw[e1,e2]at hd;cases hd;obtain⟨v1,f1,p1⟩:=r.get e1;obtain⟨v2,f2,p2⟩:=r'.get e2;refine⟨⟨vs,us,v1,v2,hq,hq',f1,f2⟩,λx H' y=>?_⟩;obtain⟨T,hT,rfl,x1,y1,q1,q2,rfl⟩:=y;have q3:=aP (f1.symm.trans (q1 vs hq));have q4:=aP (f2.symm.trans (q2 us hq'));subst q3 q4;refine⟨_,Step.alloc g hT,⟨T,_,rfl,.inl bu,?_⟩⟩;have sm:bS F1 (upd F T (.tup [v1,v2])):=s.trans (bS.upd (g.sub.free hT));exact⟨v1,[v2],rfl,p1.mono sm,v2,[],rfl,p2.mono sm,rfl⟩
 ·rw[sI]at hi;rw[r.length,r'.length];omega
noncomputable def Cz:Dat->Option (Bool×List Dat)
 |.lst xs=>a_ (d_,xs)
 |.tup xs=>a_ (c_,xs)
 |_=>b_
def qy{K:Fg}{F:Hp}{d:Dat}{tp:Bool}{xs:List Dat}{v:V}(h:Cz d=a_ (tp,xs))(r:Rep K F d v):∃p vs,v=.ref p/\S9 tp K F p vs/\cv K F xs vs:=by
 cases d with
 |lst ds=>cases h;exact r
 |tup ds=>cases h;exact r
 |_=>cases h
def OX{ds:List Dat}{items:List Dat}(h:Gc ds=a_ items) :
  ∃x y tp tq xs ys,ds=[x,y]/\Cz x=a_ (tp,xs)/\Cz y=a_ (tq,ys)/\items=kc xs ys:=by
 unfold Gc at h;split at h
 ·cases h;exact⟨_,_,_,_,_,_,rfl,rfl,rfl,rfl⟩
 ·cases h;exact⟨_,_,_,_,_,_,rfl,rfl,rfl,rfl⟩
 ·cases h;exact⟨_,_,_,_,_,_,rfl,rfl,rfl,rfl⟩
 ·cases h;exact⟨_,_,_,_,_,_,rfl,rfl,rfl,rfl⟩
 ·cases h
def Pq{elts:List aF}{k:Nat}{tp p:dZ}(hg:Gl X "zip")(hm:X.mg "zip"=b_)(ha:SA X C [a,b] [xa,xb])(hs:aI [a,b] X.env=[(d_,eval a X.env),(d_,eval b X.env)])(hs2:aI [b] X.env=[(d_,eval b X.env)]) :
  SI X C (.Tuple elts k tp) (.Call (.Name "zip" p) [a,b] [] pos) (.zip [xa,xb]):=λh_ s σ H R I z6=>by
 obtain⟨ρ,items,F,hi,g,RS,kk⟩:=z6;obtain⟨ds,h1,h2⟩:=bV hi;obtain⟨x,y,t1,t2,xs,ys,rfl,hx,hy,rfl⟩:=OX h2;refine Ql (tp:=t1) (tq:=t2) hg hm ha hs hs2 h_ s σ H R I ⟨ρ,[x,y],h1,F,g,RS,λvs F1 H1 st r=>?_⟩;obtain⟨v,w,rfl,r1,v',w',rfl,r2,e3⟩:=r;cases e3;obtain⟨p1,vs1,rfl,q1,r1'⟩:=qy hx r1;obtain⟨p2,vs2,rfl,q2,r2'⟩:=qy hy r2;exact⟨p1,p2,rfl,⟨vs1,q1.up (bS.refl _) st.good⟩,⟨vs2,q2.up (bS.refl _) st.good⟩,kk _ F1 H1 st (Io q1 q2 r1' r2')⟩
noncomputable def WR(tp:Bool)(K:Fg)(ta:TA):TI:=λσ H R=>ta σ H λvs H1=>∃a,vs=[.ref a]/\(∃xs,pD tp K H1 a xs)/\R (Xh tp K a) H1
def Qm{tp:Bool}{elts:List aF}{k:Nat}{tpos:dZ}{ta:TA}{p:dZ}(hg:Gl X "enumerate")(hm:X.mg "enumerate"=b_)(ha:PA X [a] ta)(hs:aI [a] X.env=[(d_,eval a X.env)]) :
  PI X (.Tuple elts k tpos) (.Call (.Name "enumerate" p) [a] [] pos) (WR tp X.K ta):=by
 intro h_ s σ H R I h;refine Call_ (nE I hg hm (by decide +kernel:bootBuiltins "enumerate"=a_ (.type "enumerate")) (eA (fW (ha pos h_ s σ H _ I h) λus s1 ⟨vs,H1,I1,r1,q1⟩=>?_) (by rw[hs];rfl) (by rfl)));obtain⟨l1,e,⟨xs,hx⟩,q⟩:=q1;subst e;obtain⟨u,rfl,ru⟩:=vals1 r1;cases ru;obtain⟨its,rv,pl⟩:=pD.at I1 hx;refine M7 pl λh' g1 g2 kk=>?_;have I2:Inv X h_ σ H1 { s1 with heap:=h' }:=I1.kept (t':=s1.toks) kk;have n1:@LT.lt Nat _ l1 s1.heap.objs.size:=by obtain⟨_,e,_⟩:=pl.obj;exact hl9 e
 refine wpAny_pyIter_enum g1 ⟨_,[s1.heap.objs.size+1,s1.heap.objs.size],_,_,H1,rfl,I2,Gm (tp:=tp) l1 _ _ ?_ ?_ ?_,⟨⟨_,g1⟩,g2⟩,λc hc=>?_,q⟩
 all_goals try (show@Ne Nat _ _;omega)
 have hle:s1.heap.objs.size<=c:=by
  simp only[ah,aS,or_false]at hc
  rcases hc with rfl|rfl<;>first|exact Kd _ _|exact aM _
 exact I1.zO hle (I1.hok.fresh hle)
theorem zW:∀(xs:List Dat)(k i:Nat),(mO k xs)[i]?=(xs[i]?).map λx=>.tup [.int (k+i:Nat),x]
 |[],_,_=>by simp[mO]
 |x::xs,k,0=>by simp[mO]
 |x::xs,k,i+1=>by
   simp only[mO,be];rw[zW xs (k+1) i]
   congr 2
   funext y;rw[show k+1+i=k+(i+1) by omega]
theorem zV:∀(xs:List Dat)(k:Nat),(mO k xs).length=xs.length
 |[],_=>rfl
 |x::xs,k=>by simp only[mO,aQ,zV xs (k+1)]
def Iq{tp:Bool}{K:Fg}{F1:Hp}{a:af}{vs:List V}{ds:List Dat}(h:S9 tp K F1 a vs)(r:cv K F1 ds vs):kQ K F1 (Xh tp K a) (mO 0 ds):=λF H g s=>by
 have hq:=h.up s g;refine⟨λi d hd=>?_,λi hi=>⟨vs,hq,?_⟩⟩
 ·rw[zW]at hd
  cases e1:ds[i]? with
  |none=>rw[e1]at hd;cases hd
  |some d1=>
    rw[e1]at hd;cases hd;obtain⟨v1,f1,p1⟩:=r.get e1;refine⟨⟨vs,v1,hq,f1⟩,λx H' y=>?_⟩;obtain⟨T,hT,rfl,x1,q1,rfl⟩:=y;have q3:=aP (f1.symm.trans (q1 vs hq));subst q3;refine⟨_,Step.alloc g hT,⟨T,_,rfl,.inl bu,?_⟩⟩;have sm:bS F1 (upd F T (.tup [.int i,v1])):=s.trans (bS.upd (g.sub.free hT));exact⟨.int i,[v1],rfl,by rw[jm];exact rfl,v1,[],rfl,p1.mono sm,rfl⟩
 ·rw[zV]at hi;rw[r.length];exact hi
def K6{d:Dat}{xs:List Dat}(h:TF d=a_ xs):∃tp,Cz d=a_ (tp,xs):=by
 cases d with
 |lst ds=>cases h;exact⟨_,rfl⟩
 |tup ds=>cases h;exact⟨_,rfl⟩
 |_=>cases h
def Pt{elts:List aF}{k:Nat}{tp p:dZ}(hg:Gl X "enumerate")(hm:X.mg "enumerate"=b_)(ha:SA X C [a] [xa])(hs:aI [a] X.env=[(d_,eval a X.env)]) :
  SI X C (.Tuple elts k tp) (.Call (.Name "enumerate" p) [a] [] pos) (.enu xa):=λh_ s σ H R I z6=>by
 obtain⟨ρ,items,F,hi,g,RS,kk⟩:=z6;obtain⟨⟨d,fr⟩,h1,h2⟩:=bV hi;obtain⟨xs,h3,h4⟩:=dJ h2;subst h4;obtain⟨t1,hx⟩:=K6 h3;refine Qm (tp:=t1) hg hm ha hs h_ s σ H R I ⟨ρ,[d],by simp only[hZ,h1,ao,aC],F,g,RS,λvs F1 H1 st r=>?_⟩;obtain⟨v,w,rfl,r1,e3⟩:=r;cases e3;obtain⟨p1,vs1,rfl,q1,r1'⟩:=qy hx r1;exact⟨p1,rfl,⟨vs1,q1.up (bS.refl _) st.good⟩,kk _ F1 H1 st (Iq q1 r1')⟩
def mw{f:List Dat->g_}{K:Fg}{xs:List V}{H:Hp}{Q:VK}(hf:∀ds d fr,f ds=a_ (d,fr)->ds.length=1)(h:gL K f xs H Q) :
  ∃da d fr F v,f [da]=a_ (d,fr)/\xs=[v]/\Good F H/\Rep K F da v/\∀w F' H',Step F H F' H'->Rep K F' d w->(fr=c_->fJ K H H' d w)->Q w H':=by
 obtain⟨ds,d,fr,h1,F,g,r,k⟩:=h
 match ds,hf ds d fr h1 with
 |[da],_=>
   obtain⟨v,w,rfl,rv,rw'⟩:=r;cases rw';exact⟨da,d,fr,F,v,h1,rfl,g,rv,k⟩
def B0{f:Dat->g_}:∀{ds:List Dat}{r:Dat×Bool},b1 f ds=a_ r->ds.length=1
 |[_],_,_=>rfl
 |[],_,h=>by cases h
 |_::_::_,_,h=>by cases h
def kM{b:J3}:∀ds d fr,dw b ds=a_ (d,fr)->ds.length=1:=λds d fr h=>by
 cases b<;>first|exact B0 h|cases h
set_option tactic.hygienic true
def E7:ig X (.builtin "len") (gL X.K (dw .len)):=λh_ s σ H xs us Q I r h=>by
 obtain⟨da,d,fr,F,v,h1,rfl,g,rv,k⟩:=mw kM h
 cases da with
 |lst ds=>
   cases h1;obtain⟨p,vs,rfl,t,r'⟩:=rv;refine qd h_ s σ H _ us Q I r ⟨p,vs,rfl,.inl (g.sub.seq t),?_⟩;rw[r'.length];exact k _ F H (Step.refl g) rfl aV
 |tup ds=>
   cases h1;obtain⟨p,vs,rfl,t,r'⟩:=rv;refine qd h_ s σ H _ us Q I r ⟨p,vs,rfl,.inr (t.mono g.sub).sq,?_⟩;rw[r'.length];exact k _ F H (Step.refl g) rfl aV
 |str z=>
   simp only[dw,b1,qZ,lX,qY,qW,bL,Fi,rd,qX]at h1;split at h1
   ·rename_i hz;cases h1;cases rv;exact xP h_ s σ H _ us Q I r ⟨z,rfl,hz,k _ F H (Step.refl g) rfl aV⟩
   ·cases h1
 |dct ks ds=>
   cases h1;obtain⟨p,k_,rfl,hF,rfl,rr⟩:=rv;obtain⟨u,rfl,ru⟩:=vals1 r;cases ru;refine U4 I (.inl (g.sub _ _ hF)) λt s' I'=>⟨.int _,H,I',⟨t,rfl⟩,?_⟩
   have e1:k_.length=(k_.map (·.1)).length:=(ak ..).symm;rw[e1];exact k _ F H (Step.refl g) rfl aV
 |_=>cases h1
def E9:ig X (.type "int") (gL X.K (dw .int)):=λh_ s σ H xs us Q I r h=>by
 obtain⟨da,d,fr,F,v,h1,rfl,g,rv,k⟩:=mw kM h
 cases da with
 |int i=>
   cases h1;cases rv;exact Fb h_ s σ H _ us Q I r (.inl ⟨i,rfl,k _ F H (Step.refl g) rfl aV⟩)
 |bl b=>
   cases h1;cases rv;obtain⟨u,rfl,ru⟩:=vals1 r;cases ru;exact call_int_bool ⟨.int _,H,I.tok _,⟨_,rfl⟩,k _ F H (Step.refl g) rfl aV⟩
 |str x=>
   simp only[dw,b1,qZ,lX,qY,qW,bL,Fi,rd,qX]at h1;split at h1
   ·rename_i hl;obtain⟨i,h2,h1⟩:=dJ h1;cases h1;cases rv;obtain⟨u,rfl,t,rfl⟩:=vals1 r;exact PySem.W.KIN.call_text h2 hl ⟨.int i,H,I.tok _,⟨_,rfl⟩,k _ F H (Step.refl g) rfl aV⟩
   ·cases h1
 |_=>cases h1
set_option tactic.hygienic false
def BQ:ig X (.type "list") (gL X.K (dw .list)):=λh_ s σ H xs us Q I r h=>by
 obtain⟨da,d,fr,F,v,h1,rfl,g,rv,k⟩:=mw kM h
 have fin:∀{vs:List V}{ds:List Dat},cv X.K F ds vs->(d,fr)=(Dat.lst ds,je ds)->∀l,H l=b_->Q (.ref l) (upd H l (.lst vs)):=λ{vs ds}r' e l hl=>by
  cases e;have r2:=r'.mono (bS.upd (o:=.lst vs) (g.sub.free hl));exact k _ _ _ (Step.alloc g hl) ⟨l,vs,rfl,.inl (.inl bu),r2⟩ λz=>.lst (bS.refl _) hl (.jL g z r')
 cases da with
 |lst ds=>
   obtain⟨p,vs,rfl,t,r'⟩:=rv;exact qc h_ s σ H _ us Q I r ⟨p,vs,rfl,.inl (g.sub.seq t),fin r' (aP h1).symm⟩
 |tup ds=>
   obtain⟨p,vs,rfl,t,r'⟩:=rv;exact qc h_ s σ H _ us Q I r ⟨p,vs,rfl,.inr (t.mono g.sub).sq,fin r' (aP h1).symm⟩
 |_=>cases h1
def Ad:ig X (.type "tuple") (gL X.K (dw .tuple)):=λh_ s σ H xs us Q I r h=>by
 obtain⟨da,d,fr,F,v,h1,rfl,g,rv,k⟩:=mw kM h
 cases da with
 |lst ds=>
   cases h1;obtain⟨p,vs,rfl,t,r'⟩:=rv;exact oM h_ s σ H _ us Q I r ⟨p,vs,rfl,.inl ⟨g.sub.seq t,λl hl=>k _ _ _ (Step.alloc g hl) ⟨l,vs,rfl,.inl bu,r'.mono (bS.upd (g.sub.free hl))⟩ aV⟩⟩
 |tup ds=>
   cases h1;obtain⟨p,vs,rfl,t,r'⟩:=rv;exact oM h_ s σ H _ us Q I r ⟨p,vs,rfl,.inr ⟨(t.mono g.sub).sq,k _ F H (Step.refl g) ⟨p,vs,rfl,t,r'⟩ aV⟩⟩
 |_=>cases h1
theorem lV{K:Fg}{F:Hp}:∀{ds:List Dat}{bs:List Bool}{vs:List V}{us:List aa},jx ds=a_ bs->cv K F ds vs->bZ vs us->us=bs.map iV
 |[],bs,vs,us,h,r,w=>by
   cases h;rw[show vs=[]from r]at w;cases w;rfl
 |d::ds,bs,vs,us,h,z5,w=>by
   obtain⟨v,r,e,h1,h2⟩:=z5;subst e
   cases d with
   |bl b=>
     simp only[jx]at h;obtain⟨bs',hb,h⟩:=dJ h;cases h;cases h1
     cases w with
     |cons q w=>cases q;rw[lV hb h2 w];rfl
   |_=>cases h
def n5{s:ae}{h':bx}{o:er}(hk:∀b x,b∉[s.heap.objs.size]->(s.heap.push o).get? b=a_ x->h'.get? b=a_ x):∀b x,s.heap.get? b=a_ x->h'.get? b=a_ x:=
 λb x e=>hk b x (λhm=>absurd (hl9 e) (by rw[aZ.mp hm];exact bC _)) (hp9 _ e)
def Bf(bs:List Bool):((aR bs.length).all λi=>(bs[i]?).getD c_)=bs.all id:=by
 rw[dD,bg,bg];constructor
 ·intro h b hb;obtain⟨i,hi,rfl⟩:=iL hb;have:=h i (bW.mpr hi);simpa [au hi]using this
 ·intro h i hi;have hi':=bW.mp hi;simp only[au hi',dF];exact h _ (cm hi')
def Fd(hcalm:X.calm=c_):ig X (.builtin "all") (gL X.K (dw .all)):=λh_ s σ H xs us Q I r h=>by
 obtain⟨da,d,fr,F,v,h1,rfl,g,rv,k⟩:=mw kM h
 cases da with
 |lst ds=>
   simp only[dw,b1,qZ,lX,qY,qW,bL,Fi,rd,qX]at h1;obtain⟨bs,hb,h1⟩:=dJ h1;cases h1;obtain⟨p,vs,rfl,t,r'⟩:=rv;obtain⟨its,w1,pl,_⟩:=I.lstR g t;obtain⟨u,rfl,ru⟩:=vals1 r;cases ru;have ei:=lV hb r' w1;have hlt:=pl.lt;refine call_all_walk (jT pl.isList ?_)
   refine⟨s.heap.objs.size,[s.heap.objs.size,p],[s.heap.objs.size],its.toArray.size,_,_,λi=>(bs[i]?).getD c_,rfl,DX (A:=X.A.in1) (I.ok.hd hcalm) _ p (ba hlt) its.toArray,
    ⟨⟨_,aJ _ rfl,rfl,rfl⟩,pl.isList.push _⟩,λi v s' Q' E' hP hQ=>?_,λh' tk hk=>?_⟩
   ·subst ei;have hP':(bs.map iV)[i]?=a_ v:=by simpa using hP
    rw[aW]at hP'
    cases hi:bs[i]? with
    |none=>rw[hi]at hP';cases hP'
    |some b=>
      rw[hi]at hP';cases hP';simp only[hi,dF]at hQ;exact cY hQ
   ·have e1:its.toArray.size=bs.length:=by rw[ei];simp
    rw[e1,Bf];exact⟨.bl _,H,I.kept (n5 hk),rfl,k _ F H (Step.refl g) rfl aV⟩
 |_=>cases h1
theorem qL{K:Fg}{F:Hp}:∀{ds:List Dat}{is:List Int}{vs:List V}{us:List aa},j8 ds=a_ is->cv K F ds vs->bZ vs us->jY us is
 |[],is,vs,us,h,r,w=>by
   cases h;rw[show vs=[]from r]at w;cases w;exact .nil
 |d::ds,is,vs,us,h,z5,w=>by
   obtain⟨v,r,e,h1,h2⟩:=z5;subst e
   cases d with
   |int i=>
     simp only[j8]at h;obtain⟨is',hb,h⟩:=dJ h;cases h;cases h1
     cases w with
     |cons q w=>obtain⟨t,rfl⟩:=q;exact .cons i t (qL hb h2 w)
   |_=>cases h
theorem xm:∀(r:List Int)(i:Int),i<=vE i r/\∀j∈r,j<=vE i r
 |[],i=>⟨Int.le_refl _,λj h=>nomatch h⟩
 |a::r,i=>by
   have q:=xm r (if i<a then a else i);simp only[vE];refine⟨?_,λj hj=>?_⟩
   ·refine Int.le_trans ?_ q.1;split<;>omega
   ·rcases ah.mp hj with rfl|hj
    ·refine Int.le_trans ?_ q.1;split<;>omega
    ·exact q.2 j hj
theorem se:∀(r:List Int)(i:Int),vE i r∈i::r
 |[],i=>by simp[vE]
 |a::r,i=>by
   simp only[vE];have q:=se r (if i<a then a else i)
   rcases ah.mp q with q|q
   ·rw[q];split<;>simp
   ·exact jN _ (jN _ q)
def E6(hcalm:X.calm=c_):ig X (.builtin "max") (gL X.K (dw .max)):=λh_ s σ H xs us Q I r h=>by
 obtain⟨da,d,fr,F,v,h1,rfl,g,rv,k⟩:=mw kM h
 cases da with
 |lst ds=>
   simp only[dw,b1,qZ,lX,qY,qW,bL,Fi,rd,qX]at h1;obtain⟨is,hb,h1⟩:=bV h1
   cases is with
   |nil=>cases h1
   |cons i is=>
     cases h1;obtain⟨p,vs,rfl,t,r'⟩:=rv;obtain⟨its,w1,pl,_⟩:=I.lstR g t;obtain⟨u,rfl,ru⟩:=vals1 r;cases ru;have ei:=qL hb r' w1;obtain⟨xs,e⟩:=ei.allInts.items;have hl:=pl.isList;rw[e]at hl
     have en:xs.toList.map (·.1)=i::is:=by
      have h1:=nums_intItems xs;rw[<-e]at h1;exact h1.symm.trans ei.numsOf
     have hsz:0<xs.size:=by
      have:=congrArg lH en;simp at this;omega
     refine max_intList (I.ok.hd hcalm) hl hsz λv h' tk hv hk=>?_;obtain⟨t,rfl⟩:=qp hv;obtain⟨g1,g2⟩:=argBest_gt (numAt xs) (xs.size - 1)
     have hM:numAt xs (argBest (λi j=>decide (numAt xs i > numAt xs j)) (xs.size - 1))=vE i is:=by
      refine uH ?_ ?_
      ·have hm:numAt xs (argBest (λi j=>decide (numAt xs i > numAt xs j)) (xs.size - 1))∈i::is:=by
        rw[<-en,uu];exact getD_mem (by rw[ak,bA];omega)
       have q:=xm is i
       rcases ah.mp hm with z|z
       ·rw[z];exact q.1
       ·exact q.2 _ z
      ·have hm:vE i is∈xs.toList.map (·.1):=by rw[en];exact se is i
       obtain⟨j,hj,e2⟩:=mem_getD hm;rw[ak,bA]at hj;rw[<-e2,<-uu];exact g2 j (by omega)
     rw[hM];exact⟨.int _,H,I.kept hk,⟨_,rfl⟩,k _ F H (Step.refl g) rfl aV⟩
 |_=>cases h1
end
section
variable{X:Cx}{C:Fs}{a b c e:aF}{xa xb xc:Ex}{pos:dZ}{es:List aF}{xs:List Ex}{h_:List (af×er)}{σ:St}{F H:Hp}{s:ae}{tg iter:aF}
noncomputable def tyName:Ty->String
 |.int=>"int"
 |.bool=>"bool"
 |.str=>"str"
 |.tuple=>"tuple"
 |.list=>"list"
noncomputable def UG:Dat->String
 |.non=>"NoneType"
 |.bl _=>"bool"
 |.int _=>"int"
 |.str _=>"str"
 |.tup _=>"tuple"
 |.lst _=>"list"
 |.dct _ _=>"dict"
 |.dcn _=>"dict"
 |.exc _ _ _=>""
def Q9(K:Fg)(t:Ty)(d:Dat)(h:VA d=d_):kr K (.type (UG d)) (.type (tyName t))=a_ (kg t d):=by
 cases t<;>cases d<;>first|rfl|cases h
def Wn(K:Fg)(t:Ty):List V->Hp->VK->Prop:=λxs H Q=>∃da F v,xs=[v,.ty (tyName t)]/\Good F H/\Rep K F da v/\VA da=d_/\Q (.bl (kg t da)) H
def E8{t:Ty}:ig X (.builtin "isinstance") (Wn X.K t):=λh_ s σ H xs us Q I r h=>by
 obtain⟨da,F,v,rfl,g,rv,hx,q⟩:=h;obtain⟨u,w,rfl,ru,rw'⟩:=vals2 r;obtain rfl:w=.type (tyName t):=rw';have e:=Q9 X.K t da hx;have fin:∀tk,EP X h_ σ Q (.bool (kg t da)) { s with toks:=tk }:=λtk=>⟨.bl _,H,I.tok tk,rfl,q⟩
 cases da with
 |non=>cases rv;obtain rfl:u=.none:=ru;exact eG PySem.W.kitx_none I.rR gG e (λz=>nomatch z) fin
 |bl y=>cases rv;obtain rfl:u=.bool y:=ru;exact eG PySem.W.kitx_bool I.rR gG e (λz=>nomatch z) fin
 |int y=>cases rv;obtain⟨t1,rfl⟩:=ru;exact eG PySem.W.kitx_int I.rR gG e (λz=>nomatch z) fin
 |str y=>cases rv;obtain⟨t1,rfl⟩:=ru;exact eG PySem.W.kitx_str I.rR gG e (λz=>nomatch z) fin
 |tup ds=>
   obtain⟨p,vs,rfl,t1,_⟩:=rv;obtain rfl:u=.ref p:=ru;obtain⟨its,_,⟨o,h1,h2,_⟩,_⟩:=I.tupR g t1;exact eG PySem.W.kitx_tuple I.rR ⟨o,h1,h2⟩ e (λz=>nomatch z) fin
 |lst ds=>
   obtain⟨p,vs,rfl,t1,_⟩:=rv;obtain rfl:u=.ref p:=ru;obtain⟨its,_,⟨o,n,h1,h2,_⟩,_⟩:=I.lstR g t1;exact eG PySem.W.kitx_list I.rR ⟨o,h1,h2⟩ e (λz=>nomatch z) fin
 |dct ks ds=>
   obtain⟨p,k_,rfl,t1,_⟩:=rv;obtain rfl:u=.ref p:=ru;obtain⟨_,_,_,_,o,es,ep,h1,h2,_⟩:=I.hok p _ (g.sub _ _ t1);exact eG B7 I.rR ⟨o,h1,h2.1⟩ e (λz=>nomatch z) fin
 |dcn ks=>
   obtain⟨p,xs,rfl,t1,_⟩:=rv;obtain rfl:u=.ref p:=ru;obtain⟨_,_,o,es,ep,h1,h2,_⟩:=I.hok p _ (g.sub _ _ t1);exact eG B7 I.rR ⟨o,h1,h2.1⟩ e (λz=>nomatch z) fin
 |exc _ _ _=>cases hx
set_option tactic.hygienic true in
def PK{x:aN}{p p2:dZ}(t:Ty)(hg:Gl X "isinstance")(hm:X.mg "isinstance"=b_)(hg2:Gl X x)(hm2:X.mg x=b_)(hv2:bootBuiltins x=a_ (.type (tyName t)))(ha:SE X C a xa)(hn:x≠"__name__")(hdb:(x == ("__debug__":aN))=d_)
  (he:aI [a,.Name x p2] X.env=(d_,eval a X.env)::aI [.Name x p2] X.env)(hpl:(backTo pos (aI [.Name x p2] X.env)).any (·.1)=d_) :
  SE X C (.Call (.Name "isinstance" p) [a,.Name x p2] [] pos) (.blt (.isi t) [xa]):=
 PE.imp (ny E8 hg hm (by decide +kernel:bootBuiltins "isinstance"=a_ (.builtin "isinstance")) (kd ha (kd (CW hg2 hm2 hv2 (v:=.ty (tyName t)) rfl hn hdb) qD) he) (by decide) (by decide) he hpl) λσ H Q z3=>by
  obtain⟨ρ,d,fr,h,F,g,R,k⟩:=z3;obtain⟨ds,h1,h2⟩:=bV h;obtain⟨⟨da,fa⟩,h3,h1⟩:=bV h1;cases h1;have h2:(if VA da=c_ then b_ else a_ (Dat.bl (kg t da),d_))=a_ (d,fr):=h2;split at h2
  ·cases h2
  ·rename_i hx;cases h2;exact⟨ρ,da,fa,h3,F,g,R,λv F1 H1 st r _=>⟨da,F1,v,rfl,st.good,r,Bool.not_eq_true _▸hx,k _ F1 H1 st rfl aV⟩⟩
def Aa{o o':Fo}:∀σ H Q,gE X.K C (.Jk o o' xa xb xc) σ H Q->AY (gB X.K (lT o)) (gB X.K (lT o')) (gE X.K C xa) (gE X.K C xb) (gE X.K C xc) σ H Q:=λσ H Q z3=>by
 obtain⟨ρ,d,fr,h,F,g,R,k⟩:=z3;obtain⟨⟨da,fa⟩,h1,h⟩:=bV h;obtain⟨⟨db,fb⟩,h2,h⟩:=bV h;obtain⟨r,h3,h⟩:=bV h;refine⟨ρ,da,fa,h1,F,g,R,λv F1 H1 st1 r1 _=>⟨ρ,db,fb,h2,F1,st1.good,R.mono st1.ff,λw F2 H2 st2 r2 _=>?_⟩⟩;refine⟨da,db,.bl r,d_,by show(eV o da db).map _=_;rw[h3];rfl,F2,st2.good,r1.mono st2.ff,r2,λu F3 H3 st3 r3 _=>⟨r,r3,?_⟩⟩
 cases r with
 |true=>
   refine BF ?_;obtain⟨⟨dc,fc⟩,h4,h⟩:=bV h;refine⟨ρ,dc,fc,h4,F3,st3.good,R.mono ((st1.ff.trans st2.ff).trans st3.ff),λy F4 H4 st4 r4 _=>?_⟩;exact⟨db,dc,d,fr,h,F4,st4.good,r2.mono (st3.ff.trans st4.ff),r4,λu F5 H5 st5 r5 f5=>k u F5 H5 ((((st1.trans st2).trans st3).trans st4).trans st5) r5 λz=>(f5 z).back (F:=F) (((st1.hh.trans st2.hh).trans st3.hh).trans st4.hh)⟩
 |false=>
   refine BG ?_;cases h;exact k _ F3 H3 ((st1.trans st2).trans st3) rfl aV
end
theorem vO:∀{us:List aa}{is:List Int},jY us is->bZ (is.map V.int) us
 |_,_,.nil=>.nil
 |_,_,.cons n t h=>.cons ⟨t,rfl⟩ (vO h)
theorem vq:∀{us:List aa}{is:List aN},oS us is->bZ (is.map V.str) us
 |_,_,.nil=>.nil
 |_,_,.cons n t h=>.cons ⟨t,rfl⟩ (vq h)
theorem Wg{K:Fg}{F:Hp}:∀(is:List Int),cv K F (is.map Dat.int) (is.map V.int)
 |[]=>rfl
 |i::is=>⟨_,_,rfl,rfl,Wg is⟩
theorem Wf{K:Fg}{F:Hp}:∀(is:List aN),cv K F (is.map Dat.str) (is.map V.str)
 |[]=>rfl
 |i::is=>⟨_,_,rfl,rfl,Wf is⟩
theorem UO:∀(is:List Int),je (is.map Dat.int)=c_
 |[]=>rfl
 |i::is=>by rw[aw];simp only[je,im,yh];exact UO is
theorem UN:∀(is:List aN),je (is.map Dat.str)=c_
 |[]=>rfl
 |i::is=>by rw[aw];simp only[je,im,yh];exact UN is
section
variable{prog:aO}{w:bh}{A:bp}{E:aa->ae->Prop}{s:ae}
end
section
variable{X:Cx}{C:Fs}{a:aF}{xa:Ex}
end
section
variable{X:Cx}{C:Fs}{elt iter tg:aF}{it:Iw}{xe:Ex}{xs:List Ex}{ifs:List aF}{scope:fk}{pos:dZ}{tn cn:List aN}{caps:List Nat}{g:TG}{one:Bool}
def Lf(hcalm:X.calm=c_)(S:iU X scope tn cn caps)(hi:SI X C tg iter it)(touch:oO tn.length g)(tgc:Sv X.K tn.length one g)
  (hg:∀(cl:List (aN×af))(s₂:ae)(H₂:Hp)(Ca:af)(ex:List af),PG (eo X scope cl (tn++cn) s₂ H₂ Ca ex) tg g)
  (ht:∀(cl:List (aN×af))(s₂:ae)(H₂:Hp)(Ca:af)(ex:List af),J0 (eo X scope cl (tn++cn) s₂ H₂ Ca ex) ifs (SY X.K C xs))
  (he:∀(cl:List (aN×af))(s₂:ae)(H₂:Hp)(Ca:af)(ex:List af),SE (eo X scope cl (tn++cn) s₂ H₂ Ca ex) C elt xe)
  (hs:∀x,foldedSetIterable iter X.env x=pure x):SE X C (.ListComp elt [⟨tg,iter,ifs,0⟩] scope pos) (.comp tn.length one caps it xs xe):=
 PE.imp (LF hcalm S hi hg touch ht he hs) (vW tgc λ_ _ _=>trivial)
def A3{i:Nat}{x:aN}{pos' spos:dZ}(hN:X.N.Nodup)(hi':X.N[i]?=a_ x)(hx:Loc X.env.scope x)(hcalm:X.calm=c_)(S:iU X scope tn cn caps)(hi:SI X C tg iter it)(touch:oO tn.length g)(tgc:Sv X.K tn.length one g)
  (hg:∀(cl:List (aN×af))(s₂:ae)(H₂:Hp)(Ca:af)(ex:List af),PG (eo X scope cl (tn++cn) s₂ H₂ Ca ex) tg g)
  (ht:∀(cl:List (aN×af))(s₂:ae)(H₂:Hp)(Ca:af)(ex:List af),J0 (eo X scope cl (tn++cn) s₂ H₂ Ca ex) ifs (SY X.K C xs))
  (he:∀(cl:List (aN×af))(s₂:ae)(H₂:Hp)(Ca:af)(ex:List af),SE (eo X scope cl (tn++cn) s₂ H₂ Ca ex) C elt xe)
  (hsw:swapsWith (.ListComp elt [⟨tg,iter,ifs,0⟩] scope pos) (a_ (.Name x pos')) spos.line X.env=pure c_)
  (hs:∀x,foldedSetIterable iter X.env x=pure x)(hf:X.fn x=c_\/X.env.scope.names.lookup x=a_ .local) :
  SS X C EE (.Assign [.Name x pos'] (.ListComp elt [⟨tg,iter,ifs,0⟩] scope pos) spos) (.set i (.comp tn.length one caps it xs xe)):=
 PS.imp (Bk hN hi' hx hcalm S hi hg touch ht he hsw hs hf) (yJ (vW tgc λ_ _ _=>trivial))
end
def Su(K:Fg)(one:Bool)(ts:List Nat)(g:TG):Prop:=∀Fz H₀ F H σ ρ d x ρ1 Q,Rl K Fz H₀ F H σ ρ->Rep K F d x->eF one ts d ρ=a_ ρ1->(∀σ1,Rl K Fz H₀ F H σ1 ρ1->Q σ1 H)->g x σ H Q
def Ks{K:Fg}{i:Nat}:Su K c_ [i] (jP i):=λFz H₀ F H σ ρ d x ρ1 Q R r hb k=>by
 simp only[eF,iO]at hb;subst hb;exact k _ (R.Ba r)
noncomputable def VC:List Nat->Fn
 |[]=>EL
 |i::is=>vR (jP i) (VC is)
theorem IG{K:Fg}{Fz H₀ F H:Hp}{Q:St->Hp->Prop}:∀(ts:List Nat){σ:St}{ρ:bQ},Rl K Fz H₀ F H σ ρ->∀ds:List Dat,ds.length=ts.length->(∀σ1,Rl K Fz H₀ F H σ1 (nW ts ds ρ)->Q σ1 H)->∀vs,cv K F ds vs->VC ts vs σ H Q
 |[],σ,ρ,R,ds,hz,k,vs,r=>by
   cases ds with
   |nil=>exact⟨r,k _ R⟩
   |cons _ _=>cases hz
 |i::is,σ,ρ,R,ds,hz,k,vs,r=>by
   cases ds with
   |nil=>cases hz
   |cons d ds=>
     obtain⟨v,w,e,r1,r2⟩:=r;subst e;exact⟨v,w,rfl,IG is (R.Ba r1) ds (by simpa using hz) k w r2⟩
set_option tactic.hygienic true in
def Gz{K:Fg}{ts:List Nat}:Su K d_ ts (IF K ts.length (VC ts)):=λFz H₀ F H σ ρ d x ρ1 Q R r hb k=>by
 simp only[eF]at hb
 cases d with
 |tup ds=>
   dsimp only at hb;split at hb
   ·rename_i hz;cases hb;obtain⟨a,vs,rfl,t,r⟩:=r;refine⟨a,vs,rfl,(t.mono R.step.good.sub).sq,by rw[r.length];exact hz,?_⟩;exact IG ts R ds hz k vs r
   ·cases hb
 |_=>cases hb
section
variable{X:Cx}{C:Fs}{iter tg e:aF}{it:Iw}{xe:Ex}{body:List fw}{xs:List Sx}{pos:dZ}{g:TG}{one:Bool}{ts:List Nat}
def IY{K:Fg}{Fz H₀ F H:Hp}{σ:St}{ρ ρ':bQ}{items:List Dat}{es:List Ex}(R:Rl K Fz H₀ F H σ ρ)(h:RK C (.rng es) ρ=a_ (items,ρ')){Q:It->Hp->Prop}
  (k:∀J F1 H1,bS F F1->Rl K Fz H₀ F1 H1 σ ρ'->kQ K (t5 (.rng es) F1) J items->Q J H1):gI K C (.rng es) σ H Q:=by
 simp only[RK]at h;obtain⟨ds,h1,h⟩:=dJ h;cases h;obtain⟨Fp,sp,Rp⟩:=R.jv;refine⟨_,_,Fp,h1,Rp.step.good,Rp.full,λJ F1 H1 st ok=>?_⟩;have stS:=Step.shrink R.step.good sp st;exact k J _ H1 stS.ff (R.moved stS) ok
def zT{K:Fg}{Fz H₀ F H:Hp}{σ:St}{ρ ρ':bQ}{items:List Dat}{is:List Nat}(R:Rl K Fz H₀ F H σ ρ)(h:(xF C it (rP (kh is ρ))).map (λds=>(ds,kh is ρ))=a_ (items,ρ')){Q:It->Hp->Prop}
  (k:∀J F1 H1,bS F F1->Rl K Fz H₀ F1 H1 σ ρ'->kQ K (t5 it F1) J items->Q J H1):gI K C it σ H Q:=by
 obtain⟨ds,h1,h⟩:=dJ h;cases h;obtain⟨F2,s2,R2⟩:=R.freeze is;exact⟨_,_,F2,h1,R2.step.good,R2.rP,λJ F1 H1 st ok=>k J F1 H1 (s2.trans st.ff) (R2.moved st) ok⟩
def pY{K:Fg}{Fz H₀ F F0 F1 H1:Hp}{σ:St}{ρ':bQ}{items:List Dat}{out:Out}{D:Ends}{J:It}(tgs:Su K one ts g)(s1:bS F F1)(R1:Rl K Fz H₀ F1 H1 σ ρ')(le:∀F2,bS F1 F2->bS F0 F2)(ok:kQ K F0 J items)
  (h:eL (eF one ts) (bH C xs) items ρ'=a_ out)(k:p9 K Fz H₀ F D EE out):∃W:Nat->Nat->St->Hp->Prop,(∃m,W 0 m σ H1)/\∀i m σ H,W i m σ H->
   (J.stop i H/\D.nx σ H)\/(J.go i H/\∃N:St->Hp->Prop,(∀σ' H',N σ' H'->∃m',m'<m/\W (i+1) m' σ' H')/\∀x H',J.yld i H x H'->g x σ H' λσ2 H2=>Xv K C EE xs { D with nx:=N,ct:=N,bk:=D.nx } σ2 H2):=by
 refine⟨λi m σ H=>∃F ρ,Rl K Fz H₀ F H σ ρ/\bS F1 F/\eL (eF one ts) (bH C xs) (items.drop i) ρ=a_ out/\m=items.length - i/\i<=items.length,⟨items.length,F1,ρ',R1,bS.refl _,h,rfl,fK _⟩,?_⟩;rintro i m σ2 H2 ⟨F2,ρ2,R2,s2,hl,rfl,hi'⟩;obtain⟨okg,Uw⟩:=ok F2 H2 R2.step.good (le F2 s2);by_cases hlt:i<items.length
 ·obtain⟨go,yl⟩:=okg i items[i] (au hlt);refine .inr ⟨go,λσ' H'=>∃m',m'<items.length - i/\∃F ρ,Rl K Fz H₀ F H' σ' ρ/\bS F1 F/\eL (eF one ts) (bH C xs) (items.drop (i+1)) ρ=a_ out/\m'=items.length - (i+1)/\i+1<=items.length,λσ' H' z=>z,λx H3 y3=>?_⟩;obtain⟨F3,st3,r3⟩:=yl x H3 y3;rw[iF hlt]at hl;simp only[eL]at hl;obtain⟨ρ3,hb3,hl⟩:=bV hl;obtain⟨o,ho,hl⟩:=bV hl;refine tgs Fz H₀ F3 H3 σ2 ρ2 _ x ρ3 _ (R2.moved st3) r3 hb3 λσ4 R4=>?_;have sAll:bS F1 F3:=s2.trans st3.ff;refine⟨Fz,H₀,F3,ρ3,o,ho,R4,?_⟩
  cases o with
  |nx ρ5=>exact λF5 H5 σ5 s5 R5=>⟨items.length - (i+1),by omega,F5,ρ5,R5,sAll.trans s5,hl,rfl,hlt⟩
  |ct ρ5=>exact λF5 H5 σ5 s5 R5=>⟨items.length - (i+1),by omega,F5,ρ5,R5,sAll.trans s5,hl,rfl,hlt⟩
  |bk ρ5=>
    cases hl;exact λF5 H5 σ5 s5 R5=>k F5 H5 σ5 ((s1.trans sAll).trans s5) R5
  |rt d fr=>
    cases hl;exact k
  |xc c f d=>
    cases hl;exact k
 ·have e:i=items.length:=by omega
  subst e;rw[JU]at hl;simp only[eL]at hl;cases hl;exact .inl ⟨Uw _ (aM _),k F2 H2 σ2 (s1.trans s2) R2⟩
def A4(hp:Fw (aE X.prog X.w) X.A X.env X.xe)(hc:X.calm=c_)(hi:SI X C tg iter it)(hni:∀a,it≠.itv a)(hg:PG X tg g)(tgs:Su X.K one ts g)(hb:FI X C EE body xs)
  (hs:∀x,foldedSetIterable iter X.env x=pure x):SS X C EE (.For tg iter body [] pos) (.loop one ts it xs):=
 PS.imp (Hj hp hc hi hg hb hs) λD σ H z3=>by
  obtain⟨Fz,H₀,F,ρ,out,h,R,k⟩:=z3;obtain⟨⟨items,ρ'⟩,h1,h⟩:=bV h;have fin:∀J F1 H1,bS F F1->Rl X.K Fz H₀ F1 H1 σ ρ'->kQ X.K (t5 it F1) J items->_:=λJ F1 H1 s1 R1 ok=>pY (D:=D) tgs s1 R1 (λF2 s=>zN s) ok h k
  cases it with
  |itv a=>exact absurd rfl (hni a)
  |rng es=>exact IY R h1 fin
  |zip es=>exact zT R h1 fin
  |enu a=>exact zT R h1 fin
def KI{xe:Ex}(hp:Fw (aE X.prog X.w) X.A X.env X.xe)(hc:X.calm=c_)(he:SE X C iter xe)(hg:PG X tg g)(tgs:Su X.K one ts g)(hb:FI X C EE body xs)
  (hs:∀x,foldedSetIterable iter X.env x=pure x):SS X C EE (.For tg iter body [] pos) (.loop one ts (.itv xe) xs):=
 PS.imp (Hj hp hc (PI.or (PI.or (CS he) (Hm he)) (Hn he)) hg hb hs) λD σ H z3=>by
  obtain⟨Fz,H₀,F,ρ,out,h,R,k⟩:=z3;obtain⟨⟨items,ρ'⟩,h1,h⟩:=bV h;obtain⟨⟨d,fr,ρ1⟩,h2,h3⟩:=bV h1;obtain⟨ds,h4,h5⟩:=dJ h3;cases h5
  cases d with
  |lst es=>
    cases h4;refine .inl (.inl (xE R h2 λv Fm F' H' sm Rm st r f=>?_));obtain⟨p,vs,rfl,t,rr⟩:=r;exact⟨p,rfl,⟨vs,st.good.sub.seq t⟩,pY (D:=D) tgs (sm.trans st.ff) (Rm.moved st) (λF2 s=>s) (vM t rr) h k⟩
  |tup es=>
    cases h4;refine .inl (.inr (xE R h2 λv Fm F' H' sm Rm st r f=>?_));obtain⟨p,vs,rfl,t,rr⟩:=r;exact⟨p,rfl,⟨vs,(t.mono st.good.sub).sq⟩,pY (D:=D) tgs (sm.trans st.ff) (Rm.moved st) (λF2 s=>s) (zy t rr) h k⟩
  |str x=>
    cases h4;refine .inr (xE R h2 λv Fm F' H' sm Rm st r f=>?_);cases r;exact⟨x,rfl,pY (D:=D) tgs (sm.trans st.ff) (Rm.moved st) (λF2 s=>s) zA h k⟩
  |_=>cases h4
set_option tactic.hygienic true in
def Pe{tgt:aF}{tg':TG}(he:SE X C e xe)(tgs:Su X.K d_ ts tg')(hg:PG X tgt tg')
  (hs:swapsWithSole [tgt] e pos.line X.env=pure d_)(hw:swappedStores [tgt] e X.env=pure b_)(h1:(assignEach [tgt] X.env).map (·.2)=[assign tgt X.env]):SS X C EE (.Assign [tgt] e pos) (.vo ts xe):=
 PS.imp (Bm he hg hs hw h1) λD σ H z3=>by
  obtain⟨Fz,H₀,F,ρ,out,h,R,k⟩:=z3;obtain⟨⟨d,fr,ρ'⟩,h1,h⟩:=bV h
  cases d with
  |tup ds=>
    have h:(if ds.length=ts.length then a_ (Out.nx (nW ts ds ρ'))else b_)=a_ out:=h;split at h
    ·rename_i hz;cases h;refine xE R h1 λv Fm F' H' sm Rm st r f=>?_;refine tgs Fz H₀ F' H' σ ρ' (.tup ds) v (nW ts ds ρ') _ (Rm.moved st) r ?_ λσ1 R1=>k F' H' σ1 (sm.trans st.ff) R1;simp only[eF];rw[if_pos hz]
    ·cases h
  |_=>cases h
end
theorem cD.take{K:Fg}{H:Hp}:∀(n:Nat){ds:List Dat}{vs:List V}{S:List af},cD K H ds vs S->∃S1 S2,cD K H (ds.take n) (vs.take n) S1/\cD K H (ds.drop n) (vs.drop n) S2/\S=S1++S2
 |0,ds,vs,S,h=>⟨[],S,⟨rfl,rfl⟩,h,rfl⟩
 |n+1,[],vs,S,h=>by
   obtain⟨rfl,rfl⟩:=h;exact⟨[],[],⟨rfl,rfl⟩,⟨rfl,rfl⟩,rfl⟩
 |n+1,d::ds,vs,S,z4=>by
   obtain⟨v,r,S1,S2,e,h1,h2,q⟩:=z4;subst e q;obtain⟨T1,T2,g1,g2,g3⟩:=cD.take n h2;exact⟨S1++T1,T2,⟨v,r.take n,S1,T1,rfl,h1,g1,rfl⟩,g2,by rw[g3,lK]⟩
theorem cD.setAt{K:Fg}{H:Hp}{d':Dat}{v':V}{T:List af}(h':kY K H d' v' T):∀(n:Nat){ds:List Dat}{vs:List V}{S:List af},n<ds.length->cD K H ds vs S->∃S1 S2 S3,cD K H (ds.set n d') (vs.set n v') (S1++T++S3)/\S=S1++S2++S3
 |n,[],vs,S,hn,h=>absurd hn (by simp)
 |0,d::ds,vs,S,_,z5=>by
   obtain⟨v,r,S1,S2,e,h1,h2,q⟩:=z5;subst e q;exact⟨[],S1,S2,⟨v',r,T,S2,rfl,h',h2,by simp⟩,by simp⟩
 |n+1,d::ds,vs,S,hn,z5=>by
   obtain⟨v,r,S1,S2,e,h1,h2,q⟩:=z5;subst e q;obtain⟨T1,T2,T3,g1,g2⟩:=cD.setAt h' n (by simpa using hn) h2;refine⟨S1++T1,T2,T3,⟨v,r.set n v',S1,T1++T++T3,rfl,h1,g1,by simp⟩,by rw[g2];simp⟩
section
variable{K:Fg}{Fz H₀ F H F' H':Hp}{σ:St}{ρ:bQ}
def Rl.mut{i:Nat}{d d':Dat}{v:V}{S':List af}{l:af}{o':HO}{Ss:Nat->List af}(R:Rl K Fz H₀ F H σ ρ)(O:Ow K H₀ F H σ ρ Ss)(hi:ρ[i]?=a_ (a_ (d,c_)))(hσ:σ[i]?=a_ (a_ v))
  (hl:l∈Ss i)(mu:JJ o')(o:kY K (upd H l o') d' v S')(nd:S'.Nodup)(hS:∀a∈S',a∈Ss i\/(F a=b_/\H₀ a=b_/\∀(j:Nat)d2,ρ[j]?=a_ (a_ (d2,c_))->a∉Ss j)) :
  Rl K Fz H₀ F (upd H l o') σ (ρ.set i (a_ (d',c_))):=by
 obtain⟨w,e1,e2,e3,e4⟩:=O.own i d hi;have hF:F l=b_:=(e4 l hl).1;have h0:H₀ l=b_:=(e4 l hl).2;obtain⟨ol,hol,mul⟩:=e2.yk _ l hl;have nt:∀vs,H l≠a_ (.tup vs):=λvs z=>by rw[hol]at z;cases z;exact mul
 refine⟨⟨⟨λa u q=>?_,λa us q=>?_⟩,R.step.ff,λa u q=>?_,R.step.un⟩,by simpa using R.len,λj d2 q=>?_,λj=>if j=i then S' else Ss j,λj d2 q=>?_,λj k d1 d2 hjk q1 q2=>?_⟩
 ·rw[bB (cG q hF)];exact R.step.good.sub a u q
 ·by_cases ha:a=l
  ·subst ha;rw[bu]at q;cases q;exact mu.elim
  ·rw[bB ha]at q;exact R.step.good.tup a us q
 ·rw[bB (cG q h0)];exact R.step.hh a u q
 ·rcases eX q with⟨rfl,e⟩|⟨hne,q'⟩
  ·cases e
  ·exact R.val j d2 q'
 ·rcases eX q with⟨rfl,e⟩|⟨hne,q'⟩
  ·cases e;rw[if_pos rfl];refine⟨v,hσ,o,nd,λa m=>?_⟩
   rcases hS a m with m|m
   ·exact e4 a m
   ·exact⟨m.1,m.2.1⟩
  ·rw[if_neg (eW hne)];obtain⟨w,g1,g2,g3,g4⟩:=O.own j d2 q';exact⟨w,g1,g2.upd nt d2 (O.sep i j d d2 hne hi q' l hl),g3,g4⟩
 ·intro a m
  rcases eX q1 with⟨rfl,e⟩|⟨h1,q1'⟩
  ·rw[if_pos rfl]at m
   rcases eX q2 with⟨e2,_⟩|⟨h2,q2'⟩
   ·exact absurd e2 hjk
   ·rw[if_neg (eW h2)]
    rcases hS a m with m|m
    ·exact O.sep _ k d d2 h2 hi q2' a m
    ·exact m.2.2 k d2 q2'
  ·rw[if_neg (eW h1)]at m
   rcases eX q2 with⟨rfl,e⟩|⟨h2,q2'⟩
   ·rw[if_pos rfl];intro m2
    rcases hS a m2 with m2|m2
    ·exact O.sep _ j d d1 h1 hi q1' a m2 m
    ·exact m2.2.2 j d1 q1' m
   ·rw[if_neg (eW h2)];exact O.sep j k d1 d2 hjk q1' q2' a m
def Step.Td{S:List af}{ds:List Dat}{vs:List V}(st:Step F H F' H')(g:Good F H)(hS:∀a∈S,H a=b_)(o:cD K H' ds vs S):Step F H (uz F' S) H':=by
 refine⟨⟨λa o' q=>?_,λa vs q=>?_⟩,λa o' q=>?_,st.hh,λa o' q n=>?_⟩
 ·by_cases m:a∈S
  ·rw[vm m]at q;cases q
  ·rw[ng m]at q;exact st.good.sub a o' q
 ·rw[ng λm=>?_]
  ·exact st.good.tup a vs q
  ·obtain⟨u,hu,mu⟩:=o.yk _ a m;rw[q]at hu;cases hu;exact mu
 ·rw[ng λm=>?_]
  ·exact st.ff a o' q
  ·rw[g.sub.free (hS a m)]at q;cases q
 ·by_cases m:a∈S
  ·exact vm m
  ·rw[ng m];exact st.un a o' q n
def xG{C:Fs}{es:List Ex}{ds:List Dat}(R:Rl K Fz H₀ F H σ ρ)(h:lD C es (M.full ρ)=a_ (ds,c_)){Q:List V->Hp->Prop}
  (k:∀vs F' H' S,Step F H F' H'->cD K H' ds vs S->S.Nodup->(∀a∈S,H a=b_/\F' a=b_)->Q vs H'):gF K C es σ H Q:=by
 obtain⟨Fp,sp,Rp⟩:=R.jv;refine⟨_,ds,c_,h,Fp,Rp.step.good,Rp.full,λvs F1 H1 st r f=>?_⟩;obtain⟨S,n,e1,o⟩:=f rfl;have stS:=Step.shrink R.step.good sp st;exact k vs _ H1 S (Step.Td stS R.step.good e1 o) o n λa m=>⟨e1 a m,vm m⟩
end
noncomputable def Rh:V->Option Key
 |.int i=>a_ (.inl i)
 |.str x=>a_ (.inr x)
 |_=>b_
def Rg{v:V}{k:Key}(h:Rh v=a_ k):v=kV k:=by
 cases v<;>first|(cases h;rfl)|cases h
def Ms(k:Key):Rh (kV k)=a_ k:=by cases k<;>rfl
noncomputable def qA(k:Key)(y:V):List (Key×V)->List (Key×V)
 |[]=>[(k,y)]
 |p::r=>if p.1=k then(p.1,y)::r else p::qA k y r
theorem CF{k:Key}{y:V}:∀(r:List (Key×V)),(r.any λkv=>decide (kv.1=k))=d_->r.map (λkv=>if kv.1=k then(kv.1,y)else kv)=r
 |[],_=>rfl
 |p::r,h=>by
   rw[et,Bool.or_eq_false_iff]at h;rw[aw,if_neg (of_decide_eq_false h.1),CF r h.2]
theorem CN{k:Key}{y:V}:∀(k_:List (Key×V)),HJ k (k_.map (·.1))=c_->putK k_ k y=qA k y k_
 |[],_=>rfl
 |p::r,h=>by
   simp only[aw,HJ]at h;by_cases e:p.1=k
   ·rw[if_pos e]at h
    have h2:(r.any λkv=>decide (kv.1=k))=d_:=by
     simp only[fG]at h;rw[List.any_map]at h;exact h
    unfold putK qA;rw[if_pos e,if_pos (by rw[et,decide_eq_true e];rfl),aw,if_pos e,CF r h2]
   ·rw[if_neg e]at h;have ih:=CN (y:=y) r h;unfold qA;rw[if_neg e,<-ih];unfold putK;rw[et,decide_eq_false e,pK];split
    ·rw[aw,if_neg e]
    ·rfl
theorem vx{k:Key}{y:V}{d:Dat}:∀(k_:List (Key×V))(ds:List Dat),ds.length=k_.length->(qA k y k_).map (·.1)=(putD k d (k_.map (·.1)) ds).1
 |[],ds,h=>by
   cases ds with
   |nil=>rfl
   |cons _ _=>cases h
 |p::r,[],h=>by cases h
 |p::r,e::ds,h=>by
   have ih:=vx (k:=k) (y:=y) (d:=d) r ds (by simpa using h);simp only[qA,aw,putD];by_cases q:p.1=k
   ·rw[if_pos q,if_pos q];rfl
   ·rw[if_neg q,if_neg q,aw,ih]
theorem cD.put{K:Fg}{H:Hp}{k:Key}{d:Dat}{y:V}{T:List af}(o:kY K H d y T)(nT:T.Nodup):∀(k_:List (Key×V)) (ds:List Dat) (S:List af),cD K H ds (k_.map (·.2)) S->S.Nodup->(∀a∈S,a∉T)->
  ∃S',cD K H (putD k d (k_.map (·.1)) ds).2 ((qA k y k_).map (·.2)) S'/\S'.Nodup/\∀a∈S',a∈S\/a∈T
 |[],[],S,os,nS,dj=>⟨T,.one o,nT,λa m=>.inr m⟩
 |[],e::ds,S,os,nS,dj=>by
   obtain⟨v,r,S1,S2,q,_⟩:=os;cases q
 |p::r,[],S,os,nS,dj=>by
   obtain⟨q,_⟩:=os;cases q
 |p::r,e::ds,S,os,nS,dj=>by
   obtain⟨v,r',S1,S2,q,o1,o2,rfl⟩:=os;cases q;have n1:=dq.mp nS;simp only[qA,aw,putD];by_cases q:p.1=k
   ·rw[if_pos q,if_pos q];refine⟨T++S2,⟨y,r.map (·.2),T,S2,rfl,o,o2,rfl⟩,dq.mpr ⟨nT,n1.2.1,λa m b m2 z=>dj b (ax _ m2) (z▸m)⟩,λa m=>?_⟩
    rcases aK.mp m with m|m
    ·exact .inr m
    ·exact .inl (ax _ m)
   ·rw[if_neg q,if_neg q];obtain⟨S',g1,g2,g3⟩:=cD.put (k:=k) o nT r ds S2 o2 n1.2.1 λa m=>dj a (ax _ m);refine⟨S1++S',⟨p.2,(qA k y r).map (·.2),S1,S',rfl,o1,g1,rfl⟩,dq.mpr ⟨n1.1,g2,λa m b m2 z=>?_⟩,λa m=>?_⟩
    ·subst z
     rcases g3 a m2 with z|z
     ·exact n1.2.2 a m a z rfl
     ·exact dj a (aL _ m) z
    ·rcases aK.mp m with m|m
     ·exact .inl (aL _ m)
     ·rcases g3 a m with z|z
      ·exact .inl (ax _ z)
      ·exact .inr z
noncomputable def wZ:HO->List V->Option HO
 |.lst xs,[y]=>if xs.length<aD then a_ (.lst (xs++[y]))else b_
 |_,_=>b_
noncomputable def wX:HO->List V->Option HO
 | .lst xs,l=>match l with
   |[.int i,y]=>if xs.length<aD/\-1000000<=i/\i<=1000000 then a_ (.lst (insI y i xs))else b_
   |_=>b_
 |_,_=>b_
noncomputable def wY:HO->List V->Option HO
 |.lst _,[]=>a_ (.lst [])
 |_,_=>b_
noncomputable def wW:HO->List V->Option HO
 | .lst xs,l=>match l with
   |[y,.int i]=>if -1000000<=i/\i<=1000000 then(GQ y i xs).map .lst else b_
   |_=>b_
 | .dK k_,l=>match l with
   |[y,v]=>(Rh v).bind λk=>if k_.length<aD then a_ (.dK (putK k_ k y))else b_
   |_=>b_
 |_,_=>b_
noncomputable def Br:uq->HO->List V->Option HO
 |.app,a,l=>wZ a l
 |.ins,a,l=>wX a l
 |.clr,a,l=>wY a l
 |.seti,a,l=>wW a l
 |_,_,_=>b_
def jt{S T:List af}(nd:(S++T).Nodup):S.Nodup/\T.Nodup/\∀a∈S,a∉T:=by
 obtain⟨h1,h2,h3⟩:=dq.mp nd;exact⟨h1,h2,λa m n=>h3 a m a n rfl⟩
def jM{S T:List af}(h1:S.Nodup)(h2:T.Nodup)(h3:∀a∈S,a∉T):(S++T).Nodup:=dq.mpr ⟨h1,h2,λa m b n z=>h3 a m (z▸n)⟩
def wc(K:Fg)(H:Hp)(op:uq)(d':Dat)(v:V)(vs:List V)(S T:List af):Prop:=
 ∃l ob ob' S',v=.ref l/\l∈S/\H l=a_ ob/\Br op ob vs=a_ ob'/\JJ ob'/\kY K (upd H l ob') d' v S'/\S'.Nodup/\∀a∈S',a∈S\/a∈T
section
variable{K:Fg}{H:Hp}{es:List Dat}{l:af}{xs:List V}{S' T:List af}
def Me{d1:Dat}{y:V}(hl:H l=a_ (.lst xs))(os:cD K H es xs S')(nd:(l::S').Nodup)(a1:kY K H d1 y T)(nt:T.Nodup)(dj:∀a∈l::S',a∉T)(hz:es.length<aD):wc K H .app (.lst (es++[d1])) (.ref l) [y] (l::S') T:=by
 have hn:=bM.mp nd;have nt':∀vs,H l≠a_ (.tup vs):=λvs z=>by rw[hl]at z;cases z
 have hlT:l∉T:=dj l jB;have elen:=os.length;refine⟨l,_,.lst (xs++[y]),l::(S'++T),rfl,jB,hl,by simp only[Br,wZ,wX,wY,wW];rw[if_pos (by rw[elen];exact hz)],trivial,⟨l,xs++[y],S'++T,rfl,bu,(os.upd nt' _ hn.1).append (.one (a1.upd nt' _ hlT)),rfl⟩,?_,λb m=>?_⟩
 ·refine bM.mpr ⟨λm=>?_,jM hn.2 nt λb m=>dj b (jN _ m)⟩
  rcases aK.mp m with m|m
  ·exact hn.1 m
  ·exact hlT m
 ·rcases ah.mp m with rfl|m
  ·exact .inl jB
  ·rcases aK.mp m with m|m
   ·exact .inl (jN _ m)
   ·exact .inr m
def Mb{d1:Dat}{y:V}{i:Int}(hl:H l=a_ (.lst xs))(os:cD K H es xs S')(nd:(l::S').Nodup)(a1:kY K H d1 y T)(nt:T.Nodup)(dj:∀a∈l::S',a∉T)(hz:es.length<aD/\-1000000<=i/\i<=1000000):wc K H .ins (.lst (insI d1 i es)) (.ref l) [.int i,y] (l::S') T:=by
 have hn:=bM.mp nd;have nt':∀vs,H l≠a_ (.tup vs):=λvs z=>by rw[hl]at z;cases z
 have hlT:l∉T:=dj l jB;have elen:=os.length;obtain⟨S1,S2,g1,g2,g3⟩:=os.take (HT.fV es.length 0 (a_ i));subst g3;have eix:HT.fV xs.length 0 (a_ i)=HT.fV es.length 0 (a_ i):=by rw[elen]
 have nd2:=jt hn.2;refine⟨l,_,.lst (insI y i xs),l::(S1++(T++S2)),rfl,jB,hl,by simp only[Br,wZ,wX,wY,wW];rw[if_pos (by rw[elen];exact hz)],trivial,⟨l,insI y i xs,S1++(T++S2),rfl,bu,?_,rfl⟩,?_,λb m=>?_⟩
 ·have p2:=g2.upd (o:=.lst (insI y i xs)) nt' _ (λm=>hn.1 (ax _ m));have pa:=(cD.one (a1.upd (o:=.lst (insI y i xs)) nt' _ hlT)).append p2;have p1:=(g1.upd (o:=.lst (insI y i xs)) nt' _ (λm=>hn.1 (aL _ m))).append pa;have e1:insI d1 i es=es.take (HT.fV es.length 0 (a_ i))++([d1]++es.drop (HT.fV es.length 0 (a_ i))):=rfl;have e2:insI y i xs=xs.take (HT.fV es.length 0 (a_ i))++([y]++xs.drop (HT.fV es.length 0 (a_ i))):=by unfold insI;rw[eix];rfl
  rw[e1];generalize hH:L2.upd H l (.lst (insI y i xs))=H2 at p1 ⊢;rw[e2];exact p1
 ·refine bM.mpr ⟨λm=>?_,jM nd2.1 (jM nt nd2.2.1 λb m m2=>dj b (jN _ (ax _ m2)) m) λb m m2=>?_⟩
  ·rcases aK.mp m with m|m
   ·exact hn.1 (aL _ m)
   ·rcases aK.mp m with m|m
    ·exact hlT m
    ·exact hn.1 (ax _ m)
  ·rcases aK.mp m2 with m2|m2
   ·exact dj b (jN _ (aL _ m)) m2
   ·exact nd2.2.2 b m m2
 ·rcases ah.mp m with rfl|m
  ·exact .inl jB
  ·rcases aK.mp m with m|m
   ·exact .inl (jN _ (aL _ m))
   ·rcases aK.mp m with m|m
    ·exact .inr m
    ·exact .inl (jN _ (ax _ m))
def Md(hl:H l=a_ (.lst xs)):wc K H .clr (.lst []) (.ref l) [] (l::S') []:=
 ⟨l,_,.lst [],[l],rfl,jB,hl,rfl,trivial,⟨l,[],[],rfl,bu,⟨rfl,rfl⟩,rfl⟩,by simp,λb m=>by
  rcases ah.mp m with rfl|m
  ·exact .inl jB
  ·cases m⟩
def Rn{i:Int}{n k:Nat}(h:JX n i=a_ k):k<n:=(xt h).2.1
def Ma{d1:Dat}{y:V}{i:Int}{k:Nat}(hl:H l=a_ (.lst xs))(os:cD K H es xs S')(nd:(l::S').Nodup)(a1:kY K H d1 y T)(nt:T.Nodup)(dj:∀a∈l::S',a∉T)(hz:-1000000<=i/\i<=1000000)(h2:JX es.length i=a_ k):wc K H .seti (.lst (es.set k d1)) (.ref l) [y,.int i] (l::S') T:=by
 have hn:=bM.mp nd;have nt':∀vs,H l≠a_ (.tup vs):=λvs z=>by rw[hl]at z;cases z
 have hlT:l∉T:=dj l jB;have elen:=os.length;obtain⟨S1,S2,S3,g1,g2⟩:=os.setAt a1 k (Rn h2);subst g2;have n1:=jt hn.2;have n2:=jt n1.1
 have hlN:l∉S1++T++S3:=λm=>by
  rcases aK.mp m with m|m
  ·rcases aK.mp m with m|m
   ·exact hn.1 (aL _ (aL _ m))
   ·exact hlT m
  ·exact hn.1 (ax _ m)
 refine⟨l,_,.lst (xs.set k y),l::(S1++T++S3),rfl,jB,hl,?_,trivial,⟨l,xs.set k y,S1++T++S3,rfl,bu,g1.upd nt' _ hlN,rfl⟩,?_,λb m=>?_⟩
 ·simp only[Br,wZ,wX,wY,wW];rw[if_pos hz];unfold GQ;rw[elen,h2];rfl
 ·refine bM.mpr ⟨hlN,jM (jM n2.1 nt λb m=>dj b (jN _ (aL _ (aL _ m)))) n1.2.1 λb m m2=>?_⟩
  rcases aK.mp m with m|m
  ·exact n1.2.2 b (aL _ m) m2
  ·exact dj b (jN _ (ax _ m2)) m
 ·rcases ah.mp m with rfl|m
  ·exact .inl jB
  ·rcases aK.mp m with m|m
   ·rcases aK.mp m with m|m
    ·exact .inl (jN _ (aL _ (aL _ m)))
    ·exact .inr m
   ·exact .inl (jN _ (ax _ m))
end
def HV{K:Fg}{H:Hp}{l:af}{S' T:List af}{ds:List Dat}{k_:List (Key×V)}{d1:Dat}{y:V}{k:Key}(hl:H l=a_ (.dK k_))(os:cD K H ds (k_.map (·.2)) S')(nd:(l::S').Nodup)(a1:kY K H d1 y T)(nt:T.Nodup)(dj:∀a∈l::S',a∉T)(hz:(k_.map (·.1)).length<aD/\HJ k (k_.map (·.1))=c_) :
  wc K H .seti (.dct (putD k d1 (k_.map (·.1)) ds).1 (putD k d1 (k_.map (·.1)) ds).2) (.ref l) [y,kV k] (l::S') T:=by
 have hn:=bM.mp nd;have nt':∀vs,H l≠a_ (.tup vs):=λvs z=>by rw[hl]at z;cases z
 have hlT:l∉T:=dj l jB;have elen:ds.length=k_.length:=by have:=os.length;simpa using this.symm
 obtain⟨S2,g1,g2,g3⟩:=cD.put (k:=k) a1 nt k_ ds S' os hn.2 λa m=>dj a (jN _ m)
 have hlS:l∉S2:=λm=>by
  rcases g3 l m with z|z
  ·exact hn.1 z
  ·exact hlT z
 refine⟨l,_,.dK (qA k y k_),l::S2,rfl,jB,hl,?_,trivial,⟨l,qA k y k_,S2,rfl,bu,vx k_ ds elen,g1.upd nt' _ hlS,rfl⟩,bM.mpr ⟨hlS,g2⟩,λb m=>?_⟩
 ·simp only[Br,wZ,wX,wY,wW,Ms,ao];rw[if_pos (by simpa using hz.1),CN k_ hz.2]
 ·rcases ah.mp m with rfl|m
  ·exact .inl jB
  ·rcases g3 b m with z|z
   ·exact .inl (jN _ z)
   ·exact .inr z
set_option tactic.hygienic true in
def C8{K:Fg}{H:Hp}{op:uq}{d d':Dat}{ds:List Dat}{v:V}{vs:List V}{S T:List af}(h1:op≠.ext)(h2:op≠.dput)(h:ju op d ds=a_ d')(o:kY K H d v S)(nd:S.Nodup)(a:cD K H ds vs T)(nt:T.Nodup)(dj:∀a∈S,a∉T):wc K H op d' v vs S T:=by
 have hd:(∃es,d=.lst es)\/(op=.seti/\∃ks ws,d=.dct ks ws):=by
  cases d with
  |lst es=>exact .inl ⟨es,rfl⟩
  |dct ks ws=>cases op<;>first|exact absurd rfl h1|exact absurd rfl h2|exact .inr ⟨rfl,ks,ws,rfl⟩|cases h
  |dcn _=>cases op<;>first|exact absurd rfl h1|exact absurd rfl h2|cases h
  |exc _ _ _=>cases op<;>first|exact absurd rfl h1|exact absurd rfl h2|cases h
  |_=>cases op<;>cases h
 rcases hd with hd|⟨rfl,ks,ws,rfl⟩
 rotate_left
 ·obtain⟨l,k_,S',rfl,hl,rfl,os,rfl⟩:=o
  cases ds with
  |nil=>cases h
  |cons d1 ds=>
    cases ds with
    |nil=>cases h
    |cons d0 ds=>
      cases ds with
      |cons _ _=>cases h
      |nil=>
        simp only[ju,uO,uM,uL,uN,uJ,uK]at h;obtain⟨k,hk,h⟩:=bV h;split at h
        ·rename_i hz;cases h;obtain⟨y,r,T1,T2,e,a1,a3,q⟩:=a;obtain⟨y0,r0,T0,T0',e0,a0,a2,q0⟩:=a3;obtain⟨rfl,rfl⟩:=a2
         have hy:y0=kV k/\T0=[]:=by
          cases d0 with
          |int i=>cases hk;exact a0
          |str x=>cases hk;exact a0
          |_=>cases hk
         obtain⟨rfl,rfl⟩:=hy;rw[bN]at q0;subst e e0 q0;rw[bN]at q;subst q;exact HV hl os nd a1 nt dj hz
        ·cases h
 obtain⟨es,rfl⟩:=hd;obtain⟨l,xs,S',rfl,hl,os,rfl⟩:=o
 cases op with
 |ext=>exact absurd rfl h1
 |dput=>exact absurd rfl h2
 |app=>
   cases ds with
   |nil=>cases h
   |cons d1 ds=>
     cases ds with
     |cons _ _=>cases h
     |nil=>
       obtain⟨y,r,T1,T2,e,a1,a2,q⟩:=a;obtain⟨rfl,rfl⟩:=a2;rw[bN]at q;subst e q;simp only[ju,uO,uM,uL,uN,uJ,uK]at h;split at h
       ·rename_i hz;cases h;exact Me hl os nd a1 nt dj hz
       ·cases h
 |ins=>
   cases ds with
   |nil=>cases h
   |cons d0 ds=>
     cases ds with
     |nil=>cases d0<;>cases h
     |cons d1 ds=>
       cases ds with
       |cons _ _=>cases d0<;>cases h
       |nil=>
         cases d0 with
         |int i=>
           obtain⟨y0,r0,T0,T0',e0,a0,a3,q0⟩:=a;obtain⟨y,r,T1,T2,e,a1,a2,q⟩:=a3;obtain⟨rfl,rfl⟩:=a2;obtain⟨rfl,rfl⟩:=a0;rw[bN]at q;subst e e0 q;rw[ck]at q0;subst q0;simp only[ju,uO,uM,uL,uN,uJ,uK]at h;split at h
           ·rename_i hz;cases h;exact Mb hl os nd a1 nt dj hz
           ·cases h
         |_=>cases h
 |clr=>
   cases ds with
   |cons _ _=>cases h
   |nil=>
     obtain⟨rfl,rfl⟩:=a;cases h;exact Md hl
 |seti=>
   cases ds with
   |nil=>cases h
   |cons d1 ds=>
     cases ds with
     |nil=>cases h
     |cons d0 ds=>
       cases ds with
       |cons _ _=>cases d0<;>cases h
       |nil=>
         cases d0 with
         |int i=>
           obtain⟨y,r,T1,T2,e,a1,a3,q⟩:=a;obtain⟨y0,r0,T0,T0',e0,a0,a2,q0⟩:=a3;obtain⟨rfl,rfl⟩:=a2;obtain⟨rfl,rfl⟩:=a0;rw[bN]at q0;subst e e0 q0;rw[bN]at q;subst q;simp only[ju,uO,uM,uL,uN,uJ,uK]at h;split at h
           ·rename_i hz;obtain⟨es',g1,h⟩:=dJ h;cases h;unfold GQ at g1;obtain⟨k,g2,g1⟩:=dJ g1;subst g1;exact Ma hl os nd a1 nt dj hz g2
           ·cases h
         |_=>cases h
section
variable{X:Cx}{C:Fs}{K:Fg}
def II{xa xb:Ex}{σ:St}{H:Hp}{Q:List V->Hp->Prop}(h:gF K C [xa,xb] σ H Q):gE K C xa σ H λx H1=>gE K C xb σ H1 λy H2=>Q [x,y] H2:=by
 obtain⟨ρ,ds,al,h,F,g,R,k⟩:=h;simp only[lD]at h;obtain⟨⟨d,fr⟩,h1,h⟩:=bV h;obtain⟨⟨r,ar⟩,h2,h⟩:=dJ h;cases h;obtain⟨⟨d2,fr2⟩,h3,h4⟩:=bV h2;cases h4;refine⟨ρ,d,fr,h1,F,g,R,λv F1 H1 st1 r1 f1=>⟨ρ,d2,fr2,h3,F1,st1.good,R.mono st1.ff,λw F2 H2 st2 r2 f2=>k [v,w] F2 H2 (st1.trans st2) ⟨v,[w],rfl,r1.mono st2.ff,w,[],rfl,r2,rfl⟩ λz=>?_⟩⟩;simp only[bO,m4,aq]at z;refine eO.cons st1.hh st2.hh ?_ (eO.cons (H1:=H2) st2.hh (bS.refl _) ?_ .nil)
 ·rcases z.1 with z|z
  ·exact f1 z
  ·exact .jL st1.good z r1
 ·rcases z.2 with z|z
  ·exact f2 z
  ·exact .jL st2.good z r2
def sk{x:Ex}{σ:St}{H:Hp}{Q Q':VK}(h:gE K C x σ H Q)(f:∀v H1,bS H H1->Q v H1->Q' v H1):gE K C x σ H Q':=by
 obtain⟨ρ,d,fr,h,F,g,R,k⟩:=h;exact⟨ρ,d,fr,h,F,g,R,λv F' H' st r fr=>f v H' st.hh (k v F' H' st r fr)⟩
def zh{C:Fs}{op:uq}{i:Nat}{es:List Ex}{ρ:bQ}{out:Out}(h:fH C (.mut op i es) ρ=a_ out) :
  ∃ds d d',lD C es (full ρ)=a_ (ds,c_)/\ρ[i]?=a_ (a_ (d,c_))/\ju op d ds=a_ d'/\out=.nx (ρ.set i (a_ (d',c_))):=by
 obtain⟨⟨ds,al⟩,h3,h⟩:=bV h;have h:(if al=c_ then Mf op i ρ ds (ρ[i]?).join else b_)=a_ out:=h;by_cases hal:al=c_
 ·rw[if_pos hal]at h;subst hal
  cases q:ρ[i]? with
  |none=>rw[q]at h;cases h
  |some z=>
    rw[q]at h
    match z,h with
    |some (d,c_),h=>
      obtain⟨d',h4,h5⟩:=dJ h;exact⟨ds,d,d',h3,rfl,h4,h5.symm⟩
 ·rw[if_neg hal]at h;cases h
def zg{op:uq}{i:Nat}{es:List Ex}(h1:op≠.ext)(h2:op≠.dput){D:Ends}{σ:St}{H:Hp}(h:gS K C EE (.mut op i es) D σ H) :
  ∃l ob0,σ[i]?=a_ (a_ (.ref l))/\H l=a_ ob0/\(op≠.seti->∃xs,ob0=.lst xs)/\gF K C es σ H λvs H1=>∃ob ob',H1 l=a_ ob/\Br op ob vs=a_ ob'/\D.nx σ (upd H1 l ob'):=by
 obtain⟨Fz,H₀,F,ρ,out,h,R,k⟩:=h;obtain⟨ds,d,d',h3,hi,h4,rfl⟩:=zh h;obtain⟨Ss,O⟩:=R.ow;obtain⟨v,e1,e2,e3,e4⟩:=O.own i d hi
 have hdl:∃l ob0,v=.ref l/\H l=a_ ob0/\(op≠.seti->∃xs,ob0=.lst xs):=by
  cases d with
  |lst es=>
    obtain⟨l,xs,S',rfl,hl,os,eS⟩:=id e2;exact⟨l,_,rfl,hl,λ_=>⟨xs,rfl⟩⟩
  |dct ks ws=>
    obtain⟨l,k_,S',rfl,hl,_⟩:=id e2;refine⟨l,_,rfl,hl,λhne=>?_⟩
    cases op<;>first|exact absurd rfl h1|exact absurd rfl h2|exact absurd rfl hne|cases h4
  |dcn _=>cases op<;>first|exact absurd rfl h1|exact absurd rfl h2|cases h4
  |exc _ _ _=>cases op<;>first|exact absurd rfl h1|exact absurd rfl h2|cases h4
  |_=>cases op<;>cases h4
 obtain⟨l,ob0,rfl,hl,hlo⟩:=hdl;refine⟨l,ob0,e1,hl,hlo,xG R h3 λvs F' H' T st ow nT hT=>?_⟩;have O':=O.moved st;have R':=R.moved st
 have dj:∀a∈Ss i,a∉T:=λa m m2=>by
  obtain⟨u,hu,_⟩:=e2.yk _ a m;rw[(hT a m2).1]at hu;cases hu
 obtain⟨l2,ob,ob',S2,ev,hl2,hob,hop,mu,o2,nd2,hS2⟩:=C8 h1 h2 h4 (e2.mono st.hh) e3 ow nT dj;cases ev;refine⟨ob,ob',hob,hop,k F' _ σ st.ff (R'.mut O' hi e1 hl2 mu o2 nd2 λa m=>?_)⟩
 rcases hS2 a m with m|m
 ·exact .inl m
 ·refine .inr ⟨(hT a m).2,R.step.hh.free (hT a m).1,λj d2 q m2=>?_⟩;obtain⟨w,_,g2,_⟩:=O.own j d2 q;obtain⟨u,hu,_⟩:=g2.yk _ a m2;rw[(hT a m).1]at hu;cases hu
def Ct{op:uq}{i:Nat}{es:List Ex}{st:fw}{r:V->List V->Hp->VK->Prop}(h1:op≠.ext)(h2:op≠.dput)(h3:op≠.seti)(hr:∀l ob ob' vs H Q,H l=a_ ob->Br op ob vs=a_ ob'->(∀u,Q u (upd H l ob'))->r (.ref l) vs H Q)
  (hm:PS X st (Cj (Ts X.K "list" r (AX i) (gF X.K C es)))):SS X C EE st (.mut op i es):=PS.imp hm λD σ H h=>by
 obtain⟨l,ob0,e1,hl,hlo,g⟩:=zg h1 h2 h;obtain⟨xs,rfl⟩:=hlo h3;refine⟨.ref l,e1,.inl ⟨rfl,xs,mB.of hl⟩,?_⟩;obtain⟨ρ,ds,al,h,F,gg,R,k⟩:=g;exact⟨ρ,ds,al,h,F,gg,R,λvs F' H' st r f=>let ⟨ob,ob',q1,q2,q3⟩:=k vs F' H' st r f;hr l ob ob' vs H' _ q1 q2 λ_=>q3⟩
def Oj:V->V->V->Hp->(Hp->Prop)->Prop:=λo i v H Q=>∃p k_ k,o=.ref p/\i=kV k/\H p=a_ (.dK k_)/\k_.length<aD/\Q (upd H p (.dK (putK k_ k v)))
def KZ(hu:X.A.units+1<di):NU X (λo i v H Q=>Hb o i v H Q\/Oj o i v H Q):=λh_ s σ H o i v ov iv u Q I ro ri rv h=>by
 rcases h with h|⟨p,k_,k,rfl,rfl,hp,hz,q⟩
 ·exact set_list h_ s σ H o i v ov iv u Q I ro ri rv h
 ·cases ro;exact ES hu I (NW.k hp hz) ri rv λs' I'=>⟨_,I',q⟩
set_option tactic.hygienic true in
def KC{i:Nat}{xe xi:Ex}{st:fw}(hm:PS X st (AZ (gE X.K C xe) (RB (AX i) (gE X.K C xi) (λo i v H Q=>Hb o i v H Q\/Oj o i v H Q)))):SS X C EE st (.mut .seti i [xe,xi]):=PS.imp hm λD σ H h=>by
 obtain⟨l,ob0,e1,hl,_,g⟩:=zg (op:=.seti) (by simp) (by simp) h;have g2:=II g;refine sk g2 λx H1 s1 g3=>⟨.ref l,e1,sk g3 λy H2 s2 g4=>?_⟩
 obtain⟨ob,ob',q1,q2,q3⟩:=g4
 cases ob with
 |lst ys=>
   cases y with
   |int k=>
     simp only[Br,wZ,wX,wY,wW]at q2;split at q2
     ·obtain⟨zs,q4,q5⟩:=dJ q2;cases q5;unfold GQ at q4;obtain⟨j,q6,q7⟩:=dJ q4;subst q7;exact .inl ⟨l,ys,k,j,rfl,rfl,q1,q6,q3⟩
     ·cases q2
   |_=>cases q2
 |dK k_=>
   simp only[Br,wZ,wX,wY,wW]at q2;obtain⟨k,hk,q2⟩:=bV q2;split at q2
   ·rename_i hz;cases q2;exact .inr ⟨l,k_,k,rfl,Rg hk,q1,hz,q3⟩
   ·cases q2
 |_=>cases q2
end
section
variable{X:Cx}{C:Fs}
def CI:V->List V->Hp->VK->Prop:=λx vs H Q=>∃l xs i y,x=.ref l/\vs=[.int i,y]/\H l=a_ (.lst xs)/\xs.length<aD/\-1000000<=i/\i<=1000000/\Q .non (upd H l (.lst (insI y i xs)))
def Eu:VI X "list.insert" CI:=by
 intro h_ s σ H x vs v us Q I rx rv h;obtain⟨l,xs,i,y,rfl,rfl,hH,hz,hi1,hi2,q⟩:=h;cases rx;obtain⟨ui,u,rfl,rui,ru⟩:=vals2 rv;obtain⟨ti,rfl⟩:=rui;obtain⟨z,its,n,r,hl,e⟩:=I.Mo hH
 have hfit:¬(!jQ i)=c_:=by
  have:jQ i=c_:=by
   unfold jQ;simp;omega
  rw[this];simp
 have ek:(if i<0 then(i+((its.toArray.size:Nat):Int)).toNat else min i.toNat its.toArray.size)=HT.fV xs.length 0 (a_ i):=by
  rw[aH,<-hl];rfl
 refine mh uA ⟨_,e,rfl⟩ F.entry_list_insert (F.args_list_insert_3 _ _ _) (AutoListH.list_insert_list_int_val_1 l its.toArray n i ti u hfit (by rw[aH];omega)) ⟨e,?_⟩;refine⟨.non,_,I.Mp (its':=insI u i its) hH e ?_ ?_ ?_,rfl,q⟩
 ·dsimp only;rw[ek];unfold insI;rw[<-hl];simp;exact Aw (by simp)
 ·unfold insI;rw[<-hl];exact(r.take _).append (.cons ru (r.drop _))
 ·unfold insI;have:=HT.GY xs.length 0 (fK _) (a_ i);simp;omega
set_option tactic.hygienic true
def Rx:∀l ob ob' vs H(Q:VK),H l=a_ ob->Br .app ob vs=a_ ob'->(∀u,Q u (upd H l ob'))->CJ (.ref l) vs H Q:=λl ob ob' vs H Q h1 h2 h3=>by
 cases ob with
 |lst xs=>
   cases vs with
   |nil=>cases h2
   |cons y vs=>
     cases vs with
     |cons _ _=>cases h2
     |nil=>
       simp only[Br,wZ,wX,wY,wW]at h2;split at h2
       ·rename_i hz;cases h2;exact⟨l,xs,y,rfl,rfl,h1,hz,h3 _⟩
       ·cases h2
 |_=>cases h2
def Rv:∀l ob ob' vs H(Q:VK),H l=a_ ob->Br .ins ob vs=a_ ob'->(∀u,Q u (upd H l ob'))->CI (.ref l) vs H Q:=λl ob ob' vs H Q h1 h2 h3=>by
 cases ob with
 |lst xs=>
   cases vs with
   |nil=>cases h2
   |cons y vs=>
     cases vs with
     |nil=>cases y<;>cases h2
     |cons z vs=>
       cases vs with
       |cons _ _=>cases y<;>cases h2
       |nil=>
         cases y with
         |int i=>
           simp only[Br,wZ,wX,wY,wW]at h2;split at h2
           ·rename_i hz;cases h2;exact⟨l,xs,i,z,rfl,rfl,h1,hz.1,hz.2.1,hz.2.2,h3 _⟩
           ·cases h2
         |_=>cases h2
 |_=>cases h2
set_option tactic.hygienic false
def Rw:∀l ob ob' vs H(Q:VK),H l=a_ ob->Br .clr ob vs=a_ ob'->(∀u,Q u (upd H l ob'))->Bi (.ref l) vs H Q:=λl ob ob' vs H Q h1 h2 h3=>by
 cases ob with
 |lst xs=>
   cases vs with
   |cons _ _=>cases h2
   |nil=>cases h2;exact⟨l,xs,rfl,rfl,h1,h3 _⟩
 |_=>cases h2
end
end M
namespace L2
open PySem PySem.Spec PyProof.Rows
section
variable{X:Cx}
def PS.kl{st:fw}{t:TS}(h:PS X.kl st t):PS X st t:=λh_ s σ H D I hw=>bJ (h h_ s σ H D (I.m7 _) hw) (λ_ _ q=>q.ik) λ_ _ z=>bF z
def PA.kl{es:List aF}{t:TA}(h:PA X.kl es t):PA X es t:=λpos h_ s σ H Q I hw=>bJ (h pos h_ s σ H Q (I.m7 _) hw) (λ_ _ ⟨vs,H',I',r,q⟩=>⟨vs,H',I'.ik,r,q⟩) λ_ _ z=>bF z
def PI.kl{tg iter:aF}{t:TI}(h:PI X.kl tg iter t):PI X tg iter t:=λh_ s σ H R I hw=>bJ (h h_ s σ H R (I.m7 _) hw) (λ_ _ q=>bJ q (λ_ _ ⟨it,fp,tn,J,H',e,I',T,t0,fo,r⟩=>⟨it,fp,tn,J,H',e,I'.ik,T,t0,fo,r⟩) λ_ _ z=>bF z) λ_ _ z=>bF z
def PG.kl{tg:aF}{t:TG}(h:PG X.kl tg t):PG X tg t:=λh_ s σ H v u Q I r hw=>bJ (h h_ s σ H v u Q (I.m7 _) r hw) (λ_ _ ⟨σ',H',I',q⟩=>⟨σ',H',I'.ik,q⟩) λ_ _ z=>bF z
end
end L2
namespace M
open PySem PySem.Spec PyProof.Rows L2
def Yf(K:Fg)(g:List Dat->g_):List V->Hp->XK->Prop:=λvs H E=>∃ds d fr,g ds=a_ (d,fr)/\∃F,Good F H/\cv K F ds vs/\∀c f e v F' H' dx,t6 d=a_ (.xc c f e)->vT e=a_ v->Step F H F' H'->H' dx=b_->E (.ref c) (a_ dx) (upd H' dx (.xd [(f,v)]))
noncomputable def GL(K:Fg)(n:Nat)(f g:List Dat->g_):Sp:=λvs H Q E=>vs.length=n/\(gL K f vs H Q\/Yf K g vs H E)
def IK{K:Fg}{F:Hp}{d:Dat}{v w:V}(h:vT d=a_ v)(r:Rep K F d w):w=v:=by
 cases d with
 |int i=>cases h;exact r
 |str x=>cases h;exact r
 |_=>cases h
section
variable{X:Cx}{C:Fs}{EE:XK}{st:fw}{e₀:aF}{xe:Ex}{pos np cpos:dZ}
def Ph{x f:aN}{c fI:af}{fd:cx}{k:Nat}(hw:DM X EE)(hcalm:X.calm=c_)(hg:Gl X x)(hm:X.mg x=a_ (.ref c))(q:sJ X.K c fI=c_)(hd:(x == ("__debug__":aN))=d_)(F:iX X.prog X.w X.K X.mg X.base DR k fI fd ["self",f] (sP c f))(hr:iJ (k+1) X.A)(hb:Binds X.K fd ["self",f] [])
  (ha:SA X.kl C [e₀] [xe])(he:aI [e₀] X.env=[(d_,eval e₀ X.env)]):SS X C EE (.Raise (a_ (.Call (.Name x np) [e₀] [] cpos)) b_ pos) (.yj c f xe):=
 PS.imp (Hi hw hcalm hg hm q hd F hr hb ha he) λD σ H z3=>by
  obtain⟨Fz,H₀,G,ρ,out,h,R,k⟩:=z3;obtain⟨⟨d,fr⟩,h1,h⟩:=bV h;obtain⟨v,h2,h⟩:=dJ h;cases h;obtain⟨Fp,sp,Rp⟩:=R.jv;refine⟨_,[d],by simp only[hZ];rw[h1];rfl,Fp,Rp.step.good,Rp.full,λvs F' H' st r=>?_⟩;obtain⟨w,r',rfl,q1,e⟩:=r;cases e;exact⟨w,rfl,λdx hdx=>by rw[IK h2 q1];exact k v F' H' dx h2 (Rp.step.trans st) hdx⟩
set_option tactic.hygienic true in
def sL{j n:Nat}{xs:List Ex}{D:Ends}{σ:St}{H Fz H₀ F:Hp}{ρ:bQ}{out:Out}{Q:VK}{mk:Dat×Bool->Out}(hn:xs.length=n)(h:(match bw C (.call j xs) (full ρ)with|some x=>a_ (mk x)|none=>(bw C (.call (j+pM) xs) (full ρ)).bind λx=>t6 x.1)=a_ out)(R:Rl X.K Fz H₀ F H σ ρ)(k:p9 X.K Fz H₀ F D EE out)
  (kq:∀d fr,out=mk (d,fr)->∀v Fp F' H',bS F Fp->Rl X.K Fz H₀ Fp H σ (o5 ρ)->Step Fp H F' H'->Rep X.K F' d v->(fr=c_->fJ X.K H H' d v)->Q v H') :
  GG (GL X.K n (C j) (C (j+pM))) [] EE (gA X.K C xs) σ H Q:=by
 obtain⟨Fp,sp,Rp⟩:=R.jv;have hcall:∀(g:Nat)(d:Dat)(fr:Bool),bw C (.call g xs) (full ρ)=a_ (d,fr)->∃ds,hZ C xs (full ρ)=a_ ds/\C g ds=a_ (d,fr):=λg d fr h=>bV h;split at h
 ·rename_i x h1;obtain⟨d,fr⟩:=x;cases h;obtain⟨ds,h2,h3⟩:=hcall j d fr h1;refine⟨_,ds,h2,Fp,Rp.step.good,Rp.full,λvs F1 H1 st1 r1=>?_⟩;show GL _ _ _ _ (vs++[]) H1 _ _;rw[bN];exact⟨by rw[r1.length,kK h2,hn],.inl ⟨ds,d,fr,h3,F1,st1.good,r1,λv F2 H2 st2 r2 f2=>kq d fr rfl v Fp F2 H2 sp Rp (st1.trans st2) r2 λz=>(f2 z).back (F:=Fp) st1.hh⟩⟩
 ·obtain⟨⟨d,fr⟩,h1,h⟩:=bV h;obtain⟨ds,h2,h3⟩:=hcall _ d fr h1;refine⟨_,ds,h2,Fp,Rp.step.good,Rp.full,λvs F1 H1 st1 r1=>?_⟩;show GL _ _ _ _ (vs++[]) H1 _ _;rw[bN];refine⟨by rw[r1.length,kK h2,hn],.inr ⟨ds,d,fr,h3,F1,st1.good,r1,λc f e v F2 H2 dx q1 q2 st2 hdx=>?_⟩⟩;have h:t6 d=a_ out:=h;rw[q1]at h;cases h;exact k v F2 H2 dx q2 (Rp.step.trans (st1.trans st2)) hdx
end
section
variable{X:Cx}{C:Fs}{EE:XK}{e:aF}{es:List aF}{xs:List Ex}{pos p cpos:dZ}{k:Nat}{f:af}{fd:cx}{ps:List aN}{x:aN}{j n:Nat}
def Pk(F:iX X.prog X.w X.K X.mg X.base (rM X.prog X.w) k f fd ps (GL X.K n (C j) (C (j+pM))))(hr:iJ k X.A)(hg:Gl X x)(hm:X.mg x=a_ (.ref f))(hk:cX X.K (.ref f)=c_)(hb:Binds X.K fd ps [])(hx:nM (rM X.prog X.w) X EE)
  (ha:SA X.kl C (e::es) xs)(hn:xs.length=n)(hdb:(x == ("__debug__":aN))=d_)(he:aI (e::es) X.env=(d_,eval e X.env)::aI es X.env)(hpl:(backTo cpos (aI es X.env)).any (·.1)=d_):SS X C EE (.Expr (.Call (.Name x p) (e::es) [] cpos) pos) (.MV j xs):=
 PS.imp (pT (wR F hr hg hm hk hb .nil hx (PA.kl ha) hdb he hpl) rfl) λD σ H ⟨Fz,H₀,G,ρ,out,h,R,k⟩=>
  sL (mk:=λ_=>.nx ρ) hn h R k λd fr e v Fp F' H' sp Rp st r fq=>by
   subst e;have stS:=Step.shrink R.step.good sp st;exact k _ H' σ stS.ff (R.moved stS)
def Pg(F:iX X.prog X.w X.K X.mg X.base (rM X.prog X.w) k f fd ps (GL X.K n (C j) (C (j+pM))))(hr:iJ k X.A)(hg:Gl X x)(hm:X.mg x=a_ (.ref f))(hk:cX X.K (.ref f)=c_)(hb:Binds X.K fd ps [])(hx:nM (rM X.prog X.w) X EE)
  (ha:SA X.kl C (e::es) xs)(hn:xs.length=n)(hdb:(x == ("__debug__":aN))=d_)(he:aI (e::es) X.env=(d_,eval e X.env)::aI es X.env)(hpl:(backTo cpos (aI es X.env)).any (·.1)=d_):SS X C EE (.Return (a_ (.Call (.Name x p) (e::es) [] cpos)) pos) (.TL j xs):=
 PS.imp (Bl (wR F hr hg hm hk hb .nil hx (PA.kl ha) hdb he hpl)) λD σ H ⟨Fz,H₀,G,ρ,out,h,R,k⟩=>
  sL (mk:=λx=>.rt x.1 x.2) hn h R k λd fr e v Fp F' H' sp Rp st r fq=>by
   subst e;exact k v F' H' (Rp.step.trans st) r λz=>(fq z).back (F:=G) R.step.hh
end
section
variable{P:aO}{w:bh}{K:Fg}{mg:aN->Option aa}{base:bx}
def yP{Fz H:Hp}{ds:List Dat}{vs:List V}{N ps:List aN}(g:Good Fz H)(r:cv K Fz ds vs)(hl:vs.length=ps.length)(hn:ds.length=ps.length)(hNp:ps.length<=N.length) :
  Rl K Fz H Fz H (L2.start N vs) (ds.map (λd=>a_ (d,d_))++bI (N.length - ps.length) b_):=by
 refine⟨Step.refl g,?_,λi d' q=>?_,λ_=>[],λi d' q=>?_,λi j d1 d2 hij q1 q2=>?_⟩
 ·unfold L2.start;simp[hl,hn]
 ·have hi:i<ds.length:=by
   by_cases hi:i<ds.length
   ·exact hi
   ·rw[de (by simpa using hi),eK]at q;split at q<;>cases q
  rw[cK (by simpa using hi),aW]at q;obtain⟨d2,e1,e2⟩:=dJ q;cases e2;obtain⟨v,e3,e4⟩:=r.get e1;refine⟨v,?_,e4⟩;unfold L2.start;rw[cK (by simp;omega),aW,e3];rfl
 ·exfalso;by_cases hi:i<ds.length
  ·rw[cK (by simpa using hi),aW]at q;obtain⟨d2,e1,e2⟩:=dJ q;cases e2
  ·rw[de (by simpa using hi),eK]at q;split at q<;>cases q
 ·intro a m;cases m
set_option tactic.hygienic true in
def RE{x qual:aN}{st:fw}{f:af}{fd:cx}{N ps:List aN}{k:Nat}{C:Fs}{body:List Sx}(F:Xj K x qual st f fd)(S:oh N ps (cU st))(hNp:ps.length<=N.length)
  (hbody:∀(cdv:aa)(A:bp)(outer:List mK)(s:ae)(H:Hp)(E:XK),iJ k (A.deeper (envOfC qual (cU st) s.heap.objs.size f cdv))->
   FI (lS (rM P w) P w K mg base N qual (cU st) f cdv A outer s H E) C E (iN st) body) :
  iX P w K mg base (rM P w) (k+1) f fd ps (GL K ps.length (uT C ps.length N.length body) (IX C ps.length N.length body)):=by
 obtain⟨oc,od,kV,doc,pm,an,cdv,ct,osl,rfl,lk,hcd⟩:=F.ex;refine OB lk hcd S (λvs H Q E h=>h.1) λA outer s H vs Q E hr h=>⟨_,hbody cdv A outer s H E hr,?_⟩
 obtain⟨hl,h|h⟩:=h
 ·obtain⟨ds,d,fr,he,Fz,g,r,kq⟩:=h;unfold uT at he;split at he
  ·rename_i hn;obtain⟨o,ho,he⟩:=bV he;refine⟨Fz,H,Fz,_,o,ho,yP g r hl hn hNp,?_⟩
   cases o with
   |nx ρ'=>cases he;exact λF' H' σ' s' R=>kq _ F' H' R.step rfl aV
   |rt d2 f2=>cases he;exact λv F' H' st r f=>kq v F' H' st r f
   |_=>cases he
  ·cases he
 ·obtain⟨ds,d,fr,he,Fz,g,r,kq⟩:=h;unfold IX at he;split at he
  ·rename_i hn;obtain⟨o,ho,he⟩:=bV he;refine⟨Fz,H,Fz,_,o,ho,yP g r hl hn hNp,?_⟩
   cases o with
   |xc c f e=>
     cases he;exact λv F' H' dx q1 st q2=>kq c f e v F' H' dx rfl q1 st q2
   |_=>cases he
  ·cases he
def _root_.L2.iX.calm{k:Nat}{f:af}{fd:cx}{ps:List aN}{n:Nat}{g g':List Dat->g_}(F:iX P w K mg base (rM P w) k f fd ps (GL K n g g')):iX P w K mg base DR k f fd ps (SM K n g):=
 ⟨λvs H Q E h=>F.len vs H Q E0 ⟨h.1,.inl h.2⟩,λA outer s H args us vs Q E hr e0 hb hv h=>fT (F.run A outer s H args us vs Q E0 hr e0 hb hv ⟨h.1,.inl h.2⟩) λr s' hq=>by
  cases r with
  |error e=>
    obtain⟨_,_,_,_,_,_,_,_,_,z⟩:=hq;exact bF z
  |ok fl=>cases fl<;>exact hq⟩
end
def zR{items items2:Array aa}(hs2:items.size+items2.size<=aD):¬(!items.isEmpty && eZ (items.size+items2.size))=c_:=by
 rw[HN hs2];simp
def IT(l:af)(items:Array aa)(n:Nat)(b:af)(items2:Array aa)(n2:Nat)(dd2:Option af)(yi:Array (Option aa))(hs0:¬(!items.isEmpty && eZ (items.size+items2.size))=c_)(hs1:items.size<=aD)(hs2:items.size+items2.size<=aD+1) :
  Meets (fh.«list.extend» ⟨[.ref l,.ref b],[]⟩) (λ_ R s=>s.heap.get? l=a_ { cls:=.type "list",dict:=b_,data:=.seq items n,slots:=#[] }/\s.heap.get? b=a_ { cls:=.type "tuple",dict:=dd2,data:=.seq items2 n2,slots:=yi }/\R (.ok (.ret cJ)) { s with heap:=s.heap.update l (fO λx=>x++items2),toks:=s.toks }):=
 .of_wp λprog w A R s h=>by
  obtain⟨hp,g,d,tk,os⟩:=s;obtain⟨hl,hb,h⟩:=h;have f1:=B9;have f2:=um;have f3:=vf;have f4:=uD;have f5:=uE;have hz':(items++items2).size<=aD+1:=by rw[FF];exact hs2
  wp_walk using(pg hl rfl (hz:=hs1) (_hz':=hz')),ph hl,ph hb
  exact⟨_,rfl,h⟩
def IV(l:af)(items:Array aa)(n:Nat)(b:af)(items2:Array aa)(n2:Nat)(dd2:Option af)(yi:Array (Option aa))(hs0:¬(!items.isEmpty && eZ (items.size+items2.size))=c_)(hs1:items.size<=aD)(hs2:items.size+items2.size<=aD+1) :
  Meets (fh.«list.extend» ⟨[.ref l,.ref b],[]⟩) (λ_ R s=>s.heap.get? l=a_ { cls:=.type "list",dict:=b_,data:=.seq items n,slots:=#[] }/\s.heap.get? b=a_ { cls:=.type "list",dict:=dd2,data:=.seq items2 n2,slots:=yi }/\R (.ok (.ret cJ)) { s with heap:=s.heap.update l (fO λx=>x++items2),toks:=s.toks }):=
 .of_wp λprog w A R s h=>by
  obtain⟨hp,g,d,tk,os⟩:=s;obtain⟨hl,hb,h⟩:=h;have f1:=B9;have f2:=um;have f3:=vf;have f4:=uD;have f5:=uE;have hz':(items++items2).size<=aD+1:=by rw[FF];exact hs2
  wp_walk using(pg hl rfl (hz:=hs1) (_hz':=hz')),ph hl,ph hb
  exact⟨_,rfl,h⟩
section
variable{X:Cx}{C:Fs}{K:Fg}
def T8(K:Fg):V->List V->Hp->VK->Prop:=λx vs H Q=>∃l b xs zs,x=.ref l/\vs=[.ref b]/\H l=a_ (.lst xs)/\(mB K H b zs\/rL K H b zs)/\xs.length+zs.length<=aD/\Q .non (upd H l (.lst (xs++zs)))
def QV:VI X "list.extend" (T8 X.K):=by
 intro h_ s σ H x vs v us Q I rx rv h;obtain⟨l,b,xs,zs,rfl,rfl,hH,hB,hz,q⟩:=h;cases rx;obtain⟨u,rfl,ru⟩:=rv.one;cases ru;obtain⟨z,its,n,r,hl,e⟩:=I.Mo hH
 have fin:∀(j_:List aa)(tk:Nat),bZ zs j_->EP X h_ σ Q .none { s with heap:=s.heap.update l (fO λx=>x++j_.toArray),toks:=tk }:=λj_ tk r2=>
  ⟨.non,_,I.Mp (its':=its++j_) hH e (by simp) (r.append r2) (by rw[cw];exact hz),rfl,q⟩
 have hz':∀{j_:List aa},bZ zs j_->its.toArray.size+j_.toArray.size<=aD:=λr2=>by rw[aH,aH,<-r.length,<-r2.length];exact hz
 rcases hB with hB|hB
 ·obtain⟨j_,r2,⟨o2,n2,e2,hc,hd,hs⟩,_⟩:=I.list hB;obtain⟨cls2,dd2,data2,yi⟩:=o2;simp only at hc hd hs;subst hc hd hs;exact mh lu ⟨_,e,rfl⟩ JP (FV _ _) (IV l its.toArray n b j_.toArray n2 _ yi (zR (hz' r2)) (by have:=hz' r2;omega) (by have:=hz' r2;omega)) ⟨e,e2,fin j_ _ r2⟩
 ·obtain⟨j_,r2,⟨o2,e2,hc,n2,hd⟩,_⟩:=I.tuple hB;obtain⟨cls2,dd2,data2,yi⟩:=o2;simp only at hc hd;subst hc hd;exact mh lu ⟨_,e,rfl⟩ JP (FV _ _) (IT l its.toArray n b j_.toArray n2 dd2 yi (zR (hz' r2)) (by have:=hz' r2;omega) (by have:=hz' r2;omega)) ⟨e,e2,fin j_ _ r2⟩
def OV(K:Fg)(H:Hp)(d':Dat)(v:V)(vs:List V)(S T:List af):Prop:=
 ∃l xs b zs S',v=.ref l/\l∈S/\H l=a_ (.lst xs)/\vs=[.ref b]/\(mB K H b zs\/rL K H b zs)/\xs.length+zs.length<=aD/\kY K (upd H l (.lst (xs++zs))) d' v S'/\S'.Nodup/\∀a∈S',a∈S\/a∈T
def IU{H:Hp}{es fs:List Dat}{l b:af}{xs zs:List V}{S' T T':List af}(hl:H l=a_ (.lst xs))(os:cD K H es xs S')(nd:(l::S').Nodup)(hb:mB K H b zs\/rL K H b zs)(of:cD K H fs zs T')(hT:∀a∈T',a∈T)(nt:T'.Nodup)(dj:∀a∈l::S',a∉T)(hz:es.length+fs.length<=aD) :
  OV K H (.lst (es++fs)) (.ref l) [.ref b] (l::S') T:=by
 have hn:=bM.mp nd;have nt':∀vs,H l≠a_ (.tup vs):=λvs z=>by rw[hl]at z;cases z
 have hlT:l∉T':=λm=>dj l jB (hT l m);refine⟨l,xs,b,zs,l::(S'++T'),rfl,jB,hl,rfl,hb,by rw[os.length,of.length];exact hz,⟨l,xs++zs,S'++T',rfl,bu,(os.upd nt' _ hn.1).append (of.upd nt' _ hlT),rfl⟩,?_,λa m=>?_⟩
 ·refine bM.mpr ⟨λm=>?_,jM hn.2 nt λa m m2=>dj a (jN _ m) (hT a m2)⟩
  rcases aK.mp m with m|m
  ·exact hn.1 m
  ·exact hlT m
 ·rcases ah.mp m with rfl|m
  ·exact .inl jB
  ·rcases aK.mp m with m|m
   ·exact .inl (jN _ m)
   ·exact .inr (hT a m)
set_option tactic.hygienic true in
def MW{H:Hp}{d d':Dat}{ds:List Dat}{v:V}{vs:List V}{S T:List af}(h:ju .ext d ds=a_ d')(o:kY K H d v S)(nd:S.Nodup)(a:cD K H ds vs T)(nt:T.Nodup)(dj:∀a∈S,a∉T):OV K H d' v vs S T:=by
 cases d with
 |lst es=>
   obtain⟨l,xs,S',rfl,hl,os,rfl⟩:=o
   cases ds with
   |nil=>cases h
   |cons d1 ds=>
     cases ds with
     |cons _ _=>cases d1<;>cases h
     |nil=>
       obtain⟨y,r,T1,T2,e,a1,a2,q⟩:=a;obtain⟨rfl,rfl⟩:=a2;rw[bN]at q;subst e q
       cases d1 with
       |lst fs=>
         simp only[ju,uO,uM,uL,uN,uJ,uK]at h;split at h
         ·rename_i hz;cases h;obtain⟨b,zs,T',rfl,hb,of,rfl⟩:=a1;exact IU hl os nd (.inl (.inl (.inl hb))) of (λa m=>jN _ m) (bM.mp nt).2 dj hz
         ·cases h
       |tup fs=>
         simp only[ju,uO,uM,uL,uN,uJ,uK]at h;split at h
         ·rename_i hz;cases h;obtain⟨b,zs,rfl,hb,of⟩:=a1;exact IU hl os nd (.inr hb.sq) of (λa m=>m) nt dj hz
         ·cases h
       |_=>cases h
 |_=>cases h
end
section
variable{X:Cx}{C:Fs}{K:Fg}
def cD.at{H:Hp}{ds:List Dat}{vs:List V}{S:List af}{k:Nat}{e:Dat}(o:cD K H ds vs S)(hk:ds[k]?=a_ e) :
  ∃v S1 S2 S3,vs[k]?=a_ v/\kY K H e v S2/\S=S1++(S2++S3)/\cD K H (ds.take k) (vs.take k) S1/\cD K H (ds.drop (k+1)) (vs.drop (k+1)) S3/\vs=vs.take k++v::vs.drop (k+1):=by
 obtain⟨S1,Sb,o1,o2,rfl⟩:=o.take k;have hlt:k<ds.length:=(a9.mp hk).1
 have hd:ds.drop k=e::ds.drop (k+1):=by
  rw[iF hlt]
  congr 1
  exact(a9.mp hk).2
 rw[hd]at o2;obtain⟨v,r,S2,S3,e1,o3,o4,rfl⟩:=o2;have hlv:k<vs.length:=by rw[o.length];exact hlt
 have hv:vs.drop k=vs[k]::vs.drop (k+1):=iF hlv;rw[hv]at e1;obtain⟨rfl,rfl⟩:=nP e1;exact⟨_,S1,S2,S3,au hlv,o3,rfl,o1,o4,by rw[<-hv,nO]⟩
structure Yr(K:Fg)(H:Hp)(op:uq)(p l:af)(d':Dat)(ws:List V)(S T:List af)(ob':HO)(S':List af):Prop where
 own:kY K (upd H l ob') d' (.ref p) S'
 nd:S'.Nodup
 sub:∀a∈S',a∈S\/a∈T
end
noncomputable def UJ(tab:List (Nat×Bool)):Dat->g_
 |.exc c _ _=>(tab.lookup c).map λb=>(.bl b,d_)
 |_=>b_
noncomputable def Ex.Dj(tab:List (Nat×Bool))(a:Ex):Ex:=⟨a.fv,λC ρ=>(bw C a ρ).bind λx=>UJ tab x.1⟩
section
variable{X:Cx}{C:Fs}{a:aF}{xa:Ex}{pos:dZ}
def Wm(K:Fg)(tab:List (Nat×Bool))(vc:V):List V->Hp->VK->Prop:=λxs H Q=>∃c f k F v b,xs=[v,vc]/\Good F H/\Rep K F (.exc c f k) v/\tab.lookup c=a_ b/\Q (.bl b) H
def Ao(K:Fg)(tab:List (Nat×Bool))(u:aa):Prop:=∀c b,tab.lookup c=a_ b->uI K c=c_/\kr K (.ref c) u=a_ b
def Jp{tab:List (Nat×Bool)}{vc:V}{u:aa}(hu:∀w,RelV vc w->w=u)(ht:Ao X.K tab u):ig X (.builtin "isinstance") (Wm X.K tab vc):=λh_ s σ H xs us Q I r h=>by
 obtain⟨c,f,k,F,v,b,rfl,g,⟨p,dx,rfl,hF,hD⟩,hb,q⟩:=h;obtain⟨u1,w,rfl,ru,rw'⟩:=vals2 r;obtain rfl:=hu w rw';obtain rfl:u1=.ref p:=ru;obtain⟨h1,h2⟩:=ht _ _ hb;exact eG (Il h1) I.rR (I.hok p _ (g.sub _ _ hF)).1 h2 (λz=>nomatch z) λtk=>⟨.bl _,H,I.tok tk,rfl,q⟩
def zC{tab:List (Nat×Bool)}{σ:St}{H:Hp}{Q:VK}(h:gE X.K C (.Dj tab xa) σ H Q):gE X.K C xa σ H λv H1=>∃c f k F b,Good F H1/\Rep X.K F (.exc c f k) v/\tab.lookup c=a_ b/\∀F' H',Step F H1 F' H'->Q (.bl b) H':=by
 obtain⟨ρ,d,fr,h,F,g,R,k⟩:=h;obtain⟨⟨da,fa⟩,h3,h2⟩:=bV h;have h2:UJ tab da=a_ (d,fr):=h2
 cases da with
 |exc c f key=>
   obtain⟨b,hb,h2⟩:=dJ h2;cases h2;exact⟨ρ,_,fa,h3,F,g,R,λv F1 H1 st r _=>⟨c,f,key,F1,b,st.good,r,hb,λF' H' st'=>k _ F' H' (st.trans st') rfl aV⟩⟩
 |_=>cases h2
def GV{x:aN}{p p2:dZ}{tab:List (Nat×Bool)}{vc:V}{u:aa}(hg:Gl X "isinstance")(hm:X.mg "isinstance"=b_)(hc:PE X (.Name x p2) (tC vc))(hu:∀w,RelV vc w->w=u)(ht:Ao X.K tab u)(ha:SE X C a xa)
  (he:aI [a,.Name x p2] X.env=(d_,eval a X.env)::aI [.Name x p2] X.env)(hpl:(backTo pos (aI [.Name x p2] X.env)).any (·.1)=d_) :
  SE X C (.Call (.Name "isinstance" p) [a,.Name x p2] [] pos) (.Dj tab xa):=
 PE.imp (ny (Jp hu ht) hg hm (by decide +kernel:bootBuiltins "isinstance"=a_ (.builtin "isinstance")) (kd ha (kd hc qD) he) (by decide) (by decide) he hpl) λσ H Q h=>by
  obtain⟨ρ,d,fr,h1,F,g,R,k⟩:=zC h;exact⟨ρ,d,fr,h1,F,g,R,λv F1 H1 st r f=>let ⟨c,f,key,F2,b,g2,r2,hb,q⟩:=k v F1 H1 st r f;⟨c,f,key,F2,v,b,rfl,g2,r2,hb,q F2 H1 (Step.refl g2)⟩⟩
def Wo(K:Fg)(tab:List (Nat×Bool))(vcs:List V):List V->Hp->VK->Prop:=λxs H Q=>∃c f k F v b tp,xs=[v,.ref tp]/\Good F H/\Rep K F (.exc c f k) v/\H tp=a_ (.tup vcs)/\tab.lookup c=a_ b/\Q (.bl b) H
def TabsOk(K:Fg)(tab:List (Nat×Bool))(us:List aa):Prop:=∀c b,tab.lookup c=a_ b->uI K c=c_/\FO K (.ref c) us=a_ b
def Jq{tab:List (Nat×Bool)}{vcs:List V}{us:List aa}(hu:∀ws,bZ vcs ws->ws=us)(ht:TabsOk X.K tab us):ig X (.builtin "isinstance") (Wo X.K tab vcs):=λh_ s σ H xs vs Q I r h=>by
 obtain⟨c,f,k,F,v,b,tp,rfl,g,⟨p,dx,rfl,hF,hD⟩,hT,hb,q⟩:=h;obtain⟨u1,w,rfl,ru,rw'⟩:=vals2 r;obtain rfl:u1=.ref p:=ru;obtain rfl:w=.ref tp:=rw';obtain⟨h1,h2⟩:=ht _ _ hb;obtain⟨_,its,rv,o,e1,e2,n,e3⟩:=I.hok tp _ hT;obtain rfl:=hu its rv;obtain⟨oc,od,dt,sl⟩:=o;dsimp only at e2 e3;subst e2 e3;exact PySem.W.kia_tup (Il h1) I.rR (I.hok p _ (g.sub _ _ hF)).1 e1 h2 (λz=>nomatch z) λtk=>⟨.bl _,H,I.tok tk,rfl,q⟩
def PM{es:List aF}{p p2:dZ}{kx}{tab:List (Nat×Bool)}{vcs:List V}{us:List aa}(hz:vcs.length<=aD)(hg:Gl X "isinstance")(hm:X.mg "isinstance"=b_)(hc:PA X es (λ_ H Q=>Q vcs H))(hu:∀ws,bZ vcs ws->ws=us)(ht:TabsOk X.K tab us)(ha:SE X C a xa)
  (he:aI [a,.Tuple es kx p2] X.env=(d_,eval a X.env)::aI [.Tuple es kx p2] X.env)(he2:aI [.Tuple es kx p2] X.env=(d_,eval (.Tuple es kx p2) X.env)::aI [] X.env)(hpl:(backTo pos (aI [.Tuple es kx p2] X.env)).any (·.1)=d_) :
  SE X C (.Call (.Name "isinstance" p) [a,.Tuple es kx p2] [] pos) (.Dj tab xa):=
 PE.imp (ny (Jq hu ht) hg hm (by decide +kernel:bootBuiltins "isinstance"=a_ (.builtin "isinstance")) (kd ha (kd (Ht hc) qD he2) he) (by decide) (by decide) he hpl) λσ H Q h=>by
  obtain⟨ρ,d,fr,h1,F,g,R,k⟩:=zC h;refine⟨ρ,d,fr,h1,F,g,R,λv F1 H1 st r f=>?_⟩;obtain⟨c,fl,key,F2,b,g2,r2,hb,q⟩:=k v F1 H1 st r f;refine⟨hz,λtp hp=>?_⟩;have st':Step F2 H1 (upd F2 tp (.tup vcs)) (upd H1 tp (.tup vcs)):=Step.alloc g2 hp;exact⟨c,fl,key,_,v,b,tp,rfl,st'.good,Rep.mono st'.ff _ r2,bu,hb,q _ _ st'⟩
noncomputable def kD:Key->Dat
 |.inl i=>.int i
 |.inr x=>.str x
def Ri{K:Fg}{F:Hp}(k:Key):Rep K F (kD k) (kV k):=by cases k<;>rfl
def Mu{k:Key}{u:aa}(r:RelV (kV k) u):PySem.W.handedIn u=c_:=by
 cases k with
 |inl i=>obtain⟨t,rfl⟩:=r;rfl
 |inr x=>obtain⟨t,rfl⟩:=r;rfl
noncomputable def Vn(cs:List Nat)(f:aN):Dat->g_
 |.exc c g k=>if c∈cs/\g=f then a_ (kD k,d_)else b_
 |_=>b_
noncomputable def Ex.AE(cs:List Nat)(f:aN)(a:Ex):Ex:=⟨a.fv,λC ρ=>(bw C a ρ).bind λx=>Vn cs f x.1⟩
def Qs{e:aF}{f:aN}{ta:TE}(he:PE X e ta)(hb:attributeBase e f X.env (eval e X.env)=eval e X.env):PE X (.Attribute e f pos) (λσ H Q=>ta σ H λv H1=>∃a c dx k,v=.ref a/\H1 a=a_ (.ext (XO a c dx))/\H1 dx=a_ (.xd [(f,kV k)])/\yA X.K c f=c_/\Q (kV k) H1):=by
 intro h_ s σ H Q I h;refine NO hb (fW (he h_ s σ H _ I h) λu s1 ⟨x,H1,I1,rx,a,c,dx,k,ex,ea,ed,hf,q⟩=>?_);subst ex;obtain rfl:u=bR a:=rx;obtain⟨mA,hn,rel⟩:=I1.hok dx _ ed;have rf:=rel f;rw[cC,beq_self_eq_true]at rf;obtain⟨hh,g,d,t,os⟩:=s1
 cases hu:mA f with
 |none=>rw[hu]at rf;exact bF rf
 |some w=>
   rw[hu]at rf;exact Kk I1.rR hf (I1.hok a _ ea).1 hn.ns hu (Mu rf) ⟨kV k,H1,I1.tok _,rf,q⟩
def PU{cs:List Nat}{f:aN}(hcs:∀c∈cs,yA X.K c f=c_)(he:SE X C a xa)(hb:attributeBase a f X.env (eval a X.env)=eval a X.env):SE X C (.Attribute a f pos) (.AE cs f xa):=
 PE.imp (Qs he hb) λσ H Q z3=>by
  obtain⟨ρ,d,fr,h,F,g,R,k⟩:=z3;obtain⟨⟨da,fa⟩,h3,h2⟩:=bV h;have h2:Vn cs f da=a_ (d,fr):=h2
  cases da with
  |exc c g' key=>
    have h4:(if c∈cs/\g'=f then a_ (kD key,d_)else b_)=a_ (d,fr):=h2;clear h2 h;by_cases hc:c∈cs/\g'=f
    ·rw[if_pos hc]at h4;cases h4;obtain⟨hc,rfl⟩:=hc;refine⟨ρ,_,fa,h3,F,g,R,λv F1 H1 st r _=>?_⟩;obtain⟨p,dx,rfl,hF,hD⟩:=r;exact⟨p,c,dx,key,rfl,st.good.sub _ _ hF,st.good.sub _ _ hD,hcs c hc,k _ F1 H1 st (Ri key) aV⟩
    ·rw[if_neg hc]at h4;cases h4
  |_=>cases h2
end
noncomputable def Ci:Dat->g_
 | .tup l=>match l with
   |[.int c,.str f,d]=>(nF d).map λk=>(.exc c.toNat f k,c_)
   |_=>b_
 |_=>b_
noncomputable def Ex.yB(j:Nat)(xs:List Ex):Ex:=⟨MQ xs,λC ρ=>(bw C (.call (j+pM) xs) ρ).bind λx=>Ci x.1⟩
noncomputable def O2(y m:Nat)(ok:List Nat)(ρ:bQ)(fr:Bool):Dat->Option Out
 |.exc c f k=>if c∈ok then a_ (.nx ((ρ.set y (a_ (.exc c f k,fr))).set m b_))else b_
 |_=>b_
noncomputable def Sx.Oc(i j:Nat)(xs:List Ex)(y m:Nat)(ok:List Nat):Sx:={ ex:=λC ρ=>match ou C (.call j xs) ρ with
 |some x=>a_ (.nx (x.2.2.set i (a_ (x.1,x.2.1 && !im x.1))))
 |none=>(ou C (.yB j xs) ρ).bind λx=>O2 y m ok x.2.2 x.2.1 x.1 }
def Rl.K0{K:Fg}{Fz H₀ F H:Hp}{σ:St}{ρ:bQ}(m:Nat)(R:Rl K Fz H₀ F H σ ρ):Rl K Fz H₀ F H (σ.set m b_) (ρ.set m b_):=by
 obtain⟨Ss,O⟩:=R.ow;refine⟨R.step,by simpa using R.len,λj d' q=>?_,Ss,λj d' q=>?_,λj k d1 d2 hjk q1 q2=>?_⟩
 ·rcases eX q with⟨rfl,e⟩|⟨hne,q'⟩
  ·cases e
  ·obtain⟨w,g1,g2⟩:=R.val j d' q';exact⟨w,by rw[cH hne];exact g1,g2⟩
 ·rcases eX q with⟨rfl,e⟩|⟨hne,q'⟩
  ·cases e
  ·obtain⟨w,g1,g2⟩:=O.own j d' q';exact⟨w,by rw[cH hne];exact g1,g2⟩
 ·rcases eX q1 with⟨_,e⟩|⟨_,q1'⟩
  ·cases e
  ·rcases eX q2 with⟨_,e⟩|⟨_,q2'⟩
   ·cases e
   ·exact O.sep j k d1 d2 hjk q1' q2'
def Gy{d e:Dat}{fr:Bool}(h:Ci d=a_ (e,fr)):∃c f x k,t6 d=a_ (.xc c f x)/\nF x=a_ k/\e=.exc c f k/\fr=c_:=by
 unfold Ci at h;split at h
 ·split at h
  ·obtain⟨k,h1,h2⟩:=dJ h;cases h2;exact⟨_,_,_,k,rfl,h1,rfl,rfl⟩
  ·cases h
 ·cases h
def IL{d:Dat}{k:Key}{v:V}(h:nF d=a_ k)(h':vT d=a_ v):v=kV k:=by
 cases d with
 |int i=>cases h;cases h';rfl
 |str x=>cases h;cases h';rfl
 |_=>cases h'
section
variable{X:Cx}{C:Fs}{EE:XK}{xs:List Ex}
set_option tactic.hygienic true in
def Gv{n i j y m:Nat}{CD:af}{ok:List Nat}(hmy:m≠y)(hn:xs.length=n)(hok:∀c∈ok,fN X.K (.ref c) (.ref CD)=a_ c_) :
  ∀D σ H,gS X.K C EE (.Oc i j xs y m ok) D σ H->Tg X.K (GL X.K n (C j) (C (j+pM))) CD i y m (gA X.K C xs) D σ H:=λD σ H z3=>by
 obtain⟨Fz,H₀,F,ρ,out,h,R,k⟩:=z3;have hcall:∀(g:Nat)(ρe:eM)(d:Dat)(fr:Bool),bw C (.call g xs) ρe=a_ (d,fr)->∃ds,hZ C xs ρe=a_ ds/\C g ds=a_ (d,fr):=λg ρe d fr h=>bV h;have h:(match ou C (.call j xs) ρ with|some x=>a_ (Out.nx (x.2.2.set i (a_ (x.1,x.2.1 && !im x.1))))|none=>(ou C (.yB j xs) ρ).bind λx=>O2 y m ok x.2.2 x.2.1 x.1)=a_ out:=h;split at h
 ·rename_i x h1;obtain⟨d,fr,ρ'⟩:=x;cases h;obtain⟨ρe,e1,Fe,ge,Re,ke⟩:=qx (X:=X) (D:=D) (i:=i) R h1 k;obtain⟨ds,e2,e3⟩:=hcall j ρe d fr e1;refine⟨ρe,ds,e2,Fe,ge,Re,λvs F1 H1 st1 r1=>⟨by rw[r1.length,kK e2,hn],.inl ⟨ds,d,fr,e3,F1,st1.good,r1,λv F2 H2 st2 r2 f2=>?_⟩⟩⟩;exact ke v F2 H2 (st1.trans st2) r2 λz=>(f2 z).back (F:=Fe) st1.hh
 ·obtain⟨⟨d,fr,ρ'⟩,h1,h⟩:=bV h
  cases d with
  |exc c f key=>
    have h:(if c∈ok then a_ (Out.nx ((ρ'.set y (a_ (.exc c f key,fr))).set m b_))else b_)=a_ out:=h;split at h
    ·rename_i hc;cases h
     have k2:p9 X.K Fz H₀ F { D with nx:=λσ' H'=>D.nx (σ'.set m b_) H' } EE (.nx (ρ'.set y (a_ (.exc c f key,fr && !im (.exc c f key))))):=λF' H' σ' s' R'=>by
      have e:(fr && !im (.exc c f key))=fr:=by simp[im]
      rw[e]at R';exact k F' H' _ s' (R'.K0 m)
     obtain⟨ρe,e1,Fe,ge,Re,ke⟩:=qx (X:=X) (D:={ D with nx:=λσ' H'=>D.nx (σ'.set m b_) H' }) (i:=y) R h1 k2;obtain⟨⟨dt,ft⟩,e4,e5⟩:=bV e1;obtain⟨ds,e2,e3⟩:=hcall _ ρe _ _ e4;obtain⟨c',f',x,k',z1,z2,z3,rfl⟩:=Gy (show Ci dt=_ from e5);cases z3;refine⟨ρe,ds,e2,Fe,ge,Re,λvs F1 H1 st1 r1=>⟨by rw[r1.length,kK e2,hn],.inr ⟨ds,_,ft,e3,F1,st1.good,r1,λc2 f2 x2 v F2 H2 dx q1 q2 st2 hdx=>?_⟩⟩⟩;rw[z1]at q1;cases q1;obtain rfl:=IL z2 q2;refine⟨c,dx,rfl,rfl,hok c hc,λa ha=>?_⟩;have had:a≠dx:=λz=>by subst z;rw[bu]at ha;cases ha
     have st3:=(st2.trans (Step.alloc (o:=.xd [(f,kV key)]) st2.good hdx))
     have st4:=st3.trans (Step.alloc (o:=.ext (XO a c dx)) st3.good ha);have e6:upd (upd H2 dx (HO.xd [(f,kV key)])) a (.ext (XO a c dx)) dx=a_ (.xd [(f,kV key)]):=by rw[bB had.symm,bu]
     have e7:upd (upd F2 dx (HO.xd [(f,kV key)])) a (.ext (XO a c dx)) dx=a_ (.xd [(f,kV key)]):=by rw[bB had.symm,bu]
     have na:H2 a=b_:=by rw[bB had]at ha;exact ha
     have q:=ke (.ref a) _ _ (st1.trans st4) ⟨a,dx,rfl,bu,e7⟩ λ_=>⟨[a,dx],by simp[had],λb hb=>?_,a,dx,rfl,bu,e6,rfl⟩
     ·have es:((σ.set m (a_ (V.ref a))).set y (a_ (.ref a))).set m b_=(σ.set y (a_ (.ref a))).set m b_:=by
       rw[List.set_comm _ _ hmy,List.set_set]
      show D.nx (((σ.set m (a_ (V.ref a))).set y (a_ (.ref a))).set m b_) _;rw[es];exact q
     ·rcases ah.mp hb with rfl|hb
      ·exact(st1.trans st2).hh.free na
      ·rw[aZ.mp hb];exact(st1.trans st2).hh.free hdx
    ·cases h
  |_=>cases h
end
section
variable{X:Cx}
def Be(bs:List Bool):((aR bs.length).any λi=>(bs[i]?).getD d_)=bs.any id:=by
 rw[dD,iA,iA];constructor
 ·rintro⟨i,hi,h⟩;have hi':=bW.mp hi;rw[au hi',dF]at h;exact⟨_,cm hi',h⟩
 ·rintro⟨b,hb,h⟩;obtain⟨i,hi,rfl⟩:=iL hb;exact⟨i,bW.mpr hi,by rw[au hi];exact h⟩
def Fc(hcalm:X.calm=c_):ig X (.builtin "any") (gL X.K (dw .any)):=λh_ s σ H xs us Q I r h=>by
 obtain⟨da,d,fr,F,v,h1,rfl,g,rv,k⟩:=mw kM h
 cases da with
 |lst ds=>
   simp only[dw,b1,qZ,lX,qY,qW,bL,Fi,rd,qX]at h1;obtain⟨bs,hb,h1⟩:=dJ h1;cases h1;obtain⟨p,vs,rfl,t,r'⟩:=rv;obtain⟨its,w1,pl,_⟩:=I.lstR g t;obtain⟨u,rfl,ru⟩:=vals1 r;cases ru;have ei:=lV hb r' w1;have hlt:=pl.lt;refine call_any_walk (jT pl.isList ?_)
   refine⟨s.heap.objs.size,[s.heap.objs.size,p],[s.heap.objs.size],its.toArray.size,_,_,λi=>(bs[i]?).getD d_,rfl,DX (A:=X.A.in1) (I.ok.hd hcalm) _ p (ba hlt) its.toArray,
    ⟨⟨_,aJ _ rfl,rfl,rfl⟩,pl.isList.push _⟩,λi v s' Q' E' hP hQ=>?_,λh' tk hk=>?_⟩
   ·subst ei;have hP':(bs.map iV)[i]?=a_ v:=by simpa using hP
    rw[aW]at hP'
    cases hi:bs[i]? with
    |none=>rw[hi]at hP';cases hP'
    |some b=>
      rw[hi]at hP';cases hP';simp only[hi,dF]at hQ;exact cY hQ
   ·have e1:its.toArray.size=bs.length:=by rw[ei];simp
    rw[e1,Be];exact⟨.bl _,H,I.kept (n5 hk),rfl,k _ F H (Step.refl g) rfl aV⟩
 |_=>cases h1
end
section
variable{X:Cx}{C:Fs}{K:Fg}{h_:List (af×er)}{σ:St}{F H:Hp}{s:ae}
def _root_.L2.Inv.noNT{a:af}{xs:List (List NK×af)}{ws:List V}(I:Inv X h_ σ H s)(g:Good F H)(h:F a=a_ (.dN xs))(h':Tq X.K F a ws):False:=by
 obtain⟨_,_,o,es,ep,h1,h2,_⟩:=I.hok a _ (g.sub _ _ h);obtain⟨its,_,⟨o',h3,h4,_⟩,_⟩:=I.tupR g h';rw[h1]at h3;cases h3;rw[h2.1]at h4;exact absurd (mD h4) (by decide)
def _root_.L2.Inv.noXT{a c dx:af}{ws:List V}(I:Inv X h_ σ H s)(g:Good F H)(h:F a=a_ (.ext (XO a c dx)))(h':Tq X.K F a ws):False:=by
 obtain⟨⟨o,h1,h2,_⟩,_,_⟩:=I.hok a _ (g.sub _ _ h);obtain⟨its,_,⟨o',h3,h4,_⟩,_⟩:=I.tupR g h';rw[h1]at h3;cases h3;rw[h2]at h4;cases h4
def _root_.L2.Inv.noXL{a c dx:af}{ws:List V}(I:Inv X h_ σ H s)(g:Good F H)(h:F a=a_ (.ext (XO a c dx)))(h':mB X.K F a ws):False:=by
 obtain⟨⟨o,h1,h2,_⟩,_,_⟩:=I.hok a _ (g.sub _ _ h);obtain⟨its,_,pl,_⟩:=I.lstR g h';obtain⟨o',h3,h4,_⟩:=pl.isList;rw[h1]at h3;cases h3;rw[h2]at h4;cases h4
def _root_.L2.Inv.xinj{a c dx c' dx':af}(I:Inv X h_ σ H s)(g:Good F H)(h:F a=a_ (.ext (XO a c dx)))(h':F a=a_ (.ext (XO a c' dx'))):c=c'/\dx=dx':=by
 obtain⟨⟨o,h1,h2,h3,_⟩,_,_⟩:=I.hok a _ (g.sub _ _ h);obtain⟨⟨o',k1,k2,k3,_⟩,_,_⟩:=I.hok a _ (g.sub _ _ h');rw[h1]at k1;cases k1;rw[h2]at k2;cases k2;rw[h3]at k3;cases k3;exact⟨rfl,rfl⟩
def _root_.L2.Inv.noNL{a:af}{xs:List (List NK×af)}{ws:List V}(I:Inv X h_ σ H s)(g:Good F H)(h:F a=a_ (.dN xs))(h':mB X.K F a ws):False:=by
 obtain⟨_,_,o,es,ep,h1,h2,_⟩:=I.hok a _ (g.sub _ _ h);obtain⟨its,_,pl,_⟩:=I.lstR g h';obtain⟨o',h3,h4,_⟩:=pl.isList;rw[h1]at h3;cases h3;rw[h2.1]at h4;exact absurd (mD h4) (by decide)
theorem vJ:∀{ds:List Dat}{q:List Key}{vs:List V},Dh ds=a_ q->cv K F ds vs->vs=q.map kV
 |[],_,_,h,r=>by cases h;exact r
 |d::ds,_,_,h,z4=>by
   obtain⟨v,w,e,h1,h2⟩:=z4;simp only[Dh]at h;obtain⟨k,hk,h⟩:=bV h;obtain⟨q,hq,h⟩:=dJ h;cases h;subst e;rw[aw,<-vJ hq h2]
   congr 1
   cases d with
   |int i=>cases hk;exact h1
   |str x=>cases hk;exact h1
   |_=>cases hk
theorem C7:∀{ds:List Dat}{q:List N2}{vs:List V},SQ ds=a_ q->cv K F ds vs->J2 K F q vs
 |[],_,_,h,r=>by cases h;exact r
 |d::ds,_,_,h,z4=>by
   obtain⟨v,w,e,h1,h2⟩:=z4;simp only[SQ]at h;obtain⟨k,hk,h⟩:=bV h;obtain⟨q,hq,h⟩:=dJ h;cases h;subst e;have ih:=C7 hq h2
   cases d with
   |int i=>cases hk;cases h1;exact⟨w,rfl,ih⟩
   |str x=>cases hk;cases h1;exact⟨w,rfl,ih⟩
   |tup es=>
     simp only[Wx]at hk;obtain⟨q2,hq2,hk⟩:=dJ hk;cases hk;obtain⟨a,vs,rfl,t,r⟩:=h1;rw[vJ hq2 r]at t;exact⟨a,w,rfl,t,ih⟩
   |_=>cases hk
theorem C4:∀{ds:List Dat}{q:List NK}{vs:List V},Uy ds=a_ q->cv K F ds vs->J1 K F q vs
 |[],_,_,h,r=>by cases h;exact r
 |d::ds,_,_,h,z4=>by
   obtain⟨v,w,e,h1,h2⟩:=z4;simp only[Uy]at h;obtain⟨k,hk,h⟩:=bV h;obtain⟨q,hq,h⟩:=dJ h;cases h;subst e;have ih:=C4 hq h2
   cases d with
   |int i=>cases hk;cases h1;exact⟨w,rfl,ih⟩
   |str x=>cases hk;cases h1;exact⟨w,rfl,ih⟩
   |tup es=>
     simp only[Wu]at hk;obtain⟨q2,hq2,hk⟩:=dJ hk;cases hk;obtain⟨a,vs,rfl,t,r⟩:=h1;exact⟨a,w,vs,rfl,t,C7 hq2 r,ih⟩
   |_=>cases hk
def xf{da:Dat}{k:List NK}{v:V}(h:zd da=a_ k)(r:Rep K F da v):∃a,v=.ref a/\FK K F k a:=by
 cases da with
 |tup ds=>
   obtain⟨a,vs,rfl,t,r⟩:=r;exact⟨a,rfl,vs,t,C4 h r⟩
 |_=>cases h
theorem Di:∀{q:List Key}{us:List aa},bZ (q.map kV) us->∀h:bx,xX (EF X.prog X.w) h q us
 |[],_,w,_=>by cases w;exact .nil
 |k::q,_,w,h=>by
   cases w with
   |cons a b=>exact .cons (rE a) (Di b h)
theorem qG(I:Inv X h_ σ H s)(g:Good F H):∀{k:List N2}{vs:List V}{us:List aa},J2 X.K F k vs->bZ vs us->xX (i2 X.prog X.w) s.heap k us
 |[],_,_,h,w=>by rw[show _=[]from h]at w;cases w;exact .nil
 |.inl k::ks,_,_,h,w=>by
   obtain⟨r,e,h⟩:=h;subst e
   cases w with
   |cons q w=>exact .cons (I:=i2 X.prog X.w) (k:=.inl k) (rE q) (qG I g h w)
 |.inr q::ks,_,_,h,w=>by
   obtain⟨b,r,e,t,h⟩:=h;subst e
   cases w with
   |cons q2 w=>
     refine .cons (I:=i2 X.prog X.w) (k:=.inr q) ?_ (qG I g h w);cases(show _=bR b from q2);obtain⟨its,w1,⟨o,h1,h2,n,h3⟩,_⟩:=I.tupR g t;exact⟨b,rfl,o,its.toArray,n,h1,h2,h3,by simpa using Di (X:=X) w1 s.heap⟩
theorem qF(I:Inv X h_ σ H s)(g:Good F H):∀{k:List NK}{vs:List V}{us:List aa},J1 X.K F k vs->bZ vs us->SD X.prog X.w s.heap k us
 |[],_,_,h,w=>by rw[show _=[]from h]at w;cases w;exact .nil
 |.inl k::ks,_,_,h,w=>by
   obtain⟨r,e,h⟩:=h;subst e
   cases w with
   |cons q w=>exact .cons (I:=i3 X.prog X.w) (k:=.inl k) (rE q) (qF I g h w)
 |.inr q::ks,_,_,h,w=>by
   obtain⟨b,r,us,e,t,n2,h⟩:=h;subst e
   cases w with
   |cons q2 w=>
     refine .cons (I:=i3 X.prog X.w) (k:=.inr q) ?_ (qF I g h w);cases(show _=bR b from q2);obtain⟨its,w1,⟨o,h1,h2,n,h3⟩,_⟩:=I.tupR g t;exact⟨b,rfl,o,its.toArray,n,h1,h2,h3,by simpa using qG I g n2 w1⟩
def w6(I:Inv X h_ σ H s)(g:Good F H){k:List NK}{a:af}(h:FK X.K F k a):(rB X.prog X.w).is s.heap k a:=by
 obtain⟨vs,t,r⟩:=h;obtain⟨its,w1,⟨o,h1,h2,n,h3⟩,_⟩:=I.tupR g t;exact⟨o,its.toArray,n,h1,h2,h3,by simpa using qF I g r w1⟩
noncomputable def j9(xs:List (List NK×af)):List (List NK×af×aa):=xs.map λx=>(x.1,x.2,.bool c_)
def tZ(xs:List (List NK×af)):(j9 xs).map (·.1)=xs.map (·.1):=by
 unfold j9;rw[br];rfl
def Je(I:Inv X h_ σ H s)(g:Good F H){p:af}{xs:List (List NK×af)}{ks:List (List NK)}(hF:F p=a_ (.dN xs))(al:B6 X.K F ks xs) :
  xs.length<=aD/\(p == sysModules)=d_/\s.heap.DictOfH (rB X.prog X.w) p (j9 xs):=by
 obtain⟨z,y,o,es,ep,h1,h2,h3,h4,h5⟩:=I.hok p _ (g.sub _ _ hF);refine⟨z,y,o,es,ep,h1,h2,h3,by rw[h4];unfold j9;rw[br];rfl,λx hx=>?_,by rw[tZ];exact h5⟩;unfold j9 at hx;obtain⟨q,hq,rfl⟩:=aG.mp hx;exact w6 I g (al.2 q hq)
theorem nL(k:List NK):∀xs:List (List NK×af),(atKey (j9 xs) k).isSome=decide (k∈xs.map (·.1))
 |[]=>rfl
 |x::xs=>by
   have ih:=nL k xs;unfold atKey j9 at ih ⊢;rw[aw,dC];by_cases e:x.1=k
   ·simp[e]
   ·have e':¬k=x.1:=λz=>e z.symm;simp only[e,decide_false];rw[ih];simp[e']
def Rt{da:Dat}{kk:List NK}{v:V}{u:aa}{p:af}{xs:List (List NK×af)}{ks:List (List NK)}{Q:VK}(hu:X.A.units+20<di)(I:Inv X h_ σ H s)(g:Good F H)(hk:zd da=a_ kk)(ra:Rep X.K F da v)(rx:RelV v u)(hF:F p=a_ (.dN xs))(al:B6 X.K F ks xs)
  (q:Q (.bl (decide (kk∈ks))) H):aA (aE X.prog X.w) X.A (compareOp .In u (.ref p)) (EP X h_ σ Q) X.xe s:=by
 obtain⟨a,rfl,ky⟩:=xf hk ra;cases(show u=bR a from rx);obtain⟨z,y,dd⟩:=Je I g hF al;refine DS (knd:=rB X.prog X.w) ?_ (w6 I g ky) y dd ?_
 ·show X.A.units+1+3<=di;omega
 ·refine⟨.bl _,H,I.tok _,rfl,?_⟩;rw[nL,al.1];exact q
def none_of(I:Inv X h_ σ H s){p:af}(hH:H p=a_ (.dK [])):(p == sysModules)=d_/\s.heap.DictOfH (rB X.prog X.w) p []:=by
 obtain⟨z,y,vs,r,dd⟩:=OD I.hok hH;cases r;obtain⟨o,es,ep,h1,h2,h3,_,h4,_⟩:=dd;refine⟨y,o,es,ep,h1,h2,h3,?_,λx hx=>(nomatch hx),by simp⟩;generalize es.toList=l at h4;cases h4;rfl
def MK{da:Dat}{kk:List NK}{v:V}{u:aa}{p:af}{Q:VK}(hu:X.A.units+20<di)(I:Inv X h_ σ H s)(g:Good F H)(hk:zd da=a_ kk)(ra:Rep X.K F da v)(rx:RelV v u)(hF:F p=a_ (.dK []))
  (q:Q (.bl d_) H):aA (aE X.prog X.w) X.A (compareOp .In u (.ref p)) (EP X h_ σ Q) X.xe s:=by
 obtain⟨a,rfl,ky⟩:=xf hk ra;cases(show u=bR a from rx);obtain⟨y,dd⟩:=none_of I (g.sub _ _ hF);refine DS (knd:=rB X.prog X.w) ?_ (w6 I g ky) y dd ?_
 ·show X.A.units+1+3<=di;omega
 ·exact⟨.bl _,H,I.tok _,rfl,q⟩
def MP(H:Hp)(T:List af):fz H H T=H:=by
 funext a;unfold fz;split<;>rfl
def qN(H:Hp):Good H H:=⟨bS.refl _,λ_ _ e=>e⟩
def LH{H:Hp}{d:Dat}{v:V}{S:List af}(o:kY K H d v S):Rep K H d v:=by
 have:=kY.kh (qN H) d (T:=S) o λ_ m=>m;rw[MP]at this;exact this
def Oi(K:Fg):V->V->V->Hp->(Hp->Prop)->Prop:=λo i v H Q=>∃p k a xs,o=.ref p/\i=.ref a/\v=.bl c_/\FK K H k a/\((H p=a_ (.dK [])/\xs=[])\/(H p=a_ (.dN xs)/\∀x∈xs,FK K H x.1 x.2))/\
 k∉xs.map (·.1)/\xs.length<aD/\Q (upd H p (.dN (xs++[(k,a)])))
def TC(hu:X.A.units+20<di):NU X (Oi X.K):=λh_ s σ H o i v ov iv u Q I ro ri rv h=>by
 obtain⟨p,k,a,xs,rfl,rfl,rfl,ky,hp,hk,hz,q⟩:=h;cases ro;cases ri;obtain rfl:u=.bool c_:=rv
 have dd:(p == sysModules)=d_/\s.heap.DictOfH (rB X.prog X.w) p (j9 xs):=by
  rcases hp with⟨hp,rfl⟩|⟨hp,al⟩
  ·exact none_of I hp
  ·exact(Je I (qN H) hp ⟨rfl,al⟩).2
 have mu:Tb (H p):=by
  rcases hp with⟨hp,_⟩|⟨hp,_⟩<;>(rw[hp];exact gG)
 have hl:(j9 xs).length<=aD:=by unfold j9;rw[ak];omega
 refine wpAny_setItem_heap (knd:=rB X.prog X.w) (hsz:=hl) ?_ (w6 I (qN H) ky) dd.2 λh' dd' hs=>?_
 ·show X.A.units+1+3<=di;omega
 have hno:atKey (j9 xs) k=b_:=by
  have:=nL k xs;rw[decide_eq_false hk]at this
  cases hq:atKey (j9 xs) k with
  |none=>rfl
  |some z=>rw[hq]at this;cases this
 rw[storedH_new hno]at dd';obtain⟨o,es,ep,hq,h2,h3,h4,_,h5⟩:=dd';have e1:j9 xs++[(k,a,iV c_)]=j9 (xs++[(k,a)]):=by unfold j9;rw[gY];rfl
 rw[e1]at h4 h5;refine⟨_,xI (ob:=.dN (xs++[(k,a)])) I mu hs ⟨o,hq⟩ ⟨by rw[cw];simp;omega,dd.1,o,es,ep,hq,h2,h3,?_,?_⟩,q⟩
 ·rw[h4];unfold j9;rw[br];rfl
 ·rw[tZ]at h5;exact h5
set_option tactic.hygienic true in
def HL{H:Hp}{d d':Dat}{ds:List Dat}{v:V}{vs:List V}{S T:List af}(h:ju .dput d ds=a_ d')(o:kY K H d v S)(a:cD K H ds vs T) :
  ∃l k b xs,v=.ref l/\S=[l]/\vs=[.bl c_,.ref b]/\FK K H k b/\((H l=a_ (.dK [])/\xs=[])\/(H l=a_ (.dN xs)/\∀x∈xs,FK K H x.1 x.2))/\k∉xs.map (·.1)/\xs.length<aD/\kY K (upd H l (.dN (xs++[(k,b)]))) d' v [l]:=by
 have keyed:∀{d0 d1:Dat}{kk:List NK},ds=[.bl c_,d1]->zd d1=a_ kk->∃b,vs=[.bl c_,.ref b]/\FK K H kk b:=λ{d0 d1 kk}e hk=>by
  subst e;obtain⟨y,r,T1,T2,e,a1,a3,_⟩:=a;obtain⟨y0,r0,T0,T0',e0,a0,a2,_⟩:=a3;obtain⟨rfl,rfl⟩:=a2;obtain⟨b,rfl,ky⟩:=xf hk (LH a0);obtain⟨rfl,_⟩:=a1;subst e e0;exact⟨b,rfl,ky⟩
 have up:∀{l:af}{ob:HO},(∀ws,H l≠a_ (.tup ws))->∀b vs,Tq K H b vs->Tq K (upd H l ob) b vs:=λ{l ob}nt b vs t=>by
  rcases t with t|t
  ·refine .inl ?_;rw[bB (λz=>nt vs (by rw[<-z];exact t))];exact t
  ·exact .inr t
 have kup:∀{l:af}{ob:HO}{k:List NK}{b:af},(∀ws,H l≠a_ (.tup ws))->FK K H k b->FK K (upd H l ob) k b:=λnt ⟨ws,t,r⟩=>⟨ws,up nt _ _ t,r.imp (up nt)⟩
 cases d with
 |dct ks ws=>
   obtain⟨l,k_,S',rfl,hl,rfl,os,rfl⟩:=o;have nt:∀us,H l≠a_ (.tup us):=λus z=>by rw[hl]at z;cases z
   have hds:∃d1,ds=[.bl c_,d1]:=by
    match ds,h with
    |[.bl c_,d1],_=>exact⟨d1,rfl⟩
   obtain⟨d1,rfl⟩:=hds;simp only[ju,uO,uM,uL,uN,uJ,uK]at h;split at h
   ·rename_i he;obtain⟨kk,hk,h⟩:=dJ h;subst h;have e0:k_=[]:=by simpa using he
    subst e0;obtain⟨b,hvs,ky⟩:=keyed (d0:=.non) rfl hk
    have e1:S'=[]:=by
     cases ws with
     |nil=>exact os.2
     |cons _ _=>obtain⟨_,_,_,_,z,_⟩:=os;cases z
    subst e1;refine⟨l,kk,b,[],rfl,rfl,hvs,ky,.inl ⟨hl,rfl⟩,by simp,by rw[bT];simp,l,[(kk,b)],rfl,bu,⟨rfl,λx hx=>?_⟩,rfl⟩;rw[aZ.mp hx];exact kup nt ky
   ·cases h
 |dcn ks=>
   obtain⟨l,xs,rfl,hl,al,rfl⟩:=o;have nt:∀us,H l≠a_ (.tup us):=λus z=>by rw[hl]at z;cases z
   have hds:∃d1,ds=[.bl c_,d1]:=by
    match ds,h with
    |[.bl c_,d1],_=>exact⟨d1,rfl⟩
   obtain⟨d1,rfl⟩:=hds;simp only[ju,uO,uM,uL,uN,uJ,uK]at h;obtain⟨kk,hk,h⟩:=bV h;split at h
   ·rename_i hz;cases h;obtain⟨b,hvs,ky⟩:=keyed (d0:=.non) rfl hk;obtain⟨e1,al2⟩:=al;subst e1;refine⟨l,kk,b,xs,rfl,rfl,hvs,ky,.inr ⟨hl,al2⟩,hz.2,by simpa using hz.1,l,xs++[(kk,b)],rfl,bu,⟨by rw[gY];rfl,λx hx=>?_⟩,rfl⟩
    rcases aK.mp hx with hx|hx
    ·exact kup nt (al2 x hx)
    ·rw[aZ.mp hx];exact kup nt ky
   ·cases h
 |_=>cases h
def Es{i:Nat}{es:List Ex}{D:Ends}{σ:St}{H:Hp}(h:gS K C EE (.mut .dput i es) D σ H) :
  ∃l,σ[i]?=a_ (a_ (.ref l))/\gF K C es σ H λvs H1=>∃k b xs,vs=[.bl c_,.ref b]/\FK K H1 k b/\((H1 l=a_ (.dK [])/\xs=[])\/(H1 l=a_ (.dN xs)/\∀x∈xs,FK K H1 x.1 x.2))/\k∉xs.map (·.1)/\xs.length<aD/\D.nx σ (upd H1 l (.dN (xs++[(k,b)]))):=by
 obtain⟨Fz,H₀,F,ρ,out,h,R,k⟩:=h;obtain⟨ds,d,d',h3,hi,h4,rfl⟩:=zh h;obtain⟨Ss,O⟩:=R.ow;obtain⟨v,e1,e2,e3,e4⟩:=O.own i d hi
 have hdl:∃l,v=.ref l:=by
  cases d with
  |dct ks ws=>obtain⟨l,_,_,rfl,_⟩:=id e2;exact⟨l,rfl⟩
  |dcn ks=>obtain⟨l,_,rfl,_⟩:=id e2;exact⟨l,rfl⟩
  |_=>cases h4
 obtain⟨l,rfl⟩:=hdl;refine⟨l,e1,xG R h3 λvs F' H' T st ow nT hT=>?_⟩;have O':=O.moved st;have R':=R.moved st;obtain⟨l2,kk,b,xs,ev,eS,hvs,ky,hq,hno,hz,o2⟩:=HL h4 (e2.mono st.hh) ow;cases ev;refine⟨kk,b,xs,hvs,ky,hq,hno,hz,k F' _ σ st.ff (R'.mut O' hi e1 (by rw[eS];exact jB) trivial o2 (by simp) λa m=>?_)⟩;exact .inl (by rw[eS];exact m)
def KE{i:Nat}{xe xi:Ex}{st:fw}(hm:PS X st (AZ (gE X.K C xe) (RB (AX i) (gE X.K C xi) (Oi X.K)))):SS X C EE st (.mut .dput i [xe,xi]):=PS.imp hm λD σ H h=>by
 obtain⟨l,e1,g⟩:=Es h;have g2:=II g;refine sk g2 λx H1 s1 g3=>⟨.ref l,e1,sk g3 λy H2 s2 g4=>?_⟩
 obtain⟨k,b,xs,q1,q2,q3,q4,q5,q6⟩:=g4;cases q1;exact⟨l,k,b,xs,rfl,rfl,rfl,q2,q3,q4,q5,q6⟩
end
section
variable{X:Cx}{C:Fs}{h_:List (af×er)}{σ:St}{F H:Hp}{s:ae}
def _root_.L2.Inv.noDT{a:af}{k_:List (Key×V)}{ws:List V}(I:Inv X h_ σ H s)(g:Good F H)(h:F a=a_ (.dK k_))(h':Tq X.K F a ws):False:=by
 obtain⟨_,_,_,_,o,es,ep,h1,h2,_⟩:=I.hok a _ (g.sub _ _ h);obtain⟨its,_,⟨o',h3,h4,_⟩,_⟩:=I.tupR g h';rw[h1]at h3;cases h3;rw[h2.1]at h4;exact absurd (mD h4) (by decide)
def _root_.L2.Inv.noDL{a:af}{k_:List (Key×V)}{ws:List V}(I:Inv X h_ σ H s)(g:Good F H)(h:F a=a_ (.dK k_))(h':mB X.K F a ws):False:=by
 obtain⟨_,_,_,_,o,es,ep,h1,h2,_⟩:=I.hok a _ (g.sub _ _ h);obtain⟨its,_,pl,_⟩:=I.lstR g h';obtain⟨o',h3,h4,_⟩:=pl.isList;rw[h1]at h3;cases h3;rw[h2.1]at h4;exact absurd (mD h4) (by decide)
mutual
theorem CG(I:Inv X h_ σ H s)(g:Good F H):∀(da db:Dat){x:V},Rep X.K F da x->Rep X.K F db x->da=db
 |.non,db,x,ra,rb=>by
   rw[show x=.non from ra]at rb
   cases db with
   |non=>rfl
   |tup _=>obtain⟨_,_,z,_⟩:=rb;cases z
   |lst _=>obtain⟨_,_,z,_⟩:=rb;cases z
   |dct _ _=>obtain⟨_,_,z,_⟩:=rb;cases z
   |dcn _=>obtain⟨_,_,z,_⟩:=rb;cases z
   |exc _ _ _=>obtain⟨_,_,z,_⟩:=rb;cases z
   |_=>cases rb
 |.bl b,db,x,ra,rb=>by
   rw[show x=.bl b from ra]at rb
   cases db with
   |bl c=>cases rb;rfl
   |tup _=>obtain⟨_,_,z,_⟩:=rb;cases z
   |lst _=>obtain⟨_,_,z,_⟩:=rb;cases z
   |dct _ _=>obtain⟨_,_,z,_⟩:=rb;cases z
   |dcn _=>obtain⟨_,_,z,_⟩:=rb;cases z
   |exc _ _ _=>obtain⟨_,_,z,_⟩:=rb;cases z
   |_=>cases rb
 |.int i,db,x,ra,rb=>by
   rw[show x=.int i from ra]at rb
   cases db with
   |int c=>cases rb;rfl
   |tup _=>obtain⟨_,_,z,_⟩:=rb;cases z
   |lst _=>obtain⟨_,_,z,_⟩:=rb;cases z
   |dct _ _=>obtain⟨_,_,z,_⟩:=rb;cases z
   |dcn _=>obtain⟨_,_,z,_⟩:=rb;cases z
   |exc _ _ _=>obtain⟨_,_,z,_⟩:=rb;cases z
   |_=>cases rb
 |.str i,db,x,ra,rb=>by
   rw[show x=.str i from ra]at rb
   cases db with
   |str c=>cases rb;rfl
   |tup _=>obtain⟨_,_,z,_⟩:=rb;cases z
   |lst _=>obtain⟨_,_,z,_⟩:=rb;cases z
   |dct _ _=>obtain⟨_,_,z,_⟩:=rb;cases z
   |dcn _=>obtain⟨_,_,z,_⟩:=rb;cases z
   |exc _ _ _=>obtain⟨_,_,z,_⟩:=rb;cases z
   |_=>cases rb
 |.tup ds,db,x,z3,rb=>by
   obtain⟨p,vs,e,t,r⟩:=z3;subst e
   cases db with
   |tup es=>
     obtain⟨q,us,e',t',r'⟩:=rb;cases e';have ev:vs=us:=I.nQ (t.mono g.sub).sq (t'.mono g.sub).sq;subst ev;rw[pR I g ds es r r']
   |lst es=>
     obtain⟨q,us,e',t',r'⟩:=rb;cases e';exact(I.noLT g t' t).elim
   |dct ks es=>
     obtain⟨q,us,e',t',r'⟩:=rb;cases e';exact(I.noDT g t' t).elim
   |dcn ks=>
     obtain⟨q,us,e',t',r'⟩:=rb;cases e';exact(I.noNT g t' t).elim
   |exc _ _ _=>
     obtain⟨q,us,e',t',r'⟩:=rb;cases e';exact(I.noXT g t' t).elim
   |_=>cases rb
 |.lst ds,db,x,z3,rb=>by
   obtain⟨p,vs,e,t,r⟩:=z3;subst e
   cases db with
   |lst es=>
     obtain⟨q,us,e',t',r'⟩:=rb;cases e';have ev:vs=us:=I.p5 (g.sub.seq t) (g.sub.seq t');subst ev;rw[pR I g ds es r r']
   |tup es=>
     obtain⟨q,us,e',t',r'⟩:=rb;cases e';exact(I.noLT g t t').elim
   |dct ks es=>
     obtain⟨q,us,e',t',r'⟩:=rb;cases e';exact(I.noDL g t' t).elim
   |dcn ks=>
     obtain⟨q,us,e',t',r'⟩:=rb;cases e';exact(I.noNL g t' t).elim
   |exc _ _ _=>
     obtain⟨q,us,e',t',r'⟩:=rb;cases e';exact(I.noXL g t' t).elim
   |_=>cases rb
 |.dct ks ds,db,x,z3,rb=>by
   obtain⟨p,k_,e,t,kk,r⟩:=z3;subst e
   cases db with
   |dct ks' es=>
     obtain⟨q,us,e',t',k',r'⟩:=rb;cases e';rw[t]at t';cases t';rw[<-kk,<-k',pR I g ds es r r']
   |lst es=>
     obtain⟨q,us,e',t',r'⟩:=rb;cases e';exact(I.noDL g t t').elim
   |tup es=>
     obtain⟨q,us,e',t',r'⟩:=rb;cases e';exact(I.noDT g t t').elim
   |dcn _=>
     obtain⟨q,us,e',t',r'⟩:=rb;cases e';rw[t]at t';cases t'
   |exc _ _ _=>
     obtain⟨q,us,e',t',r'⟩:=rb;cases e';rw[t]at t';cases t'
   |_=>cases rb
 |.dcn ks,db,x,z3,rb=>by
   obtain⟨p,xs,e,t,r⟩:=z3;subst e
   cases db with
   |dcn ks'=>
     obtain⟨q,us,e',t',r'⟩:=rb;cases e';rw[t]at t';cases t';rw[<-r.1,<-r'.1]
   |dct _ _=>
     obtain⟨q,us,e',t',r'⟩:=rb;cases e';rw[t]at t';cases t'
   |lst es=>
     obtain⟨q,us,e',t',r'⟩:=rb;cases e';exact(I.noNL g t t').elim
   |tup es=>
     obtain⟨q,us,e',t',r'⟩:=rb;cases e';exact(I.noNT g t t').elim
   |exc _ _ _=>
     obtain⟨q,us,e',t',r'⟩:=rb;cases e';rw[t]at t';cases t'
   |_=>cases rb
 |.exc c f k,db,x,z3,rb=>by
   obtain⟨p,dx,e,t,r⟩:=z3;subst e
   cases db with
   |exc c' f' k'=>
     obtain⟨q,us,e',t',r'⟩:=rb;cases e';obtain⟨rfl,rfl⟩:=I.xinj g t t';rw[r]at r';have z:f=f'/\kV k=kV k':=by cases k<;>cases k'<;>cases r'<;>exact⟨rfl,rfl⟩
     obtain⟨rfl,z⟩:=z;have:k=k':=by cases k<;>cases k'<;>cases z<;>rfl
     rw[this]
   |dcn ks'=>
     obtain⟨q,us,e',t',r'⟩:=rb;cases e';rw[t]at t';cases t'
   |dct _ _=>
     obtain⟨q,us,e',t',r'⟩:=rb;cases e';rw[t]at t';cases t'
   |lst es=>
     obtain⟨q,us,e',t',r'⟩:=rb;cases e';exact(I.noXL g t t').elim
   |tup es=>
     obtain⟨q,us,e',t',r'⟩:=rb;cases e';exact(I.noXT g t t').elim
   |_=>cases rb
theorem pR(I:Inv X h_ σ H s)(g:Good F H):∀(ds es:List Dat){vs:List V},cv X.K F ds vs->cv X.K F es vs->ds=es
 |[],es,vs,h,h'=>by
   rw[show vs=[]from h]at h'
   cases es with
   |nil=>rfl
   |cons _ _=>obtain⟨_,_,z,_⟩:=h';cases z
 |d::ds,es,vs,z3,h'=>by
   obtain⟨v,r,e,h1,h2⟩:=z3;subst e
   cases es with
   |nil=>exact nomatch (show v::r=[]from h')
   |cons f fs=>
     obtain⟨v',r',e',h1',h2'⟩:=h';cases e';rw[CG I g d f h1 h1',pR I g ds fs h2 h2']
end
noncomputable def AB(da:Dat)(ds:List Dat)(its:List aa)(w:aa):Bool:=@decide (∃(i:Nat) (d:Dat),its[i]?=a_ w/\ds[i]?=a_ d/\nH d da=c_) (ly _)
def BN(I:Inv X h_ σ H s)(g:Good F H){da:Dat}{ds:List Dat}{vs:List V}{its:List aa}(r:cv X.K F ds vs)(w:bZ vs its){i:Nat}{d:Dat}{u:aa}(h1:its[i]?=a_ u)(h2:ds[i]?=a_ d):AB da ds its u=nH d da:=by
 have one:∀(j:Nat)d',its[j]?=a_ u->ds[j]?=a_ d'->d'=d:=λj d' q1 q2=>by
  obtain⟨v,e1,e2⟩:=r.get h2;obtain⟨v',e1',e2'⟩:=r.get q2;obtain⟨u1,f1,f2⟩:=w.get e1;obtain⟨u2,f1',f2'⟩:=w.get e1';rw[h1]at f1;cases f1;rw[q1]at f1';cases f1';have:=f2.inj f2';subst this;exact(CG I g d d' e2 e2').symm
 unfold AB;by_cases hd:nH d da=c_
 ·rw[hd];exact@decide_eq_true _ (ly _) ⟨i,d,h1,h2,hd⟩
 ·have:nH d da=d_:=by simpa using hd
  rw[this];refine@decide_eq_false _ (ly _) λ⟨j,d',q1,q2,q3⟩=>?_;rw[one j d' q1 q2]at q3;exact hd q3
def sx(I:Inv X h_ σ H s)(g:Good F H){da:Dat}{ds:List Dat}{vs:List V}{its:List aa}(r:cv X.K F ds vs)(w:bZ vs its):its.any (AB da ds its)=ds.any λy=>nH y da:=by
 have hl:its.length=ds.length:=by rw[<-w.length,r.length]
 rw[dD,iA,iA];constructor
 ·rintro⟨u,hu,h⟩;obtain⟨i,hi,e⟩:=iL hu;have hi2:i<ds.length:=by omega
  refine⟨ds[i],cm hi2,?_⟩;rw[<-BN I g r w (by rw[au hi,e]) (au hi2)];exact h
 ·rintro⟨d,hd,h⟩;obtain⟨i,hi,e⟩:=iL hd;have hi2:i<its.length:=by omega
  refine⟨its[i],cm hi2,?_⟩;rw[BN I g r w (au hi2) (by rw[au hi,e])];exact h
def xH(I:Inv X h_ σ H s)(g:Good F H)(A:bp){da:Dat}{ds:List Dat}{vs:List V}{its:List aa}{x:V}{u:aa}(hu:A.units+20<di)(sa:fE 20 da=c_)(ss:eh 20 ds=c_)(ra:Rep X.K F da x)(rx:RelV x u)(r:cv X.K F ds vs)(w:bZ vs its) :
  ∀y∈its,ux A s y u (AB da ds its y):=λy hy=>by
 obtain⟨i,hi,e⟩:=iL hy;have hl:its.length=ds.length:=by rw[<-w.length,r.length]
 have hi2:i<ds.length:=by omega
 have h1:its[i]?=a_ y:=by rw[au hi,e]
 have h2:=au hi2;rw[BN I g r w h1 h2];obtain⟨v,e1,e2⟩:=r.get h2;obtain⟨u1,f1,f2⟩:=w.get e1;rw[h1]at f1;cases f1;exact(qb I g 20 A ds[i] da hu (nV ss h2) sa e2 ra f2 rx).1
set_option tactic.hygienic true
def QD(hu:X.A.units+21<di):ie X (compareOp .In) (gB X.K (lT .isin)):=λh_ s σ H x y v u Q I rx ry z12=>by
 obtain⟨da,db,d,fr,h,F,g,ra,rb,k⟩:=z12;obtain⟨b,hd,rfl,rfl⟩:=jw h;have hu1:X.A.in1.units+20<di:=by show X.A.units+1+20<di;omega
 cases db with
 |str z=>
   cases da with
   |str z'=>
     simp only[eV,AD,Ff,qU,DF]at hd;cases hd;exact Er h_ s σ H x y v u Q I rx ry ⟨_,_,ra,rb,k _ F H (Step.refl g) rfl aV⟩
   |_=>cases hd
 |lst ds=>
   have hd':(if fE 20 da && eh 20 ds then a_ (ds.any λy=>nH y da)else b_)=a_ b:=by cases da<;>exact hd
   split at hd'
   ·rename_i hs;rw[aq]at hs;cases hd';obtain⟨p,vs,rfl,t,r⟩:=rb;obtain rfl:u=.ref p:=ry;obtain⟨its,w,pl,_⟩:=I.lstR g t;refine SeqAt.in_listAt (AB da ds its) pl.isList (λy hy=>xH I g _ hu1 hs.1 hs.2 ra rx r w y (by simpa using hy)) ⟨.bl _,H,I,rfl,?_⟩;rw[show its.toArray.any (AB da ds its)=its.any (AB da ds its) by simp,sx I g r w];exact k _ F H (Step.refl g) rfl aV
   ·cases hd'
 |tup ds=>
   have hd':(if fE 20 da && eh 20 ds then a_ (ds.any λy=>nH y da)else b_)=a_ b:=by cases da<;>exact hd
   split at hd'
   ·rename_i hs;rw[aq]at hs;cases hd';obtain⟨p,vs,rfl,t,r⟩:=rb;obtain rfl:u=.ref p:=ry;obtain⟨its,w,pl,_⟩:=I.tupR g t;refine SeqAt.in_tupleAt (AB da ds its) pl (λy hy=>xH I g _ hu1 hs.1 hs.2 ra rx r w y (by simpa using hy)) ⟨.bl _,H,I,rfl,?_⟩;rw[show its.toArray.any (AB da ds its)=its.any (AB da ds its) by simp,sx I g r w];exact k _ F H (Step.refl g) rfl aV
   ·cases hd'
 |dcn ks=>
   have hd':(zd da).map (λk=>decide (k∈ks))=a_ b:=by cases da<;>exact hd
   obtain⟨kk,hk,hd'⟩:=dJ hd';subst hd';obtain⟨p,xs,rfl,hF,al⟩:=rb;obtain rfl:u=.ref p:=ry;exact Rt (by omega) I g hk ra rx hF al (k _ F H (Step.refl g) rfl aV)
 |dct ks ds=>
   have hd2:(match nF da with|some k=>a_ (jO k ks ds).isSome|none=>if ks.isEmpty=c_ then(zd da).map λ_=>d_ else b_)=a_ b:=by cases da<;>exact hd
   cases hkd:nF da with
   |none=>
     rw[hkd]at hd2;dsimp only at hd2;split at hd2
     ·rename_i he;obtain⟨kk,hk,hd2⟩:=dJ hd2;subst hd2;obtain⟨p,k_,rfl,hF,rfl,rr⟩:=rb;obtain rfl:u=.ref p:=ry;have e0:k_=[]:=by simpa using he
      subst e0;exact MK (by omega) I g hk ra rx hF (k _ F H (Step.refl g) rfl aV)
     ·cases hd2
   |some kk0=>
   rw[hkd]at hd2;have hd':(nF da).map (λk=>(jO k ks ds).isSome)=a_ b:=by rw[hkd];exact hd2
   obtain⟨kk,hk,hd'⟩:=dJ hd';subst hd';obtain⟨p,k_,rfl,hF,rfl,rr⟩:=rb;obtain rfl:=tP hk ra;obtain rfl:u=.ref p:=ry
   have e1:(jO kk (k_.map (·.1)) ds).isSome=(m9 k_ kk).isSome:=by
    cases q:jO kk (k_.map (·.1)) ds with
    |none=>rw[qJ q rr];rfl
    |some d=>obtain⟨w,e2,_⟩:=nZ q rr;rw[e2];rfl
   refine W0 (o:=m9 k_ kk) (by omega) I (uY.k (g.sub _ _ hF)) rx λs' I'=>⟨.bl _,H,I',rfl,?_⟩
   rw[<-e1];exact k _ F H (Step.refl g) rfl aV
 |_=>cases da<;>cases hd
def LP(hu:X.A.units+21<di):ie X (compareOp .NotIn) (gB X.K (lT .nin)):=λh_ s σ H x y v u Q I rx ry z12=>by
 obtain⟨da,db,d,fr,h,F,g,ra,rb,k⟩:=z12;obtain⟨b,hd,rfl,rfl⟩:=jw h;have hu1:X.A.in1.units+20<di:=by show X.A.units+1+20<di;omega
 cases db with
 |str z=>
   cases da with
   |str z'=>
     simp only[eV,AD,Ff,qU,DF]at hd;cases hd;exact wV h_ s σ H x y v u Q I rx ry ⟨_,_,ra,rb,k _ F H (Step.refl g) rfl aV⟩
   |_=>cases hd
 |lst ds=>
   have hd':(if fE 20 da && eh 20 ds then a_ (!(ds.any λy=>nH y da))else b_)=a_ b:=by cases da<;>exact hd
   split at hd'
   ·rename_i hs;rw[aq]at hs;cases hd';obtain⟨p,vs,rfl,t,r⟩:=rb;obtain rfl:u=.ref p:=ry;obtain⟨its,w,pl,_⟩:=I.lstR g t;refine SeqAt.notIn_listAt (AB da ds its) pl.isList (λy hy=>xH I g _ hu1 hs.1 hs.2 ra rx r w y (by simpa using hy)) ⟨.bl _,H,I,rfl,?_⟩;rw[show its.toArray.any (AB da ds its)=its.any (AB da ds its) by simp,sx I g r w];exact k _ F H (Step.refl g) rfl aV
   ·cases hd'
 |tup ds=>
   have hd':(if fE 20 da && eh 20 ds then a_ (!(ds.any λy=>nH y da))else b_)=a_ b:=by cases da<;>exact hd
   split at hd'
   ·rename_i hs;rw[aq]at hs;cases hd';obtain⟨p,vs,rfl,t,r⟩:=rb;obtain rfl:u=.ref p:=ry;obtain⟨its,w,pl,_⟩:=I.tupR g t;refine SeqAt.notIn_tupleAt (AB da ds its) pl (λy hy=>xH I g _ hu1 hs.1 hs.2 ra rx r w y (by simpa using hy)) ⟨.bl _,H,I,rfl,?_⟩;rw[show its.toArray.any (AB da ds its)=its.any (AB da ds its) by simp,sx I g r w];exact k _ F H (Step.refl g) rfl aV
   ·cases hd'
 |dct ks ds=>
   have hd':(nF da).map (λk=>!(jO k ks ds).isSome)=a_ b:=by cases da<;>exact hd
   obtain⟨kk,hk,hd'⟩:=dJ hd';subst hd';obtain⟨p,k_,rfl,hF,rfl,rr⟩:=rb;obtain rfl:=tP hk ra;obtain rfl:u=.ref p:=ry
   have e1:(jO kk (k_.map (·.1)) ds).isSome=(m9 k_ kk).isSome:=by
    cases q:jO kk (k_.map (·.1)) ds with
    |none=>rw[qJ q rr];rfl
    |some d=>obtain⟨w,e2,_⟩:=nZ q rr;rw[e2];rfl
   refine M8 (o:=m9 k_ kk) (by omega) I (uY.k (g.sub _ _ hF)) rx λs' I'=>⟨.bl _,H,I',rfl,?_⟩
   rw[<-e1];exact k _ F H (Step.refl g) rfl aV
 |_=>cases da<;>cases hd
set_option tactic.hygienic false
end
def gM(K:Fg)(f:Dat->List Dat->g_):V->List V->Hp->VK->Prop:=λx xs H Q=>∃da ds d fr F,f da ds=a_ (d,fr)/\Good F H/\Rep K F da x/\cv K F ds xs/\∀v F' H',Step F H F' H'->Rep K F' d v->(fr=c_->fJ K H H' d v)->Q v H'
section
variable{X:Cx}{C:Fs}{o e:aF}{es:List aF}{xo:Ex}{xs:List Ex}
def Ey{m:SG}(hs:∀da ds r,mL m da ds=a_ r->∃z,da=.str z):∀σ H Q,gE X.K C (.mM m xo xs) σ H Q->Ts X.K "str" (gM X.K (mL m)) (gE X.K C xo) (gA X.K C xs) σ H Q:=λσ H Q z3=>by
 obtain⟨ρ,d,fr,h,F,g,R,k⟩:=z3;obtain⟨⟨da,fa⟩,h1,h⟩:=bV h;obtain⟨ds,h2,h3⟩:=bV h;obtain⟨z,hz⟩:=hs da ds _ h3;refine⟨ρ,da,fa,h1,F,g,R,λv F1 H1 st1 r1 _=>⟨?_,ρ,ds,h2,F1,st1.good,R.mono st1.ff,λvs F2 H2 st2 r2=>⟨da,ds,d,fr,F2,h3,st2.good,r1.mono st2.ff,r2,λw F3 H3 st3 r3 f3=>k w F3 H3 ((st1.trans st2).trans st3) r3 λq=>(f3 q).back (F:=F) (st1.hh.trans st2.hh)⟩⟩⟩;rw[hz]at r1;rw[show v=.str z from r1];exact rfl
def D3{y:aN}{vs:List V}{us:List aa}{F:Hp}(r:cv X.K F [.str y] vs)(w:bZ vs us):∃t,us=[.str y t]:=by
 obtain⟨v,q,e,r1,r2⟩:=r;rw[show q=[]from r2]at e;subst e;rw[show v=.str y from r1]at w;obtain⟨u,rfl,t,rfl⟩:=vals1 w;exact⟨t,rfl⟩
section
variable{h_:List (af×er)}{s:ae}{σ:St}{H:Hp}
set_option tactic.hygienic true
def zG{da:Dat}{ds:List Dat}{r:Dat×Bool}(h:mL .find da ds=a_ r):∃x y,da=.str x/\ds=[.str y]/\mL .find (.str x) [.str y]=a_ r:=by
 cases da with
 |str x=>
   cases ds with
   |nil=>cases h
   |cons d1 ds=>
     cases ds with
     |nil=>
       cases d1 with
       |str y=>exact⟨x,y,rfl,rfl,h⟩
       |_=>cases h
     |cons _ _=>cases d1<;>cases h
 |_=>cases ds<;>first|cases h|(rename_i d1 ds;cases ds<;>cases d1<;>cases h)
def zE{da:Dat}{ds:List Dat}{r:Dat×Bool}(h:mL .join da ds=a_ r):∃x es,da=.str x/\ds=[.lst es]/\mL .join (.str x) [.lst es]=a_ r:=by
 cases da with
 |str x=>
   cases ds with
   |nil=>cases h
   |cons d1 ds=>
     cases ds with
     |nil=>
       cases d1 with
       |lst y=>exact⟨x,y,rfl,rfl,h⟩
       |_=>cases h
     |cons _ _=>cases d1<;>cases h
 |_=>cases ds<;>first|cases h|(rename_i d1 ds;cases ds<;>cases d1<;>cases h)
def Mj:SH X "str.find" (gM X.K (mL .find)):=λh_ s σ H x xs v us Q I rx rv z12=>by
 obtain⟨da,ds,d,fr,F,h,g,ra,rs,k⟩:=z12;obtain⟨x',y,rfl,rfl,h⟩:=zG h;cases h;rw[show x=.str x' from ra]at rx;obtain⟨t,rfl⟩:=rx;obtain⟨u,rfl⟩:=D3 rs rv;exact SC.find ⟨.int _,H,I.tok _,⟨_,rfl⟩,k _ F H (Step.refl g) rfl aV⟩
theorem yF{F:Hp}:∀{es:List Dat}{ys:List aN}{vs:List V}{us:List aa},oF es=a_ ys->cv X.K F es vs->bZ vs us->oS us ys
 |[],ys,vs,us,h,r,w=>by
   cases h;rw[show vs=[]from r]at w;cases w;exact .nil
 |d::es,ys,vs,us,h,r,w=>by
   cases d with
   |str x=>
     simp only[oF]at h;obtain⟨zs,h1,h⟩:=dJ h;cases h;obtain⟨v,q,e,r1,r2⟩:=r;subst e;rw[show v=.str x from r1]at w
     cases w with
     |cons w1 w2=>
       obtain⟨t,rfl⟩:=w1;exact .cons x t (yF h1 r2 w2)
   |_=>cases h
def Mi:SH X "str.join" (gM X.K (mL .join)):=λh_ s σ H x xs v us Q I rx rv z12=>by
 obtain⟨da,ds,d,fr,F,h,g,ra,rs,k⟩:=z12;obtain⟨x',es,rfl,rfl,h⟩:=zE h;simp only[mL,UD,Q0,Wz,QZ,Q2]at h;obtain⟨ys,h1,h⟩:=bV h;split at h
 ·rename_i hz;cases h;rw[show x=.str x' from ra]at rx;obtain⟨t,rfl⟩:=rx;obtain⟨v1,q,e,⟨p,vs,e1,tq,r1⟩,r2⟩:=rs;rw[show q=[]from r2]at e;subst e e1;obtain⟨u,rfl,ru⟩:=vals1 rv;obtain rfl:u=.ref p:=ru;obtain⟨its,w1,pl,_⟩:=I.lstR g tq;exact join_list pl.isList (by simpa using yF h1 r1 w1) (by omega) λt' k'=>⟨.str _,H,I.tok _,⟨_,rfl⟩,k _ F H (Step.refl g) rfl aV⟩
 ·cases h
set_option tactic.hygienic false
end
end
section
variable{X:Cx}{C:Fs}{o e:aF}{es:List aF}{xo xa:Ex}{xs:List Ex}{pos:dZ}
def fJ.BO{K:Fg}{H:Hp}{p:af}(hp:H p=b_):fJ K H (L2.upd H p (.dK [])) (.dct [] []) (.ref p):=
 ⟨[p],by simp,λa m=>by rw[aZ.mp m];exact hp,p,[],[],rfl,bu,rfl,⟨rfl,rfl⟩,rfl⟩
def Le:SE X C (.Dict [] [] pos) .BO:=PE.imp Hx λσ H Q z3 p hp=>by
 obtain⟨ρ,d,fr,h,F,g,R,k⟩:=z3;cases h;exact k _ _ _ (Step.alloc g hp) ⟨p,[],rfl,bu,rfl,rfl⟩ λ_=>.BO hp
noncomputable def baseOk:aF->Bool
 |.Call (.Name _ _) [] [] _=>d_
 |_=>c_
def og{m:aN}{env:mK}{w:Sem aa}(h:baseOk o=c_):attributeBase o m env w=w:=by
 cases o with
 |Call f a k p=>
   cases f with
   |Name x q=>
     cases a with
     |nil=>
       cases k with
       |nil=>cases h
       |cons _ _=>rfl
     |cons _ _=>rfl
   |_=>rfl
 |_=>rfl
def Og{m:SG}{name:aN}{id:String}{ap cp:dZ}(slot:Slot "str" name id)(ty:typeOf (.builtin id)=pure (.type "method_descriptor"))(hm:SH X id (gM X.K (mL m)))(hs:∀da ds r,mL m da ds=a_ r->∃z,da=.str z)
  (ho:SE X C o xo)(ha:SA X C [e] [xa])(hb:baseOk o=c_)(hl:(ap.endLine == cp.line)=c_)(h1:aI [e] X.env=(d_,eval e X.env)::aI [] X.env):SE X C (.Call (.Attribute o name ap) [e] [] cp) (.mM m xo [xa]):=
 PE.imp (vA PySem.F.plainAttrs_str slot ty hm ho ha (og hb) (by rw[h1];rfl) hl h1 rfl) (Ey hs)
noncomputable def R0(m:aN)(k:Nat):Option SG:=
 if m="join"/\k=1 then a_ .join else if m="find"/\k=1 then a_ .find else b_
set_option tactic.hygienic true in
def Nx{m:aN}{mt:SG}{ap cp:dZ}(hu:X.A.units+1<di)(h:R0 m es.length=a_ mt)(ho:SE X C o xo)(ha:SA X C es xs)(hlen:xs.length=es.length)(hst:∀e,es=[e]->aI [e] X.env=(d_,eval e X.env)::aI [] X.env)(hb:baseOk o=c_)(hl:(ap.endLine == cp.line)=c_) :
  SE X C (.Call (.Attribute o m ap) es [] cp) (.mM mt xo xs):=by
 have one:es.length=1->∃e xa,es=[e]/\xs=[xa]:=λq=>by
  match es,xs,hlen,q with
  |[e],[xa],_,_=>exact⟨e,xa,rfl,rfl⟩
 have nil:es.length=0->es=[]/\xs=[]:=λq=>by
  match es,xs,hlen,q with
  |[],[],_,_=>exact⟨rfl,rfl⟩
 unfold R0 at h;split at h
 ·rename_i q;cases h;obtain⟨rfl,q⟩:=q;obtain⟨e,xa,rfl,rfl⟩:=one q;exact Og PySem.F.slot_str_join PySem.F.type_str_join Mi (λ_ _ _ h=>let ⟨x,_,q,_⟩:=zE h;⟨x,q⟩) ho ha hb hl (hst e rfl)
 split at h
 ·rename_i q;cases h;obtain⟨rfl,q⟩:=q;obtain⟨e,xa,rfl,rfl⟩:=one q;exact Og PySem.F.slot_str_find PySem.F.type_str_find Mj (λ_ _ _ h=>let ⟨x,_,q,_⟩:=zG h;⟨x,q⟩) ho ha hb hl (hst e rfl)
 ·cases h
end
noncomputable def De:Dat->Dat->g_
 |.lst ds,.bl b=>(jx ds).map λbs=>(.int (bs.countP (·== b):Nat),d_)
 |_,_=>b_
noncomputable def Dd:Dat->Dat->g_
 |.lst ds,.bl b=>(jx ds).bind λbs=>(bs.findIdx? (·== b)).map λj=>(.int (j:Nat),d_)
 |_,_=>b_
noncomputable def Ex.Q6(a b:Ex):Ex:=⟨a.fv++b.fv,λC ρ=>(bw C a ρ).bind λx=>(bw C b ρ).bind λy=>De x.1 y.1⟩
noncomputable def Ex.Q5(a b:Ex):Ex:=⟨a.fv++b.fv,λC ρ=>(bw C a ρ).bind λx=>(bw C b ρ).bind λy=>Dd x.1 y.1⟩
section
variable{X:Cx}{C:Fs}{o e:aF}{xo xa:Ex}{ap cp:dZ}
def Wj(K:Fg)(g:Dat->Dat->g_):V->List V->Hp->VK->Prop:=λx vs H Q=>∃F da db d w,Good F H/\Rep K F da x/\vs=[w]/\Rep K F db w/\g da db=a_ (d,d_)/\∀z,Rep K F d z->Q z H
noncomputable def UM(b:Bool):aa->Bool
 |.bool c=>c == b
 |_=>d_
def zw{da db d:Dat}{fr:Bool}(h:De da db=a_ (d,fr)):∃ds b bs,da=.lst ds/\db=.bl b/\jx ds=a_ bs/\d=.int (bs.countP (·== b):Nat)/\fr=d_:=by
 unfold De at h;split at h
 ·obtain⟨bs,h1,h2⟩:=dJ h;cases h2;exact⟨_,_,bs,rfl,rfl,h1,rfl,rfl⟩
 ·cases h
def zt{da db d:Dat}{fr:Bool}(h:Dd da db=a_ (d,fr)):∃ds b bs j,da=.lst ds/\db=.bl b/\jx ds=a_ bs/\bs.findIdx? (·== b)=a_ j/\d=.int (j:Nat)/\fr=d_:=by
 unfold Dd at h;split at h
 ·obtain⟨bs,h1,h2⟩:=bV h;obtain⟨j,h3,h4⟩:=dJ h2;cases h4;exact⟨_,_,bs,j,rfl,rfl,h1,h3,rfl,rfl⟩
 ·cases h
def zU{h_:List (af×er)}{σ:St}{H F:Hp}{s:ae}(hu:X.A.units+1<di)(I:Inv X h_ σ H s)(g:Good F H){bs:List Bool}{b:Bool}:∀y,y∈(bs.map iV).toArray->ux X.A.in1 s y (.bool b) (UM b y):=λy hy=>by
 obtain⟨c,_,rfl⟩:=aG.mp (List.mem_toArray.mp hy);have:=(qb I g 0 X.A.in1 (.bl c) (.bl b) (x:=.bl c) (y:=.bl b) (u:=.bool c) (w:=.bool b) (by show X.A.units+1+0<di;omega) rfl rfl rfl rfl rfl rfl).1;exact this
def Mh(hu:X.A.units+1<di):SH X "list.count" (Wj X.K De):=λh_ s σ H x vs v us Q I rx rv h=>by
 obtain⟨F,da,db,d,w,g,ra,rfl,rb,hd,q⟩:=h;obtain⟨ds,b,bs,rfl,rfl,hb,rfl,_⟩:=zw hd;obtain⟨p,ws,rfl,t,r'⟩:=ra;obtain⟨its,w1,pl,_⟩:=I.lstR g t;cases rx;obtain⟨u,rfl,ru⟩:=rv.one;cases rb;obtain rfl:u=.bool b:=ru;have ei:=lV hb r' w1;subst ei;obtain⟨⟨oc,od,dt,sl⟩,n,e1,e2,e3,e4⟩:=pl;dsimp only at e2 e3 e4;subst e2 e3 e4;refine mh u9 ⟨_,e1,rfl⟩ PySem.F.entry_list_count (PySem.F.args_list_count_2 _ _) (SeqAt.list_countAt p _ n b_ sl (.bool b) (UM b)) ⟨e1,zU hu I g,?_⟩
 have ec:(bs.map iV).toArray.toList.countP (UM b)=bs.countP (·== b):=by
  rw[pv,List.countP_map];rfl
 rw[ec];exact⟨.int _,H,I.tok _,⟨_,rfl⟩,q _ rfl⟩
def Mg(hu:X.A.units+1<di):SH X "list.index" (Wj X.K Dd):=λh_ s σ H x vs v us Q I rx rv h=>by
 obtain⟨F,da,db,d,w,g,ra,rfl,rb,hd,q⟩:=h;obtain⟨ds,b,bs,j,rfl,rfl,hb,hj,rfl,_⟩:=zt hd;obtain⟨p,ws,rfl,t,r'⟩:=ra;obtain⟨its,w1,pl,hz⟩:=I.lstR g t;cases rx;obtain⟨u,rfl,ru⟩:=rv.one;cases rb;obtain rfl:u=.bool b:=ru;have ei:=lV hb r' w1;have hlen:its.length<=aD:=by rw[<-w1.length];exact hz
 subst ei;obtain⟨⟨oc,od,dt,sl⟩,n,e1,e2,e3,e4⟩:=pl;dsimp only at e2 e3 e4;subst e2 e3 e4;obtain⟨hjl,hjb,hjn⟩:=qu.mp hj;have hjs:j<(bs.map iV).toArray.size:=by simpa using hjl
 refine mh u7 ⟨_,e1,rfl⟩ PySem.F.entry_list_index (PySem.F.args_list_index_2 _ _) (SeqAt.list_indexAt p _ n b_ sl (.bool b) (UM b) j hjs ?_ ?_ ?_) ⟨e1,zU hu I g,?_⟩
 ·rw[ak]at hlen;have h63:(2:Int) ^ 63 - 1=9223372036854775807:=by decide
  rw[h63];rw[bT]at hlen;omega
 ·rw[oB,rW];exact hjb
 ·intro m hm hmj;rw[oB,rW];have:=hjn m hmj;simpa [UM]using this
 ·exact⟨.int _,H,I.tok _,⟨_,rfl⟩,q _ rfl⟩
def Dc{g:Dat->Dat->g_}{z:Ex}(hz:∀ρ d fr,bw C z ρ=a_ (d,fr)->∃x y,bw C xo ρ=a_ x/\bw C xa ρ=a_ y/\g x.1 y.1=a_ (d,fr))(hg:∀da db d fr,g da db=a_ (d,fr)->(∃ds,da=.lst ds)/\fr=d_):∀σ H Q,gE X.K C z σ H Q->Ts X.K "list" (Wj X.K g) (gE X.K C xo) (gA X.K C [xa]) σ H Q:=λσ H Q z3=>by
 obtain⟨ρ,d,fr,h,F,gd,R,k⟩:=z3;obtain⟨⟨da,fa⟩,⟨db,fb⟩,h1,h2,h3⟩:=hz ρ d fr h;obtain⟨⟨ds,e⟩,hfr⟩:=hg _ _ _ _ h3;have e:da=.lst ds:=e;subst e hfr;refine⟨ρ,_,fa,h1,F,gd,R,λv F1 H1 st1 r1 _=>⟨?_,ρ,[db],by simp only[hZ];rw[h2];rfl,F1,st1.good,R.mono st1.ff,λvs F2 H2 st2 r2=>?_⟩⟩
 ·obtain⟨p,ws,rfl,t,_⟩:=r1;exact .inl ⟨rfl,ws,st1.good.sub.seq t⟩
 ·obtain⟨w,r',rfl,q1,e⟩:=r2;cases e;exact⟨F2,_,db,d,w,st2.good,Rep.mono st2.ff _ r1,rfl,q1,h3,λz rz=>k z F2 H2 (st1.trans st2) rz aV⟩
def Lc(hu:X.A.units+1<di)(ho:SE X C o xo)(ha:SA X C [e] [xa])(hb:baseOk o=c_)(hl:(ap.endLine == cp.line)=c_)(h1:aI [e] X.env=(d_,eval e X.env)::aI [] X.env):SE X C (.Call (.Attribute o "count" ap) [e] [] cp) (.Q6 xo xa):=
 PE.imp (vA eu u9 PySem.F.type_list_count (Mh hu) ho ha (og hb) (by rw[h1];rfl) hl h1 rfl) (Dc (λρ d fr h=>by
  obtain⟨x,h1,h⟩:=bV h;obtain⟨y,h2,h⟩:=bV h
  exact⟨x,y,h1,h2,h⟩) λda db d fr h=>let ⟨ds,_,_,e,_,_,_,f⟩:=zw h;⟨⟨ds,e⟩,f⟩)
def Lb(hu:X.A.units+1<di)(ho:SE X C o xo)(ha:SA X C [e] [xa])(hb:baseOk o=c_)(hl:(ap.endLine == cp.line)=c_)(h1:aI [e] X.env=(d_,eval e X.env)::aI [] X.env):SE X C (.Call (.Attribute o "index" ap) [e] [] cp) (.Q5 xo xa):=
 PE.imp (vA eu u7 PySem.F.type_list_index (Mg hu) ho ha (og hb) (by rw[h1];rfl) hl h1 rfl) (Dc (λρ d fr h=>by
  obtain⟨x,h1,h⟩:=bV h;obtain⟨y,h2,h⟩:=bV h
  exact⟨x,y,h1,h2,h⟩) λda db d fr h=>let ⟨ds,_,_,_,e,_,_,_,_,f⟩:=zt h;⟨⟨ds,e⟩,f⟩)
end
noncomputable def Wy(op:uq)(j:Nat)(ds:List Dat):Dat->Option Dat
 |.tup ws=>(ws[j]?).bind λe=>(ju op e ds).map λe'=>.tup (ws.set j e')
 |_=>b_
noncomputable def QU(op:uq)(i j:Nat)(ρ:bQ)(ds:List Dat):g_->Option Out
 |some (d,c_)=>(Wy op j ds d).map λd'=>.nx (ρ.set i (a_ (d',c_)))
 |_=>b_
noncomputable def Sx.Az(op:uq)(i j:Nat)(es:List Ex):Sx:={ ex:=λC ρ=>(lD C es (full ρ)).bind λx=>if x.2=c_ then QU op i j ρ x.1 (ρ[i]?).join else b_ }
section
variable{X:Cx}{C:Fs}{K:Fg}{EE:XK}
def HW{op:uq}{i j:Nat}{es:List Ex}{ρ:bQ}{out:Out}(h:fH C (.Az op i j es) ρ=a_ out) :
  ∃ds ws e e',lD C es (full ρ)=a_ (ds,c_)/\ρ[i]?=a_ (a_ (.tup ws,c_))/\ws[j]?=a_ e/\ju op e ds=a_ e'/\out=.nx (ρ.set i (a_ (.tup (ws.set j e'),c_))):=by
 obtain⟨⟨ds,al⟩,h3,h⟩:=bV h;have h:(if al=c_ then QU op i j ρ ds (ρ[i]?).join else b_)=a_ out:=h;by_cases hal:al=c_
 ·rw[if_pos hal]at h;subst hal
  cases q:ρ[i]? with
  |none=>rw[q]at h;cases h
  |some z=>
    rw[q]at h
    match z,h with
    |some (d,c_),h=>
      obtain⟨d',h4,h5⟩:=dJ h
      cases d with
      |tup ws=>
        obtain⟨e,g3,h4⟩:=bV h4;obtain⟨e',g4,rfl⟩:=dJ h4;exact⟨ds,ws,e,e',h3,rfl,g3,g4,h5.symm⟩
      |_=>cases h4
 ·rw[if_neg hal]at h;cases h
def Vu(K:Fg)(op:uq)(H:Hp)(l:af)(us:List V)(ob':HO):Prop:=
 (op≠.ext->∃ob,H l=a_ ob/\Br op ob us=a_ ob')/\(op=.ext->∃xs b zs,H l=a_ (.lst xs)/\us=[.ref b]/\(mB K H b zs\/rL K H b zs)/\xs.length+zs.length<=aD/\ob'=.lst (xs++zs))
def Nl{op:uq}{e e':Dat}{ds:List Dat}(h2:op≠.dput)(h0:op≠.seti)(h:ju op e ds=a_ e'):∃ls,e=.lst ls:=by
 cases e with
 |lst ls=>exact⟨ls,rfl⟩
 |_=>cases op<;>first|exact absurd rfl h2|exact absurd rfl h0|cases h
def Nk{H:Hp}{op:uq}{ls:List Dat}{e':Dat}{v:V}{S T:List af}{ds:List Dat}{us:List V}(h2:op≠.dput)(h0:op≠.seti)(h:ju op (.lst ls) ds=a_ e')(o:kY K H (.lst ls) v S)(nd:S.Nodup)(a:cD K H ds us T)(nt:T.Nodup)(dj:∀a∈S,a∉T) :
  ∃l ob' S',v=.ref l/\l∈S/\Vu K op H l us ob'/\JJ ob'/\kY K (upd H l ob') e' v S'/\S'.Nodup/\∀a∈S',a∈S\/a∈T:=by
 by_cases he:op=.ext
 ·subst he;obtain⟨l,xs,b,zs,S',e1,e2,e3,e4,e5,e6,e7,e8,e9⟩:=MW h o nd a nt dj;exact⟨l,_,S',e1,e2,⟨λz=>absurd rfl z,λ_=>⟨xs,b,zs,e3,e4,e5,e6,rfl⟩⟩,trivial,e7,e8,e9⟩
 ·obtain⟨l,ob,ob',S',e1,e2,e3,e4,e5,e6,e7,e8⟩:=C8 he h2 h o nd a nt dj;exact⟨l,ob',S',e1,e2,⟨λ_=>⟨ob,e3,e4⟩,λz=>absurd z he⟩,e5,e6,e7,e8⟩
def Kr{H:Hp}{ws:List Dat}{j:Nat}{e e':Dat}{p l:af}{vs:List V}{S1 S2 S3 T S2':List af}{ob':HO}(tq:Tq K H p vs)(hj:ws[j]?=a_ e)(f4:cD K H (ws.take j) (vs.take j) S1)(f5:cD K H (ws.drop (j+1)) (vs.drop (j+1)) S3)(f6:vs=vs.take j++.ref l::vs.drop (j+1))(nd:(S1++(S2++S3)).Nodup)(hl2:l∈S2)
  (nt':∀us,H l≠a_ (.tup us))(o2:kY K (upd H l ob') e' (.ref l) S2')(nd2:S2'.Nodup)(hS2:∀a∈S2',a∈S2\/a∈T)(dj:∀a∈S1++(S2++S3),a∉T) :
  kY K (upd H l ob') (.tup (ws.set j e')) (.ref p) (S1++(S2'++S3))/\(S1++(S2'++S3)).Nodup/\∀a∈S1++(S2'++S3),a∈S1++(S2++S3)\/a∈T:=by
 have n1:=jt nd;have n2:=jt n1.2.1;have hl1:l∉S1:=λm=>n1.2.2 l m (aL _ hl2);have hl3:l∉S3:=λm=>n2.2.2 l hl2 m;have i1:∀a∈S1,a∈S1++(S2++S3):=λa m=>aL _ m;have i2:∀a∈S2,a∈S1++(S2++S3):=λa m=>ax _ (aL _ m);have i3:∀a∈S3,a∈S1++(S2++S3):=λa m=>ax _ (ax _ m);refine⟨⟨p,vs,rfl,?_,?_⟩,jM n1.1 (jM nd2 n2.2.1 λa m m3=>?_) λa m m2=>?_,λa m=>?_⟩
 ·rcases tq with t|t
  ·refine .inl ?_;rw[bB (λz=>nt' vs (by rw[<-z];exact t))];exact t
  ·exact .inr t
 ·have q:=(f4.upd (o:=ob') nt' _ hl1).append ((cD.one o2).append (f5.upd (o:=ob') nt' _ hl3))
  have ed:ws.set j e'=ws.take j++([e']++ws.drop (j+1)):=by
   rw[List.set_eq_take_append_cons_drop,if_pos (a9.mp hj).1];rfl
  rw[ed];exact f6.symm▸q
 ·rcases hS2 a m with z|z
  ·exact n2.2.2 a z m3
  ·exact dj a (i3 a m3) z
 ·rcases aK.mp m2 with m2|m2
  ·rcases hS2 a m2 with z|z
   ·exact n1.2.2 a m (aL _ z)
   ·exact dj a (i1 a m) z
  ·exact n1.2.2 a m (ax _ m2)
 ·rcases aK.mp m with m|m
  ·exact .inl (i1 a m)
  ·rcases aK.mp m with m|m
   ·rcases hS2 a m with z|z
    ·exact .inl (i2 a z)
    ·exact .inr z
   ·exact .inl (i3 a m)
def zi{op:uq}{i j:Nat}{es:List Ex}(h2:op≠.dput)(h0:op≠.seti){D:Ends}{σ:St}{H:Hp}(h:gS K C EE (.Az op i j es) D σ H) :
  ∃p vs l xs,σ[i]?=a_ (a_ (.ref p))/\rL K H p vs/\vs[j]?=a_ (.ref l)/\H l=a_ (.lst xs)/\gF K C es σ H λus H1=>∃ob',Vu K op H1 l us ob'/\D.nx σ (upd H1 l ob'):=by
 obtain⟨Fz,H₀,F,ρ,out,h,R,kq⟩:=h;obtain⟨ds,ws,e,e',g3,hi,g5,g6,rfl⟩:=HW h;obtain⟨Ss,O⟩:=R.ow;obtain⟨v,e1,e2,e3,e4⟩:=O.own i _ hi;obtain⟨ls,rfl⟩:=Nl h2 h0 g6;obtain⟨p,vs,rfl,tq,os⟩:=id e2;obtain⟨vk,S1,S2,S3,f1,f2,f3,f4,f5,f6⟩:=os.at g5;obtain⟨l,xs,S',rfl,hl,_⟩:=id f2;refine⟨p,vs,l,xs,e1,tq.sq,f1,hl,xG R g3 λus F' H' T st ow nT hT=>?_⟩;have O':=O.moved st;have R':=R.moved st
 have dj:∀a∈Ss i,a∉T:=λa m m2=>by
  obtain⟨u,hu,_⟩:=e2.yk _ a m;rw[(hT a m2).1]at hu;cases hu
 rw[f3]at dj e3;have n1:=jt e3;have n2:=jt n1.2.1;obtain⟨l2,ob',S2',ev,hl2,hch,mu,o2,nd2,hS2⟩:=Nk h2 h0 g6 (f2.mono st.hh) n2.1 ow nT λa m=>dj a (ax _ (aL _ m));cases ev;have nt':∀us,H' l≠a_ (.tup us):=λus z=>by rw[st.hh _ _ hl]at z;cases z
 obtain⟨q1,q2,q3⟩:=Kr (tq.mono st.hh) g5 (f4.mono st.hh) (f5.mono st.hh) f6 e3 hl2 nt' o2 nd2 hS2 dj;refine⟨ob',hch,kq F' _ σ st.ff (R'.mut O' hi e1 (by rw[f3];exact ax _ (aL _ hl2)) mu q1 q2 λa m=>?_)⟩
 rcases q3 a m with m|m
 ·exact .inl (by rw[f3];exact m)
 ·refine .inr ⟨(hT a m).2,R.step.hh.free (hT a m).1,λj d2 q m2=>?_⟩;obtain⟨w,_,g2,_⟩:=O.own j d2 q;obtain⟨u,hu,_⟩:=g2.yk _ a m2;rw[(hT a m).1]at hu;cases hu
def KG{i j:Nat}{es:List Ex}{st:fw}(hm:PS X st (Cj (Ts X.K "list" (T8 X.K) (O5 (Qc X.K) (AX i) (tC (.int j))) (gF X.K C es)))):SS X C EE st (.Az .ext i j es):=PS.imp hm λD σ H h=>by
 obtain⟨p,vs,l,xs,e1,e2,e3,e4,g⟩:=zi (by simp) (by simp) h;refine⟨.ref p,e1,p,vs,(j:Int),.ref l,rfl,rfl,e2,g9 e3,.inl ⟨rfl,xs,mB.of e4⟩,?_⟩;obtain⟨ρ,ds,al,h,F,gg,R,k⟩:=g;refine⟨ρ,ds,al,h,F,gg,R,λus F' H' st r f=>?_⟩;obtain⟨ob',q1,q2⟩:=k us F' H' st r f;obtain⟨xs,b,zs,z1,z2,z3,z4,rfl⟩:=q1.2 rfl;exact⟨l,b,xs,zs,rfl,z2,z1,z3,z4,q2⟩
def KH{i j:Nat}{st:fw}(hm:PS X st (Cj (Tr X.K "list" Bi (O5 (Qc X.K) (AX i) (tC (.int j)))))):SS X C EE st (.Az .clr i j []):=PS.imp hm λD σ H h=>by
 obtain⟨p,vs,l,xs,e1,e2,e3,e4,g⟩:=zi (by simp) (by simp) h;refine⟨.ref p,e1,p,vs,(j:Int),.ref l,rfl,rfl,e2,g9 e3,.inl ⟨rfl,xs,mB.of e4⟩,?_⟩;obtain⟨ρ,ds,al,h,F,gg,R,k⟩:=g;simp only[lD]at h;cases h;obtain⟨ob',q1,q2⟩:=k [] F H (Step.refl gg) rfl λ_=>.nil;obtain⟨ob,z1,z2⟩:=q1.1 (by simp);exact Rw l ob ob' [] H _ z1 z2 λ_=>q2
end
noncomputable def zk:Int->List Int->Int
 |i,[]=>i
 |i,j::r=>zk (if j<i then j else i) r
set_option tactic.hygienic true in
theorem Bv:∀(r:List Int)(i:Int),zk i r<=i/\∀j∈r,zk i r<=j
 |[],i=>⟨Int.le_refl _,λj h=>nomatch h⟩
 |a::r,i=>by
   have q:=Bv r (if a<i then a else i);simp only[zk];split at q
   ·rename_i h;rw[if_pos h];refine⟨by omega,λj m=>?_⟩
    rcases ah.mp m with rfl|m
    ·exact q.1
    ·exact q.2 j m
   ·rename_i h;rw[if_neg h];refine⟨q.1,λj m=>?_⟩
    rcases ah.mp m with rfl|m
    ·omega
    ·exact q.2 j m
theorem xn:∀(r:List Int)(i:Int),zk i r∈i::r
 |[],i=>by simp[zk]
 |a::r,i=>by
   simp only[zk];have q:=xn r (if a<i then a else i)
   rcases ah.mp q with q|q
   ·rw[q];split<;>simp
   ·exact jN _ (jN _ q)
noncomputable def zf:Dat->g_
 | .tup ds=>(j8 ds).bind λis=>match is with
   |[]=>b_
   |i::r=>a_ (.int (vE i r),d_)
 |d=>dw .max [d]
noncomputable def zj:Dat->g_
 | .tup ds=>(j8 ds).bind λis=>match is with
   |[]=>b_
   |i::r=>a_ (.int (zk i r),d_)
 |_=>b_
noncomputable def Ex.un(f:Dat->g_)(a:Ex):Ex:=⟨a.fv,λC ρ=>(bw C a ρ).bind λx=>f x.1⟩
section
variable{X:Cx}{C:Fs}
def yD{h_:List (af×er)}{σ:St}{H F:Hp}{s:ae}{p:af}{vs:List V}{ds:List Dat}{is:List Int}(I:Inv X h_ σ H s)(g:Good F H)(t:Tq X.K F p vs)(r':cv X.K F ds vs)(hb:j8 ds=a_ is) :
  ∃xs:Array (Int×Tok),s.heap.IsTuple p (intItems xs)/\xs.toList.map (·.1)=is:=by
 obtain⟨its,w1,pl,_⟩:=I.tuple (t.mono g.sub).sq;have ei:=qL hb r' w1;obtain⟨xs,e⟩:=ei.allInts.items;have pl':s.heap.IsTuple p its.toArray:=pl;rw[e]at pl';refine⟨xs,pl',?_⟩;have h1:=nums_intItems xs;rw[<-e]at h1;exact h1.symm.trans ei.numsOf
def Jn(hcalm:X.calm=c_):ig X (.builtin "max") (gL X.K (b1 zf)):=λh_ s σ H xs us Q I r h=>by
 obtain⟨da,d,fr,F,v,h1,rfl,g,rv,k⟩:=mw (λ_ _ _ h=>B0 h) h
 cases da with
 |tup ds=>
   obtain⟨is,hb,h1⟩:=bV h1
   cases is with
   |nil=>cases h1
   |cons i is=>
     cases h1;obtain⟨p,vs,rfl,t,r'⟩:=rv;obtain⟨xs,pl,en⟩:=yD I g t r' hb;obtain⟨u,rfl,ru⟩:=vals1 r;cases ru
     have hsz:0<xs.size:=by
      have:=congrArg lH en;simp at this;omega
     have hlt:p<s.heap.objs.size:=let ⟨_,z,_⟩:=pl;hl9 z;refine call_max_walk (me pl ?_)
     refine⟨s.heap.objs.size,[s.heap.objs.size,p],[s.heap.objs.size],(intItems xs).size,_,_,_,rfl,Walks.tuple (A:=X.A.in1) (I.ok.hd hcalm) _ p (ba hlt) (intItems xs),
      ⟨⟨_,aJ _ rfl,rfl,rfl⟩,pl.push _⟩,?_,by simpa [intItems]using hsz,CmpOf.ints_gt (numAt xs) λ_ _=>qp,λv h' tk hv hk=>?_⟩
     ·intro b hb;show b<(s.heap.objs.push _).size;rw[JV]
      rcases ah.mp hb with rfl|hb
      ·exact iE _
      ·rcases ah.mp hb with rfl|hb
       ·exact jr hlt
       ·cases hb
     obtain⟨t,rfl⟩:=qp hv;have hs:(intItems xs).size=xs.size:=by simp[intItems]
     rw[hs];obtain⟨g1,g2⟩:=argBest_gt (numAt xs) (xs.size - 1)
     have hM:numAt xs (argBest (λi j=>decide (numAt xs i > numAt xs j)) (xs.size - 1))=vE i is:=by
      refine uH ?_ ?_
      ·have hm:numAt xs (argBest (λi j=>decide (numAt xs i > numAt xs j)) (xs.size - 1))∈i::is:=by
        rw[<-en,uu];exact getD_mem (by rw[ak,bA];omega)
       have q:=xm is i
       rcases ah.mp hm with z|z
       ·rw[z];exact q.1
       ·exact q.2 _ z
      ·have hm:vE i is∈xs.toList.map (·.1):=by rw[en];exact se is i
       obtain⟨j,hj,e2⟩:=mem_getD hm;rw[ak,bA]at hj;rw[<-e2,<-uu];exact g2 j (by omega)
     rw[hM];exact⟨.int _,H,I.kept (n5 hk),⟨_,rfl⟩,k _ F H (Step.refl g) rfl aV⟩
 |lst ds=>exact E6 hcalm h_ s σ H _ us Q I r ⟨[.lst ds],d,fr,h1,F,g,⟨_,_,rfl,rv,rfl⟩,k⟩
 |_=>cases h1
def Jo(hcalm:X.calm=c_):ig X (.builtin "min") (gL X.K (b1 zj)):=λh_ s σ H xs us Q I r h=>by
 obtain⟨da,d,fr,F,v,h1,rfl,g,rv,k⟩:=mw (λ_ _ _ h=>B0 h) h
 cases da with
 |tup ds=>
   obtain⟨is,hb,h1⟩:=bV h1
   cases is with
   |nil=>cases h1
   |cons i is=>
     cases h1;obtain⟨p,vs,rfl,t,r'⟩:=rv;obtain⟨xs,pl,en⟩:=yD I g t r' hb;obtain⟨u,rfl,ru⟩:=vals1 r;cases ru
     have hsz:0<xs.size:=by
      have:=congrArg lH en;simp at this;omega
     have hlt:p<s.heap.objs.size:=let ⟨_,z,_⟩:=pl;hl9 z;refine call_min_walk (me pl ?_)
     refine⟨s.heap.objs.size,[s.heap.objs.size,p],[s.heap.objs.size],(intItems xs).size,_,_,_,rfl,Walks.tuple (A:=X.A.in1) (I.ok.hd hcalm) _ p (ba hlt) (intItems xs),
      ⟨⟨_,aJ _ rfl,rfl,rfl⟩,pl.push _⟩,?_,by simpa [intItems]using hsz,CmpOf.ints_lt (numAt xs) λ_ _=>qp,λv h' tk hv hk=>?_⟩
     ·intro b hb;show b<(s.heap.objs.push _).size;rw[JV]
      rcases ah.mp hb with rfl|hb
      ·exact iE _
      ·rcases ah.mp hb with rfl|hb
       ·exact jr hlt
       ·cases hb
     obtain⟨t,rfl⟩:=qp hv;have hs:(intItems xs).size=xs.size:=by simp[intItems]
     rw[hs];obtain⟨g1,g2⟩:=argBest_lt (numAt xs) (xs.size - 1)
     have hM:numAt xs (argBest (λi j=>decide (numAt xs i<numAt xs j)) (xs.size - 1))=zk i is:=by
      refine uH ?_ ?_
      ·have hm:zk i is∈xs.toList.map (·.1):=by rw[en];exact xn is i
       obtain⟨j,hj,e2⟩:=mem_getD hm;rw[ak,bA]at hj;rw[<-e2,<-uu];exact g2 j (by omega)
      ·have hm:numAt xs (argBest (λi j=>decide (numAt xs i<numAt xs j)) (xs.size - 1))∈i::is:=by
        rw[<-en,uu];exact getD_mem (by rw[ak,bA];omega)
       have q:=Bv is i
       rcases ah.mp hm with z|z
       ·rw[z];exact q.1
       ·exact q.2 _ z
     rw[hM];exact⟨.int _,H,I.kept (n5 hk),⟨_,rfl⟩,k _ F H (Step.refl g) rfl aV⟩
 |_=>cases h1
variable{e:aF}{xa:Ex}{pos:dZ}
def GU{x:aN}{p:dZ}{id:String}{f:Dat->g_}(hc:ig X (.builtin id) (gL X.K (b1 f)))(hg:Gl X x)(hm:X.mg x=b_)(hv:bootBuiltins x=a_ (.builtin id))(ha:SA X C [e] [xa])(hn:x≠"__name__")(hdb:(x == ("__debug__":aN))=d_)
  (he:aI [e] X.env=(d_,eval e X.env)::aI [] X.env):SE X C (.Call (.Name x p) [e] [] pos) (.un f xa):=
 PE.imp (ny hc hg hm hv ha hn hdb he rfl) (qf λρ d fr h=>by
  obtain⟨y,h1,h2⟩:=bV h
  exact⟨[y.1],by simp only[hZ];rw[h1];rfl,h2⟩)
end
structure LO{α:Type}(lt:α->α->Bool):Prop where
 irr:∀x,lt x x=d_
 tr:∀x y z,lt x y=c_->lt y z=c_->lt x z=c_
 tot:∀x y,lt x y=d_->lt y x=d_->x=y
def LO.Sk{α:Type}{lt:α->α->Bool}(o:LO lt){x y:α}(h:lt x y=c_):lt y x=d_:=by
 cases q:lt y x with
 |false=>rfl
 |true=>have:=o.tr _ _ _ h q;rw[o.irr]at this;cases this
def LO.WE{α:Type}{lt:α->α->Bool}(o:LO lt){x y z:α}(h:lt y x=d_)(h':lt z y=d_):lt z x=d_:=by
 cases q:lt z x with
 |false=>rfl
 |true=>
   cases r:lt y z with
   |true=>have:=o.tr _ _ _ r q;rw[h]at this;cases this
   |false=>have:=o.tot _ _ r h';subst this;rw[h]at q;cases q
def SR:LO ltI:=⟨λx=>by simp[ltI],λx y z h h'=>by simp[ltI]at *;omega,λx y h h'=>by simp[ltI]at *;omega⟩
def Q4:LO sh:=⟨λx=>by simp[sh],λx y z h h'=>by
  simp only[sh,decide_eq_true_eq]at *
  exact List.lt_trans h h',λx y h h'=>by
  simp only[sh,decide_eq_false_iff_not]at *;have:x.cps.toList=y.cps.toList:=List.le_antisymm (List.not_lt.mp h') (List.not_lt.mp h);obtain⟨a⟩:=x;obtain⟨b⟩:=y;obtain⟨a⟩:=a;obtain⟨b⟩:=b;simp at this
  rw[this]⟩
section
variable{α:Type}{lt:α->α->Bool}
set_option tactic.hygienic true
theorem tJ(o:LO lt){x z:α}:∀{l:List α},z∈tS lt x l↔z=x\/z∈l
 |[]=>by simp[tS]
 |y::ys=>by
   unfold tS;split
   ·rw[ah]
   ·rename_i h1;split
    ·rw[ah,tJ o,ah];constructor
     ·rintro(h|h|h)
      ·exact .inr (.inl h)
      ·exact .inl h
      ·exact .inr (.inr h)
     ·rintro(h|h|h)
      ·exact .inr (.inl h)
      ·exact .inl h
      ·exact .inr (.inr h)
    ·rename_i h2;have:=o.tot x y (by simpa using h1) (by simpa using h2);subst this;rw[ah];exact⟨λh=>.inr h,λh=>h.elim .inl id⟩
theorem kn(o:LO lt){z:α}:∀{l:List α},z∈fQ lt l↔z∈l
 |[]=>Iff.rfl
 |x::l=>by rw[fQ,tJ o,kn o,ah]
theorem CM(o:LO lt){x:α}:∀{l:List α},l.Pairwise (λa b=>lt a b=c_)->(tS lt x l).Pairwise (λa b=>lt a b=c_)
 |[],_=>by simp[tS]
 |y::ys,h=>by
   obtain⟨h1,h2⟩:=gJ.mp h;unfold tS;split
   ·rename_i q;refine gJ.mpr ⟨λz hz=>?_,h⟩
    rcases ah.mp hz with rfl|hz
    ·exact q
    ·exact o.tr _ _ _ q (h1 z hz)
   ·split
    ·rename_i q;refine gJ.mpr ⟨λz hz=>?_,CM o h2⟩
     rcases(tJ o).mp hz with rfl|hz
     ·exact q
     ·exact h1 z hz
    ·exact h
set_option tactic.hygienic false
theorem jJ(o:LO lt):∀(l:List α),(fQ lt l).Pairwise (λa b=>lt a b=c_)
 |[]=>.nil
 |x::l=>CM o (jJ o l)
def pX(o:LO lt){l:List α}(h:l.Pairwise (λa b=>lt a b=c_)):l.Nodup:=h.imp λq e=>by subst e;rw[o.irr]at q;cases q
def Gg(o:LO lt){l r:List α}(hn:r.Nodup)(hs:r.Pairwise (λa b=>lt b a=d_))(hm:∀z,z∈r↔z∈l):r=fQ lt l:=by
 refine kU (le:=λa b=>lt b a=d_) (λa b _ _ h h'=>o.tot _ _ h' h) hs ((jJ o l).imp λq=>o.Sk q) ?_;rw[ib hn (pX o (jJ o l))];intro z;rw[hm,kn o]
end
theorem G6:∀{l:List aN}{p:aN},risingS p l=c_->(p::l).Pairwise (λa b=>sh b a=d_)
 |[],p,_=>by simp
 |x::r,p,h=>by
   simp only[risingS,aq,fG]at h;obtain⟨h1,h2⟩:=h;rw[ltCps_eq]at h1;have h1':sh x p=d_:=h1;have ih:=G6 h2;refine gJ.mpr ⟨λz hz=>?_,ih⟩
   rcases ah.mp hz with rfl|hz
   ·exact h1'
   ·exact Q4.WE h1' ((gJ.mp ih).1 z hz)
def Pm{l:List aN}(h:sortedS l=c_):l.Pairwise (λa b=>sh b a=d_):=by
 cases l with
 |nil=>exact .nil
 |cons x r=>exact G6 h
def Rq{l:List Int}(h:l.Pairwise (·<=·)):l.Pairwise (λa b=>ltI b a=d_):=h.imp λq=>by simp[ltI];omega
theorem TX{K:Fg}{F:Hp}:∀{ds:List Dat}{is:List Int}{vs:List V}{us:List aa},j8 ds=a_ is->cv K F ds vs->bZ vs us->jY us is
 |[],is,vs,us,h,r,w=>by
   cases h;rw[show vs=[]from r]at w;cases w;exact .nil
 |d::ds,is,vs,us,h,z5,w=>by
   obtain⟨v,r,e,h1,h2⟩:=z5;subst e
   cases d with
   |int i=>
     simp only[j8]at h;obtain⟨js,h3,h4⟩:=dJ h;subst h4
     cases w with
     |cons a b=>
       cases h1;obtain⟨t,rfl⟩:=a;exact .cons _ _ (TX h3 h2 b)
   |_=>cases h
theorem TV{K:Fg}{F:Hp}:∀{ds:List Dat}{is:List aN}{vs:List V}{us:List aa},oF ds=a_ is->cv K F ds vs->bZ vs us->oS us is
 |[],is,vs,us,h,r,w=>by
   cases h;rw[show vs=[]from r]at w;cases w;exact .nil
 |d::ds,is,vs,us,h,z5,w=>by
   obtain⟨v,r,e,h1,h2⟩:=z5;subst e
   cases d with
   |str i=>
     simp only[oF]at h;obtain⟨js,h3,h4⟩:=dJ h;subst h4
     cases w with
     |cons a b=>
       cases h1;obtain⟨t,rfl⟩:=a;exact .cons _ _ (TV h3 h2 b)
   |_=>cases h
section
variable{X:Cx}{C:Fs}{a:aF}{xa:Ex}{h_:List (af×er)}{σ:St}{F H:Hp}{s:ae}
def Cu{h':bx}{l:af}{out:List aa}{e tk:Nat}{d:Ka}{vs:List V}(I:Inv X h_ σ H s)(ex:∀b o,s.heap.get? b=a_ o->h'.get? b=a_ o)(hl:s.heap.objs.size<=l)(g:h'.get? l=a_ (seqObj "list" out.toArray e))(w:bZ vs out)(hz:vs.length<=aD) :
  Inv X h_ σ (upd H l (.lst vs)) { s with heap:=h',drawn:=d,toks:=tk }:=by
 have I2:Inv X h_ σ (upd H l (.lst vs)) { s with heap:=h',toks:=tk }:=I.laid ex hl ⟨hz,out,e,w,g⟩;exact⟨I2.ok,I2.os,I2.bare,I2.base,I2.loc,I2.cell,I2.free,I2.freeC,I2.pin,I2.hok,I2.len⟩
def IS{Q:VK}{F:Hp}{d:Dat}{fr:Bool}{l:af}{is:List Int}(g:Good F H)(hfr:H l=b_)(k:∀w F' H',Step F H F' H'->Rep X.K F' (.lst (is.map .int)) w->(c_=c_->fJ X.K H H' (.lst (is.map .int)) w)->Q w H'):Q (.ref l) (upd H l (.lst (is.map V.int))):=
 k _ _ _ (Step.alloc g hfr) ⟨l,_,rfl,.inl (.inl bu),Wg is⟩ λ_=>.lst (bS.refl _) hfr (.jL g (UO is) (Wg is))
def IQ{Q:VK}{F:Hp}{d:Dat}{fr:Bool}{l:af}{is:List aN}(g:Good F H)(hfr:H l=b_)(k:∀w F' H',Step F H F' H'->Rep X.K F' (.lst (is.map .str)) w->(c_=c_->fJ X.K H H' (.lst (is.map .str)) w)->Q w H'):Q (.ref l) (upd H l (.lst (is.map V.str))):=
 k _ _ _ (Step.alloc g hfr) ⟨l,_,rfl,.inl (.inl bu),Wf is⟩ λ_=>.lst (bS.refl _) hfr (.jL g (UN is) (Wf is))
def sQ{n:Nat}(h:n<64):n<=aD:=by rw[bT];omega
def Wb{E:aa->ae->Prop}{v:aa}{is js:List Int}{Q:VK}(I:Inv X h_ σ H s)(h64:js.length<64)(hc:Fq X.prog X.w X.A s v (λvs=>∃is',jY vs is'/\is'.Perm is))(he:∀r:List Int,r.Perm is->r.Pairwise (λa b=>ltI b a=d_)->r=js)(hi:is.length=js.length)
  (k:∀l,H l=b_->Q (.ref l) (upd H l (.lst (js.map V.int)))):aA (aE X.prog X.w) X.A (call (.builtin "sorted") [v]) (EP X h_ σ Q) E s:=by
 refine GO (is:=is) (by omega) hc λh' d tk l out is' e ex hl g i1 i2 i3=>?_;obtain rfl:=he is' i2 (Rq i3);exact⟨.ref l,_,Cu I ex hl g (vO i1) (by rw[ak];exact sQ h64),rfl,k l (I.hok.fresh hl)⟩
def Wa{E:aa->ae->Prop}{v:aa}{is js:List aN}{Q:VK}(I:Inv X h_ σ H s)(h64:js.length<64)(hc:Fq X.prog X.w X.A s v (λvs=>∃is',oS vs is'/\is'.Perm is))(he:∀r:List aN,r.Perm is->r.Pairwise (λa b=>sh b a=d_)->r=js)(hi:is.length=js.length)
  (k:∀l,H l=b_->Q (.ref l) (upd H l (.lst (js.map V.str)))):aA (aE X.prog X.w) X.A (call (.builtin "sorted") [v]) (EP X h_ σ Q) E s:=by
 refine GN (ss:=is) (by omega) hc λh' d tk l out is' e ex hl g i1 i2 i3=>?_;obtain rfl:=he is' i2 (Pm i3);exact⟨.ref l,_,Cu I ex hl g (vq i1) (by rw[ak];exact sQ h64),rfl,k l (I.hok.fresh hl)⟩
end
noncomputable def kI:Key->Int
 |.inl i=>i
 |.inr _=>0
noncomputable def kS:Key->aN
 |.inl _=>""
 |.inr x=>x
theorem Dl:∀{vs:List aa}{ks:List Key},iZ (λv k=>oJ k v=c_) vs ks->(∀k∈ks,∃i,k=iY i)->jY vs (ks.map kI)
 |_,_,.nil,_=>.nil
 |_,_,.cons (a:=v) (b:=k) p q,h=>by
   obtain⟨i,rfl⟩:=h _ (.head _)
   rcases dE p with⟨j,t,e,rfl⟩|⟨x,t,e,_⟩
   ·cases e;exact .cons _ _ (Dl q λk hk=>h k (.tail _ hk))
   ·cases e
theorem Cm:∀{vs:List aa}{ks:List Key},iZ (λv k=>oJ k v=c_) vs ks->(∀k∈ks,∃i,k=iC i)->oS vs (ks.map kS)
 |_,_,.nil,_=>.nil
 |_,_,.cons (a:=v) (b:=k) p q,h=>by
   obtain⟨i,rfl⟩:=h _ (.head _)
   rcases dE p with⟨j,t,e,_⟩|⟨x,t,e,rfl⟩
   ·cases e
   ·cases e;exact .cons _ _ (Cm q λk hk=>h k (.tail _ hk))
theorem oV{α β γ:Type}{R:β->γ->Prop}{f:α->β}:∀{l:List α}{ks:List γ},iZ (λa c=>R (f a) c) l ks->iZ R (l.map f) ks
 |_,_,.nil=>.nil
 |_,_,.cons p q=>.cons p (oV q)
def HQ{ks:List Key}(h:ks.Nodup)(ha:∀k∈ks,∃i,k=iY i):(ks.map kI).Nodup:=by
 unfold List.Nodup at *;rw[rm];refine qv ?_ h;intro a b ma mb hab e;obtain⟨i,rfl⟩:=ha a ma;obtain⟨j,rfl⟩:=ha b mb;exact hab (by simp only[kI]at e;rw[e])
def HP{ks:List Key}(h:ks.Nodup)(ha:∀k∈ks,∃i,k=iC i):(ks.map kS).Nodup:=by
 unfold List.Nodup at *;rw[rm];refine qv ?_ h;intro a b ma mb hab e;obtain⟨i,rfl⟩:=ha a ma;obtain⟨j,rfl⟩:=ha b mb;exact hab (by simp only[kS]at e;rw[e])
section
variable{prog:aO}{w:bh}{A:bp}{s:ae}{S:af}{n:Nat}
def EW{is:List Int}(hh:A.handled=b_)(y:kP (cj prog w) (nD w) s.heap S n (λq=>∃j,j<is.length/\iY (is.getD j 0)=q))(hn:n<=4000) :
  Fq prog w A s (.ref S) (λvs=>∃is',jY vs is'/\is'.Perm (fQ ltI is)):=by
 obtain⟨es,ep,t,ks,ya,yb,yc,yd,ye,yf⟩:=y;have len:=mo yc;rw[bA]at len;intro A' E' Q' e k;refine rH (e.trans hh) ya (by rw[bT];omega) λh1 d tk vs ex sz pm=>k vs h1 d tk ex sz ?_;obtain⟨ks',p1,p2⟩:=nA pm (oV (R:=λv k=>oJ k v=c_) (f:=λe:Int×aa=>e.2) yc)
 have ha:∀k∈ks,∃i,k=iY i:=λk hk=>by
  obtain⟨j,_,e⟩:=(yf k).mp hk;exact⟨_,e.symm⟩
 refine⟨_,Dl p1 λk hk=>ha k (p2.mem_iff.mp hk),(p2.map kI).trans ?_⟩;rw[ib (HQ yd ha) (pX SR (jJ SR is))];intro z;rw[kn SR,aG];constructor
 ·rintro⟨q,hq,rfl⟩;obtain⟨j,hj,e⟩:=(yf q).mp hq;subst e;simp only[kI,bX,au hj,dF];exact cm hj
 ·intro hz;obtain⟨j,hj,rfl⟩:=ic.mp hz;refine⟨iY is[j],(yf _).mpr ⟨j,hj,?_⟩,rfl⟩;simp only[bX,au hj,dF]
def EV{is:List aN}(hh:A.handled=b_)(y:kP (cj prog w) (nD w) s.heap S n (λq=>∃j,j<is.length/\iC (is.getD j "")=q))(hn:n<=4000) :
  Fq prog w A s (.ref S) (λvs=>∃is',oS vs is'/\is'.Perm (fQ sh is)):=by
 obtain⟨es,ep,t,ks,ya,yb,yc,yd,ye,yf⟩:=y;have len:=mo yc;rw[bA]at len;intro A' E' Q' e k;refine rH (e.trans hh) ya (by rw[bT];omega) λh1 d tk vs ex sz pm=>k vs h1 d tk ex sz ?_;obtain⟨ks',p1,p2⟩:=nA pm (oV (R:=λv k=>oJ k v=c_) (f:=λe:Int×aa=>e.2) yc)
 have ha:∀k∈ks,∃i,k=iC i:=λk hk=>by
  obtain⟨j,_,e⟩:=(yf k).mp hk;exact⟨_,e.symm⟩
 refine⟨_,Cm p1 λk hk=>ha k (p2.mem_iff.mp hk),(p2.map kS).trans ?_⟩;rw[ib (HP yd ha) (pX Q4 (jJ Q4 is))];intro z;rw[kn Q4,aG];constructor
 ·rintro⟨q,hq,rfl⟩;obtain⟨j,hj,e⟩:=(yf q).mp hq;subst e;simp only[kS,bX,au hj,dF];exact cm hj
 ·intro hz;obtain⟨j,hj,rfl⟩:=ic.mp hz;refine⟨iC is[j],(yf _).mpr ⟨j,hj,?_⟩,rfl⟩;simp only[bX,au hj,dF]
def UI{h:bx}{l:af}{items:Array aa}(hl:h.IsList l items):JI prog w h (.ref l) items.size (λi v=>items[i]?=a_ v):=by
 intro A1 E1 s1 Q1 sz ex k;have hl1:s1.heap.IsList l items:=hl.at λo e=>ex l o e;have lt:l<h.objs.size:=by obtain⟨o,e,_⟩:=hl;exact hl9 e
 have ne:l≠s1.heap.objs.size:=ba (jq lt sz);refine jT hl1 (k _ [s1.heap.objs.size,l] _ (λA' hA=>DX hA _ l ne items) (λb hb=>?_) ⟨⟨_,aJ _ rfl,rfl,rfl⟩,hl1.push _⟩)
 rcases ah.mp hb with z|z
 ·exact .inl z
 ·exact .inr (by rw[aZ.mp z];exact lt)
def WJ{h:bx}{x:aN}{tx:Tok}:JI prog w h (.str x tx) x.cps.size (SignAt x):=by
 intro A1 E1 s1 Q1 sz ex k;refine wpAny_pyIter_str λo St W st=>k o [s1.heap.objs.size] St W (λb hb=>.inl (aZ.mp hb)) st
def A0:isSubtype (.type "str") (.type "set")=pure d_:=by rw[qo];kernel_rfl
def A2:isSubtype (.type "str") (.type "frozenset")=pure d_:=by rw[qo];kernel_rfl
theorem Co:∀{vs:List aa}{ss:List aN},oS vs ss->∀(i:Nat)(v:aa),vs[i]?=a_ v->∃t,v=.str (ss.getD i "") t
 |_,_,.nil,i,v,h=>by simp at h
 |_,_,.cons y t r,0,v,h=>by simp at h;exact⟨t,by rw[<-h];rfl⟩
 |_,_,.cons y t r,i+1,v,h=>by
   simp only[be]at h;obtain⟨t',e⟩:=Co r i v h;exact⟨t',by rw[e];rfl⟩
end
section
variable{X:Cx}{C:Fs}{a:aF}{xa:Ex}
set_option tactic.hygienic true in
def K8{p p2 pos pos2:dZ}(hu:X.A.units+21<di)(hcalm:X.calm=c_)(hg:Gl X "sorted")(hm:X.mg "sorted"=b_)(hg2:Gl X "set")(hm2:X.mg "set"=b_)(ha:SE X C a xa)
  (hs:aI [a] X.env=[(d_,eval a X.env)]) :
  SE X C (.Call (.Name "sorted" p) [.Call (.Name "set" p2) [a] [] pos2] [] pos) (.blt .sset [xa]):=by
 intro h_ s σ H Q I h;obtain⟨ρ,d,fr,h,F,g,R,k⟩:=h;obtain⟨ds,h1,h2⟩:=bV h;obtain⟨⟨da,fa⟩,h3,h1⟩:=bV h1;cases h1;refine fD (nE I hg hm (by decide +kernel:bootBuiltins "sorted"=a_ (.builtin "sorted")) (oA ?_ rfl rfl));show aA _ _ (spliced ((d_,eval (.Call (.Name "set" p2) [a] [] pos2) X.env)::backTo pos [])) _ _ s;refine D0 ?_;refine fD (nE I hg2 hm2 (by decide +kernel:bootBuiltins "set"=a_ (.type "set")) (eA ?_ (by rw[hs];rfl) rfl));have hpa:PA X [a] (gA X.K C [xa]):=fM ha kE (by rw[hs];rfl);have hev:hZ C [xa] ρ=a_ [da]:=by simp only[hZ,h3,ao,aC]
 refine fW (hpa pos2 h_ s σ H (λvs H1=>∃F1,Step F H F1 H1/\cv X.K F1 [da] vs) I ⟨ρ,[da],hev,F,g,R,λvs F1 H1 st1 r1=>⟨F1,st1,r1⟩⟩) λus s1 ⟨vs,H1,I1,rv,F1,st1,r1⟩=>?_;have hh:=I.ok.hd hcalm;obtain⟨v,w,rfl,rda,e⟩:=r1;cases e;obtain⟨u,rfl,ru⟩:=vals1 rv
 have endI:∀{is:List Int} {n:Nat} {h':bx} {tk:Nat} {S:af},(d,fr)=(Dat.lst ((fQ ltI is).map .int),c_)->(fQ ltI is).length<64->(∀b o,s1.heap.get? b=a_ o->h'.get? b=a_ o)->n<=4000->
   kP (cj X.prog X.w) (nD X.w) h' S n (λq=>∃j,j<is.length/\iY (is.getD j 0)=q)->
   aA (aE X.prog X.w) X.A (call (.builtin "sorted") [.ref S]) (EP X h_ σ Q) X.xe { s1 with heap:=h',toks:=tk }:=by
  intro is n h' tk S e h64 ex hn y;cases e;have I2:Inv X h_ σ H1 { s1 with heap:=h',toks:=tk }:=I1.kept ex
  exact Wb (is:=fQ ltI is) (js:=fQ ltI is) I2 h64 (EW hh y hn) (λr hp hs=>kU (le:=λa b=>ltI b a=d_) (λa b _ _ h h'=>SR.tot _ _ h' h) hs ((jJ SR is).imp λq=>SR.Sk q) hp) rfl
   λl hfr=>IS (fr:=c_) (d:=.non) st1.good hfr λw F' H' st r f=>k w F' H' (st1.trans st) r λz=>fJ.back (F:=F1) st1.hh (f z)
 have endS:∀{is:List aN} {n:Nat} {h':bx} {tk:Nat} {S:af},(d,fr)=(Dat.lst ((fQ sh is).map .str),c_)->(fQ sh is).length<64->(∀b o,s1.heap.get? b=a_ o->h'.get? b=a_ o)->n<=4000->
   kP (cj X.prog X.w) (nD X.w) h' S n (λq=>∃j,j<is.length/\iC (is.getD j "")=q)->
   aA (aE X.prog X.w) X.A (call (.builtin "sorted") [.ref S]) (EP X h_ σ Q) X.xe { s1 with heap:=h',toks:=tk }:=by
  intro is n h' tk S e h64 ex hn y;cases e;have I2:Inv X h_ σ H1 { s1 with heap:=h',toks:=tk }:=I1.kept ex
  exact Wa (is:=fQ sh is) (js:=fQ sh is) I2 h64 (EV hh y hn) (λr hp hs=>kU (le:=λa b=>sh b a=d_) (λa b _ _ h h'=>Q4.tot _ _ h' h) hs ((jJ Q4 is).imp λq=>Q4.Sk q) hp) rfl
   λl hfr=>IQ (fr:=c_) (d:=.non) st1.good hfr λw F' H' st r f=>k w F' H' (st1.trans st) r λz=>fJ.back (F:=F1) st1.hh (f z)
 cases da with
 |lst ds=>
   obtain⟨l,vs,rfl,t,r'⟩:=rda;cases ru;obtain⟨its,w1,pl,hz⟩:=I1.lstR st1.good t
   have hty:∀s2:ae,(∀b o,s1.heap.get? b=a_ o->s2.heap.get? b=a_ o)->s2.TypeIs (.ref l) "list":=λs2 ex=>by
    obtain⟨o,e1,e2,_⟩:=pl.isList;exact⟨o,ex _ _ e1,e2⟩
   simp only[dw,b1,qZ,lX,qY,qW,bL,Fi,rd,qX]at h2
   cases qi:j8 ds with
   |some is=>
     rw[qi]at h2;simp only[Oe]at h2;split at h2
     ·rename_i hb;have ia:=TX qi r' w1;have il:=FZ ia;refine sS (knd:=cj X.prog X.w) hh hty yt sC (by decide) (UI pl.isList) (λi=>iY (is.getD i 0)) (λi v hv=>?_) (by rw[aH];unfold oi;omega) λh' tk y ex=>?_
      ·obtain⟨t',rfl⟩:=Fx ia i v (by simpa using hv);exact⟨vK _ t',rfl⟩
      ·refine lE ?_;rw[show its.toArray.size=is.length by rw[aH,il]]at y;exact endI (aP h2).symm hb.2 ex (by omega) y
     ·cases h2
   |none=>
     rw[qi]at h2
     cases qs:oF ds with
     |none=>
       rw[qs]at h2;cases h2
     |some ss=>
       rw[qs]at h2;simp only[vt]at h2;split at h2
       ·rename_i hb;have ia:=TV qs r' w1;have il:its.length=ss.length:=by rw[<-ia.strs,ak]
        refine sS (knd:=cj X.prog X.w) hh hty yt sC (by decide) (UI pl.isList) (λi=>iC (ss.getD i "")) (λi v hv=>?_) (by rw[aH];unfold oi;omega) λh' tk y ex=>?_
        ·obtain⟨t',rfl⟩:=Co ia i v (by simpa using hv);exact⟨qK _ t',rfl⟩
        ·refine lE ?_;rw[show its.toArray.size=ss.length by rw[aH,il]]at y;exact endS (aP h2).symm hb.2 ex (by omega) y
       ·cases h2
 |str x=>
   cases rda;obtain⟨tx,rfl⟩:=ru;simp only[dw,b1,qZ,lX,qY,qW,bL,Fi,rd,qX,vt]at h2;have hl:(lz x).length=x.cps.size:=by simp[lz]
   split at h2
   ·rename_i hb;refine sS (knd:=cj X.prog X.w) hh (λs2 _=>rfl) A0 A2 (by decide) WJ (λi=>iC ((lz x).getD i "")) (λi v hv=>?_) (by unfold oi;omega) λh' tk y ex=>?_
    ·obtain⟨c,u,q1,rfl⟩:=hv
     have e:(lz x).getD i ""=⟨#[c]⟩:=by
      have hi:i<x.cps.size:=by rcases cZ.mp q1 with⟨q,_⟩;exact q
      rw[bq hi]at q1;cases q1;simp[lz,hi]
     rw[e];exact⟨qK _ u,rfl⟩
    ·refine lE ?_;rw[<-hl]at y;exact endS (aP h2).symm hb.2 ex (by omega) y
   ·cases h2
 |_=>simp only[dw,b1,qZ,lX,qY,qW,bL,Fi,rd,qX]at h2;cases h2
end
section
variable{X:Cx}{C:Fs}{pos:dZ}
def GW{k:Nat}{f:af}{fd:cx}{ps:List aN}{x:aN}{p:dZ}(j n:Nat)(G:iX X.prog X.w X.K X.mg X.base DR k f fd ps (SM X.K n (C j)))(hr:iJ k X.A)(hg:Gl X x)(hm:X.mg x=a_ (.ref f))(hk:cX X.K (.ref f)=c_)(hb:Binds X.K fd ps [])
  (hn:n=0)(hdb:(x == ("__debug__":aN))=d_):SE X C (.Call (.Name x p) [] [] pos) (.call j []):=
 PE.imp (Hz G hr hg hm hk hb .nil Oq hdb) λσ H Q h=>by
  have h':=qf (X:=X) (xs:=[]) (f:=C j) (x:=.call j []) (λρ d fr h=>by
   exact bV h) σ H Q h
  obtain⟨ρ,ds,h1,F,g,R,k⟩:=h';simp only[hZ]at h1;cases h1;show SM X.K n (C j) ([]++[]) H Q E0;exact⟨by rw[hn];rfl,k [] F H (Step.refl g) rfl⟩
end
structure Xg where
 exc:List (aN×Nat×aN)
 cls:List (aN×List (Nat×Bool))
 tcl:List (List aN×List (Nat×Bool))
 AE:List (aN×List Nat)
 hnd:List (aN×List Nat)
 kf:Fg->(aN->Option aa)->Prop
structure Sg where
 fns:List (aN×Nat)
 con:List (aN×Dat)
 x:Xg
structure Sc where
 N:List aN
 nm:List (aN×jf)
 top:Bool
noncomputable def kL:List aN:=["len","range","zip","all","any","isinstance","list","tuple","reversed","int","bool","str","sorted","set","min","max","enumerate","sum","dict","abs"]
noncomputable def nG(x:aN):List aN->Option Nat
 |[]=>b_
 |y::r=>if y=x then a_ 0 else(nG x r).map (·+ 1)
set_option tactic.hygienic true
theorem eR{x:aN}:∀{N:List aN}{i:Nat},nG x N=a_ i->N[i]?=a_ x
 |[],_,h=>by cases h
 |y::r,i,h=>by
   have h:(if y=x then a_ 0 else(nG x r).map (·+ 1))=a_ i:=h;split at h
   ·cases h;rename_i e;subst e;rfl
   ·obtain⟨j,h1,rfl⟩:=dJ h;exact(be ..).trans (eR h1)
noncomputable def BK(x:aN):Nat->List (aN×Nat)->Option (Nat×Nat)
 |_,[]=>b_
 |k,y::r=>if y.1=x then a_ (k,y.2)else BK x (k+1) r
theorem qa{x:aN}:∀{L:List (aN×Nat)}{k j n:Nat},BK x k L=a_ (j,n)->∃i,j=k+i/\L[i]?=a_ (x,n)
 |[],_,_,_,h=>by cases h
 |y::r,k,j,n,h=>by
   have h:(if y.1=x then a_ (k,y.2)else BK x (k+1) r)=a_ (j,n):=h;split at h
   ·cases h;rename_i e;subst e;exact⟨0,rfl,rfl⟩
   ·obtain⟨i,e1,e2⟩:=qa h;exact⟨i+1,by omega,(be ..).trans e2⟩
set_option tactic.hygienic false
noncomputable def fY(x:aN):Bool:=!(x == ("__debug__":aN)) && !(x == ("__classdict__":aN)) && !(x == ("__name__":aN))
noncomputable def VU:Option jf->Bool
 |some .local=>c_
 |some .cell=>c_
 |some .free=>c_
 |_=>d_
noncomputable def WC:Option jf->Bool
 |some .local=>c_
 |some .cell=>c_
 |_=>d_
noncomputable def AO(S:Sc)(x:aN):Bool:=VU (S.nm.lookup x)
noncomputable def tM(S:Sc)(x:aN):Bool:=WC (S.nm.lookup x)
noncomputable def xy(S:Sc)(x:aN):Bool:=S.nm.lookup x == a_ .globalImplicit
noncomputable def dX:aF->Bool
 |.Starred _ _=>d_
 |_=>c_
noncomputable def nC:aF->Bool
 |.Set _ _ _=>d_
 |_=>c_
noncomputable def rA:aF->Bool
 |.IfExp _ _ _ _=>d_
 |_=>c_
noncomputable def Vf:uy->Option OW
 |.Add=>a_ .add
 |.Sub=>a_ .sub
 |.Mult=>a_ .mul
 |.FloorDiv=>a_ .fdiv
 |.Mod=>a_ .mod
 |.RShift=>a_ .shr
 |.BitAnd=>a_ .band
 |.Pow=>a_ .pow
 |_=>b_
noncomputable def NC:pq->Fo
 |.Eq=>.eq
 |.NotEq=>.ne
 |.Lt=>.lt
 |.LtE=>.le
 |.Gt=>.gt
 |.GtE=>.ge
 |.Is=>.isn
 |.IsNot=>.nisn
 |.In=>.isin
 |.NotIn=>.nin
noncomputable def W3(x:aN):Option Ty:=
 if x="int" then a_ .int else if x="bool" then a_ .bool else if x="str" then a_ .str else if x="tuple" then a_ .tuple else if x="list" then a_ .list else b_
noncomputable def ND(x:aN):Option J3:=
 if x="len" then a_ .len else if x="list" then a_ .list else if x="tuple" then a_ .tuple else if x="all" then a_ .all else if x="int" then a_ .int else if x="any" then a_ .any else b_
noncomputable def yT(S:Sc)(sc:fk):List (aN×jf):=sc.names.map λp=>if(p.2 == dH && S.nm.lookup p.1 == a_ .cell)then(p.1,kZ)else p
noncomputable def fZ:aF->Option aN
 |.Name x _=>a_ x
 |_=>b_
def dO{e:aF}{x:aN}(h:fZ e=a_ x):∃p,e=.Name x p:=by
 cases e with
 |Name y p=>cases h;exact⟨p,rfl⟩
 |_=>cases h
noncomputable def namesOf:List aF->Option (List aN)
 |[]=>a_ []
 |e::r=>(fZ e).bind λt=>(namesOf r).map λts=>t::ts
noncomputable def nR:aF->Option (Bool×List aN)
 |.Name t _=>a_ (c_,[t])
 |.Tuple es _ _=>(namesOf es).map λts=>(d_,ts)
 |_=>b_
noncomputable def freeOf(sc:fk):List aN:=sc.names.filterMap λp=>if p.2=.free then a_ p.1 else b_
noncomputable def rJ(N:List aN):List aN->Option (List Nat)
 |[]=>a_ []
 |x::r=>(nG x N).bind λi=>(rJ N r).map λis=>i::is
noncomputable def Ji(S:Sc)(sc:fk)(tn cn:List aN):Bool:=
 decide (sc.kind=.function) && sc.names.all (λy=>!decide (y.2=.cell)) && sc.names.all (λy=>!decide (y.2=.local) || decide (sc.names.lookup y.1=a_ .local))
  && sc.names.all (λy=>!decide (y.2=.free) || decide (S.nm.lookup y.1=a_ .cell) || decide (S.nm.lookup y.1=a_ .free))
  && cn.all (λx=>(decide (S.nm.lookup x=a_ .cell) || decide (S.nm.lookup x=a_ .free)) && decide (sc.names.lookup x=a_ .free))
  && decide (tn++cn).Nodup && tn.all λx=>decide (sc.names.lookup x=a_ .local)
noncomputable def inner(S:Sc)(sc:fk)(tn cn:List aN):Sc:=⟨tn++cn,yT S sc,d_⟩
noncomputable def zQ(f:Ex->Ex->Ex):List Ex->Option Ex
 |[]=>b_
 | x::r=>match r with
   |[]=>a_ x
   |_::_=>(zQ f r).map (f x)
noncomputable def qI(f:aF->Option Ex):List aF->Option (List Ex)
 |[]=>a_ []
 |e::r=>if dX e=c_ then(f e).bind λx=>(qI f r).map λxs=>x::xs else b_
noncomputable def iH{α:Type}:List α->Option α
 |[]=>b_
 |a::r=>if r.isEmpty=c_ then a_ a else b_
def dY{α:Type}{l:List α}{a:α}(h:iH l=a_ a):l=[a]:=by
 match l,h with
 |[b],h=>cases h;rfl
noncomputable def vB{α:Type}:List α->Option (α×α)
 |[]=>b_
 |a::r=>(iH r).map λb=>(a,b)
def nB{α:Type}{l:List α}{p:α×α}(h:vB l=a_ p):l=[p.1,p.2]:=by
 cases l with
 |nil=>cases h
 |cons a r=>
   obtain⟨b,h1,rfl⟩:=dJ h;rw[dY h1]
structure Ca where
 fn:aF
 args:List aF
 kws:List rk
 pos:dZ
noncomputable def Nn:aF->Option Ca
 |.Call fn args kws p=>a_ ⟨fn,args,kws,p⟩
 |_=>b_
def xR{e:aF}{c:Ca}(h:Nn e=a_ c):e=.Call c.fn c.args c.kws c.pos:=by
 cases e with
 |Call fn args kws p=>cases h;rfl
 |_=>cases h
noncomputable def qT(e:aF):Option (aN×List aF):=(Nn e).bind λc=>if c.kws.isEmpty=c_ then(fZ c.fn).map λx=>(x,c.args)else b_
set_option tactic.hygienic true in
def lU{e:aF}{x:aN}{args:List aF}(h:qT e=a_ (x,args)):∃p q,e=.Call (.Name x p) args [] q:=by
 obtain⟨⟨fn,as,kws,q⟩,h0,h1⟩:=bV h;obtain rfl:=xR h0;split at h1
 ·rename_i hk;obtain⟨y,h2,h3⟩:=dJ h1;cases h3;obtain⟨p,h4⟩:=dO h2;obtain rfl:fn=.Name x p:=h4;exact⟨p,q,congrArg (λk=>Expr.Call _ _ k _) (ej.mp hk)⟩
 ·cases h1
noncomputable def isTup:aF->Bool
 |.Tuple _ _ _=>c_
 |_=>d_
def zD{e:aF}(h:isTup e=c_):∃es k p,e=.Tuple es k p:=by
 cases e with
 |Tuple es k p=>exact⟨es,k,p,rfl⟩
 |_=>cases h
noncomputable def OJ(S:Sc)(f:aF->Option Ex)(tg:aF)(x:aN)(args:List aF):Option Iw:=
 if xy S x=c_ then(qI f args).bind λxs=>
  if x="range" then(iH xs).map λa=>.rng [a]
  else if(decide (x="zip") && isTup tg)=c_ then(vB xs).map λp=>.zip [p.1,p.2]
  else if(decide (x="enumerate") && isTup tg)=c_ then(iH xs).map .enu else b_
 else b_
noncomputable def Ro(x:aN):Bool:=decide (x="range") || decide (x="zip") || decide (x="enumerate")
noncomputable def Ir(e:aF):Option (aN×List aF):=(qT e).bind λc=>if Ro c.1=c_ then a_ c else b_
noncomputable def cI(S:Sc)(f:aF->Option Ex)(tg iter:aF):Option Iw:=match Ir iter with
 |some c=>OJ S f tg c.1 c.2
 |none=>(f iter).map .itv
noncomputable def W4(f:aF->Option Ex):List aF->Option (List Ex)
 |[]=>a_ []
 |c::r=>if(r.isEmpty && rA c)=c_ then(f c).map λx=>[x]else b_
noncomputable def Js(f:aF->Option Ex):Option aF->Option (Option Ex)
 |none=>a_ b_
 |some e=>(f e).map a_
noncomputable def R3:Const->Option Dat
 |.int i=>a_ (.int i)
 |.bool b=>a_ (.bl b)
 |.none=>a_ .non
 |.str x=>a_ (.str x)
 |_=>b_
noncomputable def OH(G:Sg)(S:Sc)(x:aN):Option Ex:=if fY x=c_ then(if AO S x=c_ then(nG x S.N).map .v else if xy S x=c_ then(G.con.lookup x).map .con else b_)else b_
noncomputable def Yk(f:aF->Option Ex)(a:aF):UnaryOp->Option Ex
 |.USub=>(f a).map .neg
 |.Not=>if rA a=c_ then(f a).map .not else b_
 |_=>b_
noncomputable def R6(f:aF->Option Ex)(es:List aF):BoolOp->Option Ex
 |.And=>(qI f es).bind (zQ .and)
 |.Or=>(qI f es).bind (zQ .or)
noncomputable def OM(f:aF->Option Ex)(a:aF)(ops:List pq)(bs:List aF):Option Ex:=(f a).bind λxa=>match iH ops with
 |some op=>(iH bs).bind λb=>if nC b=c_ then(f b).map λxb=>.cmp (NC op) xa xb else b_
 |none=>(vB ops).bind λo=>(vB bs).bind λb=>if nC b.2=c_ then(f b.1).bind λxb=>(f b.2).map λxc=>.Jk (NC o.1) (NC o.2) xa xb xc else b_
noncomputable def Ju(f:aF->Option Ex)(ks:List (Option aF))(vs:List aF):Option Ex:=
 if(ks.isEmpty && vs.isEmpty)=c_ then a_ .BO
 else b_
noncomputable def nU:aF->Option (Option aF×Option aF×Option aF)
 |.Slice lo hi st _=>a_ (lo,hi,st)
 |_=>b_
noncomputable def U8(f:aF->Option Ex)(a b:aF):Option Ex:=(f a).bind λxa=>match nU b with
 |some t=>if t.2.2.isNone=c_ then(Js f t.1).bind λxl=>(Js f t.2.1).map λxh=>.sl xa xl xh else b_
 |none=>(f b).map λxb=>.ix xa xb
noncomputable def Gu:aF->Option Bool
 |.Constant (.bool b) _ _=>a_ b
 |_=>b_
noncomputable def RX(f:aF->Option Ex)(o:aF)(m:aN)(args:List aF):Option Ex:=(iH args).bind λa=>(Gu a).bind λb=>if baseOk o=c_ then(f o).bind λxo=>if m="count" then a_ (.Q6 xo (.con (.bl b)))else if m="index" then a_ (.Q5 xo (.con (.bl b)))else b_ else b_
noncomputable def OI(G:Sg)(S:Sc)(f:aF->Option Ex)(o:aF)(m:aN)(ap:dZ)(args:List aF)(cp:dZ):Option Ex:=
 if(ap.endLine == cp.line)=c_ then match RX f o m args with
  |some z=>a_ z
  |none=>(qI f args).bind λxs=>if baseOk o=c_ then(f o).bind λxo=>(R0 m args.length).map λmt=>.mM mt xo xs else b_
 else b_
noncomputable def Vd(S:Sc)(f:aF->Option Ex)(args:List aF):Option Ex:=(vB args).bind λp=>(fZ p.2).bind λt=>
 if(xy S "isinstance" && xy S t && dX p.1)=c_ then(W3 t).bind λty=>(f p.1).map λxa=>.blt (.isi ty) [xa]else b_
noncomputable def RW(S:Sc)(f:aF->Option Ex)(x y:aN)(b:J3)(args:List aF):Option Ex:=(iH args).bind λe=>(qT e).bind λc=>if c.1=y then(iH c.2).bind λa=>
 if(xy S x && xy S y && dX a)=c_ then(f a).map λxa=>.blt b [xa]else b_ else b_
noncomputable def Ve(G:Sg)(S:Sc)(x:aN)(xs:List Ex):Option Ex:=
 if(fY x && xy S x)=c_ then match BK x 0 G.fns with
  |some jn=>if xs.length=jn.2 then a_ (.call jn.1 xs)else b_
  | none=>match iH xs with
    |some xa=>if x="max" then a_ (.un zf xa)else if x="min" then a_ (.un zj xa)else(ND x).map λb=>.blt b [xa]
    |none=>b_
 else b_
noncomputable def Ob:aF->Option (List aF)
 |.Tuple es _ _=>a_ es
 |_=>b_
noncomputable def Vc(G:Sg)(S:Sc)(f:aF->Option Ex)(args:List aF):Option Ex:=(vB args).bind λp=>if(xy S "isinstance" && dX p.1)=c_ then(match fZ p.2 with
 |some t=>if(fY t && xy S t)=c_ then(G.x.cls.lookup t).bind λtab=>(f p.1).map λxa=>.Dj tab xa else b_
 |none=>(Ob p.2).bind λes=>(namesOf es).bind λns=>if ns.all (λn=>fY n && xy S n)=c_ then(G.x.tcl.lookup ns).bind λtab=>(f p.1).map λxa=>.Dj tab xa else b_)else b_
noncomputable def BR(G:Sg)(S:Sc)(f:aF->Option Ex)(x:aN)(args:List aF):Option Ex:=
 if x="isinstance" then(match Vd S f args with
  |some z=>a_ z
  |none=>Vc G S f args)else match(if x="sorted" then RW S f "sorted" "set" .sset args else b_)with
  |some z=>a_ z
  |none=>(qI f args).bind (Ve G S x)
noncomputable def ue:aF->Option (aF×aN×dZ)
 |.Attribute o m ap=>a_ (o,m,ap)
 |_=>b_
def rg{e:aF}{t:aF×aN×dZ}(h:ue e=a_ t):e=.Attribute t.1 t.2.1 t.2.2:=by
 cases e with
 |Attribute o m ap=>cases h;rfl
 |_=>cases h
noncomputable def Jw(G:Sg)(S:Sc)(f:aF->Option Ex)(fn:aF)(args:List aF)(cp:dZ):Option Ex:=match ue fn with
 |some t=>OI G S f t.1 t.2.1 t.2.2 args cp
 |none=>(fZ fn).bind λx=>BR G S f x args
structure Gn where
 tg:aF
 it:aF
 ifs:List aF
noncomputable def OA(gs:List Comprehension):Option Gn:=(iH gs).bind λg=>if g.is_async=0 then a_ ⟨g.target,g.iter,g.ifs⟩else b_
noncomputable def OL(S:Sc)(f:Sc->aF->Option Ex)(elt:aF)(g:Gn)(sc:fk):Option Ex:=(nR g.tg).bind λt=>(rJ S.N (freeOf sc)).bind λcaps=>
 if(Ji S sc t.2 (freeOf sc) && nC g.it)=c_ then
  (cI S (f S) g.tg g.it).bind λit=>(W4 (f (inner S sc t.2 (freeOf sc))) g.ifs).bind λxs=>(f (inner S sc t.2 (freeOf sc)) elt).map λxe=>.comp t.2.length t.1 caps it xs xe
 else b_
noncomputable def cE(G:Sg):Nat->Sc->aF->Option Ex
 |0,_,_=>b_
 | n+1,S,e=>match e with
   |.Constant c _ _=>(R3 c).map .con
   |.Name x _=>OH G S x
   |.BinOp a op b _=>(Vf op).bind λo=>(cE G n S a).bind λxa=>(cE G n S b).map λxb=>.bin o xa xb
   |.UnaryOp op a _=>Yk (cE G n S) a op
   |.BoolOp op es _=>if es.all rA=c_ then R6 (cE G n S) es op else b_
   |.Compare a ops bs _=>OM (cE G n S) a ops bs
   |.IfExp c a b _=>if rA c=c_ then(cE G n S c).bind λxc=>(cE G n S a).bind λxa=>(cE G n S b).map λxb=>.ite xc xa xb else b_
   |.Tuple es _ _=>(qI (cE G n S) es).map .tup
   |.List es _=>(qI (cE G n S) es).map .lst
   |.Dict ks vs _=>Ju (cE G n S) ks vs
   |.Subscript a b _=>U8 (cE G n S) a b
   |.Call fn args kws cp=>if kws.isEmpty=c_ then Jw G S (cE G n S) fn args cp else b_
   |.Attribute a m _=>if baseOk a=c_ then(G.x.AE.lookup m).bind λcs=>(cE G n S a).map λxa=>.AE cs m xa else b_
   |.ListComp elt gs sc _=>(OA gs).bind λg=>OL S (cE G n) elt g sc
   |_=>b_
def CV(K:Fg)(d:Dat)(v:V):Prop:=(∀F,Rep K F d v)/\∀a,v=.ref a->∃o,K.lookup a=a_ o/\o.cls=.type "tuple"/\o.dict=b_
def JK(K:Fg)(mg:aN->Option aa)(x:aN)(tab:List (Nat×Bool)):Prop:=(∃C,mg x=a_ (.ref C)/\Ao K tab (.ref C))\/∃T,mg x=b_/\bootBuiltins x=a_ (.type T)/\x≠"__name__"/\Ao K tab (.type T)
def JG(K:Fg)(mg:aN->Option aa)(ns:List aN)(tab:List (Nat×Bool)):Prop:=∃Cs:List af,ns.map mg=Cs.map (λC=>a_ (.ref C))/\Cs.length<=aD/\TabsOk K tab (Cs.map .ref)
structure mI(G:Sg)(C:Fs)(S:Sc)(X:Cx):Prop where
 N:X.N=S.N
 nm:X.env.scope.names=S.nm
 kind:X.env.scope.kind=.function
 calm:X.calm=c_
 un:X.A.units+21<di
 xe:X.xe=λ_ _=>False
 fn:S.top=c_->∀x,X.fn x=c_
 fns:∀(j:Nat)x n,G.fns[j]?=a_ (x,n)->∃k f fd ps,iX X.prog X.w X.K X.mg X.base DR k f fd ps (SM X.K n (C j))/\iJ k X.A/\X.mg x=a_ (.ref f)/\cX X.K (.ref f)=c_/\Binds X.K fd ps []
 blt:∀x∈kL,X.mg x=b_
 con:∀x d,G.con.lookup x=a_ d->∃v u,X.mg x=a_ u/\RelV v u/\CV X.K d v
 cls:∀x tab,G.x.cls.lookup x=a_ tab->JK X.K X.mg x tab
 tcl:∀ns tab,G.x.tcl.lookup ns=a_ tab->JG X.K X.mg ns tab
 AE:∀f cs,G.x.AE.lookup f=a_ cs->∀c∈cs,yA X.K c f=c_
inductive Args (P:aF->Ex->Prop):List aF->List Ex->Prop
 |nil:Args P [] []
 |cons {e:aF} {es:List aF} {x:Ex} {xs:List Ex}:dX e=c_->P e x->Args P es xs->Args P (e::es) (x::xs)
def bD{α:Type}{b:Bool}{x:Option α}{y:α}(h:(if b=c_ then x else b_)=a_ y):b=c_/\x=a_ y:=by
 split at h
 ·exact⟨by assumption,h⟩
 ·cases h
section
variable{G:Sg}{C:Fs}{S:Sc}{X:Cx}{a b c e:aF}{xa xb xc:Ex}{pos:dZ}{es:List aF}{xs:List Ex}{x:aN}{f:aF->Option Ex}
def pN(T:mI G C S X)(h:AO S x=c_):JF X.env.scope x:=by
 unfold AO at h;unfold JF;rw[T.nm]
 cases q:S.nm.lookup x with
 |none=>rw[q]at h;cases h
 |some k=>rw[q]at h;cases k<;>first|(simp;done)|cases h
def n0(T:mI G C S X)(h:tM S x=c_):L2.Loc X.env.scope x:=by
 unfold tM at h;unfold L2.Loc;rw[T.nm]
 cases q:S.nm.lookup x with
 |none=>rw[q]at h;cases h
 |some k=>rw[q]at h;cases k<;>first|(simp;done)|cases h
def gh(T:mI G C S X)(h:xy S x=c_):Gl X x:=by
 unfold Gl qt;rw[T.nm];exact beq_iff_eq.mp h
def eE(h:fY x=c_):(x == ("__debug__":aN))=d_/\(x == ("__classdict__":aN))=d_/\x≠"__name__":=by
 unfold fY at h;simp only[aq,fG]at h;exact⟨h.1.1,h.1.2,λz=>by have:=h.2;rw[z]at this;revert this;decide⟩
def bG{env:mK}(h:dX e=c_):aI (e::es) env=(d_,eval e env)::aI es env:=by
 cases e<;>first|rfl|cases h
theorem i8{env:mK}{pos:dZ}:∀{es:List aF},es.all dX=c_->(backTo pos (aI es env)).any (·.1)=d_
 |[],_=>rfl
 |e::es,h=>by
   rw[eQ,aq]at h;rw[bG h.1];have q:=i8 (pos:=pos) (env:=env) h.2;unfold backTo at q ⊢;rw[aw,et,q];rfl
theorem iM{P:aF->Ex->Prop}(hf:∀e x,f e=a_ x->P e x):∀{es:List aF}{xs:List Ex},qI f es=a_ xs->Args P es xs
 |[],_,h=>by cases h;exact .nil
 |e::r,_,h=>by
   obtain⟨hs,h⟩:=bD h;obtain⟨x,h1,h⟩:=bV h;obtain⟨xs,h2,rfl⟩:=dJ h;exact .cons hs (hf _ _ h1) (iM hf h2)
theorem Args.sa:∀{es:List aF}{xs:List Ex},Args (SE X C) es xs->SA X C es xs
 |_,_,.nil=>kE
 |_,_,.cons hs h r=>fM h r.sa (bG hs)
theorem Args.sf:∀{es:List aF}{xs:List Ex},Args (SE X C) es xs->SF X C es xs
 |_,_,.nil=>Pw
 |_,_,.cons hs h r=>KW h r.sf (bG hs)
theorem Args.star{P:aF->Ex->Prop}:∀{es:List aF}{xs:List Ex},Args P es xs->es.all dX=c_
 |_,_,.nil=>rfl
 |_,_,.cons hs _ r=>by rw[eQ,hs,r.star];rfl
theorem Args.len{P:aF->Ex->Prop}:∀{es:List aF}{xs:List Ex},Args P es xs->xs.length=es.length
 |_,_,.nil=>rfl
 |_,_,.cons _ _ r=>congrArg (·+ 1) r.len
def Args.one{P:aF->Ex->Prop}{z:Ex}(h:Args P es [z]):∃a,es=[a]/\dX a=c_/\P a z:=by
 cases h with
 |cons s p r=>cases r;exact⟨_,rfl,s,p⟩
def Args.two{P:aF->Ex->Prop}{z w:Ex}(h:Args P es [z,w]):∃a b,es=[a,b]/\dX a=c_/\dX b=c_/\P a z/\P b w:=by
 cases h with
 |cons s p r=>
   obtain⟨b,rfl,s',p'⟩:=r.one;exact⟨_,b,rfl,s,s',p,p'⟩
def PX{z w:Ex}(s:dX a=c_)(s':dX b=c_)(ha:SE X C a z)(hb:SE X C b w):SA X C [a,b] [z,w]:=fM ha (fM hb kE (bG s')) (bG s)
def GI{env:mK}(s:dX a=c_)(s':dX b=c_):aI [a,b] env=[(d_,eval a env),(d_,eval b env)]:=(bG s).trans (congrArg _ (bG s'))
def NF{op:uy}{o:OW}(h:Vf op=a_ o):ie X (binaryOp op) (gB X.K (gr o)):=by
 cases op<;>first|(cases h;first|exact LX|exact LK|exact LQ|exact HG|exact LR|exact LL|exact LW|exact LM)|cases h
def n8{op:pq}(hu:X.A.units+21<di):ie X (compareOp op) (gB X.K (lT (NC op))):=by
 cases op<;>first|exact QG (by omega)|exact Qx (by omega)|exact QD hu|exact LP hu|exact QA|exact QB|exact QE|exact QF|exact LS|exact HF
def HR{op:pq}(h:nC b=c_):behindInMarks op b=d_:=by
 cases b<;>first|rfl|cases h
def C3{op op':pq}(h:nC c=c_):lastMarks [op,op'] [b,c]=d_:=by
 cases c<;>first|rfl|cases h
def La(ha:SE X C a xa):SE X C (.UnaryOp .Not a pos) (.not xa):=by
 intro h_ s σ H Q I ⟨ρ,d,fr,h,F,g,R,k⟩;obtain⟨⟨da,fa⟩,h1,h⟩:=bV h;obtain⟨b,hb,h⟩:=dJ h;cases h;refine UnaryOp_ (fW (ha h_ s σ H (λv H1=>∃F1,Step F H F1 H1/\Rep X.K F1 da v) I ⟨ρ,da,fa,h1,F,g,R,λv F1 H1 st r _=>⟨F1,st,r⟩⟩) λv s1 ⟨x,H1,I1,r1,F1,st,r⟩=>?_);refine not_of (fW (Gr h_ s1 σ H1 x v (λc H2=>c=b/\H2=H1) I1 r1 ⟨b,Cf st.good r hb,rfl,rfl⟩) ?_);rintro c s2 ⟨H2,I2,rfl,rfl⟩;exact⟨.bl (!c),H2,I2,rfl,k _ F1 H2 st rfl aV⟩
def Pb{op op':pq}{o o':Fo}(ho:ie X (compareOp op) (gB X.K (lT o)))(ho':ie X (compareOp op') (gB X.K (lT o')))(ha:SE X C a xa)(hb:SE X C b xb)(hc:SE X C c xc)(hm:lastMarks [op,op'] [b,c]=d_) :
  ST X C (.Compare a [op,op'] [b,c] pos) (.Jk o o' xa xb xc):=
 PT.imp (Hf ho ho' ha hb hc hm) λσ H Q z3=>by
  obtain⟨ρ,d,fr,b,h,hb,F,g,R,k⟩:=z3;refine Aa (X:=X) σ H _ ⟨ρ,d,fr,h,F,g,R,λv F1 H1 st r _=>?_⟩
  have hd:∃z,d=.bl z:=by
   obtain⟨⟨da,fa⟩,h1,h⟩:=bV h;obtain⟨⟨db,fb⟩,h2,h⟩:=bV h;obtain⟨r,h3,h⟩:=bV h;split at h
   ·obtain⟨⟨dc,fc⟩,h4,h⟩:=bV h;obtain⟨z,_,h⟩:=dJ h;cases h;exact⟨z,rfl⟩
   ·cases h;exact⟨d_,rfl⟩
  obtain⟨z,rfl⟩:=hd;cases hb;exact⟨_,r,k F1 H1 st⟩
def SJ(X:Cx)(C:Fs)(e:aF)(x:Ex):Prop:=SE X C e x/\(rA e=c_->ST X C e x)
theorem vS:∀{es:List aF}{xs:List Ex}{x:Ex},Args (SJ X C) es xs->es.all rA=c_->zQ .and xs=a_ x->SE X C (.BoolOp .And es pos) x/\SW X C (.BoolOp .And es pos) x
 |_,_,_,.nil,_,h=>by cases h
 |_,_,_,.cons _ p .nil,n,h=>by
   rw[eQ,aq]at n;cases h;exact⟨CA p.1,Kw (p.2 n.1)⟩
 |_,_,_,.cons _ p (.cons s q r),n,h=>by
   rw[eQ,aq]at n;obtain⟨z,h1,rfl⟩:=dJ h;obtain⟨i1,i2⟩:=vS (.cons s q r) n.2 h1;exact⟨PV p.1 i1,O8 (p.2 n.1) i2⟩
theorem zP:∀{es:List aF}{xs:List Ex}{x:Ex},Args (SJ X C) es xs->es.all rA=c_->zQ .or xs=a_ x->SE X C (.BoolOp .Or es pos) x/\SW X C (.BoolOp .Or es pos) x
 |_,_,_,.nil,_,h=>by cases h
 |_,_,_,.cons _ p .nil,n,h=>by
   rw[eQ,aq]at n;cases h;exact⟨CA p.1,O7 (p.2 n.1)⟩
 |_,_,_,.cons _ p (.cons s q r),n,h=>by
   rw[eQ,aq]at n;obtain⟨z,h1,rfl⟩:=dJ h;obtain⟨i1,i2⟩:=zP (.cons s q r) n.2 h1;exact⟨TJ p.1 i1,Tu (p.2 n.1) i2⟩
set_option tactic.hygienic true
def Lh{bt:J3}{p:dZ}(T:mI G C S X)(hb:ND x=a_ bt)(hp:fY x=c_)(hg:xy S x=c_)(hs:dX e=c_)(he:SE X C e xa):SE X C (.Call (.Name x p) [e] [] pos) (.blt bt [xa]):=by
 have h1:aI [e] X.env=(d_,eval e X.env)::aI [] X.env:=bG hs;have ha:SA X C [e] [xa]:=fM he kE h1;obtain⟨d1,d2,d3⟩:=eE hp;have gl:=gh T hg;unfold ND at hb;split at hb
 ·rename_i q;subst q;cases hb;exact wN E7 gl (T.blt _ (by decide +kernel)) PySem.boot_len ha d3 d1 h1 rfl
 split at hb
 ·rename_i q;subst q;cases hb;exact wM BQ gl (T.blt _ (by decide +kernel)) (by decide +kernel) ha d3 d1 h1 rfl
 split at hb
 ·rename_i q;subst q;cases hb;exact wM Ad gl (T.blt _ (by decide +kernel)) (by decide +kernel) ha d3 d1 h1 rfl
 split at hb
 ·rename_i q;subst q;cases hb;exact wN (Fd T.calm) gl (T.blt _ (by decide +kernel)) (by decide +kernel) ha d3 d1 h1 rfl
 split at hb
 ·rename_i q;subst q;cases hb;exact wM E9 gl (T.blt _ (by decide +kernel)) (by decide +kernel) ha d3 d1 h1 rfl
 split at hb
 ·rename_i q;subst q;cases hb;exact wN (Fc T.calm) gl (T.blt _ (by decide +kernel)) (by decide +kernel) ha d3 d1 h1 rfl
 ·cases hb
def Nz{p:dZ}{z:Ex}(T:mI G C S X)(ha:Args (SE X C) es xs)(h:Ve G S x xs=a_ z):SE X C (.Call (.Name x p) es [] pos) z:=by
 obtain⟨hp,h⟩:=bD h;rw[aq]at hp;obtain⟨d1,d2,d3⟩:=eE hp.1
 cases hj:BK x 0 G.fns with
 |some jn=>
   obtain⟨j,n⟩:=jn;rw[hj]at h;have h:(if xs.length=n then a_ (Ex.call j xs)else b_)=a_ z:=h;split at h
   ·rename_i hn;cases h;obtain⟨i,e1,e2⟩:=qa hj;obtain⟨k,f,fd,ps,F,hr,hm,hk,hb⟩:=T.fns i x n e2;rw[jm]at e1;subst e1
    cases ha with
    |nil=>exact GW j n F hr (gh T hp.2) hm hk hb hn.symm d1
    |cons hs he r=>exact Lg j n F hr (gh T hp.2) hm hk hb (fM he r.sa (bG hs)) hn d1 (bG hs) (i8 r.star)
   ·cases h
 |none=>
   rw[hj]at h
   cases ho:iH xs with
   |some xa=>
     obtain rfl:=dY ho;obtain⟨e,rfl,hs,he⟩:=ha.one;rw[ho]at h;have h:(if x="max" then a_ (Ex.un zf xa)else if x="min" then a_ (Ex.un zj xa)else(ND x).map λb=>Ex.blt b [xa])=a_ z:=h;split at h
     ·rename_i q;subst q;cases h;exact GU (Jn T.calm) (gh T hp.2) (T.blt _ (by decide +kernel)) (by decide +kernel) (fM he kE (bG hs)) d3 d1 (bG hs)
     split at h
     ·rename_i q;subst q;cases h;exact GU (Jo T.calm) (gh T hp.2) (T.blt _ (by decide +kernel)) (by decide +kernel) (fM he kE (bG hs)) d3 d1 (bG hs)
     ·obtain⟨b,h1,rfl⟩:=dJ h;exact Lh T h1 hp.1 hp.2 hs he
   |none=>
     rw[ho]at h;cases h
def RV{t:aN}{ty:Ty}(h:W3 t=a_ ty):bootBuiltins t=a_ (.type (tyName ty))/\t∈kL/\(t == ("__debug__":aN))=d_/\t≠"__name__":=by
 unfold W3 at h
 repeat' (split at h;(rename_i q;subst q;cases h;exact⟨by decide +kernel,by decide +kernel,by decide +kernel,by decide +kernel⟩))
 cases h
def OK{tg iter:aF}{it:Iw}(T:mI G C S X)(hf:∀e x,f e=a_ x->SE X C e x)(h:cI S f tg iter=a_ it):SI X C tg iter it/\∀a,it=.itv a->SE X C iter a:=by
 unfold cI at h
 cases hi:Ir iter with
 |none=>
   rw[hi]at h;obtain⟨x,h1,rfl⟩:=dJ h;exact⟨Pr (hf _ _ h1),λa z=>by cases z;exact hf _ _ h1⟩
 |some c=>
   rw[hi]at h;obtain⟨x,args⟩:=c;have h:OJ S f tg x args=a_ it:=h;obtain⟨c',h1,h2⟩:=bV hi;obtain⟨_,h2⟩:=bD h2;obtain rfl:c'=(x,args):=aP h2;obtain⟨p,q,rfl⟩:=lU h1;obtain⟨hg,h3⟩:=bD h;clear h h1 h2 hi;obtain⟨xs,h4,hq⟩:=bV h3;have ha:=iM hf h4;clear h3 h4;have gl:=gh T hg;split at hq
   ·rename_i e;subst e;obtain⟨xa,h6,rfl⟩:=dJ hq;obtain rfl:=dY h6;obtain⟨a,rfl,hs,he⟩:=ha.one;exact⟨KS gl (T.blt _ (by decide +kernel)) (fM he kE (bG hs)) (bG hs),λa z=>nomatch z⟩
   split at hq
   ·rename_i e;simp only[aq,decide_eq_true_eq]at e;obtain⟨rfl,ht⟩:=e;obtain⟨p,h6,rfl⟩:=dJ hq;obtain rfl:=nB h6;obtain⟨ts,k,tp,rfl⟩:=zD ht;obtain⟨a,b,rfl,hs,hs',he,hb⟩:=ha.two;exact⟨Pq gl (T.blt _ (by decide +kernel)) (PX hs hs' he hb) (GI hs hs') (bG hs'),λa z=>nomatch z⟩
   ·obtain⟨e,h5⟩:=bD hq;simp only[aq,decide_eq_true_eq]at e;obtain⟨rfl,ht⟩:=e;obtain⟨ts,k,tp,rfl⟩:=zD ht;obtain⟨xa,h6,rfl⟩:=dJ h5;obtain rfl:=dY h6;obtain⟨a,rfl,hs,he⟩:=ha.one;exact⟨Pt gl (T.blt _ (by decide +kernel)) (fM he kE (bG hs)) (bG hs),λa z=>nomatch z⟩
def km(h:nC e=c_):∀v,foldedSetIterable e X.env v=pure v:=λv=>by
 cases e<;>first|rfl|cases h
theorem Ac{N:List aN}:∀{cn:List aN}{is:List Nat},rJ N cn=a_ is->is.map (λj=>N[j]?)=cn.map a_
 |[],_,h=>by cases h;rfl
 |x::r,_,h=>by
   obtain⟨i,h1,h⟩:=bV h;obtain⟨is,h2,rfl⟩:=dJ h;rw[aw,aw,eR h1,Ac h2]
theorem lookup_mem{x:aN}{k:jf}:∀{L:List (aN×jf)},L.lookup x=a_ k->(x,k)∈L
 |[],h=>by cases h
 |(y,j)::r,h=>by
   rw[cC]at h;split at h
   ·rename_i q;cases h;rw[eq_of_beq q];exact jB
   ·exact jN _ (lookup_mem h)
set_option tactic.hygienic false
structure DQ(S:Sc)(sc:fk)(tn cn:List aN):Prop where
 kind:sc.kind=.function
 nocell:∀y∈sc.names,y.2≠.cell
 locs:∀y∈sc.names,y.2=.local->sc.names.lookup y.1=a_ .local
 frees:∀y∈sc.names,y.2=.free->S.nm.lookup y.1=a_ .cell\/S.nm.lookup y.1=a_ .free
 capk:∀x∈cn,(S.nm.lookup x=a_ .cell\/S.nm.lookup x=a_ .free)/\sc.names.lookup x=a_ .free
 nd:(tn++cn).Nodup
 tl:∀x∈tn,sc.names.lookup x=a_ .local
def Jh{sc:fk}{tn cn:List aN}(h:Ji S sc tn cn=c_):DQ S sc tn cn:=by
 unfold Ji at h;simp only[aq,bg,decide_eq_true_eq,m4,fG,decide_eq_false_iff_not]at h;obtain⟨⟨⟨⟨⟨⟨h1,h2⟩,h3⟩,h4⟩,h5⟩,h6⟩,h7⟩:=h;refine⟨h1,h2,λy hy e=>?_,λy hy e=>?_,h5,h6,h7⟩
 ·rcases h3 y hy with z|z
  ·exact absurd e z
  ·exact z
 ·rcases h4 y hy with(z|z)|z
  ·exact absurd e z
  ·exact .inl z
  ·exact .inr z
def xN{sc:fk}{tn cn:List aN}{caps:List Nat}(T:mI G C S X)(h:DQ S sc tn cn)(hc:rJ S.N cn=a_ caps):iU X sc tn cn caps where
 kind:=h.kind
 nocell:=h.nocell
 locs:=h.locs
 frees:=λy hy e=>by unfold qt;rw[T.nm];exact h.frees y hy e
 nofree:=λx e=>lookup_mem e
 caps:=by rw[T.N];exact Ac hc
 capk:=λx hx=>by unfold qt;rw[T.nm];exact(h.capk x hx).1
 capn:=λx hx=>(h.capk x hx).2
def qw{sc:fk}{tn cn:List aN}(T:mI G C S X)(h:DQ S sc tn cn)(cl:List (aN×af))(s₂:ae)(H₂:Hp)(Ca:af)(ex:List af):mI G C (inner S sc tn cn) (eo X sc cl (tn++cn) s₂ H₂ Ca ex) where
 N:=rfl
 nm:=by
  show(relabel sc X.env).names=yT S sc;unfold relabel yT qt;rw[T.nm,T.kind];refine pz λp _=>?_;obtain⟨n,k⟩:=p;dsimp only;rw[show(ka == ka)=c_ from rfl,bO]
 kind:=h.kind
 calm:=T.calm
 un:=T.un
 xe:=rfl
 fn:=λz=>nomatch z
 fns:=T.fns
 blt:=T.blt
 con:=T.con
 cls:=T.cls
 tcl:=T.tcl
 AE:=T.AE
end
section
variable{G:Sg}{C:Fs}{S:Sc}{X:Cx}{a b c e:aF}{xa xb xc:Ex}{pos:dZ}{es:List aF}{xs:List Ex}{x:aN}{f:aF->Option Ex}
def Hs{Y:Cx}{i:Nat}{t:aN}{p:dZ}(T:mI G C S Y)(hN:S.N.Nodup)(hi:S.N[i]?=a_ t)(hl:S.nm.lookup t=a_ .local):PG Y (.Name t p) (jP i):=by
 refine CU (by rw[T.N];exact hN) (by rw[T.N];exact hi) ?_ (.inr (by rw[T.nm];exact hl));unfold L2.Loc;rw[T.nm];exact .inl hl
def pZ{sc:fk}{x:aN}(h:sc.names.lookup x=a_ .local):(yT S sc).lookup x=a_ .local:=by
 unfold yT;generalize sc.names=L at h
 induction L with
 |nil=>cases h
 |cons p r ih=>
   obtain⟨y,k⟩:=p;rw[cC]at h;rw[aw];by_cases hc:(k == dH && S.nm.lookup y == a_ .cell)=c_
   ·dsimp only;rw[if_pos hc,cC];split at h
    ·cases h;simp at hc
    ·exact ih h
   ·dsimp only;rw[if_neg hc,cC];split at h
    ·exact h
    ·exact ih h
theorem mq{env:mK}:∀{es:List aF}{tn:List aN},namesOf es=a_ tn->(assignEach es env).length=es.length/\(assignEach es env).findIdx? (·.1)=b_/\tn.length=es.length
 |[],tn,h=>by cases h;exact⟨rfl,rfl,rfl⟩
 |e::es,tn,h=>by
   obtain⟨t,h0,h⟩:=bV h;obtain⟨tn',h1,rfl⟩:=dJ h;obtain⟨p,rfl⟩:=dO h0;obtain⟨q1,q2,q3⟩:=mq (env:=env) h1;have e1:assignEach (.Name t p::es) env=(d_,assign (.Name t p) env)::assignEach es env:=rfl;rw[e1];refine⟨by simp[q1],?_,by simp[q3]⟩;rw[fe];simp[q2]
noncomputable def gK:Nat->Nat->Fn
 |_,0=>EL
 |k,n+1=>vR (jP k) (gK (k+1) n)
theorem Dq:∀n k x σ H Q Q',(∀σ2 H2,Q σ2 H2->Q' σ2 H2)->gK k n x σ H Q->gK k n x σ H Q'
 |0,_=>EK
 |n+1,k=>BJ tW (Dq n (k+1))
theorem zM{nt:Nat}:∀n k,k+n<=nt->uf nt (gK k n)
 |0,_,_=>D8
 |n+1,k,h=>AU tW (Dq n (k+1)) (sM (by omega)) (zM n (k+1) (by omega))
theorem IH{K:Fg}{F H:Hp}:∀(ds:List Dat)(vs:List V)(k:Nat)(σ:St)(ρ:eM)(Q:St->Hp->Prop),cv K F ds vs->lZ K F σ ρ->σ.length=ρ.length->(∀σ1,lZ K F σ1 (wI k ds ρ)->Q σ1 H)->gK k ds.length vs σ H Q
 |[],vs,k,σ,ρ,Q,r,R,hl,q=>⟨r,q σ R⟩
 |d::ds,vs,k,σ,ρ,Q,r,R,hl,q=>by
   obtain⟨v,w,rfl,r1,r2⟩:=r;exact⟨v,w,rfl,IH ds w (k+1) _ _ Q r2 (yU hl R r1) (by simpa using hl) q⟩
set_option tactic.hygienic true
def GB{K:Fg}{n:Nat}:Sv K n d_ (IF K n (gK 0 n)):=λF H σ ρ d x ρ1 Q g R hn hl r hb k=>by
 cases d with
 |tup ds=>
   have hb:(if ds.length=n then a_ (wI 0 ds ρ)else b_)=a_ ρ1:=hb;split at hb
   ·rename_i hz;cases hb;obtain⟨a,vs,rfl,t,r⟩:=r;subst hz;exact⟨a,vs,rfl,(t.mono g.sub).sq,r.length,IH ds vs 0 σ ρ Q r R hl k⟩
   ·cases hb
 |_=>cases hb
theorem yV{Y:Cx}(T:mI G C S Y)(nd:S.N.Nodup):∀{es:List aF}{tn:List aN}(k:Nat),namesOf es=a_ tn->(∀i t,tn[i]?=a_ t->S.N[k+i]?=a_ t)->(∀t∈tn,S.nm.lookup t=a_ .local)->Ta Y es (gK k es.length)
 |[],_,_,_,_,_=>CT
 |e::es,tn,k,h,hi,hl=>by
   obtain⟨t,h0,h⟩:=bV h;obtain⟨tn',h1,rfl⟩:=dJ h;obtain⟨p,rfl⟩:=dO h0;refine yW (Hs T nd (hi 0 t rfl) (hl t jB)) (yV T nd (k+1) h1 (λi t' e=>?_) λt' m=>hl t' (jN _ m));rw[show k+1+i=k+(i+1) by omega];exact hi (i+1) t' ((be ..).trans e)
def Te{sc:fk}{tg:aF}{one:Bool}{tn:List aN}(T:mI G C S X)(ht:nR tg=a_ (one,tn))(h:DQ S sc tn (freeOf sc)) :
  ∃g,oO tn.length g/\Sv X.K tn.length one g/\∀(cl:List (aN×af))(s₂:ae)(H₂:Hp)(Ca:af)(ex:List af),PG (eo X sc cl (tn++freeOf sc) s₂ H₂ Ca ex) tg g:=by
 cases tg with
 |Name t p=>
   cases ht;refine⟨jP 0,sM (by simp),Kt,λcl s₂ H₂ Ca ex=>?_⟩;exact Hs (qw T h cl s₂ H₂ Ca ex) h.nd rfl (pZ (h.tl t (by simp)))
 |Tuple es k pos=>
   obtain⟨ts,h1,h2⟩:=dJ ht;cases h2;refine⟨IF X.K tn.length (gK 0 tn.length),D7 (zM _ 0 (by omega)),GB,λcl s₂ H₂ Ca ex=>?_⟩;have T':=qw T h cl s₂ H₂ Ca ex;have n:=mq (env:=(eo X sc cl (tn++freeOf sc) s₂ H₂ Ca ex).env) h1;have q:=yV T' h.nd 0 h1 (λi t e=>by rw[jm];exact(cK (a9.mp e).1).trans e) λt m=>pZ (h.tl t m);rw[<-n.2.2]at q;exact Ho T'.calm q (n.1.trans n.2.2.symm) n.2.1
 |_=>cases ht
def Ih(G:Sg)(C:Fs)(f:Sc->aF->Option Ex):Prop:=∀S e x,f S e=a_ x->∀X,mI G C S X->SJ X C e x
def Af{z:Ex}{p:dZ}(T:mI G C S X)(h:OH G S x=a_ z):SE X C (.Name x p) z:=by
 obtain⟨hp,h⟩:=bD h;obtain⟨d1,d2,d3⟩:=eE hp;split at h
 ·rename_i hv;obtain⟨i,h1,rfl⟩:=dJ h;exact Py i (by rw[T.N];exact eR h1) (pN T hv) d1 d2
 ·obtain⟨hg,h⟩:=bD h;obtain⟨d,h1,rfl⟩:=dJ h;obtain⟨v,u,hm,r,hd⟩:=T.con x d h1;exact Ld (gh T hg) hm r hd.1 d1
def Jv{z:Ex}{ops:List pq}{bs:List aF}(T:mI G C S X)(hf:∀e x,f e=a_ x->SE X C e x)(h:OM f a ops bs=a_ z):SE X C (.Compare a ops bs pos) z/\ST X C (.Compare a ops bs pos) z:=by
 obtain⟨xa,h1,h⟩:=bV h
 cases ho:iH ops with
 |some op=>
   rw[ho]at h;obtain rfl:=dY ho;obtain⟨b,h2,h⟩:=bV h;obtain rfl:=dY h2;obtain⟨hs,h⟩:=bD h;obtain⟨xb,h3,rfl⟩:=dJ h;exact⟨PQ (n8 T.un) (hf _ _ h1) (hf _ _ h3) (HR hs),Pa (n8 T.un) (hf _ _ h1) (hf _ _ h3) (HR hs)⟩
 |none=>
   rw[ho]at h;obtain⟨⟨o,o'⟩,h2,g1⟩:=bV h;obtain⟨⟨b,c⟩,h3,g2⟩:=bV g1;obtain rfl:ops=[o,o']:=nB h2;obtain rfl:bs=[b,c]:=nB h3;obtain⟨hs,g3⟩:=bD g2;obtain⟨xb,h4,g4⟩:=bV g3;obtain⟨xc,h5,rfl⟩:=dJ g4;exact⟨PE.imp (Hy (n8 T.un) (n8 T.un) (hf _ _ h1) (hf _ _ h4) (hf _ _ h5) (C3 hs)) Aa,Pb (n8 T.un) (n8 T.un) (hf _ _ h1) (hf _ _ h4) (hf _ _ h5) (C3 hs)⟩
def Ag{z:Ex}{ks:List (Option aF)}{vs:List aF}(hf:∀e x,f e=a_ x->SE X C e x)(h:Ju f ks vs=a_ z):SE X C (.Dict ks vs pos) z:=by
 unfold Ju at h;split at h
 ·rename_i q;simp only[aq,ej]at q;obtain⟨rfl,rfl⟩:=q;cases h;exact Le
 ·cases h
def Ae{o:Option aF}{z:Option Ex}(hf:∀e x,f e=a_ x->SE X C e x)(h:Js f o=a_ z):SO X C o z:=by
 cases o with
 |none=>cases h;exact KN
 |some e=>
   obtain⟨y,h1,rfl⟩:=dJ h;exact KL (hf _ _ h1)
def A8{lo hi st:Option aF}(h:nU b=a_ (lo,hi,st)):∃p,b=.Slice lo hi st p:=by
 cases b with
 |Slice lo' hi' st' p=>cases h;exact⟨p,rfl⟩
 |_=>cases h
def tB(h:nU b=b_):xW b:=by
 cases b<;>first|(intro o i;rfl)|cases h
def DE{z:Ex}(T:mI G C S X)(hf:∀e x,f e=a_ x->SE X C e x)(h:U8 f a b=a_ z):SE X C (.Subscript a b pos) z:=by
 obtain⟨xa,h1,h⟩:=bV h
 cases hs:nU b with
 |some t=>
   rw[hs]at h;obtain⟨lo,hi,st⟩:=t;obtain⟨hn,g1⟩:=bD h;obtain⟨xl,h2,g2⟩:=bV g1;obtain⟨xh,h3,rfl⟩:=dJ g2;obtain⟨p,rfl⟩:=A8 hs
   cases st with
   |none=>exact TH (hf _ _ h1) (Ae hf h2) (Ae hf h3)
   |some _=>cases hn
 |none=>
   rw[hs]at h;obtain⟨xb,h2,rfl⟩:=dJ h;exact TK (WI (by have:=T.un;omega)) (hf _ _ h1) (hf _ _ h2) (tB hs)
def Gs{e:aF}{b:Bool}(h:Gu e=a_ b):∃j p,e=.Constant (.bool b) j p:=by
 unfold Gu at h;split at h
 ·cases h;exact⟨_,_,rfl⟩
 ·cases h
def Nr{z:Ex}{o:aF}{m:aN}{ap cp:dZ}(T:mI G C S X)(hf:∀e x,f e=a_ x->SE X C e x)(hln:(ap.endLine == cp.line)=c_)(h:RX f o m es=a_ z):SE X C (.Call (.Attribute o m ap) es [] cp) z:=by
 obtain⟨a,h1,g⟩:=bV h;obtain rfl:=dY h1;obtain⟨b,h2,g⟩:=bV g;obtain⟨j,p,rfl⟩:=Gs h2;obtain⟨hb,g⟩:=bD g;obtain⟨xo,h3,h5⟩:=bV g;have hu:X.A.units+1<di:=by have:=T.un;omega
 have h1':aI [.Constant (.bool b) j p] X.env=(d_,eval (.Constant (.bool b) j p) X.env)::aI [] X.env:=bG rfl;split at h5
 ·rename_i q;subst q;cases h5;exact Lc hu (hf _ _ h3) (fM GX kE h1') hb hln h1'
 split at h5
 ·rename_i q;subst q;cases h5;exact Lb hu (hf _ _ h3) (fM GX kE h1') hb hln h1'
 ·cases h5
def Jt{z:Ex}{o:aF}{m:aN}{ap cp:dZ}(T:mI G C S X)(hf:∀e x,f e=a_ x->SE X C e x)(h:OI G S f o m ap es cp=a_ z):SE X C (.Call (.Attribute o m ap) es [] cp) z:=by
 obtain⟨hln,h⟩:=bD h
 cases htr:RX f o m es with
 |some z'=>rw[htr]at h;cases h;exact Nr T hf hln htr
 |none=>
 rw[htr]at h;obtain⟨xs,h1,h⟩:=bV h;have ha:=iM hf h1;obtain⟨hb,h⟩:=bD h;obtain⟨xo,h0,h⟩:=bV h;obtain⟨mt,h2,rfl⟩:=dJ h;have hs:=ha.star;exact Nx (by have:=T.un;omega) h2 (hf _ _ h0) ha.sa ha.len (λe z=>by subst z;exact bG (by simpa using hs)) hb hln
def Np{z:Ex}{x y:aN}{bt:J3}(T:mI G C S X)(hf:∀e x,f e=a_ x->SE X C e x)(h:RW S f x y bt es=a_ z)
  (hl:∀a xa(p q q1 pos:dZ),dX a=c_->Gl X x->Gl X y->SE X C a xa->SE X C (.Call (.Name x p) [.Call (.Name y q) [a] [] q1] [] pos) (.blt bt [xa])){p:dZ}:SE X C (.Call (.Name x p) es [] pos) z:=by
 obtain⟨e,h1,g1⟩:=bV h;obtain⟨⟨y',as⟩,h2,g2⟩:=bV g1;obtain⟨q,q1,rfl⟩:=lU h2;obtain rfl:=dY h1;split at g2
 ·rename_i hy;obtain rfl:y'=y:=hy;obtain⟨a,h3,g3⟩:=bV g2;obtain rfl:as=[a]:=dY h3;obtain⟨hc,g4⟩:=bD g3;simp only[aq]at hc;obtain⟨xa,h4,rfl⟩:=dJ g4;exact hl a xa _ _ _ _ hc.2 (gh T hc.1.1) (gh T hc.1.2) (hf _ _ h4)
 ·cases g2
theorem HB:∀{es:List aF}{ns:List aN}{Cs:List af},namesOf es=a_ ns->ns.map X.mg=Cs.map (λC=>a_ (.ref C))->(∀n∈ns,Gl X n/\(n == ("__debug__":aN))=d_)->PA X es (λ_ H Q=>Q (Cs.map V.ref) H)
 |[],ns,Cs,h,e,_=>by
   cases h
   cases Cs with
   |nil=>exact qD
   |cons _ _=>cases e
 |a::es,ns,Cs,h,e,hg=>by
   obtain⟨t,h0,h⟩:=bV h;obtain⟨tn,h1,rfl⟩:=dJ h;obtain⟨p,rfl⟩:=dO h0
   cases Cs with
   |nil=>cases e
   |cons c Cs=>
     rw[aw,aw]at e;obtain⟨e1,e2⟩:=nP e;exact kd (wQ (v:=.ref c) (hg t jB).1 e1 rfl (hg t jB).2) (HB h1 e2 λn m=>hg n (jN _ m)) (bG rfl)
def Ny{z:Ex}{p:dZ}(T:mI G C S X)(hf:∀e x,f e=a_ x->SE X C e x)(h:Vc G S f es=a_ z):SE X C (.Call (.Name "isinstance" p) es [] pos) z:=by
 obtain⟨⟨a,t'⟩,h1,g1⟩:=bV h;obtain rfl:es=[a,t']:=nB h1;obtain⟨hc,g2⟩:=bD g1;rw[aq]at hc;have hgi:Gl X "isinstance":=gh T hc.1;have hmi:=T.blt "isinstance" (by decide +kernel)
 cases hn:fZ t' with
 |some t=>
   have g2:(match fZ t' with|some t=>if(fY t && xy S t)=c_ then(G.x.cls.lookup t).bind λtab=>(f a).map λxa=>Ex.Dj tab xa else b_|none=>_)=a_ z:=g2;rw[hn]at g2;obtain⟨p2,rfl⟩:=dO hn;obtain⟨hp,g3⟩:=bD g2;rw[aq]at hp;obtain⟨d1,d2,d3⟩:=eE hp.1;obtain⟨tab,h2,g4⟩:=bV g3;obtain⟨xa,h3,rfl⟩:=dJ g4
   rcases T.cls t tab h2 with⟨C0,hm,ht⟩|⟨T0,hm,hv,hnn,ht⟩
   ·exact GV hgi hmi (wQ (v:=.ref C0) (gh T hp.2) hm rfl d1) (λw r=>r) ht (hf _ _ h3) (bG hc.2) (i8 (by rfl))
   ·exact GV hgi hmi (CW (v:=.ty T0) (gh T hp.2) hm hv rfl hnn d1) (λw r=>r) ht (hf _ _ h3) (bG hc.2) (i8 (by rfl))
 |none=>
   have g2:(match fZ t' with|some t=>if(fY t && xy S t)=c_ then(G.x.cls.lookup t).bind λtab=>(f a).map λxa=>Ex.Dj tab xa else b_|none=>(Ob t').bind λes=>(namesOf es).bind λns=>if ns.all (λn=>fY n && xy S n)=c_ then(G.x.tcl.lookup ns).bind λtab=>(f a).map λxa=>Ex.Dj tab xa else b_)=a_ z:=g2;rw[hn]at g2;obtain⟨es,h2,g3⟩:=bV g2;obtain⟨ns,h3,g4⟩:=bV g3;obtain⟨hp,g5⟩:=bD g4;obtain⟨tab,h4,g6⟩:=bV g5;obtain⟨xa,h5,rfl⟩:=dJ g6
   cases t' with
   |Tuple es' kx p2=>
     cases h2;obtain⟨Cs,e1,e2,ht⟩:=T.tcl ns tab h4
     have hg:∀n∈ns,Gl X n/\(n == ("__debug__":aN))=d_:=λn m=>by
      have:=bg.mp hp n m;rw[aq]at this;exact⟨gh T this.2,(eE this.1).1⟩
     have hu:∀(l:List af)(ws:List aa),bZ (l.map V.ref) ws->ws=l.map bR:=λl=>by
      induction l with
      |nil=>intro ws h;cases h;rfl
      |cons c l ih=>
        intro ws h
        cases h with
        |cons r rs=>rw[show _=bR c from r,ih _ rs];rfl
     exact PM (by rw[ak];exact e2) hgi hmi (HB h3 e1 hg) (hu Cs) ht (hf _ _ h5) (bG hc.2) (bG rfl) (i8 (by rfl))
   |_=>cases h2
def Fh{z:Ex}{p:dZ}(T:mI G C S X)(hf:∀e x,f e=a_ x->SE X C e x)(h:BR G S f x es=a_ z):SE X C (.Call (.Name x p) es [] pos) z:=by
 unfold BR at h;split at h
 ·rename_i hx;subst hx
  cases hci:Vd S f es with
  |none=>rw[hci]at h;exact Ny T hf h
  |some w=>
    rw[hci]at h;cases h;have h:=hci;clear hci;obtain⟨⟨a,t'⟩,h1,g1⟩:=bV h;obtain rfl:es=[a,t']:=nB h1;obtain⟨t,h2,g2⟩:=bV g1;obtain⟨p2,h5⟩:=dO h2;obtain rfl:t'=.Name t p2:=h5;obtain⟨hc,g3⟩:=bD g2;simp only[aq]at hc;obtain⟨ty,h3,g4⟩:=bV g3;obtain⟨xa,h4,rfl⟩:=dJ g4;obtain⟨b1,b2,b3,b4⟩:=RV h3;exact PK ty (gh T hc.1.1) (T.blt _ (by decide +kernel)) (gh T hc.1.2) (T.blt _ b2) b1 (hf _ _ h4) b4 b3 (bG hc.2) (i8 (by rfl))
 ·generalize hw:(if x="sorted" then RW S f "sorted" "set" .sset es else b_)=w at h
  cases w with
  |some w=>
    cases h;split at hw
    ·rename_i hx;subst hx;exact Np T hf hw λa xa _ _ _ _ hs g1 g2 ha=>K8 T.un T.calm g1 (T.blt _ (by decide +kernel)) g2 (T.blt _ (by decide +kernel)) ha (by rw[bG hs];rfl)
    ·cases hw
  |none=>
    obtain⟨xs,h1,h⟩:=bV h;exact Nz T (iM hf h1) h
def Ai{z:Ex}{fn:aF}(T:mI G C S X)(hf:∀e x,f e=a_ x->SE X C e x)(h:Jw G S f fn es pos=a_ z):SE X C (.Call fn es [] pos) z:=by
 unfold Jw at h
 cases hq:ue fn with
 |some t=>
   rw[hq]at h;obtain rfl:=rg hq;exact Jt T hf h
 |none=>
   rw[hq]at h;obtain⟨x,h1,h⟩:=bV h;obtain⟨p,rfl⟩:=dO h1;exact Fh T hf h
def zL{gs:List Comprehension}{g:Gn}(h:OA gs=a_ g):gs=[⟨g.tg,g.it,g.ifs,0⟩]:=by
 obtain⟨c,h1,g1⟩:=bV h;obtain rfl:=dY h1;split at g1
 ·rename_i hz;cases g1;cases c;cases hz;rfl
 ·cases g1
set_option tactic.hygienic false
def Ah{F:Sc->aF->Option Ex}{elt:aF}{g:Gn}{sc:fk}{z:Ex}(ih:Ih G C F)(T:mI G C S X)(h:OL S F elt g sc=a_ z) :
  ∃tn caps one it xs xe gg,z=.comp tn caps one it xs xe/\∃tl:List aN,tl.length=tn/\iU X sc tl (freeOf sc) one/\SI X C g.tg g.it it/\oO tl.length gg/\Sv X.K tl.length caps gg/\
   (∀(cl:List (aN×af))(s₂:ae)(H₂:Hp)(Ca:af)(ex:List af),PG (eo X sc cl (tl++freeOf sc) s₂ H₂ Ca ex) g.tg gg/\J0 (eo X sc cl (tl++freeOf sc) s₂ H₂ Ca ex) g.ifs (SY X.K C xs)/\SE (eo X sc cl (tl++freeOf sc) s₂ H₂ Ca ex) C elt xe)/\nC g.it=c_:=by
 obtain⟨⟨one,tn⟩,h0,h⟩:=bV h;obtain⟨caps,h1,h⟩:=bV h;obtain⟨hc,h⟩:=bD h;simp only[aq]at hc;obtain⟨it,h2,h⟩:=bV h;obtain⟨xs,h3,h⟩:=bV h;obtain⟨xe,h4,rfl⟩:=dJ h;have cb:=Jh hc.1;obtain⟨gg,touch,tgc,hg⟩:=Te T h0 cb;refine⟨_,_,_,it,xs,xe,gg,rfl,tn,rfl,xN T cb h1,(OK T (λe x q=>(ih _ _ _ q X T).1) h2).1,touch,tgc,λcl s₂ H₂ Ca ex=>?_,hc.2⟩;have T':=qw T cb cl s₂ H₂ Ca ex;refine⟨hg cl s₂ H₂ Ca ex,?_,(ih _ _ _ h4 _ T').1⟩;generalize g.ifs=ifs at h3
 cases ifs with
 |nil=>cases h3;exact Ky
 |cons c r=>
   obtain⟨hn,h5⟩:=bD h3;simp only[aq,ej]at hn;obtain⟨rfl,hn⟩:=hn;obtain⟨y,g1,rfl⟩:=dJ h5;exact Kx ((ih _ _ _ g1 _ T').2 hn)
theorem vZ:∀n,Ih G C (cE G n)
 |0=>λ_ _ _ h=>by cases h
 |n+1=>λS e z h X T=>by
   have ih:=λe x h=>vZ n S e x h X T;have hf:=λe x h=>(ih e x h).1
   cases e with
   |Constant c k p=>
     obtain⟨d,h1,rfl⟩:=dJ h
     have q:SE X C (.Constant c k p) (.con d):=by
      cases c<;>first|(cases h1;first|exact PN|exact GX|exact PD|exact PC)|cases h1
     exact⟨q,λ_=>kC q⟩
   |Name x p=>exact⟨Af T h,λ_=>kC (Af T h)⟩
   |BinOp a op b p=>
     obtain⟨o,h0,h⟩:=bV h;obtain⟨xa,h1,h⟩:=bV h;obtain⟨xb,h2,rfl⟩:=dJ h;have q:=PR (pos:=p) (NF (X:=X) h0) (hf _ _ h1) (hf _ _ h2);exact⟨q,λ_=>kC q⟩
   |UnaryOp op a p=>
     cases op with
     |USub=>
       obtain⟨xa,h1,rfl⟩:=dJ h;have q:=PF (pos:=p) (hf _ _ h1);exact⟨q,λ_=>kC q⟩
     |Not=>
       obtain⟨hn,h⟩:=bD h;obtain⟨xa,h1,rfl⟩:=dJ h;exact⟨La (hf _ _ h1),λ_=>O9 ((ih _ _ h1).2 hn)⟩
     |_=>cases h
   |BoolOp op es p=>
     obtain⟨hn,h⟩:=bD h
     cases op with
     |And=>
       obtain⟨xs,h1,h⟩:=bV h;have q:=vS (pos:=p) (iM ih h1) hn h;exact⟨q.1,λ_=>q.2.pt⟩
     |Or=>
       obtain⟨xs,h1,h⟩:=bV h;have q:=zP (pos:=p) (iM ih h1) hn h;exact⟨q.1,λ_=>q.2.pt⟩
   |Attribute a m p=>
     obtain⟨hb,h⟩:=bD h;obtain⟨cs,h1,h⟩:=bV h;obtain⟨xa,h2,rfl⟩:=dJ h;have q:=PU (pos:=p) (T.AE m cs h1) (hf _ _ h2) (og hb);exact⟨q,λ_=>kC q⟩
   |Compare a ops bs p=>
     have q:=Jv (pos:=p) T hf h;exact⟨q.1,λ_=>q.2⟩
   |IfExp c a b p=>
     obtain⟨hn,h⟩:=bD h;obtain⟨xc,h1,h⟩:=bV h;obtain⟨xa,h2,h⟩:=bV h;obtain⟨xb,h3,rfl⟩:=dJ h;exact⟨PJ ((ih _ _ h1).2 hn) (hf _ _ h2) (hf _ _ h3),λz=>by cases z⟩
   |Tuple es k p=>
     obtain⟨xs,h1,rfl⟩:=dJ h;have q:=PB (x1:=k) (pos:=p) (iM hf h1).sf;exact⟨q,λ_=>kC q⟩
   |List es p=>
     obtain⟨xs,h1,rfl⟩:=dJ h;have q:=PH (pos:=p) (iM hf h1).sf;exact⟨q,λ_=>kC q⟩
   |Dict ks vs p=>exact⟨Ag hf h,λ_=>kC (Ag hf h)⟩
   |Subscript a b p=>exact⟨DE T hf h,λ_=>kC (DE T hf h)⟩
   |Call fn args kws cp=>
     obtain⟨hk,h⟩:=bD h
     cases kws with
     |nil=>exact⟨Ai T hf h,λ_=>kC (Ai T hf h)⟩
     |cons _ _=>cases hk
   |ListComp elt gs sc p=>
     obtain⟨g,h1,h⟩:=bV h;obtain rfl:=zL h1;obtain⟨_,_,_,it,xs,xe,gg,rfl,tl,rfl,k1,k2,k3,k4,k5,k6⟩:=Ah (vZ n) T h;have q:=Lf (pos:=p) T.calm k1 k2 k3 k4 (λcl s₂ H₂ Ca ex=>(k5 cl s₂ H₂ Ca ex).1) (λcl s₂ H₂ Ca ex=>(k5 cl s₂ H₂ Ca ex).2.1) (λcl s₂ H₂ Ca ex=>(k5 cl s₂ H₂ Ca ex).2.2) (km k6);exact⟨q,λ_=>kC q⟩
   |_=>cases h
end
noncomputable def pW:aF->Bool
 |.ListComp _ _ _ _=>d_
 |.SetComp _ _ _ _=>d_
 |.DictComp _ _ _ _ _=>d_
 |_=>c_
noncomputable def GH(S:Sc)(sc:fk)(cp:dZ)(t:aN)(p:dZ):Bool:=S.nm.lookup t == a_ .local && p.line == cp.line && !(sc.names.any λ(n,k)=>n == t && (k == .local || k == .cell))
noncomputable def Vb(m:aN)(k:Nat):Option uq:=
 if m="append"/\k=1 then a_ .app else if m="insert"/\k=2 then a_ .ins else b_
noncomputable def Dx(e:aF):Bool:=fZ e == a_ "entry"
noncomputable def G8(S:Sc)(e:aF):Option Nat:=(fZ e).bind λx=>if(fY x && AO S x)=c_ then nG x S.N else b_
noncomputable def RZ(G:Sg)(S:Sc)(f:aF->Option Ex):Option aF->Option Sx
 |none=>b_
 | some e=>match G8 S e with
   |some i=>a_ (.tu i)
   |none=>(f e).map .ret
noncomputable def Ck:aF->Option (aN×aF)
 |.Subscript a ix _=>(fZ a).map λx=>(x,ix)
 |_=>b_
noncomputable def R7(S:Sc)(f:aF->Option Ex)(t e:aF):Option Sx:=match fZ t with
 |some x=>if tM S x=c_ then(nG x S.N).bind λi=>(f e).map λxe=>.set i xe else b_
 | none=>match Ck t with
   |some (x,ix)=>if(AO S x && fY x && (nU ix).isNone && pW e)=c_ then(nG x S.N).bind λi=>(f e).bind λxe=>(f ix).map λxi=>.mut (if Dx ix=c_ then .dput else .seti) i [xe,xi]else b_
   |none=>(nR t).bind λtn=>if(tn.2.all (tM S) && !isTup e && !tn.1)=c_ then(rJ S.N tn.2).bind λts=>(f e).map λxe=>.vo ts xe else b_
structure Mc where
 x:aN
 m:aN
 ap:dZ
 args:List aF
 cp:dZ
noncomputable def QX(e:aF):Option Mc:=(Nn e).bind λc=>(ue c.fn).bind λt=>(fZ t.1).bind λx=>if c.kws.isEmpty=c_ then a_ ⟨x,t.2.1,t.2.2,c.args,c.pos⟩else b_
noncomputable def natOf:aF->Option Nat
 |.Constant (.int i) _ _=>if 0<=i then a_ i.toNat else b_
 |_=>b_
structure Mt where
 x:aN
 j:Nat
 m:aN
 ap:dZ
 args:List aF
 cp:dZ
noncomputable def Mm(e:aF):Option Mt:=(Nn e).bind λc=>(ue c.fn).bind λt=>(Ck t.1).bind λz=>(natOf z.2).bind λj=>if c.kws.isEmpty=c_ then a_ ⟨z.1,j,t.2.1,t.2.2,c.args,c.pos⟩else b_
noncomputable def Va(S:Sc)(f:aF->Option Ex)(c:Mt):Option Sx:=if(AO S c.x && fY c.x && (c.ap.endLine == c.cp.line))=c_ then(nG c.x S.N).bind λi=>(qI f c.args).bind λxs=>if c.m="extend" then(iH xs).map λxa=>.Az .ext i c.j [xa]else if(decide (c.m="clear") && xs.isEmpty)=c_ then a_ (.Az .clr i c.j [])else b_ else b_
noncomputable def cExp(S:Sc)(f:aF->Option Ex)(e:aF):Option Sx:=match QX e with
 |some c=>if(AO S c.x && fY c.x && (c.ap.endLine == c.cp.line))=c_ then(nG c.x S.N).bind λi=>(qI f c.args).bind λxs=>(Vb c.m xs.length).map λop=>.mut op i xs else b_
 | none=>match Mm e with
   |some c=>Va S f c
   |none=>b_
noncomputable def Jr(G:Sg)(S:Sc)(f:aF->Option Ex)(e:aF):Option (Nat×List Ex):=(qT e).bind λc=>if(fY c.1 && xy S c.1 && !c.2.isEmpty)=c_ then(BK c.1 0 G.fns).bind λjn=>(qI f c.2).bind λxs=>if xs.length=jn.2 then a_ (jn.1,xs)else b_ else b_
noncomputable def RY(G:Sg)(S:Sc)(f:aF->Option Ex)(v:Option aF):Option Sx:=v.bind λe=>(Jr G S f e).map λq=>.TL q.1 q.2
noncomputable def U9(G:Sg)(S:Sc)(f:aF->Option Ex)(v w:Option aF):Option Sx:=v.bind λe=>if w.isNone=c_ then(qT e).bind λc=>if(fY c.1 && xy S c.1)=c_ then(iH c.2).bind λa=>if dX a=c_ then(G.x.exc.lookup c.1).bind λcf=>(f a).map λxa=>.yj cf.1 cf.2 xa else b_ else b_ else b_
noncomputable def DK(b:List fw):Option (aN×aN×List aF):=(iH b).bind λ
 |.Assign ts e _=>(iH ts).bind λt=>(fZ t).bind λx=>(qT e).map λc=>(x,c.1,c.2)
 |_=>b_
noncomputable def Oz(hs:List mV):Option (aN×aN×aN):=(iH hs).bind λ
 | .ExceptHandler t n b _=>t.bind λt=>(fZ t).bind λD=>n.bind λn=>(iH b).bind λ
   |.Assign ts e _=>(iH ts).bind λy=>(fZ y).bind λy=>(fZ e).bind λz=>if z=n then a_ (D,n,y)else b_
   |_=>b_
noncomputable def U7(G:Sg)(S:Sc)(f:aF->Option Ex)(b:List fw)(hs:List mV):Option Sx:=(DK b).bind λa=>(Oz hs).bind λh=>
 if(fY a.2.1 && xy S a.2.1 && !a.2.2.isEmpty && fY h.1 && xy S h.1 && fY h.2.1 && S.nm.lookup h.2.1 == a_ .local && tM S a.1 && tM S h.2.2 && h.2.1 != h.2.2)=c_ then
  (BK a.2.1 0 G.fns).bind λjn=>(qI f a.2.2).bind λxs=>if xs.length=jn.2 then(G.x.hnd.lookup h.1).bind λok=>(nG a.1 S.N).bind λi=>(nG h.2.1 S.N).bind λm=>(nG h.2.2 S.N).map λy=>.Oc i jn.1 xs y m ok else b_
 else b_
noncomputable def yY(f:fw->Option Sx)(ss:List fw):List Sx:=ss.map λs=>(f s).getD .Kz
noncomputable def cS(G:Sg)(S:Sc):Nat->fw->Option Sx
 |0,_=>b_
 | n+1,st=>match st with
   | .Return v _=>match RY G S (cE G n S) v with
     |some y=>a_ y
     |none=>RZ G S (cE G n S) v
   |.Raise v w _=>U9 G S (cE G n S) v w
   |.Try b hs els fin _=>if(els.isEmpty && fin.isEmpty)=c_ then U7 G S (cE G n S) b hs else b_
   |.Assign ts e _=>(iH ts).bind λt=>R7 S (cE G n S) t e
   | .Expr e _=>match Jr G S (cE G n S) e with
     |some q=>a_ (.MV q.1 q.2)
     |none=>cExp S (cE G n S) e
   |.If c a b _=>if rA c=c_ then(cE G n S c).map λxc=>.ifs xc (yY (cS G S n) a) (yY (cS G S n) b)else b_
   |.For tg iter body els _=>if els.isEmpty=c_ then(nR tg).bind λt=>if(t.2.all (tM S) && nC iter)=c_ then(rJ S.N t.2).bind λts=>(cI S (cE G n S) tg iter).map λit=>.loop t.1 ts it (yY (cS G S n) body)else b_ else b_
   |_=>b_
structure Sy(G:Sg)(C:Fs)(X:Cx)(EE:XK):Prop where
 wx:DM X EE
 px:nM (rM X.prog X.w) X EE
 po:Fw (aE X.prog X.w) X.A X.env X.xe
 fx:∀(j:Nat)x n,G.fns[j]?=a_ (x,n)->∃k f fd ps,iX X.prog X.w X.K X.mg X.base (rM X.prog X.w) k f fd ps (GL X.K n (C j) (C (j+pM)))/\iJ k X.A/\X.mg x=a_ (.ref f)/\cX X.K (.ref f)=c_/\Binds X.K fd ps []
 ex:∀x c f,G.x.exc.lookup x=a_ (c,f)->∃fI fd k,X.mg x=a_ (.ref c)/\sJ X.K c fI=c_/\iX X.prog X.w X.K X.mg X.base DR k fI fd ["self",f] (sP c f)/\iJ (k+1) X.A/\Binds X.K fd ["self",f] []
 kf:G.x.kf X.K X.mg
 hn:∀n ok,G.x.hnd.lookup n=a_ ok->∃CD,X.mg n=a_ (.ref CD)/\∀c∈ok,fN X.K (.ref c) (.ref CD)=a_ c_
 st:X.stack=X.env::X.outer
 fm:X.env.frame=a_ X.env.locals
section
variable{G:Sg}{C:Fs}{S:Sc}{X:Cx}{e:aF}{pos:dZ}{f:aF->Option Ex}
theorem jK{f:fw->Option Sx}(hf:∀s y,f s=a_ y->SS X C EE s y):∀(ss:List fw),FI X C EE ss (yY f ss)
 |[]=>KA
 | s::r=>GJ (by
    show SS X C EE s ((f s).getD .Kz)
    cases q:f s with
    |none=>exact Pf
    |some y=>exact hf _ _ q) (jK hf r)
def Bs{t:Option aF}{line:Nat}(h:pW e=c_):swapsWith e t line X.env=pure d_:=by
 cases e<;>first|rfl|cases h
def Hq{i:Nat}{t:aN}{p:dZ}(T:mI G C S X)(ht:S.top=c_)(hN:S.N.Nodup)(hi:S.N[i]?=a_ t)(hl:tM S t=c_):PG X (.Name t p) (jP i):=
 CU (by rw[T.N];exact hN) (by rw[T.N];exact hi) (n0 T hl) (.inl (T.fn ht t))
theorem ze(T:mI G C S X)(htop:S.top=c_)(hN:S.N.Nodup):∀{es:List aF}{tn:List aN}{ts:List Nat},namesOf es=a_ tn->tn.all (tM S)=c_->rJ S.N tn=a_ ts->Ta X es (VC ts)/\ts.length=es.length
 |[],tn,ts,h,_,hc=>by
   cases h;cases hc;exact⟨CT,rfl⟩
 |e::es,tn,ts,h,hl,hc=>by
   obtain⟨t,h0,h⟩:=bV h;obtain⟨tn',h1,rfl⟩:=dJ h;obtain⟨p,rfl⟩:=dO h0;obtain⟨i,h2,hc⟩:=bV hc;obtain⟨is,h3,rfl⟩:=dJ hc;rw[eQ,aq]at hl;obtain⟨q1,q2⟩:=ze T htop hN h1 hl.2 h3;exact⟨yW (Hq T htop hN (eR h2) hl.1) q1,congrArg (·+ 1) q2⟩
def GC{tg:aF}{one:Bool}{tn:List aN}{ts:List Nat}(T:mI G C S X)(htop:S.top=c_)(hN:S.N.Nodup)(ht:nR tg=a_ (one,tn))(hl:tn.all (tM S)=c_)(hc:rJ S.N tn=a_ ts) :
  ∃g,Su X.K one ts g/\PG X tg g:=by
 cases tg with
 |Name t p=>
   cases ht;obtain⟨i,h1,hc⟩:=bV hc;cases hc;exact⟨jP i,Ks,Hq T htop hN (eR h1) (by simpa using hl)⟩
 |Tuple es k p=>
   obtain⟨tn',h1,h⟩:=dJ ht;cases h;obtain⟨q1,q2⟩:=ze T htop hN h1 hl hc;exact⟨_,Gz,Ho T.calm q1 ((mq h1).1.trans q2.symm) (mq h1).2.1⟩
 |_=>cases ht
def Nv{v:Option aF}{y:Sx}(T:mI G C S X)(hf:∀e x,f e=a_ x->SE X C e x)(h:RZ G S f v=a_ y):SS X C EE (.Return v pos) y:=by
 cases v with
 |none=>cases h
 |some e=>
   have h:(match G8 S e with|some i=>a_ (Sx.tu i)|none=>(f e).map .ret)=a_ y:=h
   cases hw:G8 S e with
   |some i=>
     rw[hw]at h;cases h;obtain⟨x,h1,h2⟩:=bV hw;obtain⟨p,rfl⟩:=dO h1;obtain⟨hc,h2⟩:=bD h2;rw[aq]at hc;obtain⟨d1,d2,d3⟩:=eE hc.1;exact KD (by rw[T.N];exact eR h2) (pN T hc.2) d1 d2
   |none=>
     rw[hw]at h;obtain⟨xe,h1,rfl⟩:=dJ h;exact Pj (hf _ _ h1)
def Ea{e:aF}{line:Nat}{env:mK}{a ix:aF}{sp:dZ}(h:pW e=c_):swapsWithSole [.Subscript a ix sp] e line env=pure d_/\swappedStores [.Subscript a ix sp] e env=pure b_:=by
 cases e<;>first|exact⟨rfl,rfl⟩|cases h
def D6{e:aF}{line:Nat}{env:mK}{es:List aF}{k:Nat}{tp:dZ}(h:isTup e=d_):swapsWithSole [.Tuple es k tp] e line env=pure d_/\swappedStores [.Tuple es k tp] e env=pure b_:=by
 cases e<;>first|exact⟨rfl,rfl⟩|cases h
def yE{t ix:aF}{x:aN}(h:Ck t=a_ (x,ix)):∃p sp,t=.Subscript (.Name x p) ix sp:=by
 cases t with
 |Subscript a ix' sp=>
   obtain⟨x',h1,h2⟩:=dJ h;cases h2;obtain⟨p,rfl⟩:=dO h1;exact⟨p,sp,rfl⟩
 |_=>cases h
def Tf{t:aF}{tn:List aN}(h:nR t=a_ (d_,tn)):∃es k tp,t=.Tuple es k tp:=by
 cases t with
 |Tuple es k tp=>exact⟨es,k,tp,rfl⟩
 |_=>cases h
def UH{o ix:aF}{p:dZ}{env:mK}(h:nU ix=b_):∀v,assign (.Subscript o ix p) env v=(do
   let ov <-holding [v] (eval o env);let iv <-holding [v,ov] (eval ix env)
   standAt p
   holding [v,ov,iv] (setItem ov iv v)
   release [v,ov,iv] []):=λv=>by
 cases ix<;>first|rfl|cases h
def RR{n:Nat}{z:Ex}(hc:¬pW e=c_)(h:cE G n S e=a_ z):∃elt gs sc cp,e=.ListComp elt gs sc cp:=by
 cases n with
 |zero=>cases h
 |succ n=>
   cases e with
   |ListComp elt gs sc cp=>exact⟨_,_,_,_,rfl⟩
   |SetComp _ _ _ _=>cases h
   |DictComp _ _ _ _ _=>cases h
   |_=>exact absurd rfl hc
def Nt{n i:Nat}{x:aN}{p:dZ}{xe:Ex}(T:mI G C S X)(top:S.top=c_)(nd:S.N.Nodup)(hl:tM S x=c_)(h1:nG x S.N=a_ i)(h2:cE G n S e=a_ xe):SS X C EE (.Assign [.Name x p] e pos) (.set i xe):=by
 have hN:X.N.Nodup:=by rw[T.N];exact nd
 have hi:X.N[i]?=a_ x:=by rw[T.N];exact eR h1
 have q:=(vZ n S e xe h2 X T).1;by_cases hc:pW e=c_
 ·exact GK hN hi (n0 T hl) q (Bs hc) (.inl (T.fn top x))
 ·obtain⟨elt,gs,sc,cp,rfl⟩:=RR hc h2
  have hsw:swapsWith (.ListComp elt gs sc cp) (a_ (.Name x p)) pos.line X.env=pure (GH S sc cp x p):=by
   unfold swapsWith GH;have hb:X.env.blockKind=.function:=by unfold Env.blockKind;rw[T.kind];rfl
   simp only[pure_bind,hb,qt,T.nm];rfl
  cases hb:GH S sc cp x p with
  |false=>
    rw[hb]at hsw;exact GK hN hi (n0 T hl) q hsw (.inl (T.fn top x))
  |true=>
    rw[hb]at hsw
    cases n with
    |zero=>cases h2
    |succ n=>
      obtain⟨g,h3,h4⟩:=bV h2;obtain rfl:=zL h3;obtain⟨_,_,_,it,xs,xe,gg,rfl,tl,rfl,k1,k2,k3,k4,k5,k6⟩:=Ah (vZ n) T h4;exact A3 hN hi (n0 T hl) T.calm k1 k2 k3 k4 (λcl s₂ H₂ Ca ex=>(k5 cl s₂ H₂ Ca ex).1) (λcl s₂ H₂ Ca ex=>(k5 cl s₂ H₂ Ca ex).2.1) (λcl s₂ H₂ Ca ex=>(k5 cl s₂ H₂ Ca ex).2.2) hsw (km k6) (.inl (T.fn top x))
def NG{n:Nat}{t:aF}{y:Sx}(T:mI G C S X)(top:S.top=c_)(nd:S.N.Nodup)(h:R7 S (cE G n S) t e=a_ y):SS X C EE (.Assign [t] e pos) y:=by
 have hf:=λe x(h:cE G n S e=a_ x)=>(vZ n S e x h X T).1;unfold R7 at h
 cases ht:fZ t with
 |some x=>
   rw[ht]at h;obtain⟨p,rfl⟩:=dO ht;obtain⟨hl,g1⟩:=bD h;obtain⟨i,h1,g2⟩:=bV g1;obtain⟨xe,h2,rfl⟩:=dJ g2;exact Nt T top nd hl h1 h2
 |none=>
   rw[ht]at h
   cases hs:Ck t with
   |some z=>
     obtain⟨x,ix⟩:=z;rw[hs]at h;obtain⟨p,sp,rfl⟩:=yE hs;obtain⟨hc,g1⟩:=bD h;simp only[aq,uG]at hc;obtain⟨⟨⟨hv,hp⟩,hsl⟩,hnc⟩:=hc;obtain⟨i,h1,g2⟩:=bV g1;obtain⟨xe,h2,g3⟩:=bV g2;obtain⟨xi,h3,rfl⟩:=dJ g3;obtain⟨d1,d2,d3⟩:=eE hp;have hi:X.N[i]?=a_ x:=by rw[T.N];exact eR h1
     have sw:=Ea (line:=pos.line) (env:=X.env) (a:=.Name x p) (ix:=ix) (sp:=sp) hnc;have hvar:=nv (pos:=p) hi (pN T hv) d1 d2;by_cases hq:Dx ix=c_
     ·rw[if_pos hq];exact KE (Bm (hf _ _ h2) (Hr hvar (hf _ _ h3) (TC (by have:=T.un;omega)) (UH hsl)) sw.1 sw.2 rfl)
     ·rw[if_neg hq];exact KC (Bm (hf _ _ h2) (Hr hvar (hf _ _ h3) (KZ (by have:=T.un;omega)) (UH hsl)) sw.1 sw.2 rfl)
   |none=>
     rw[hs]at h;obtain⟨⟨one,tn⟩,h0,g1⟩:=bV h;obtain⟨hl,g2⟩:=bD g1;simp only[aq,fG]at hl;obtain⟨ts,h1,g3⟩:=bV g2;obtain⟨xe,h3,rfl⟩:=dJ g3;obtain⟨g,t1,t2⟩:=GC T top nd h0 hl.1.1 h1;obtain rfl:one=d_:=hl.2;obtain⟨es,k,tp,rfl⟩:=Tf h0;have sw:=D6 (line:=pos.line) (env:=X.env) (es:=es) (k:=k) (tp:=tp) hl.1.2;exact Pe (hf _ _ h3) t1 t2 sw.1 sw.2 rfl
def Mn{c:Mc}(h:QX e=a_ c):∃p,e=.Call (.Attribute (.Name c.x p) c.m c.ap) c.args [] c.cp:=by
 obtain⟨⟨fn,as,kws,cp⟩,h0,g0⟩:=bV h;obtain⟨⟨o,m,ap⟩,h1,g1⟩:=bV g0;obtain⟨x,h2,g2⟩:=bV g1;obtain⟨hk,g3⟩:=bD g2;cases g3;obtain⟨p,h4⟩:=dO h2;obtain rfl:o=.Name x p:=h4;obtain rfl:kws=[]:=ej.mp hk;obtain rfl:fn=.Attribute (.Name x p) m ap:=rg h1;exact⟨p,xR h0⟩
set_option tactic.hygienic true
def HU{e:aF}{n:Nat}(h:natOf e=a_ n):∃j p,e=.Constant (.int (n:Int)) j p:=by
 unfold natOf at h;split at h
 ·split at h
  ·rename_i i j p h0;cases h;exact⟨j,p,by rw[Int.toNat_of_nonneg h0]⟩
  ·cases h
 ·cases h
def Ml{c:Mt}(h:Mm e=a_ c):∃p sp k kp,e=.Call (.Attribute (.Subscript (.Name c.x p) (.Constant (.int (c.j:Int)) k kp) sp) c.m c.ap) c.args [] c.cp:=by
 obtain⟨⟨fn,args,kws,cp⟩,h0,g⟩:=bV h;obtain⟨⟨o,m,ap⟩,h1,g⟩:=bV g;obtain⟨⟨x,ix⟩,h2,g⟩:=bV g;obtain⟨j,h3,g⟩:=bV g;obtain⟨hk,g⟩:=bD g;cases g;obtain⟨p,sp,h4⟩:=yE h2;obtain⟨k,kp,h5⟩:=HU h3;obtain rfl:ix=.Constant (.int (j:Int)) k kp:=h5;obtain rfl:o=.Subscript (.Name x p) (.Constant (.int (j:Int)) k kp) sp:=h4;obtain rfl:kws=[]:=ej.mp hk;obtain rfl:fn=.Attribute (.Subscript (.Name x p) (.Constant (.int (j:Int)) k kp) sp) m ap:=rg h1;exact⟨p,sp,k,kp,xR h0⟩
def Nw{y:Sx}{c:Mt}(T:mI G C S X)(hf:∀e x,f e=a_ x->SE X C e x)(hc:Mm e=a_ c)(h:Va S f c=a_ y):SS X C EE (.Expr e pos) y:=by
 obtain⟨p,sp,k,kp,rfl⟩:=Ml hc;clear hc;obtain⟨x,j,m,ap,args,cp⟩:=c;obtain⟨hc,g1⟩:=bD h;simp only[aq]at hc;obtain⟨⟨hv,hp⟩,hln⟩:=hc;obtain⟨i,h1,g2⟩:=bV g1;obtain⟨xs,h2,g3⟩:=bV g2;obtain⟨d1,d2,d3⟩:=eE hp;have ha:=iM hf h2;have hvar:=Oo (pos:=sp) Im (nv (pos:=p) (by rw[T.N];exact eR h1) (pN T hv) d1 d2) (Hv (i:=(j:Int)) (j:=k) (pos:=kp)) (tB rfl);split at g3
 ·rename_i hm;obtain rfl:m="extend":=hm;obtain⟨xa,h3,rfl⟩:=dJ g3;obtain rfl:=dY h3;obtain⟨e,he0,hs,he⟩:=ha.one;obtain rfl:args=[e]:=he0;have h1':aI [e] X.env=(d_,eval e X.env)::aI [] X.env:=bG hs;exact KG (pT (vA eu lu PySem.F.type_list_extend QV hvar ha.sf rfl (by rw[h1'];rfl) hln h1' rfl) rfl)
 split at g3
 ·rename_i hm;simp only[aq,decide_eq_true_eq]at hm;obtain⟨hm,hx⟩:=hm;obtain rfl:m="clear":=hm;cases g3;obtain rfl:=ej.mp hx;have ha':args=[]:=by cases ha;rfl
  obtain rfl:args=[]:=ha';exact KH (pT (Qr eu va PySem.F.type_list_clear HX hvar rfl hln) rfl)
 ·cases g3
def NA{y:Sx}(T:mI G C S X)(hf:∀e x,f e=a_ x->SE X C e x)(h:cExp S f e=a_ y):SS X C EE (.Expr e pos) y:=by
 unfold cExp at h
 cases hm:QX e with
 |none=>
   rw[hm]at h
   cases ht:Mm e with
   |some c=>rw[ht]at h;exact Nw T hf ht h
   |none=>rw[ht]at h;cases h
 |some c=>
   rw[hm]at h;obtain⟨p,rfl⟩:=Mn hm;obtain⟨x,m,ap,args,cp⟩:=c;obtain⟨hc,g1⟩:=bD h;simp only[aq]at hc;obtain⟨⟨hv,hp⟩,hln⟩:=hc;obtain⟨i,h1,g2⟩:=bV g1;obtain⟨xs,h2,g3⟩:=bV g2;obtain⟨op,h3,rfl⟩:=dJ g3;obtain⟨d1,d2,d3⟩:=eE hp;have ha:=iM hf h2;have hvar:=nv (pos:=p) (by rw[T.N];exact eR h1) (pN T hv) d1 d2;clear h g1 g2 g3 hm h2;unfold Vb at h3;split at h3
   ·rename_i hm;obtain⟨rfl,hk⟩:=hm;cases h3;obtain⟨xa,rfl⟩:=List.length_eq_one_iff.mp hk;obtain⟨e,rfl,hs,he⟩:=ha.one;have h1':aI [e] X.env=(d_,eval e X.env)::aI [] X.env:=bG hs;exact Ct (by simp) (by simp) (by simp) Rx (pT (vA eu uB PySem.F.type_list_append Ew hvar ha.sf rfl (by rw[h1'];rfl) hln h1' rfl) rfl)
   split at h3
   ·rename_i hm;obtain⟨rfl,hk⟩:=hm;cases h3
    match xs,hk,ha with
    |[xa,xb],_,ha=>
      obtain⟨a,b,rfl,hs,hs',_,_⟩:=ha.two;have h1':aI [a,b] X.env=(d_,eval a X.env)::aI [b] X.env:=bG hs;have h2':aI [b] X.env=(d_,eval b X.env)::aI [] X.env:=bG hs';exact Ct (by simp) (by simp) (by simp) Rv (pT (vA eu uA PySem.F.type_list_insert Eu hvar ha.sf rfl (by rw[h1',h2'];rfl) hln h1' (by rw[h2'];rfl)) rfl)
   ·cases h3
def DD{q:Nat×List Ex}(T:mI G C S X.kl)(W:Sy G C X EE)(hf:∀e x,f e=a_ x->SE X.kl C e x)(h:Jr G S f e=a_ q):(∀pos,SS X C EE (.Expr e pos) (.MV q.1 q.2))/\∀pos,SS X C EE (.Return (a_ e) pos) (.TL q.1 q.2):=by
 obtain⟨⟨x,args⟩,h1,g1⟩:=bV h;obtain⟨p,cp,rfl⟩:=lU h1;obtain⟨hc,g2⟩:=bD g1;simp only[aq]at hc;obtain⟨⟨j,n⟩,h2,g3⟩:=bV g2;obtain⟨xs,h3,g4⟩:=bV g3;have g4:(if xs.length=n then a_ (j,xs)else b_)=a_ q:=g4;split at g4
 ·rename_i hn;cases g4;obtain⟨d1,d2,d3⟩:=eE hc.1.1;obtain⟨i,e1,e2⟩:=qa h2;rw[jm]at e1;subst e1;obtain⟨k,fa,fd,ps,F,hr,hm,hk,hb⟩:=W.fx _ x n e2;have ha:=iM hf h3;have hg:Gl X x:=gh (X:=X.kl) T hc.1.2
  cases ha with
  |nil=>exact absurd hc.2 (by simp)
  |cons hs he r=>exact⟨λpos=>Pk F hr hg hm hk hb W.px (fM he r.sa (bG hs)) hn d1 (bG hs) (i8 r.star),λpos=>Pg F hr hg hm hk hb W.px (fM he r.sa (bG hs)) hn d1 (bG hs) (i8 r.star)⟩
 ·cases g4
def Nu{v w:Option aF}{y:Sx}(T:mI G C S X.kl)(W:Sy G C X EE)(hf:∀e x,f e=a_ x->SE X.kl C e x)(h:U9 G S f v w=a_ y):SS X C EE (.Raise v w pos) y:=by
 obtain⟨e,h0,g0⟩:=bV h;subst h0;obtain⟨hw,g1⟩:=bD g0;obtain rfl:=uG.mp hw;obtain⟨⟨x,args⟩,h1,g2⟩:=bV g1;obtain⟨p,cp,rfl⟩:=lU h1;obtain⟨hc,g3⟩:=bD g2;rw[aq]at hc;obtain⟨a,h2,g4⟩:=bV g3;obtain rfl:=dY h2;obtain⟨hs,g5⟩:=bD g4;obtain⟨⟨c,fl⟩,h3,g6⟩:=bV g5;obtain⟨xa,h4,rfl⟩:=dJ g6;obtain⟨d1,d2,d3⟩:=eE hc.1;obtain⟨fI,fd,k,hm,q,F,hr,hb⟩:=W.ex x c fl h3;have hg:Gl X x:=gh (X:=X.kl) T hc.2;exact Ph W.wx T.calm hg hm q d1 F hr hb (fM (hf _ _ h4) kE (bG hs)) (bG hs)
def B1{b:List fw}{x fn:aN}{as:List aF}(h:DK b=a_ (x,fn,as)):∃px p cp ap,b=[.Assign [.Name x px] (.Call (.Name fn p) as [] cp) ap]:=by
 obtain⟨st,h1,g1⟩:=bV h;obtain rfl:=dY h1
 cases st with
 |Assign ts e ap=>
   obtain⟨t,h2,g2⟩:=bV g1;obtain rfl:=dY h2;obtain⟨y,h3,g3⟩:=bV g2;obtain⟨px,rfl⟩:=dO h3;obtain⟨⟨c1,c2⟩,h4,g4⟩:=dJ g3;cases g4;obtain⟨p,q,rfl⟩:=lU h4;exact⟨px,p,q,ap,rfl⟩
 |_=>cases g1
def IB{hs:List mV}{D n y:aN}(h:Oz hs=a_ (D,n,y)):∃dp py np yp hp,hs=[.ExceptHandler (a_ (.Name D dp)) (a_ n) [.Assign [.Name y py] (.Name n np) yp] hp]:=by
 obtain⟨hd,h1,g1⟩:=bV h;obtain rfl:=dY h1;obtain⟨t,n',b,hp⟩:=hd;obtain⟨t,rfl,g2⟩:=bV g1;obtain⟨D',h3,g3⟩:=bV g2;obtain⟨dp,rfl⟩:=dO h3;obtain⟨m,rfl,g4⟩:=bV g3;obtain⟨st,h5,g5⟩:=bV g4;obtain rfl:=dY h5
 cases st with
 |Assign ts e yp=>
   obtain⟨yy,h6,g6⟩:=bV g5;obtain rfl:=dY h6;obtain⟨y',h7,g7⟩:=bV g6;obtain⟨py,rfl⟩:=dO h7;obtain⟨z,h8,g8⟩:=bV g7;obtain⟨np,rfl⟩:=dO h8;have g8:(if z=m then a_ (D',m,y')else b_)=a_ (D,n,y):=g8;split at g8
   ·rename_i hz;cases g8;subst hz;exact⟨dp,py,np,yp,hp,rfl⟩
   ·cases g8
 |_=>cases g5
def Nq{b:List fw}{hs:List mV}{y:Sx}(T:mI G C S X.kl)(W:Sy G C X EE)(top:S.top=c_)(nd:S.N.Nodup)(hf:∀e x,f e=a_ x->SE X.kl C e x)(h:U7 G S f b hs=a_ y):SS X C EE (.Try b hs [] [] pos) y:=by
 obtain⟨⟨x,fn,as⟩,h1,g1⟩:=bV h;obtain⟨⟨D,n,yn⟩,h2,g2⟩:=bV g1;obtain⟨px,p,cp,ap,rfl⟩:=B1 h1;obtain⟨dp,py,np,yp,hp,rfl⟩:=IB h2;obtain⟨hc,g3⟩:=bD g2;simp only[aq,beq_iff_eq,bne_iff_ne]at hc;obtain⟨⟨⟨⟨⟨⟨⟨⟨⟨c1,c2⟩,c3⟩,c4⟩,c5⟩,c6⟩,c7⟩,c8⟩,c9⟩,c10⟩:=hc;obtain⟨⟨j,k⟩,h3,g4⟩:=bV g3;obtain⟨xs,h4,g5⟩:=bV g4;have g5:(if xs.length=k then(G.x.hnd.lookup D).bind λok=>(nG x S.N).bind λi=>(nG n S.N).bind λm=>(nG yn S.N).map λy=>Sx.Oc i j xs y m ok else b_)=a_ y:=g5;split at g5
 ·rename_i hn;obtain⟨ok,h5,g6⟩:=bV g5;obtain⟨i,h6,g7⟩:=bV g6;obtain⟨m,h7,g8⟩:=bV g7;obtain⟨iy,h8,rfl⟩:=dJ g8;obtain⟨CD,hmD,hok⟩:=W.hn D ok h5;obtain⟨d1,d2,d3⟩:=eE c1;obtain⟨e1,e2,e3⟩:=eE c4;obtain⟨f1,f2,f3⟩:=eE c6;obtain⟨i',e,e4⟩:=qa h3;rw[jm]at e;subst e;obtain⟨kk,fa,fd,ps,F,hr,hm,hk,hb⟩:=W.fx _ fn k e4;have ha:=iM hf h4;have hN:X.N=S.N:=T.N;have hnm:X.env.scope.names.lookup n=a_ .local:=by rw[show X.env.scope.names=S.nm from T.nm];exact c7
  have hmy:m≠iy:=λz=>by
   subst z;have z1:=eR h7;have z2:=eR h8;rw[z1]at z2;cases z2;exact c10 rfl
  cases ha with
  |nil=>exact absurd c3 (by simp)
  |cons hs he r=>
    exact PS.imp (Qi (by rw[hN];exact nd) W.st W.fm (gh (X:=X.kl) T c5) hmD e1 (by rw[hN];exact eR h6) (n0 (X:=X.kl) T c8) (.inl (T.fn top _)) (by rw[hN];exact eR h7) hnm (by rw[hN];exact eR h8) (n0 (X:=X.kl) T c9) (.inl (T.fn top _)) f1 f2 F hr (gh (X:=X.kl) T c2) hm hk hb d1 (fM he r.sa (bG hs)) (bG hs) (i8 r.star)) (Gv hmy hn hok)
 ·cases g5
set_option tactic.hygienic false
theorem OG(T:mI G C S X.kl)(W:Sy G C X EE)(top:S.top=c_)(nd:S.N.Nodup):∀(n:Nat)(st:fw)(y:Sx),cS G S n st=a_ y->SS X C EE st y
 |0,_,_,h=>by cases h
 |n+1,st,y,h=>by
   have ih:=λe x(h:cE G n S e=a_ x)=>vZ n S e x h X.kl T;have hf:=λe x h=>(ih e x h).1;have hs:=OG T W top nd n
   cases st with
   |Return v p=>
     have h:(match RY G S (cE G n S) v with|some y=>a_ y|none=>RZ G S (cE G n S) v)=a_ y:=h
     cases hq:RY G S (cE G n S) v with
     |none=>rw[hq]at h;exact PS.kl (Nv T hf h)
     |some z=>
       rw[hq]at h;cases h;obtain⟨e,h0,g0⟩:=bV hq;obtain⟨q,h1,rfl⟩:=dJ g0;subst h0;exact(DD T W hf h1).2 _
   |Raise v w p=>exact Nu T W hf h
   |Try b hs els fin p=>
     obtain⟨hc,g1⟩:=bD h;rw[aq]at hc;obtain rfl:=ej.mp hc.1;obtain rfl:=ej.mp hc.2;exact Nq T W top nd hf g1
   |Assign ts e p=>
     obtain⟨t,h1,g1⟩:=bV h;obtain rfl:=dY h1;exact PS.kl (NG T top nd g1)
   |Expr e p=>
     have h:(match Jr G S (cE G n S) e with|some q=>a_ (.MV q.1 q.2)|none=>cExp S (cE G n S) e)=a_ y:=h
     cases hq:Jr G S (cE G n S) e with
     |none=>rw[hq]at h;exact PS.kl (NA T hf h)
     |some q=>
       rw[hq]at h;cases h;exact(DD T W hf hq).1 _
   |If c a b p=>
     obtain⟨hn,g1⟩:=bD h;obtain⟨xc,h1,rfl⟩:=dJ g1;exact Tx (PT.kl ((ih _ _ h1).2 hn)) (jK hs _) (jK hs _)
   |For tg iter body els p=>
     obtain⟨he,g1⟩:=bD h;obtain rfl:=ej.mp he;obtain⟨⟨one,tn⟩,h0,g2⟩:=bV g1;obtain⟨hc,g3⟩:=bD g2;rw[aq]at hc;obtain⟨ts,h1,g4⟩:=bV g3;obtain⟨it,h2,rfl⟩:=dJ g4;obtain⟨g,tgs,hg⟩:=GC T top nd h0 hc.1 h1;obtain⟨k1,k2⟩:=OK T hf h2
     cases it with
     |itv a=>exact KI W.po T.calm (PE.kl (k2 a rfl)) (PG.kl hg) tgs (jK hs _) (km hc.2)
     |rng es=>exact A4 W.po T.calm (PI.kl k1) (λa z=>nomatch z) (PG.kl hg) tgs (jK hs _) (km hc.2)
     |zip es=>exact A4 W.po T.calm (PI.kl k1) (λa z=>nomatch z) (PG.kl hg) tgs (jK hs _) (km hc.2)
     |enu a=>exact A4 W.po T.calm (PI.kl k1) (λa z=>nomatch z) (PG.kl hg) tgs (jK hs _) (km hc.2)
   |_=>cases h
end
structure Df where
 st:fw
 p:Nat
 n:Nat
 body:List Sx
noncomputable def Df.name(d:Df):aN:=match d.st with
 |.FunctionDef x _ _ _ _ _ _ _ _ _=>x
 |_=>""
noncomputable def Df.ps(d:Df):List aN:=(su d.st).args.map λa=>a.arg
noncomputable def Df.N(d:Df):List aN:=d.ps++((cU d.st).names.filterMap λp=>if(p.2 == .local || p.2 == .cell) && !(d.ps.contains p.1)then a_ p.1 else b_)
noncomputable def Cn(D:List Df):Nat->Fs
 |0=>λ_ _=>b_
 | n+1=>λj ds=>if j<pM then(match D[j]? with
   |some d=>uT (Cn D n) d.p d.n d.body ds
   |none=>b_)else match D[j - pM]? with
   |some d=>IX (Cn D n) d.p d.n d.body ds
   |none=>b_
noncomputable def KU(D:List Df)(con:List (aN×Dat))(x:Xg):Sg:=⟨D.map λd=>(d.name,d.p),con,x⟩
structure NV(G:Sg)(d:Df):Prop where
 sc:oh d.N d.ps (cU d.st)
 pn:d.ps.length=d.p
 nn:d.N.length=d.n
 cmp:∀{C:Fs}{X:Cx}{EE:XK},mI G C ⟨d.N,(cU d.st).names,c_⟩ X.kl->Sy G C X EE->FI X C EE (iN d.st) d.body
section
variable{P:aO}{w:bh}{K:Fg}{mg:aN->Option aa}{base:bx}
structure At(K:Fg)(mg:aN->Option aa)(d:Df)(f:af)(fd:cx):Prop where
 fn:Xj K d.name d.name d.st f fd
 mgf:mg d.name=a_ (.ref f)
 bd:∀us:List aa,us.length=d.ps.length->bindArgs fd ⟨us,[]⟩=pure (d.ps.zip us)
noncomputable def TZ(K:Fg)(d:Df):Option (af×aa×Option af×cx×Array (Option aa)):=match dM K mainGlobals d.name with
 | some (a_ (.ref f))=>match K.lookup f with
   |some ⟨oc,od,.func fd,l⟩=>a_ (f,oc,od,fd,l)
   |_=>b_
 |_=>b_
noncomputable def Xw(d:Df)(kV doc pm:aa)(an:Option af)(cdv ct:aa):cx:=mi d.name d.name (su d.st) (iN d.st) (cU d.st) .none kV doc pm an cdv ct
noncomputable def Xp(K:Fg)(d:Df):Bool:=match TZ K d with
 |some x=>mU K x.2.2.2.1.code d.name && cX K (.ref x.1)
 |none=>d_
noncomputable def Xo(K:Fg)(d:Df):Option cx:=(TZ K d).map λx=>x.2.2.2.1
noncomputable def Xn(K:Fg)(d:Df):Option cx:=(TZ K d).map λx=>Xw d x.2.2.2.1.kwdefaults x.2.2.2.1.doc x.2.2.2.1.pyModule x.2.2.2.1.annotations x.2.2.2.1.code x.2.2.2.1.closureTuple
set_option tactic.hygienic true in
def Sj{h:bx}{D:List Df}(X:K.In h)(G:h.Ns mainGlobals mg)(h1:D.map (Xo K)=D.map (Xn K))(h2:D.all (Xp K)=c_)(h3:∀(kV doc pm:aa) (an:Option af) (cdv ct:aa) (u:Nat->aa),D.map (λd=>bindArgs (Xw d kV doc pm an cdv ct) ⟨(aR d.ps.length).map u,[]⟩)=D.map λd=>pure (d.ps.zip ((aR d.ps.length).map u))) :
  ∀d∈D,∃f fd,At K mg d f fd:=λd hd=>by
 have e1:=fF.mp h1 d hd;have e2:=bg.mp h2 d hd;unfold Xp at e2;unfold Xo Xn at e1
 cases e:TZ K d with
 |none=>rw[e]at e2;cases e2
 |some x=>
   obtain⟨f,oc,od,fd,l⟩:=x;rw[e]at e1 e2;have e1:fd=_:=aP e1;obtain⟨c,k⟩:=cq.mp e2;unfold TZ at e;split at e
   ·rename_i f' a;split at e
    ·rename_i lk;cases e;refine⟨f,fd,⟨⟨_,_,_,_,_,_,_,_,_,e1,lk,c⟩,k⟩,jA X G a,λus hu=>?_⟩;have:=fF.mp (h3 fd.kwdefaults fd.doc fd.pyModule fd.annotations fd.code fd.closureTuple λi=>us.getD i .none) d hd
     have q:(aR d.ps.length).map (λi=>us.getD i .none)=us:=by
      refine rX (by rw[ak,eJ,hu]) λi h1 h2=>?_;rw[rW,FC,bX,au h2];rfl
     rw[q]at this;exact(congrArg (λz=>bindArgs z ⟨us,[]⟩) e1).trans this
    ·cases e
   ·cases e
def Vt(K:Fg)(mg:aN->Option aa)(x:aN)(c:af)(f:aN):Prop:=mg x=a_ (.ref c)/\∃fI fd,sJ K c fI=c_/\(∀P w base k,iX P w K mg base DR (k+1) fI fd ["self",f] (sP c f))/\Binds K fd ["self",f] []
structure Here(K:Fg)(mg:aN->Option aa)(D:List Df)(con:List (aN×Dat))(xg:Xg):Prop where
 ok:∀d∈D,NV (KU D con xg) d
 fn:∀d∈D,∃f fd,At K mg d f fd
 blt:∀x∈kL,mg x=b_
 con:∀x d,con.lookup x=a_ d->∃v u,mg x=a_ u/\RelV v u/\CV K d v
 exc:∀x c f,xg.exc.lookup x=a_ (c,f)->Vt K mg x c f
 cls:∀x tab,xg.cls.lookup x=a_ tab->JK K mg x tab
 tcl:∀ns tab,xg.tcl.lookup ns=a_ tab->JG K mg ns tab
 AE:∀f cs,xg.AE.lookup f=a_ cs->∀c∈cs,yA K c f=c_
 hnd:∀n ok,xg.hnd.lookup n=a_ ok->∃CD,mg n=a_ (.ref CD)/\∀c∈ok,fN K (.ref c) (.ref CD)=a_ c_
 kf:xg.kf K mg
 len:D.length<=pM
theorem B3{D:List Df}{con:List (aN×Dat)}{xg:Xg}(T:Here K mg D con xg):∀(n j:Nat)(d:Df)(f:af)(fd:cx),D[j]?=a_ d->At K mg d f fd->iX P w K mg base (rM P w) (n+2) f fd d.ps (GL K d.ps.length (Cn D n j) (Cn D n (j+pM)))
 |0,j,d,f,fd,hj,_=>by
   have no:∀vs H Q E,¬GL K d.ps.length (Cn D 0 j) (Cn D 0 (j+pM)) vs H Q E:=λvs H Q E h=>by
    obtain⟨_,⟨ds,z,fr,h,_⟩|⟨ds,z,fr,h,_⟩⟩:=h<;>cases h
   exact⟨λvs H Q E h=>absurd h (no vs H Q E),λA outer s H args us vs Q E _ _ _ _ h=>absurd h (no vs H Q E)⟩
 |n+1,j,d,f,fd,hj,at_=>by
   have ok:=T.ok d (eB hj);have hlt:j<pM:=aY (a9.mp hj).1 T.len
   have e:Cn D (n+1) j=uT (Cn D n) d.ps.length d.N.length d.body:=by
    funext ds;simp only[Cn,hj,ok.pn,ok.nn,if_pos hlt]
   have e2:Cn D (n+1) (j+pM)=IX (Cn D n) d.ps.length d.N.length d.body:=by
    funext ds;simp only[Cn,F6,hj,ok.pn,ok.nn,if_neg (show¬j+pM<pM by omega)]
   rw[e,e2];have hpl:d.ps.length<=d.N.length:=by have:=congrArg lH ok.sc.pre;rw[iw]at this;omega
   refine RE (k:=n+2) at_.fn ok.sc hpl λcdv A outer s H E hr=>?_
   have hi':∀(i:Nat)(x:aN)(m:Nat),(KU D con xg).fns[i]?=a_ (x,m)->∃d' f' fd',D[i]?=a_ d'/\x=d'.name/\m=d'.ps.length/\At K mg d' f' fd':=λi x m hi=>by
    unfold KU at hi;rw[aW]at hi;obtain⟨d',e1,e2⟩:=dJ hi;cases e2;obtain⟨f',fd',at'⟩:=T.fn d' (eB e1);exact⟨d',f',fd',e1,rfl,(T.ok d' (eB e1)).pn.symm,at'⟩
   refine ok.cmp ?_ ?_
   ·refine⟨rfl,rfl,ok.sc.kind,rfl,?_,rfl,λ_ _=>rfl,λi x m hi=>?_,T.blt,T.con,T.cls,T.tcl,T.AE⟩
    ·have:=hr.units;show(A.deeper _).units+21<di;omega
    ·obtain⟨d',f',fd',e1,rfl,rfl,at'⟩:=hi' i x m hi;exact⟨n+2,f',fd',d'.ps,(B3 T n i d' f' fd' e1 at').calm,hr,at'.mgf,at'.fn.kp,.all at'.bd⟩
   ·refine⟨Gf,Eo,PassesOwn.leaving,λi x m hi=>?_,λx c f hx=>?_,T.kf,T.hnd,rfl,rfl⟩
    ·obtain⟨d',f',fd',e1,rfl,rfl,at'⟩:=hi' i x m hi;exact⟨n+2,f',fd',d'.ps,B3 T n i d' f' fd' e1 at',hr,at'.mgf,at'.fn.kp,.all at'.bd⟩
    ·obtain⟨hm,fI,fd,q,F,hb⟩:=T.exc x c f hx;exact⟨fI,fd,1,hm,q,F _ _ _ 0,hr.mono (by omega),hb⟩
noncomputable def Cv(K:Fg):Sp:=λvs H Q _=>∃(a:af) (ns:List Int),vs=[.ref a]/\mB K H a (ns.map V.int)/\ns.length<=63/\∀H',Q (.bl c_) H'
def Ej(ns:List Int){F:Hp}:cv K F (ns.map Dat.int) (ns.map V.int):=by
 induction ns with
 |nil=>exact rfl
 |cons n r ih=>exact⟨_,_,rfl,rfl,ih⟩
def Q8{D:List Df}{con:List (aN×Dat)}{xg:Xg}(T:Here K mg D con xg){j n:Nat}{d:Df}{f:af}{fd:cx}(hj:D[j]?=a_ d)(at_:At K mg d f fd)(hp:d.ps.length=1)
  (hm:∀ns:List Int,ns.length<=63->∃fr,Cn D n j [.lst (ns.map Dat.int)]=a_ (.bl c_,fr)):iX P w K mg base DR (n+2) f fd d.ps (Cv K):=
 iX.imp (B3 T n j d f fd hj at_).calm λvs H Q E z4=>by
  obtain⟨a,ns,e,hS,hl,q⟩:=z4;subst e;obtain⟨fr,h⟩:=hm ns hl;refine⟨by rw[hp];rfl,_,_,fr,h,H,⟨bS.refl _,λ_ _ z=>z⟩,⟨_,_,rfl,⟨a,_,rfl,hS,Ej ns⟩,rfl⟩,λv F' H' _ r _=>?_⟩;rw[show v=.bl c_ from r];exact q H'
def Q7{D:List Df}{con:List (aN×Dat)}{xg:Xg}{l:iK}{fa:af}{x:aN}(T:Here K mg D con xg){j n:Nat}{d:Df}(hj:D[j]?=a_ d)(hps:d.ps=[x])(hfa:mg d.name=a_ (.ref fa))
  (hm:∀ns:List Int,ns.length<=63->∃fr,Cn D n j [.lst (ns.map Dat.int)]=a_ (.bl c_,fr)) :
  ∃fd:cx,(∀(s:ae)(u:aa),Av s fd ⟨[u],[]⟩ [(x,u)])/\∀base:bx,K.In base->base.Ns mainGlobals mg->iX l.prog w K mg base DR (n+2) fa fd [x] (Cv K):=by
 obtain⟨f,fd,at_⟩:=T.fn d (eB hj);have e:=hfa.symm.trans at_.mgf
 cases e;refine⟨fd,λs u=>?_,λbase _ _=>?_⟩
 ·have:=at_.bd [u] (by rw[hps];rfl)
  rw[hps]at this;exact .of_eq this
 ·have:=Q8 (P:=l.prog) (w:=w) (base:=base) T hj at_ (by rw[hps];rfl) hm
  rw[hps]at this;exact this
def walk{l:iK}{n:Nat}{x:aN}{q:aO}{loose:List aN}{XP:(aN->Option aa)->bx->Prop}{YP:bh->bx->Prop}{d:DefRec}{K:Params->Fg}(hn:l.most=a_ 63)(hk:iJ n callerA)(hdf:d.params.defaults=[])
  (hY:∀(w:bh)(h:bx),YP w h->(K w.params).In h)
  (F:∀(w:bh)(mg:aN->Option aa)(fa:af)(h:bx),(K w.params).In h->h.Ns mainGlobals mg->mg d.name=a_ (.ref fa)->
   ∃fd:cx,(∀(s:ae)(u:aa),Av s fd ⟨[u],[]⟩ [(x,u)])/\∀base:bx,(K w.params).In base->base.Ns mainGlobals mg->iX l.prog w (K w.params) mg base DR n fa fd [x] (Cv (K w.params))) :
  uw q loose XP YP l.row.toRowW d [] (λf vs=>DW f vs):=
 L2.Ko (n:=63) (k:=n) (x:=x) (CX:=λ_=>DR) (sp:=λw=>Cv (K w.params)) hn (by decide) hdf hk hY F (λ_ _ a ns hl _ hS=>⟨a,ns,rfl,hS,hl,λ_=>rfl⟩) λ_ _ _ _ _ z=>z
end
def NL{K:Fg}{h:bx}{mg:aN->Option aa}(X:K.In h)(G:h.Ns mainGlobals mg)(z:kL.map (λx=>dM K mainGlobals x)=bI 20 (a_ b_)):∀x∈kL,mg x=b_:=λx hx=>by
 have q:dM K mainGlobals x∈kL.map (λx=>dM K mainGlobals x):=aG.mpr ⟨x,hx,rfl⟩;rw[z]at q;exact AG X G (List.eq_of_mem_replicate q)
noncomputable def S4(d:Df):ScopeKind×Bool×Bool×Bool×Nat×Nat:=((cU d.st).kind,(cU d.st).isCoroutine,(cU d.st).isGenerator,decide (d.N.Nodup/\(∀x∈d.ps,(cU d.st).names.lookup x=a_ .local\/(cU d.st).names.lookup x=a_ .cell)/\∀y∈(cU d.st).names,y.2≠.free),d.ps.length,d.N.length)
noncomputable def WZ(G:Sg)(d:Df):List Sx:=yY (cS G ⟨d.N,(cU d.st).names,c_⟩ 40) (iN d.st)
def QK{G:Sg}{d:Df}(e:S4 d=(.function,d_,d_,c_,d.p,d.n))(h:(∀{C:Fs}{X:Cx}{EE:XK},mI G C ⟨d.N,(cU d.st).names,c_⟩ X.kl->Sy G C X EE->FI X C EE (iN d.st) d.body)\/WZ G d=d.body):NV G d:=by
 unfold S4 at e;simp only[uF]at e;obtain⟨e1,e2,e3,e4,e5,e6⟩:=e;obtain⟨a,b,c⟩:=of_decide_eq_true e4;refine⟨⟨e1,e2,e3,a,List.take_left' rfl,b,c⟩,e5,e6,λ{C X EE}T W=>?_⟩
 rcases h with h|h
 ·exact h T W
 ·exact h▸jK (OG T W rfl a 40) _
def QL{G:Sg}{D L:List Df}(h:D.map S4=D.map λd=>(.function,d_,d_,c_,d.p,d.n))(hL:∀d∈L,∀{C:Fs}{X:Cx}{EE:XK},mI G C ⟨d.N,(cU d.st).names,c_⟩ X.kl->Sy G C X EE->FI X C EE (iN d.st) d.body)(hc:∀d∈D,d∈L\/WZ G d=d.body):∀d∈D,NV G d:=λd hd=>
 QK (fF.mp h d hd) ((hc d hd).imp (λz=>hL d z) id)
section
variable{K:Fg}{mg:aN->Option aa}
mutual
noncomputable def Ls(K:Fg):Dat->aa->Bool
 |.str x,.str y _=>decide (x=y)
 |.int i,.int j _=>decide (i=j)
 | .tup ds,.ref p=>match K.lookup p with
   |some ⟨.type c,b_,.seq its _,_⟩=>decide (c="tuple") && decide (its.size<=aD) && G9 K ds its.toList
   |_=>d_
 |_,_=>d_
noncomputable def G9(K:Fg):List Dat->List aa->Bool
 |[],[]=>c_
 |d::ds,u::us=>Ls K d u && G9 K ds us
 |_,_=>d_
end
set_option tactic.hygienic true
mutual
theorem CH:∀(d:Dat)(u:aa),Ls K d u=c_->∃v,RelV v u/\CV K d v
 |.str x,.str y t,h=>by
   cases of_decide_eq_true h;exact⟨.str x,⟨t,rfl⟩,λ_=>rfl,λ_ z=>nomatch z⟩
 |.int i,.int j t,h=>by
   cases of_decide_eq_true h;exact⟨.int i,⟨t,rfl⟩,λ_=>rfl,λ_ z=>nomatch z⟩
 |.tup ds,.ref p,h=>by
   unfold Ls at h;split at h
   ·rename_i c its n l lk;obtain⟨h,h3⟩:=cq.mp h;obtain⟨h1,h2⟩:=cq.mp h;cases of_decide_eq_true h1;obtain⟨vs,r,q⟩:=yS ds its.toList h3;exact⟨.ref p,rfl,λF=>⟨p,vs,rfl,.inr ⟨_,its,n,lk,rfl,rfl,of_decide_eq_true h2,r⟩,q F⟩,λb z=>by cases z;exact⟨_,lk,rfl,rfl⟩⟩
   ·cases h
theorem yS:∀(ds:List Dat)(us:List aa),G9 K ds us=c_->∃vs,bZ vs us/\∀F,cv K F ds vs
 |[],[],_=>⟨[],.nil,λ_=>rfl⟩
 |d::ds,u::us,h=>by
   obtain⟨h1,h2⟩:=cq.mp h;obtain⟨v,r,q⟩:=CH d u h1;obtain⟨vs,rs,qs⟩:=yS ds us h2;exact⟨v::vs,.cons r rs,λF=>⟨v,vs,rfl,q.1 F,qs F⟩⟩
end
noncomputable def U6(K:Fg)(p:aN×Dat):Bool:=match dM K mainGlobals p.1 with
 |some (a_ u)=>Ls K p.2 u
 |_=>d_
theorem DA{h:bx}(X:K.In h)(G:h.Ns mainGlobals mg):∀{con:List (aN×Dat)},con.all (U6 K)=c_->∀x d,con.lookup x=a_ d->∃v u,mg x=a_ u/\RelV v u/\CV K d v
 |(y,e)::L,h,x,d,q=>by
   rw[eQ]at h;obtain⟨h1,h2⟩:=cq.mp h;rw[cC]at q;split at q
   ·rename_i z;cases q;rw[eq_of_beq z];unfold U6 at h1;split at h1
    ·rename_i u a;obtain⟨v,r,c⟩:=CH _ _ h1;exact⟨v,u,jA X G a,r,c⟩
    ·cases h1
   ·exact DA X G h2 x d q
set_option tactic.hygienic false
end
section
variable{K:Fg}{mg:aN->Option aa}{h:bx}
noncomputable def WL:fw->Bool
 |.FunctionDef _ _ _ _ _ _ _ _ _ _=>c_
 |_=>d_
noncomputable def Rr:fw->fw
 |.ClassDef _ _ _ b _ _ _ _ _ _ _=>(b.find? WL).getD (.Pass ⟨0,0,0,0⟩)
 |s=>s
noncomputable def Yd(x:aN):fw->Bool
 |.ClassDef y _ _ _ _ _ _ _ _ _ _=>y == x
 |_=>d_
noncomputable def ir(B:List fw)(x:aN):Df:=⟨Rr ((B.find? (Yd x)).getD (.Pass ⟨0,0,0,0⟩)),2,2,[]⟩
noncomputable def Qb(K:Fg)(c:Nat):Option (af×aa×Option af×cx×Array (Option aa)):=match K.lookup c with
 | some ⟨_,_,.cls cd,_⟩=>match dM K cd.ns "__init__" with
   | some (a_ (.ref f))=>match K.lookup f with
     |some ⟨oc,od,.func fd,l⟩=>a_ (f,oc,od,fd,l)
     |_=>b_
   |_=>b_
 |_=>b_
noncomputable def VD(d:Df)(fd:cx):cx:=mi fd.name fd.qualname (su d.st) (iN d.st) (cU d.st) .none fd.kwdefaults fd.doc fd.pyModule fd.annotations fd.code fd.closureTuple
noncomputable def Ud(d:Df):dZ×dZ×dZ×dZ:=match iN d.st with
 |[.Assign [.Attribute (.Name _ p1) _ p2] (.Name _ p3) p4]=>(p1,p2,p3,p4)
 |_=>(⟨0,0,0,0⟩,⟨0,0,0,0⟩,⟨0,0,0,0⟩,⟨0,0,0,0⟩)
noncomputable def XQ(f:aN)(p:dZ×dZ×dZ×dZ):List fw:=[.Assign [.Attribute (.Name "self" p.1) f p.2.1] (.Name f p.2.2.1) p.2.2.2]
noncomputable def WU(K:Fg)(q:aN×Nat×aN):Bool:=match Qb K q.2.1 with
 |some x=>mU K x.2.2.2.1.code x.2.2.2.1.qualname && cX K (.ref x.1) && sJ K q.2.1 x.1 && Ge K q.2.1 && (ku K (.ref q.2.1) q.2.2 == a_ b_) && (ku K (.ref q.2.1) "__setattr__" == a_ (a_ (.builtin "object.__setattr__"))) && (dM K mainGlobals q.1 == a_ (a_ (.ref q.2.1))) && !(q.2.2 == ("__debug__":aN)) && !(q.2.2 == ("__classdict__":aN))
 |none=>d_
set_option tactic.hygienic true
theorem Ox{α β:Type}[BEq α][LawfulBEq α]{x:α}{y:β}:∀{L:List (α×β)},L.lookup x=a_ y->(x,y)∈L
 |(a,b)::L,q=>by
   rw[cC]at q;split at q
   ·rename_i z;cases q;rw[eq_of_beq z];exact jB
   ·exact jN _ (Ox q)
def MX(X:K.In h)(G:h.Ns mainGlobals mg){L:List (aN×Nat×aN)}{B:List fw}(h1:L.map (λq=>(Qb K q.2.1).map λx=>x.2.2.2.1)=L.map λq=>(Qb K q.2.1).map λx=>VD (ir B q.1) x.2.2.2.1)(h2:L.all (WU K)=c_)
  (h3:L.map (λq=>(S4 (ir B q.1),(ir B q.1).N,(ir B q.1).ps,iN (ir B q.1).st))=L.map λq=>((ka,d_,d_,c_,2,2),[("self":aN),q.2.2],[("self":aN),q.2.2],XQ q.2.2 (Ud (ir B q.1))))
  (h4:∀(fd:cx)(u v:aa),L.map (λq=>bindArgs (VD (ir B q.1) fd) ⟨[u,v],[]⟩)=L.map λq=>pure [(("self":aN),u),(q.2.2,v)]) :
  ∀x c f,L.lookup x=a_ (c,f)->Vt K mg x c f:=λx c f hx=>by
 have hm:=Ox hx;have e1:(Qb K c).map (λx=>x.2.2.2.1)=(Qb K c).map λz=>VD (ir B x) z.2.2.2.1:=fF.mp h1 _ hm;have e2:WU K (x,c,f)=c_:=bg.mp h2 _ hm;have e3:(S4 (ir B x),(ir B x).N,(ir B x).ps,iN (ir B x).st)=((ka,d_,d_,c_,2,2),[("self":aN),f],[("self":aN),f],XQ f (Ud (ir B x))):=fF.mp h3 _ hm;obtain⟨e3,e4⟩:=mX e3;obtain⟨e4,e5⟩:=mX e4;obtain⟨e5,e6⟩:=mX e5;unfold WU at e2;dsimp only at e2
 cases e:Qb K c with
 |none=>rw[e]at e2;cases e2
 |some z=>
   obtain⟨fI,oc,od,fd,l⟩:=z;rw[e]at e1 e2;have e1:fd=VD (ir B x) fd:=aP e1;simp only[aq,beq_iff_eq,fG]at e2;obtain⟨⟨⟨⟨⟨⟨⟨⟨k1,k2⟩,k3⟩,k4⟩,k5⟩,k6⟩,k7⟩,k8⟩,k9⟩:=e2
   have lk:K.lookup fI=a_ ⟨oc,od,.func fd,l⟩:=by
    unfold Qb at e;split at e
    ·split at e
     ·split at e
      ·rename_i lk;cases e;exact lk
      ·cases e
     ·cases e
    ·cases e
   unfold S4 at e3;simp only[uF]at e3;obtain⟨f1,f2,f3,f4,_⟩:=e3;obtain⟨a,b,cc⟩:=of_decide_eq_true f4;rw[e4]at a;rw[e5]at b;have S:oh ["self",f] ["self",f] (cU (ir B x).st):=⟨f1,f2,f3,a,rfl,b,cc⟩
   have rP:∀y∈[("self":aN),f],JF (cU (ir B x).st) y:=λy hy=>(b y hy).imp id .inl;refine⟨jA X G k7,fI,fd,k3,λP w base k=>MU (x:=fd.name) (qual:=fd.qualname) ⟨⟨oc,od,_,_,_,_,_,_,l,e1,lk,k1⟩,k2⟩ S e6 ⟨k4,k5,k6⟩ (rP _ jB) (rP _ (jN _ jB)) k8 k9 λ_ _=>rfl,.all λus hu=>?_⟩
   match us,hu with
   |[u,v],_=>
     have:=fF.mp (h4 fd u v) _ hm;exact(congrArg (λz=>bindArgs z ⟨[u,v],[]⟩) e1).trans this
noncomputable def XM(K:Fg)(q:aN×List (Nat×Bool)):Bool:=q.2.all (λp=>uI K p.1) && match dM K mainGlobals q.1 with
 |some (a_ (.ref C))=>q.2.all λp=>kr K (.ref p.1) (.ref C) == a_ p.2
 | some b_=>match bootBuiltins q.1 with
   |some (.type T)=>(q.1 != "__name__") && q.2.all λp=>kr K (.ref p.1) (.type T) == a_ p.2
   |_=>d_
 |_=>d_
def GD{tab:List (Nat×Bool)}{u:aa}(h1:tab.all (λp=>uI K p.1)=c_)(h2:(tab.all λp=>kr K (.ref p.1) u == a_ p.2)=c_):Ao K tab u:=λc b q=>by
 have m:=Ox q;exact⟨bg.mp h1 _ m,eq_of_beq (bg.mp h2 _ m)⟩
def Ni(X:K.In h)(G:h.Ns mainGlobals mg){L:List (aN×List (Nat×Bool))}(h1:L.all (XM K)=c_):∀x tab,L.lookup x=a_ tab->JK K mg x tab:=λx tab hx=>by
 have e:=bg.mp h1 _ (Ox hx);unfold XM at e;obtain⟨e1,e2⟩:=cq.mp e;dsimp only at e2;split at e2
 ·rename_i C hC;exact .inl ⟨C,jA X G hC,GD e1 e2⟩
 ·rename_i hC;split at e2
  ·rename_i T hT;obtain⟨e3,e4⟩:=cq.mp e2;exact .inr ⟨T,AG X G hC,hT,by simpa using e3,GD e1 e4⟩
  ·cases e2
 ·cases e2
noncomputable def NS(K:Fg):List aN->Option (List af)
 |[]=>a_ []
 | x::r=>match dM K mainGlobals x with
   |some (a_ (.ref C))=>(NS K r).map λl=>C::l
   |_=>b_
theorem DL(X:K.In h)(G:h.Ns mainGlobals mg):∀{ns:List aN}{Cs:List af},NS K ns=a_ Cs->ns.map mg=Cs.map (λC=>a_ (.ref C))
 |[],Cs,e=>by cases e;rfl
 |x::r,Cs,e=>by
   unfold NS at e;split at e
   ·rename_i C hC;obtain⟨l,h1,rfl⟩:=dJ e;rw[aw,aw,jA X G hC,DL X G h1]
   ·cases e
noncomputable def Xl(K:Fg)(q:List aN×List (Nat×Bool)):Bool:=q.2.all (λp=>uI K p.1) && match NS K q.1 with
 |some Cs=>decide (Cs.length<=100) && q.2.all λp=>FO K (.ref p.1) (Cs.map .ref) == a_ p.2
 |none=>d_
def Ku(X:K.In h)(G:h.Ns mainGlobals mg){L:List (List aN×List (Nat×Bool))}(h1:L.all (Xl K)=c_):∀ns tab,L.lookup ns=a_ tab->JG K mg ns tab:=λx tab hx=>by
 have e:=bg.mp h1 _ (Ox hx);unfold Xl at e;obtain⟨e1,e2⟩:=cq.mp e;dsimp only at e2;split at e2
 ·rename_i Cs hC;obtain⟨e3,e4⟩:=cq.mp e2;refine⟨Cs,DL X G hC,cW (of_decide_eq_true e3) (by rw[bT];decide),λc b q=>?_⟩;have m:=Ox q;exact⟨bg.mp e1 _ m,eq_of_beq (bg.mp e4 _ m)⟩
 ·cases e2
def NP{L:List (aN×List Nat)}(h1:(L.all λq=>q.2.all λc=>yA K c q.1)=c_):∀f cs,L.lookup f=a_ cs->∀c∈cs,yA K c f=c_:=λf cs hx c hc=>
 bg.mp (bg.mp h1 _ (Ox hx)) c hc
noncomputable def Xu(K:Fg)(q:aN×List Nat):Bool:=match dM K mainGlobals q.1 with
 |some (a_ (.ref CD))=>q.2.all λc=>fN K (.ref c) (.ref CD) == a_ c_
 |_=>d_
def MN(X:K.In h)(G:h.Ns mainGlobals mg){L:List (aN×List Nat)}(h1:L.all (Xu K)=c_):∀n ok,L.lookup n=a_ ok->∃CD,mg n=a_ (.ref CD)/\∀c∈ok,fN K (.ref c) (.ref CD)=a_ c_:=λn ok hx=>by
 have e:=bg.mp h1 _ (Ox hx);unfold Xu at e;split at e
 ·rename_i CD hC;exact⟨CD,jA X G hC,λc hc=>eq_of_beq (bg.mp e c hc)⟩
 ·cases e
set_option tactic.hygienic false
end
end M
namespace K04
open PySem L2 M
noncomputable def top(i:Nat):fw:=lh.main.body.getD i (.Pass ⟨0,0,0,0⟩)
abbrev cF:Nat:=51
abbrev cT:Nat:=70
abbrev cM:Nat:=89
abbrev cL:Nat:=108
noncomputable def cE:List Nat:=[cF,cT,cM,cL]
noncomputable def tb(c:Nat):List (Nat×Bool):=cE.map λx=>(x,x == c)
noncomputable def tV:List (Nat×Bool):=cE.map λx=>(x,c_)
noncomputable def b0:List Sx:=[(.ret (.and (.blt (.isi .int) [(.v 0)]) (.and (.not (.blt (.isi .bool) [(.v 0)])) (.Jk .le .le (.e_ 1) (.v 0) (.e_ 63)))))]
noncomputable def b1:List Sx:=[(.ret (.and (.Jk .le .le (.v 1) (.blt .len [(.v 0)]) (.v 2)) (.blt .all [(.comp 1 c_ [] (.itv (.v 0)) [] (.call 0 [(.v 0)]))])))]
noncomputable def b2:List Sx:=[(.ret (.and (.Jk .le .le (.e_ 1) (.blt .len [(.v 0)]) (.e_ 6)) (.blt .all [(.comp 1 c_ [] (.itv (.v 0)) [] (.cmp .isin (.v 0) (.f_ "abcdefghijklmnopqrstuvwxyz")))])))]
noncomputable def b3:List Sx:=[(.ret (.and (.cmp .ne (.v 0) (.f_ "")) (.cmp .eq (.v 0) (.mM .join (.f_ "") [(.comp 1 c_ [0] (.itv (.f_ "wbme")) [(.cmp .isin (.v 0) (.v 1))] (.v 0))]))))]
noncomputable def b4:List Sx:=[(.ret (.and (.call 2 [(.ix (.v 0) (.e_ 0))]) (.and (.call 1 [(.ix (.v 0) (.e_ 1)),(.e_ 1),(.e_ 4)]) (.call 3 [(.ix (.v 0) (.e_ 2))]))))]
noncomputable def b5:List Sx:=[(.ret (.mM .join (.f_ "") [(.blt .sset [(.mM .join (.f_ "") [(.comp 1 c_ [] (.itv (.v 0)) [] (.ix (.v 0) (.e_ 0)))])])]))]
noncomputable def b6:List Sx:=[(.ifs (.cmp .eq (.blt .len [(.v 0)]) (.e_ 0)) [(.yj cF "number" (.e_ 0))] []),(.ifs (.cmp .gt (.blt .len [(.v 0)]) (.e_ 24)) [(.yj cF "number" (.e_ 24))] []),(.loop d_ [1,2] (.enu (.v 0)) [(.ifs (.not (.call 4 [(.v 2)])) [(.yj cF "number" (.v 1))] [])])]
noncomputable def b7:List Sx:=[(.set 1 .BO),(.loop d_ [2,3] (.enu (.v 0)) [(.set 4 (.tup [(.ix (.v 3) (.e_ 0)),(.ix (.v 3) (.e_ 1))])),(.ifs (.cmp .isin (.v 4) (.v 1)) [(.yj cT "number" (.v 2))] []),(.mut .dput 1 [(.con (.bl c_)),(.v 4)])])]
noncomputable def b8:List Sx:=[(.loop d_ [2,3] (.enu (.v 0)) [(.ifs (.not (.call 1 [(.v 3),(.e_ 0),(.e_ 2)])) [(.yj cM "number" (.v 2))] [])]),(.ifs (.not (.call 1 [(.v 1),(.e_ 0),(.blt .len [(.f_ "0123456789")])])) [(.yj cM "number" (.e_ 4))] []),(.ifs (.and (.cmp .ne (.ix (.v 0) (.e_ 1)) (.tup [])) (.cmp .eq (.ix (.v 0) (.e_ 0)) (.tup []))) [(.yj cM "number" (.e_ 1))] []),(.loop c_ [2] (.itv (.tup [(.e_ 2),(.e_ 3)])) [(.ifs (.cmp .ne (.cmp .eq (.ix (.v 0) (.v 2)) (.tup [])) (.cmp .eq (.v 1) (.tup []))) [(.yj cM "number" (.v 2))] [])])]
noncomputable def b9:List Sx:=[(.set 1 (.comp 1 c_ [] (.itv (.v 0)) [(.cmp .eq (.ix (.v 0) (.e_ 2)) (.f_ "wbme"))] (.ix (.v 0) (.e_ 0)))),(.loop c_ [2] (.itv (.call 5 [(.v 0)])) [(.ifs (.cmp .nin (.v 2) (.v 1)) [(.yj cL "letter" (.v 2))] [])])]
noncomputable def Vm:List Sx:=[(.set 3 (.tup [(.blt .tuple [(.v 0)]),(.blt .tuple [(.comp 1 c_ [] (.itv (.v 1)) [] (.blt .tuple [(.v 0)]))]),(.blt .tuple [(.v 2)])])),(.MV 6 [(.ix (.v 3) (.e_ 0))]),(.MV 7 [(.ix (.v 3) (.e_ 0))]),(.MV 8 [(.ix (.v 3) (.e_ 1)),(.ix (.v 3) (.e_ 2))]),(.MV 9 [(.ix (.v 3) (.e_ 0))]),(.tu 3)]
noncomputable def Vl:List Sx:=[(.set 3 (.e_ 0)),(.ifs (.cmp .gt (.blt .len [(.v 0)]) (.e_ 0)) [(.set 3 (.bin .mod (.ix (.v 0) (.bin .mod (.v 1) (.blt .len [(.v 0)]))) (.e_ 2147483629)))] []),(.ret (.bin .mod (.bin .mod (.bin .mul (.bin .mod (.bin .mul (.bin .add (.v 3) (.e_ 1)) (.bin .add (.bin .mul (.bin .mul (.e_ 31) (.v 1)) (.v 1)) (.e_ 7919))) (.e_ 2147483647)) (.e_ 48271)) (.e_ 2147483629)) (.v 2)))]
noncomputable def NN:List Sx:=[(.ifs (.or (.blt (.isi .tuple) [(.v 1)]) (.blt (.isi .list) [(.v 1)])) [(.ifs (.or (.cmp .ne (.blt (.isi .tuple) [(.v 0)]) (.blt (.isi .tuple) [(.v 1)])) (.cmp .ne (.blt (.isi .list) [(.v 0)]) (.blt (.isi .list) [(.v 1)]))) [(.ret (.con (.bl d_)))] []),(.ret (.and (.cmp .eq (.blt .len [(.v 0)]) (.blt .len [(.v 1)])) (.blt .all [(.comp 2 d_ [] (.zip [(.v 0),(.v 1)]) [] (.call 12 [(.v 0),(.v 1)]))])))] []),(.ifs (.cmp .isn (.v 1) (.con .non)) [(.ret (.cmp .isn (.v 0) (.con .non)))] []),(.ifs (.or (.blt (.isi .bool) [(.v 1)]) (.blt (.isi .bool) [(.v 0)])) [(.ret (.and (.blt (.isi .bool) [(.v 1)]) (.and (.blt (.isi .bool) [(.v 0)]) (.cmp .eq (.v 0) (.v 1)))))] []),(.ifs (.blt (.isi .int) [(.v 1)]) [(.ret (.and (.blt (.isi .int) [(.v 0)]) (.cmp .eq (.v 0) (.v 1))))] []),(.ret (.and (.blt (.isi .str) [(.v 0)]) (.cmp .eq (.v 0) (.v 1))))]
noncomputable def Yp:List Sx:=[(.ret (.blt .tuple [(.comp 1 c_ [3,1,0] (.rng [(.v 2)]) [] (.bin .add (.e_ 1) (.call 11 [(.v 3),(.bin .add (.v 2) (.v 0)),(.v 1)])))]))]
noncomputable def XS:List Sx:=[(.ret (.mM .join (.f_ "") [(.comp 1 c_ [0] (.rng [(.e_ 4)]) [(.cmp .eq (.bin .band (.bin .shr (.v 1) (.v 0)) (.e_ 1)) (.e_ 1))] (.ix (.f_ "wbme") (.v 0)))]))]
noncomputable def Yo:List Sx:=[(.set 3 (.call 11 [(.v 0),(.bin .add (.v 1) (.e_ 1)),(.e_ 26)])),(.set 4 (.ix (.lst [(.e_ 1),(.e_ 3),(.e_ 5),(.e_ 7)]) (.call 11 [(.v 0),(.bin .add (.v 1) (.e_ 2)),(.e_ 4)]))),(.set 5 (.ix (.lst [(.e_ 1),(.e_ 2),(.e_ 2),(.e_ 3),(.e_ 3),(.e_ 6)]) (.call 11 [(.v 0),(.bin .add (.v 1) (.e_ 3)),(.e_ 6)]))),(.set 7 (.comp 1 c_ [3,4] (.rng [(.v 5)]) [] (.ix (.f_ "abcdefghijklmnopqrstuvwxyz") (.bin .mod (.bin .add (.v 1) (.bin .mul (.v 2) (.v 0))) (.e_ 26))))),(.set 8 (.lst [])),(.loop c_ [6] (.rng [(.v 5)]) [(.set 9 (.bin .add (.e_ 1) (.bin .fdiv (.call 11 [(.v 0),(.bin .add (.bin .add (.v 1) (.e_ 10)) (.v 6)),(.e_ 5)]) (.e_ 4)))),(.mut .app 8 [(.tup [(.ix (.v 7) (.v 6)),(.call 13 [(.v 0),(.bin .add (.bin .add (.v 1) (.e_ 20)) (.bin .mul (.e_ 5) (.v 6))),(.v 9),(.v 2)]),(.f_ "wbme")])])]),(.loop c_ [6] (.rng [(.call 11 [(.v 0),(.bin .add (.v 1) (.e_ 4)),(.e_ 5)])]) [(.set 10 (.bin .add (.bin .add (.v 1) (.e_ 60)) (.bin .mul (.e_ 15) (.v 6)))),(.set 11 (.mM .join (.f_ "") [(.comp 1 c_ [10,7,5,0] (.rng [(.bin .add (.e_ 1) (.call 11 [(.v 0),(.bin .add (.v 10) (.e_ 4)),(.e_ 3)]))]) [] (.ix (.v 2) (.call 11 [(.v 4),(.bin .add (.v 1) (.v 0)),(.v 3)])))])),(.set 12 (.call 13 [(.v 0),(.bin .add (.v 10) (.e_ 5)),(.ix (.lst [(.e_ 1),(.e_ 1),(.e_ 2),(.e_ 4)]) (.call 11 [(.v 0),(.bin .add (.v 10) (.e_ 9)),(.e_ 4)])),(.v 2)])),(.set 13 (.tup [(.v 11),(.v 12),(.call 14 [(.bin .add (.e_ 1) (.call 11 [(.v 0),(.bin .add (.v 10) (.e_ 10)),(.e_ 15)]))])])),(.ifs (.cmp .nin (.sl (.v 13) b_ (a_ (.e_ 2))) (.comp 1 c_ [] (.itv (.v 8)) [] (.sl (.v 0) b_ (a_ (.e_ 2))))) [(.mut .ins 8 [(.call 11 [(.v 0),(.bin .add (.v 10) (.e_ 11)),(.bin .add (.blt .len [(.v 8)]) (.e_ 1))]),(.v 13)])] [])]),(.tu 8)]
noncomputable def Yn:List Sx:=[(.set 3 (.lst [(.tup []),(.tup []),(.tup []),(.tup [])])),(.set 4 (.tup [])),(.ifs (.cmp .eq (.call 11 [(.v 0),(.v 1),(.e_ 4)]) (.e_ 1)) [(.mut .seti 3 [(.call 13 [(.v 0),(.bin .add (.v 1) (.e_ 1)),(.bin .add (.e_ 1) (.call 11 [(.v 0),(.bin .add (.v 1) (.e_ 3)),(.e_ 2)])),(.v 2)]),(.e_ 0)]),(.ifs (.cmp .eq (.call 11 [(.v 0),(.bin .add (.v 1) (.e_ 4)),(.e_ 2)]) (.e_ 1)) [(.mut .seti 3 [(.call 13 [(.v 0),(.bin .add (.v 1) (.e_ 5)),(.bin .add (.e_ 1) (.call 11 [(.v 0),(.bin .add (.v 1) (.e_ 7)),(.e_ 2)])),(.v 2)]),(.e_ 1)])] [])] []),(.ifs (.cmp .eq (.call 11 [(.v 0),(.bin .add (.v 1) (.e_ 8)),(.e_ 4)]) (.e_ 1)) [(.mut .seti 3 [(.call 13 [(.v 0),(.bin .add (.v 1) (.e_ 9)),(.bin .add (.e_ 1) (.call 11 [(.v 0),(.bin .add (.v 1) (.e_ 11)),(.e_ 2)])),(.v 2)]),(.e_ 2)]),(.mut .seti 3 [(.call 13 [(.v 0),(.bin .add (.v 1) (.e_ 12)),(.bin .add (.e_ 1) (.call 11 [(.v 0),(.bin .add (.v 1) (.e_ 14)),(.e_ 2)])),(.v 2)]),(.e_ 3)]),(.set 4 (.call 13 [(.v 0),(.bin .add (.v 1) (.e_ 15)),(.ix (.lst [(.e_ 1),(.e_ 2),(.e_ 3),(.e_ 10)]) (.call 11 [(.v 0),(.bin .add (.v 1) (.e_ 25)),(.e_ 4)])),(.v 2)]))] []),(.ret (.tup [(.blt .tuple [(.v 3)]),(.v 4)]))]
noncomputable def Ym:List Sx:=[(.set 2 (.ix (.lst [(.e_ 4),(.e_ 4),(.e_ 12),(.e_ 63)]) (.call 11 [(.v 0),(.v 1),(.e_ 4)]))),(.set 3 (.call 15 [(.v 0),(.v 1),(.v 2)])),(.vo [4,5] (.call 16 [(.v 0),(.bin .add (.v 1) (.e_ 150)),(.v 2)])),(.ret (.tup [(.blt .tuple [(.v 3)]),(.v 4),(.v 5)]))]
noncomputable def VF:List Sx:=[(.loop c_ [2] (.itv (.v 0)) [(.ifs (.and (.cmp .eq (.ix (.v 2) (.e_ 0)) (.v 1)) (.cmp .eq (.ix (.v 2) (.e_ 2)) (.f_ "wbme"))) [(.ret (.con (.bl c_)))] [])]),(.ret (.con (.bl d_)))]
noncomputable def JZ:List Sx:=[(.vo [1,2,3] (.v 0)),(.ifs (.or (.not (.Jk .le .le (.e_ 1) (.blt .len [(.v 1)]) (.e_ 6))) (.or (.not (.Jk .le .le (.e_ 1) (.blt .len [(.v 2)]) (.e_ 4))) (.or (.cmp .lt (.un zj (.v 2)) (.e_ 1)) (.cmp .gt (.un zf (.v 2)) (.e_ 63))))) [(.ret (.con (.bl d_)))] []),(.ifs (.blt .any [(.comp 1 c_ [] (.itv (.v 1)) [] (.cmp .lt (.mM .find (.f_ "abcdefghijklmnopqrstuvwxyz") [(.v 0)]) (.e_ 0)))]) [(.ret (.con (.bl d_)))] []),(.set 4 (.comp 1 c_ [] (.itv (.v 3)) [] (.mM .find (.f_ "wbme") [(.v 0)]))),(.ret (.and (.cmp .gt (.blt .len [(.v 4)]) (.e_ 0)) (.and (.cmp .nin (.neg (.e_ 1)) (.v 4)) (.cmp .eq (.v 4) (.blt .sset [(.v 4)])))))]
noncomputable def Vk:List Sx:=[(.loop c_ [2] (.rng [(.e_ 4)]) [(.ifs (.or (.cmp .gt (.blt .len [(.ix (.v 0) (.v 2))]) (.e_ 2)) (.blt .any [(.comp 1 c_ [] (.itv (.ix (.v 0) (.v 2))) [] (.or (.cmp .lt (.v 0) (.e_ 1)) (.cmp .gt (.v 0) (.e_ 63))))])) [(.ret (.tup [(.f_ "mark"),(.v 2)]))] [])]),(.ifs (.or (.cmp .gt (.blt .len [(.v 1)]) (.e_ 10)) (.blt .any [(.comp 1 c_ [] (.itv (.v 1)) [] (.or (.cmp .lt (.v 0) (.e_ 1)) (.cmp .gt (.v 0) (.e_ 63))))])) [(.ret (.tup [(.f_ "mark"),(.e_ 4)]))] []),(.ifs (.and (.cmp .gt (.blt .len [(.ix (.v 0) (.e_ 1))]) (.e_ 0)) (.cmp .eq (.blt .len [(.ix (.v 0) (.e_ 0))]) (.e_ 0))) [(.ret (.tup [(.f_ "mark"),(.e_ 1)]))] []),(.loop c_ [2] (.itv (.lst [(.e_ 2),(.e_ 3)])) [(.ifs (.cmp .ne (.cmp .gt (.blt .len [(.ix (.v 0) (.v 2))]) (.e_ 0)) (.cmp .gt (.blt .len [(.v 1)]) (.e_ 0))) [(.ret (.tup [(.f_ "mark"),(.v 2)]))] [])]),(.ret (.con .non))]
noncomputable def Vj:List Sx:=[(.ifs (.or (.cmp .eq (.blt .len [(.v 0)]) (.e_ 0)) (.cmp .gt (.blt .len [(.v 0)]) (.e_ 24))) [(.ret (.tup [(.f_ "form"),(.ix (.lst [(.e_ 0),(.e_ 24)]) (.blt .int [(.cmp .gt (.blt .len [(.v 0)]) (.e_ 0))]))]))] []),(.loop c_ [3] (.rng [(.blt .len [(.v 0)])]) [(.ifs (.not (.call 19 [(.ix (.v 0) (.v 3))])) [(.ret (.tup [(.f_ "form"),(.v 3)]))] [])]),(.loop c_ [3] (.rng [(.blt .len [(.v 0)])]) [(.ifs (.cmp .isin (.sl (.ix (.v 0) (.v 3)) b_ (a_ (.e_ 2))) (.comp 1 c_ [] (.itv (.sl (.v 0) b_ (a_ (.v 3)))) [] (.sl (.v 0) b_ (a_ (.e_ 2))))) [(.ret (.tup [(.f_ "twice"),(.v 3)]))] [])]),(.set 4 (.call 20 [(.v 1),(.v 2)])),(.ifs (.cmp .isn (.v 4) (.con .non)) [(.loop c_ [5] (.itv (.f_ "abcdefghijklmnopqrstuvwxyz")) [(.ifs (.and (.blt .any [(.comp 1 c_ [5] (.itv (.v 0)) [] (.cmp .isin (.v 1) (.ix (.v 0) (.e_ 0))))]) (.not (.call 18 [(.v 0),(.v 5)]))) [(.ret (.tup [(.f_ "letter"),(.v 5)]))] [])])] []),(.tu 4)]
noncomputable def Fj:List Sx:=[(.set 3 (.call 11 [(.v 0),(.v 1),(.e_ 7)])),(.set 4 (.call 11 [(.v 0),(.bin .add (.v 1) (.e_ 1)),(.blt .len [(.v 2)])])),(.vo [5,6,7] (.ix (.v 2) (.v 4))),(.ifs (.cmp .eq (.v 3) (.e_ 0)) [(.ret (.lst []))] []),(.ifs (.cmp .eq (.v 3) (.e_ 1)) [(.set 8 (.bin .sub (.bin .add (.e_ 23) (.call 11 [(.v 0),(.bin .add (.v 1) (.e_ 2)),(.e_ 3)])) (.blt .len [(.v 2)]))),(.ret (.bin .add (.bin .add (.v 2) (.comp 1 c_ [] (.rng [(.v 8)]) [] (.tup [(.f_ "z"),(.tup [(.bin .add (.e_ 1) (.v 0)),(.e_ 63)]),(.f_ "w")]))) (.lst [(.tup [(.f_ "z"),(.tup [(.e_ 63),(.e_ 63)]),(.f_ "wbme")])])))] []),(.ifs (.cmp .eq (.v 3) (.e_ 2)) [(.set 9 (.lst [(.tup [(.f_ ""),(.v 6),(.v 7)]),(.tup [(.v 5),(.tup []),(.v 7)]),(.tup [(.v 5),(.v 6),(.f_ "")]),(.tup [(.bin .add (.v 5) (.f_ "A")),(.v 6),(.v 7)])])),(.set 9 (.bin .add (.v 9) (.lst [(.tup [(.v 5),(.bin .add (.v 6) (.tup [(.e_ 64)])),(.v 7)]),(.tup [(.v 5),(.bin .add (.tup [(.e_ 0)]) (.v 6)),(.v 7)]),(.tup [(.v 5),(.v 6),(.f_ "bw")])]))),(.ret (.bin .add (.bin .add (.sl (.v 2) b_ (a_ (.v 4))) (.lst [(.ix (.v 9) (.call 11 [(.v 0),(.bin .add (.v 1) (.e_ 2)),(.e_ 7)]))])) (.sl (.v 2) (a_ (.bin .add (.v 4) (.e_ 1))) b_)))] []),(.ifs (.cmp .eq (.v 3) (.e_ 3)) [(.set 10 (.tup [(.v 5),(.v 6),(.call 14 [(.bin .add (.e_ 1) (.call 11 [(.v 0),(.bin .add (.v 1) (.e_ 2)),(.e_ 15)]))])])),(.set 11 (.bin .add (.bin .add (.v 4) (.e_ 1)) (.call 11 [(.v 0),(.bin .add (.v 1) (.e_ 3)),(.bin .sub (.blt .len [(.v 2)]) (.v 4))]))),(.ret (.bin .add (.bin .add (.sl (.v 2) b_ (a_ (.v 11))) (.lst [(.v 10)])) (.sl (.v 2) (a_ (.v 11)) b_)))] []),(.ifs (.cmp .eq (.v 3) (.e_ 4)) [(.ret (.bin .add (.sl (.v 2) b_ (a_ (.v 4))) (.sl (.v 2) (a_ (.bin .add (.v 4) (.e_ 1))) b_)))] []),(.ifs (.cmp .eq (.v 3) (.e_ 5)) [(.ret (.bin .add (.bin .add (.sl (.v 2) b_ (a_ (.v 4))) (.lst [(.tup [(.v 5),(.v 6),(.f_ "wbe")])])) (.sl (.v 2) (a_ (.bin .add (.v 4) (.e_ 1))) b_)))] []),(.ret (.bin .add (.v 2) (.lst [(.tup [(.bin .add (.f_ "z") (.sl (.v 5) b_ (a_ (.e_ 5)))),(.v 6),(.v 7)])])))]
noncomputable def S8:List Sx:=[(.set 4 (.call 11 [(.v 0),(.v 1),(.e_ 7)])),(.set 5 (.call 11 [(.v 0),(.bin .add (.v 1) (.e_ 1)),(.e_ 4)])),(.ifs (.cmp .eq (.v 4) (.e_ 0)) [(.set 2 (.bin .add (.bin .add (.sl (.v 2) b_ (a_ (.v 5))) (.tup [(.tup [(.e_ 1),(.e_ 2),(.e_ 3)])])) (.sl (.v 2) (a_ (.bin .add (.v 5) (.e_ 1))) b_)))] []),(.ifs (.cmp .eq (.v 4) (.e_ 1)) [(.set 6 (.ix (.lst [(.tup [(.e_ 0)]),(.tup [(.e_ 64)]),(.tup [(.e_ 5),(.neg (.e_ 1))]),(.tup [(.bin .pow (.e_ 10) (.e_ 20)),(.e_ 1)])]) (.call 11 [(.v 0),(.bin .add (.v 1) (.e_ 2)),(.e_ 4)]))),(.set 2 (.bin .add (.bin .add (.sl (.v 2) b_ (a_ (.v 5))) (.tup [(.v 6)])) (.sl (.v 2) (a_ (.bin .add (.v 5) (.e_ 1))) b_)))] []),(.ifs (.cmp .eq (.v 4) (.e_ 2)) [(.set 2 (.bin .add (.bin .add (.sl (.v 2) b_ (a_ (.v 5))) (.tup [(.tup [])])) (.sl (.v 2) (a_ (.bin .add (.v 5) (.e_ 1))) b_)))] []),(.ifs (.cmp .eq (.v 4) (.e_ 3)) [(.set 2 (.bin .add (.bin .add (.sl (.v 2) b_ (a_ (.v 5))) (.tup [(.tup [(.e_ 7)])])) (.sl (.v 2) (a_ (.bin .add (.v 5) (.e_ 1))) b_)))] []),(.ifs (.cmp .eq (.v 4) (.e_ 4)) [(.set 3 (.blt .tuple [(.comp 1 c_ [] (.rng [(.e_ 11)]) [] (.bin .add (.e_ 1) (.v 0)))]))] []),(.ifs (.cmp .eq (.v 4) (.e_ 5)) [(.set 3 (.ix (.lst [(.tup []),(.tup [(.e_ 3)]),(.tup [(.e_ 0),(.e_ 3)]),(.tup [(.e_ 64)])]) (.call 11 [(.v 0),(.bin .add (.v 1) (.e_ 2)),(.e_ 4)])))] []),(.ifs (.cmp .eq (.v 4) (.e_ 6)) [(.set 2 (.tup [(.tup []),(.tup [(.e_ 9)]),(.tup []),(.tup [])]))] []),(.ret (.tup [(.v 2),(.v 3)]))]
noncomputable def S7:List Sx:=[(.set 3 (.con .non)),(.set 4 (.con .non)),(.Oc 4 10 [(.v 0),(.v 1),(.v 2)] 3 5 cE),(.ifs (.cmp .isn (.v 3) (.con .non)) [(.ret (.tup [(.f_ "made"),(.v 4)]))] []),(.set 6 (.lst [(.Dj (tb cF) (.v 3)),(.Dj (tb cT) (.v 3)),(.Dj (tb cM) (.v 3))])),(.mut .app 6 [(.Dj (tb cL) (.v 3))]),(.set 7 (.Dj (tb 0) (.v 3))),(.ifs (.or (.v 7) (.or (.not (.Dj tV (.v 3))) (.cmp .ne (.Q6 (.v 6) (.con (.bl c_))) (.e_ 1)))) [(.ret (.tup [(.f_ "other"),(.con .non)]))] []),(.ifs (.ix (.v 6) (.e_ 3)) [(.ret (.tup [(.f_ "letter"),(.AE [cL] "letter" (.v 3))]))] []),(.ret (.tup [(.ix (.lst [(.f_ "form"),(.f_ "twice"),(.f_ "mark")]) (.Q5 (.v 6) (.con (.bl c_)))),(.AE [cF,cT,cM] "number" (.v 3))]))]
noncomputable def JA:List Sx:=[(.set 1 (.call 17 [(.v 0),(.e_ 0)])),(.set 2 (.blt .list [(.ix (.v 1) (.e_ 0))])),(.vo [3,4] (.sl (.v 1) (a_ (.e_ 1)) b_)),(.set 5 (.call 11 [(.v 0),(.e_ 200),(.e_ 8)])),(.ifs (.cmp .gt (.v 5) (.e_ 2)) [(.set 2 (.call 22 [(.v 0),(.e_ 201),(.v 2)]))] []),(.ifs (.and (.cmp .isin (.v 5) (.tup [(.e_ 3),(.e_ 4),(.e_ 5)])) (.cmp .gt (.blt .len [(.v 2)]) (.e_ 0))) [(.set 2 (.call 22 [(.v 0),(.e_ 230),(.v 2)]))] []),(.ifs (.cmp .isin (.v 5) (.tup [(.e_ 1),(.e_ 2),(.e_ 7)])) [(.vo [3,4] (.call 23 [(.v 0),(.e_ 210),(.v 3),(.v 4)]))] []),(.ifs (.cmp .isin (.v 5) (.tup [(.e_ 2),(.e_ 7)])) [(.vo [3,4] (.call 23 [(.v 0),(.e_ 240),(.v 3),(.v 4)]))] []),(.set 6 (.call 21 [(.v 2),(.v 3),(.v 4)])),(.ifs (.cmp .isn (.v 6) (.con .non)) [(.set 6 (.tup [(.f_ "made"),(.tup [(.blt .tuple [(.v 2)]),(.blt .tuple [(.v 3)]),(.blt .tuple [(.v 4)])])]))] []),(.set 7 (.tup [(.blt .list [(.v 2)]),(.lst []),(.blt .list [(.v 4)])])),(.Az .ext 7 1 [(.comp 1 c_ [] (.itv (.v 3)) [] (.blt .list [(.v 0)]))]),(.set 8 (.tup [(.blt .list [(.v 2)]),(.comp 1 c_ [] (.itv (.ix (.v 7) (.e_ 1))) [] (.blt .list [(.v 0)])),(.blt .list [(.v 4)])])),(.ifs (.not (.call 12 [(.call 24 [(.blt .tuple [(.v 2)]),(.v 3),(.v 4)]),(.v 6)])) [(.ret (.con (.bl d_)))] []),(.set 9 (.call 24 [(.ix (.v 7) (.e_ 0)),(.ix (.v 7) (.e_ 1)),(.ix (.v 7) (.e_ 2))])),(.ifs (.not (.call 12 [(.v 7),(.v 8)])) [(.ret (.con (.bl d_)))] []),(.Az .clr 7 0 []),(.Az .clr 7 1 []),(.Az .clr 7 2 []),(.TL 12 [(.v 9),(.v 6)])]
noncomputable def d0:Df:=⟨top 1,1,1,b0⟩
noncomputable def d1:Df:=⟨top 23,3,3,b1⟩
noncomputable def d2:Df:=⟨top 24,1,1,b2⟩
noncomputable def d3:Df:=⟨top 25,1,1,b3⟩
noncomputable def d4:Df:=⟨top 26,1,1,b4⟩
noncomputable def d5:Df:=⟨top 27,1,1,b5⟩
noncomputable def d6:Df:=⟨top 28,1,3,b6⟩
noncomputable def d7:Df:=⟨top 29,1,5,b7⟩
noncomputable def d8:Df:=⟨top 30,2,4,b8⟩
noncomputable def d9:Df:=⟨top 31,1,3,b9⟩
noncomputable def W2:Df:=⟨top 32,3,4,Vm⟩
noncomputable def XJ:Df:=⟨top 34,3,4,Vl⟩
noncomputable def U5:Df:=⟨top 35,2,2,NN⟩
noncomputable def XI:Df:=⟨top 36,4,4,Yp⟩
noncomputable def XH:Df:=⟨top 37,1,1,XS⟩
noncomputable def Yj:Df:=⟨top 38,3,14,Yo⟩
noncomputable def Yi:Df:=⟨top 39,3,5,Yn⟩
noncomputable def Yh:Df:=⟨top 40,2,6,Ym⟩
noncomputable def XG:Df:=⟨top 41,2,3,VF⟩
noncomputable def XF:Df:=⟨top 42,1,5,JZ⟩
noncomputable def XE:Df:=⟨top 43,2,3,Vk⟩
noncomputable def XD:Df:=⟨top 44,3,6,Vj⟩
noncomputable def XC:Df:=⟨top 45,3,12,Fj⟩
noncomputable def XB:Df:=⟨top 46,4,7,S8⟩
noncomputable def XA:Df:=⟨top 47,3,8,S7⟩
noncomputable def Xz:Df:=⟨top 48,1,10,JA⟩
noncomputable def D:List Df:=[d0,d1,d2,d3,d4,d5,d6,d7,d8,d9,W2,XJ,U5,XI,XH,Yj,Yi,Yh,XG,XF,XE,XD,XC,XB,XA,Xz]
noncomputable def con:List (aN×Dat):=[(ag "SMALL_LETTERS",(.str (ag "abcdefghijklmnopqrstuvwxyz"))),(ag "FIGURES",(.str (ag "0123456789"))),(ag "ALL_PLACES",(.str (ag "wbme"))),(ag "MOST_FORMS",(.int (24))),(ag "MOST_MARK_CELLS",(.int (2))),(ag "NUMBER_OF_FIGURES",(.int (4)))]
noncomputable def xg:Xg where
 exc:=[("NoForm",cF,"number"),("Twice",cT,"number"),("NoMark",cM,"number"),("NoLetter",cL,"letter")]
 cls:=[("NoForm",tb cF),("Twice",tb cT),("NoMark",tb cM),("NoLetter",tb cL),("ValueError",tV)]
 tcl:=[(["NoTable","NoSign","NoReading","TooMany","Two","NoLines","NoEntry","NoLine"],tb 0)]
 AE:=[("number",[cF,cT,cM]),("letter",[cL])]
 hnd:=[("DotError",cE)]
 kf:=λ_ _=>True
noncomputable def G:Sg:=KU D con xg
def Uw:∀d∈D,NV G d:=QL (L:=[]) (by kernel_rfl) (λ_ h=>nomatch h) λd hd=>.inr (fF.mp (show D.map (WZ G)=D.map Df.body by kernel_rfl) d hd)
end K04
namespace M
open PySem L2
@[simp] def tY:full []=[]:=rfl
@[simp] def qQ{d:Dat}{b:Bool}{ρ:bQ}:full (a_ (d,b)::ρ)=a_ d::full ρ:=rfl
@[simp] def qR{ρ:bQ}:full (b_::ρ)=b_::full ρ:=rfl
section
variable{C:Fs}{ρ:eM}{a b c:Ex}{i j:Int}
@[simp] def kN:gr .add (.int i) (.int j)=a_ (.int (i+j),d_):=rfl
@[simp] def Sf:gr .sub (.int i) (.int j)=a_ (.int (i - j),d_):=rfl
def ub(h:0<j):gr .mod (.int i) (.int j)=a_ (.int (i % j),d_):=if_pos h
@[simp] def OP:gr .band (.int i) (.int j)=a_ (.int (sG i j),d_):=rfl
@[simp] def Sh:gr .bor (.int i) (.int j)=a_ (.int (JQ i j),d_):=rfl
@[simp] def Nf:eV .lt (.int i) (.int j)=a_ (decide (i<j)):=rfl
@[simp] def Ng:eV .le (.int i) (.int j)=a_ (decide (i<=j)):=rfl
@[simp] def Nh:eV .gt (.int i) (.int j)=a_ (decide (j<i)):=rfl
@[simp] def VE:eV .ge (.int i) (.int j)=a_ (decide (j<=i)):=rfl
@[simp] def EY:eV .eq (.int i) (.int j)=a_ (i == j):=rfl
@[simp] def S5:eV .ne (.int i) (.int j)=a_ (!(i == j)):=rfl
@[simp] def S6{x y:Bool}:eV .eq (.bl x) (.bl y)=a_ (x == y):=rfl
@[simp] def EX{x y:Bool}:eV .ne (.bl x) (.bl y)=a_ (!(x == y)):=rfl
@[simp] def Gq{x:Bool}:iP (.bl x)=a_ x:=rfl
@[simp] def t9{xs:List Dat}:dw .len [.lst xs]=a_ (.int xs.length,d_):=rfl
@[simp] def gp{xs:List Dat}:dw .len [.tup xs]=a_ (.int xs.length,d_):=rfl
@[simp] def OO{xs:List Dat}:dw .list [.lst xs]=a_ (.lst xs,je xs):=rfl
@[simp] def ON{xs:List Dat}:dw .list [.tup xs]=a_ (.lst xs,je xs):=rfl
@[simp] def xS{xs:List Dat}:dw .tuple [.lst xs]=a_ (.tup xs,d_):=rfl
@[simp] def NM{xs:List Dat}:dw .tuple [.tup xs]=a_ (.tup xs,d_):=rfl
@[simp] def Vi{xs:List Dat}:dw .listrev [.lst xs]=a_ (.lst xs.reverse,je xs.reverse):=rfl
@[simp] def BX{t:Ty}{i:Int}:dw (.isi t) [.int i]=a_ (.bl (kg t (.int i)),d_):=rfl
@[simp] def Sd{t:Ty}{b:Bool}:dw (.isi t) [.bl b]=a_ (.bl (kg t (.bl b)),d_):=rfl
@[simp] def BU{t:Ty}{x:aN}:dw (.isi t) [.str x]=a_ (.bl (kg t (.str x)),d_):=rfl
@[simp] def BS{t:Ty}{l:List Dat}:dw (.isi t) [.tup l]=a_ (.bl (kg t (.tup l)),d_):=rfl
@[simp] def BV{t:Ty}{l:List Dat}:dw (.isi t) [.lst l]=a_ (.bl (kg t (.lst l)),d_):=rfl
@[simp] def Sa{t:Ty}:dw (.isi t) [.non]=a_ (.bl (kg t (.non)),d_):=rfl
@[simp] def vL{xs:List Dat}:EH (.lst xs) (.int i)=kO xs i:=rfl
@[simp] def zx{xs:List Dat}:EH (.tup xs) (.int i)=kO xs i:=rfl
@[simp] def Xm{xs:List Dat}{lo hi:Option Int}:Of (.lst xs) lo hi=a_ (.lst (cutD xs lo hi),je (cutD xs lo hi)):=rfl
@[simp] def BI:im (.int i)=c_:=rfl
@[simp] def UP{x:Bool}:im (.bl x)=c_:=rfl
@[simp] def qM{x:aN}:im (.str x)=c_:=rfl
@[simp] def WM:im .non=c_:=rfl
@[simp] def Ru{xs:List Dat}:im (.lst xs)=d_:=rfl
@[simp] def cA(ns:List Int):je (ns.map Dat.int)=c_:=by
 induction ns with
 |nil=>rfl
 |cons n r ih=>show(c_ && je (r.map Dat.int))=c_;rw[ih];rfl
@[simp] def UW{ρ:bQ}{i:Nat}{d:Dat}{b:Bool}:full (ρ.set i (a_ (d,b)))=(full ρ).set i (a_ d):=by
 unfold full;rw[List.map_set];rfl
end
section
variable{C:Fs}{e:Ex}{s:Sx}{ss:List Sx}{ρ ρ1:bQ}{d:Dat}{fr:Bool}{i:Nat}
def fi{np nl:Nat}{body:List Sx}{ds:List Dat}(h:ds.length=np)(hx:bH C body (ds.map (λd=>a_ (d,d_))++bI (nl - np) b_)=a_ (.rt d fr)):uT C np nl body ds=a_ (d,fr):=by
 unfold uT;rw[if_pos h,hx];rfl
def bf(h:fH C s ρ=a_ (.nx ρ1)):bH C (s::ss) ρ=bH C ss ρ1:=by show(fH C s ρ).bind _=_;rw[h];rfl
def eD(h:fH C s ρ=a_ (.rt d fr)):bH C (s::ss) ρ=a_ (.rt d fr):=by show(fH C s ρ).bind _=_;rw[h];rfl
def qE(h:fH C s ρ=a_ (.nx ρ1)):bH C [s] ρ=a_ (.nx ρ1):=by show(fH C s ρ).bind _=_;rw[h];rfl
def lA(h:bw C e (full ρ)=a_ (d,fr)):fH C (.ret e) ρ=a_ (.rt d fr):=by show(bw C e (full ρ)).map _=_;rw[h];rfl
def fR{a b:List Sx}(h:bw C e (full ρ)=a_ (d,fr))(ht:iP d=a_ c_):fH C (.ifs e a b) ρ=bH C a ρ:=by show(bw C e (full ρ)).bind _=_;rw[h];show(iP d).bind _=_;rw[ht];rfl
def eT{a b:List Sx}(h:bw C e (full ρ)=a_ (d,fr))(ht:iP d=a_ d_):fH C (.ifs e a b) ρ=bH C b ρ:=by show(bw C e (full ρ)).bind _=_;rw[h];show(iP d).bind _=_;rw[ht];rfl
end
section
variable{i j:Int}
def ua(h1:-18446744073709551616<i)(h2:i<18446744073709551616):gr .mul (.int i) (.int j)=a_ (.int (i * j),d_):=if_pos (.inl ⟨h1,h2⟩)
def BY(h1:-18446744073709551616<j)(h2:j<18446744073709551616):gr .mul (.int i) (.int j)=a_ (.int (i * j),d_):=if_pos (.inr ⟨h1,h2⟩)
def Ak(h1:0<j)(h2:j<1073741824):gr .fdiv (.int i) (.int j)=a_ (.int (i / j),d_):=if_pos ⟨h1,h2⟩
def U2{p:Prop}[Decidable p](h:p):decide p=c_:=decide_eq_true h
def U3{p:Prop}[Decidable p](h:¬p):decide p=d_:=decide_eq_false h
def o6{C:Fs}{e:Ex}{ρ:bQ}{d:Dat}{f:Bool}(h:bw C e (full ρ)=a_ (d,f))(hi:(im d || f)=c_):ou C e ρ=a_ (d,f,ρ):=by
 unfold ou;rw[h];exact if_pos hi
def MY{C:Fs}{i:Nat}{e:Ex}{ρ:bQ}:fH C (.set i e) ρ=(bw C e (full ρ)).bind λx=>if(im x.1 || x.2)=c_ then a_ (.nx (ρ.set i (a_ (x.1,x.2 && !im x.1))))else(bw C e (rP (kh e.fv ρ))).map λy=>.nx ((kh e.fv ρ).set i (a_ (y.1,y.2 && !im y.1))):=by
 show(ou C e ρ).map _=_;unfold ou
 cases bw C e (full ρ)with
 |none=>rfl
 |some x=>
   show mF _ (if(im x.1 || x.2)=c_ then _ else _)=if(im x.1 || x.2)=c_ then _ else _
   cases im x.1 || x.2 with
   |true=>rfl
   |false=>exact Option.map_map ..
def MZ{C:Fs}{e:Ex}{ρ:bQ}:fH C (.ret e) ρ=(bw C e (full ρ)).map λx=>.rt x.1 x.2:=rfl
def IW{C:Fs}{i:Nat}{ρ:bQ}:fH C (.tu i) ρ=((ρ[i]?).join).map λx=>.rt x.1 x.2:=rfl
def M4{C:Fs}{e:Ex}{a b:List Sx}{ρ:bQ}:fH C (.ifs e a b) ρ=(bw C e (full ρ)).bind λx=>(iP x.1).bind λz=>if z=c_ then bH C a ρ else bH C b ρ:=rfl
def RG{C:Fs}{s:Sx}{ss:List Sx}{ρ:bQ}:bH C (s::ss) ρ=(fH C s ρ).bind (K4 (bH C ss)):=rfl
def RF{C:Fs}{ρ:bQ}:bH C [] ρ=a_ (.nx ρ):=rfl
section
variable{k:bQ->Option Out}{ρ:bQ}
def K3:K4 k (.nx ρ)=k ρ:=rfl
def K2{d:Dat}{fr:Bool}:K4 k (.rt d fr)=a_ (.rt d fr):=rfl
end
def QT{op:uq}{i:Nat}{ρ:bQ}{ds:List Dat}{d:Dat}:Mf op i ρ ds (a_ (d,c_))=(ju op d ds).map λd'=>.nx (ρ.set i (a_ (d',c_))):=rfl
def M0{C:Fs}{op:uq}{i:Nat}{es:List Ex}{ρ:bQ}:fH C (.mut op i es) ρ=(lD C es (full ρ)).bind λx=>if x.2=c_ then Mf op i ρ x.1 ((ρ[i]?).join)else b_:=rfl
def Et{ds:List Dat}{d:Dat}(h:ds.length<1000000):ju .app (.lst ds) [d]=a_ (.lst (ds++[d])):=if_pos (by rw[bT];omega)
def zS{C:Fs}{one:Bool}{ts:List Nat}{es:List Ex}{body:List Sx}{ρ:bQ}:fH C (.loop one ts (.rng es) body) ρ=(xF C (.rng es) (full ρ)).bind λds=>eL (eF one ts) (bH C body) ds ρ:=by
 show((xF C (.rng es) (full ρ)).map _).bind _=_;cases xF C (.rng es) (full ρ)<;>rfl
def n6{C:Fs}{one:Bool}{ts:List Nat}{e:Ex}{body:List Sx}{ρ:bQ}:fH C (.loop one ts (.itv e) body) ρ=(bw C e (full ρ)).bind λx=>if(im x.1 || x.2)=c_ then(iq x.1).bind λds=>eL (eF one ts) (bH C body) ds ρ
  else(bw C e (rP (kh e.fv ρ))).bind λy=>(iq y.1).bind λds=>eL (eF one ts) (bH C body) ds (kh e.fv ρ):=by
 show((ou C e ρ).bind λx=>(iq x.1).map λds=>(ds,x.2.2)).bind _=_;unfold ou
 cases bw C e (full ρ)with
 |none=>rfl
 |some x=>
   show nN (nN (if(im x.1 || x.2)=c_ then _ else _) _) _=if(im x.1 || x.2)=c_ then _ else _
   cases im x.1 || x.2 with
   |true=>show((iq x.1).map _).bind _=(iq x.1).bind _;cases iq x.1<;>rfl
   |false=>
     show nN (nN (mF _ (bw C e (rP (kh e.fv ρ)))) _) _=nN (bw C e (rP (kh e.fv ρ))) _
     cases bw C e (rP (kh e.fv ρ))with
     |none=>rfl
     |some y=>show((iq y.1).map _).bind _=(iq y.1).bind _;cases iq y.1<;>rfl
section
variable{t:Ty}{i:Int}{b:Bool}{x:aN}{ds:List Dat}
def MG:kg .int (.int i)=c_:=rfl
def MF:kg .int (.str x)=d_:=rfl
def MI:kg .bool (.int i)=d_:=rfl
def MH:kg .bool (.str x)=d_:=rfl
def MA:kg .str (.str x)=c_:=rfl
def Mz:kg .tuple (.int i)=d_:=rfl
def Mx:kg .tuple (.str x)=d_:=rfl
def Mw:kg .tuple (.tup ds)=c_:=rfl
def My:kg .tuple (.lst ds)=d_:=rfl
def ME:kg .list (.int i)=d_:=rfl
def MC:kg .list (.str x)=d_:=rfl
def MB:kg .list (.tup ds)=d_:=rfl
def MD:kg .list (.lst ds)=c_:=rfl
def UL:eV .isn (.int i) .non=a_ d_:=rfl
def UK:eV .isn (.str x) .non=a_ d_:=rfl
def WW{y:aN}:eV .eq (.str x) (.str y)=a_ (x == y):=rfl
def WV{ys:List Dat}(h1:eh 19 ds=c_)(h2:eh 19 ys=c_):eV .eq (.tup ds) (.tup ys)=a_ (kX ds ys):=by simp only[eV,AD,Ff,qU,DF,fE,h1,h2,pL,if_true,nH]
def Ww{ys:List Dat}(h1:eh 19 ds=c_)(h2:eh 19 ys=c_):eV .ne (.tup ds) (.tup ys)=a_ (!kX ds ys):=by simp only[eV,AD,Ff,qU,DF,fE,h1,h2,pL,if_true,nH]
end
end
section
variable{C:Fs}{ρ:eM}{a b c:Ex}{es:List Ex}
def ja{d:Dat}:bw C (.con d) ρ=a_ (d,d_):=rfl
def fj{i:Nat}:bw C (.v i) ρ=((ρ[i]?).join).map λd=>(d,d_):=rfl
def jb{o:OW}:bw C (.bin o a b) ρ=(bw C a ρ).bind λx=>(bw C b ρ).bind λy=>gr o x.1 y.1:=rfl
def xD{o:Fo}:bw C (.cmp o a b) ρ=(bw C a ρ).bind λx=>(bw C b ρ).bind λy=>(eV o x.1 y.1).map λr=>(.bl r,d_):=rfl
def RI{o o':Fo}:bw C (.Jk o o' a b c) ρ=(bw C a ρ).bind λx=>(bw C b ρ).bind λy=>(eV o x.1 y.1).bind λr=>if r=c_ then(bw C c ρ).bind λz=>(eV o' y.1 z.1).map λr=>(.bl r,d_)else a_ (.bl d_,d_):=rfl
def Sl{k:g_}{x:Bool}:Sm k (.bl x)=if x=c_ then k else a_ (.bl d_,d_):=rfl
def BM:bw C (.and a b) ρ=(bw C a ρ).bind λx=>Sm (bw C b ρ) x.1:=rfl
def Uo{k:g_}{x:Bool}:Wt k (.bl x)=if x=c_ then a_ (.bl c_,d_)else k:=rfl
def UY:bw C (.or a b) ρ=(bw C a ρ).bind λx=>Wt (bw C b ρ) x.1:=rfl
def RH:bw C (.not a) ρ=(bw C a ρ).bind λx=>(iP x.1).map λb=>(.bl (!b),d_):=rfl
def lC:bw C (.tup es) ρ=(lD C es ρ).bind λx=>if x.1.length<=1000000 then a_ (.tup x.1,x.2)else b_:=rfl
def xC:bw C (.lst es) ρ=(lD C es ρ).bind λx=>if x.1.length<=1000000 then a_ (.lst x.1,x.2)else b_:=rfl
def rF:bw C (.ix a b) ρ=(bw C a ρ).bind λx=>(bw C b ρ).bind λy=>(EH x.1 y.1).map λd=>(d,d_):=rfl
def DI:Si C ρ b_=a_ b_:=rfl
def qe:Si C ρ (a_ a)=HA (bw C a ρ):=rfl
def CY{i:Int}{f:Bool}:HA (a_ (.int i,f))=a_ (a_ i):=rfl
def Dv{b c:Option Ex}:bw C (.sl a b c) ρ=(bw C a ρ).bind λx=>(Si C ρ b).bind λl=>(Si C ρ c).bind λh=>Of x.1 l h:=rfl
def cy{f:Nat}:bw C (.call f es) ρ=(hZ C es ρ).bind λds=>C f ds:=rfl
def RJ{f:J3}:bw C (.blt f es) ρ=(hZ C es ρ).bind λds=>dw f ds:=rfl
def gm:hZ C [] ρ=a_ []:=rfl
def eU{e:Ex}:hZ C (e::es) ρ=(bw C e ρ).bind λx=>(hZ C es ρ).map λr=>x.1::r:=rfl
def gZ:lD C [] ρ=a_ ([],c_):=rfl
def fB{e:Ex}:lD C (e::es) ρ=(bw C e ρ).bind λx=>(lD C es ρ).map λr=>(x.1::r.1,(x.2 || im x.1) && r.2):=rfl
def M5{m:SG}{o:Ex}:bw C (.mM m o es) ρ=(bw C o ρ).bind λx=>(hZ C es ρ).bind λds=>mL m x.1 ds:=rfl
def M6:bw C .BO ρ=a_ (.dct [] [],c_):=rfl
def Du:xF C (.itv a) ρ=(bw C a ρ).bind λx=>iq x.1:=rfl
def so:xF C (.rng es) ρ=(hZ C es ρ).bind Eh:=rfl
def tQ{xs:List Dat}:iq (.lst xs)=a_ xs:=rfl
def zB{xs:List Dat}:iq (.tup xs)=a_ xs:=rfl
def eY{nt:Nat}{one:Bool}{caps:List Nat}{it:Iw}{elt:Ex}{ifs:List Ex}{items ys:List Dat}{fr:Bool}(hi:xF C it ρ=a_ items)(hl:items.length<=1000000)(hm:oW (gD C nt one (dS nt caps ρ) ifs elt) items=a_ (ys,fr)) :
  bw C (.comp nt one caps it ifs elt) ρ=a_ (.lst ys,fr):=by
 show(xF C it ρ).bind _=_;rw[hi];show(if items.length<=1000000 then _ else b_)=_;rw[if_pos hl];exact congrArg (mF λys:List Dat×Bool=>(Dat.lst ys.1,ys.2)) hm
def fu{ρ0:eM}{elt:Ex}{d:Dat}:gD C 1 c_ ρ0 [] elt d=(bw C elt (ρ0.set 0 (a_ d))).map a_:=rfl
def Jg{ρ0:eM}{elt i:Ex}{d x:Dat}{f t:Bool}(h:bw C i (ρ0.set 0 (a_ d))=a_ (x,f))(ht:iP x=a_ t):gD C 1 c_ ρ0 [i] elt d=if t=c_ then(bw C elt (ρ0.set 0 (a_ d))).map a_ else a_ b_:=by
 unfold gD;simp only[DH,ao,vU,h,ht];cases t<;>rfl
def vX{ρ0:eM}{elt:Ex}{x y:Dat}:gD C 2 d_ ρ0 [] elt (.tup [x,y])=(bw C elt ((ρ0.set 0 (a_ x)).set 1 (a_ y))).map a_:=rfl
theorem zp{f:Dat->Option g_}{g:Dat->Dat}{b:Dat->Bool}:∀{ds:List Dat},(∀d∈ds,f d=a_ (a_ (g d,b d)))->oW f ds=a_ (ds.map g,ds.all λd=>b d || im (g d))
 |[],_=>rfl
 |d::ds,h=>by
   simp only[oW,h d jB,ao,zp λe he=>h e (jN _ he),aC,aw,eQ]
def gf{f:Dat->Option g_}{g:Dat->Dat}{ds:List Dat}(h:∀d∈ds,∃b,f d=a_ (a_ (g d,b)))(hi:∀d∈ds,im (g d)=c_):oW f ds=a_ (ds.map g,c_):=by
 induction ds with
 |nil=>rfl
 |cons d ds ih=>
   obtain⟨b,hb⟩:=h d jB;simp only[oW,hb,ao,ih (λe he=>h e (jN _ he)) λe he=>hi e (jN _ he),aC,aw,hi d jB,bY,bO]
def zq{f:Dat->Option g_}{g:Dat->Dat}{p:Dat->Bool}{ds:List Dat}(h:∀d∈ds,∃b,f d=a_ (if p d=c_ then a_ (g d,b)else b_))(hi:∀d∈ds,p d=c_->im (g d)=c_):oW f ds=a_ ((ds.filter p).map g,c_):=by
 induction ds with
 |nil=>rfl
 |cons d ds ih=>
   obtain⟨b,hb⟩:=h d jB;simp only[oW,hb,ao,ih (λe he=>h e (jN _ he)) λe he=>hi e (jN _ he),aC,List.filter_cons]
   cases hp:p d with
   |false=>rfl
   |true=>simp[hi d jB hp]
def zr{f:Dat->Option g_}{y:Dat}{ds:List Dat}(hy:im y=c_)(h:∀d∈ds,∃b,f d=a_ (a_ (y,b))):oW f ds=a_ (bI ds.length y,c_):=by
 have:=gf (f:=f) (g:=λ_=>y) h λ_ _=>hy;rw[this,List.map_const']
theorem pd:∀k:Nat,jx (bI k (.bl c_))=a_ (bI k c_)
 |0=>rfl
 |k+1=>by simp only[pw,jx,pd k,aC]
theorem pe{α:Type}{g:α->Bool}:∀xs:List α,jx (xs.map λx=>Dat.bl (g x))=a_ (xs.map g)
 |[]=>rfl
 |x::xs=>by simp only[aw,jx,pe xs,aC]
theorem tH:∀{xs:List Dat}{d:Dat},d∈kc xs xs->∃x∈xs,d=.tup [x,x]
 |[],d,h=>by simp[kc]at h
 |x::xs,d,h=>by
   simp only[kc,ah]at h
   rcases h with rfl|h
   ·exact⟨x,jB,rfl⟩
   ·obtain⟨y,h1,h2⟩:=tH h;exact⟨y,jN _ h1,h2⟩
end
mutual
noncomputable def same:Dat->Dat->Bool
 | .non,y9=>match y9 with
   |.non=>c_
   |_=>d_
 | .bl a,y9=>match y9 with
   |.bl b=>a == b
   |_=>d_
 | .int i,y9=>match y9 with
   |.int j=>i == j
   |_=>d_
 | .str x,y9=>match y9 with
   |.str y=>x == y
   |_=>d_
 | .tup xs,y9=>match y9 with
   |.tup ys=>sW xs ys
   |_=>d_
 | .lst xs,y9=>match y9 with
   |.lst ys=>sW xs ys
   |_=>d_
 |_,_=>d_
noncomputable def sW:List Dat->List Dat->Bool
 |[],[]=>c_
 |x::xs,y::ys=>same x y && sW xs ys
 |_,_=>d_
end
mutual
theorem CB:∀(x y:Dat),same x y=c_->x=y
 |.non,y,h=>by cases y<;>first|rfl|(simp[same]at h)
 |.bl a,y,h=>by cases y<;>first|(simp[same]at h;rw[h])|(simp[same]at h)
 |.int a,y,h=>by cases y<;>first|(simp[same]at h;rw[h])|(simp[same]at h)
 |.str a,y,h=>by cases y<;>first|(simp[same]at h;rw[h])|(simp[same]at h)
 |.tup a,y,h=>by cases y<;>first|(simp[same]at h;rw[sV _ _ h])|(simp[same]at h)
 |.lst a,y,h=>by cases y<;>first|(simp[same]at h;rw[sV _ _ h])|(simp[same]at h)
theorem sV:∀(x y:List Dat),sW x y=c_->x=y
 |[],y,h=>by cases y<;>first|rfl|(simp[sW]at h)
 |x::xs,y,h=>by
   cases y with
   |nil=>simp[sW]at h
   |cons y ys=>
     simp[sW]at h;rw[CB _ _ h.1,sV _ _ h.2]
end
noncomputable def sY:g_->g_->Bool
 |some (d,b),a_ (e,c)=>same d e && b == c
 |none,b_=>c_
 |_,_=>d_
def sX{x y:g_}(h:sY x y=c_):x=y:=by
 cases x with
 |none=>cases y<;>first|rfl|(simp[sY]at h)
 |some x=>
   cases y with
   |none=>simp[sY]at h
   |some y=>
     obtain⟨d,b⟩:=x;obtain⟨e,c⟩:=y;simp[sY]at h;rw[CB _ _ h.1,h.2]
def JB{ns:List Int}{k:Int}(h:0<ns.length):kO (ns.map Dat.int) (k % ns.length)=a_ (.int (ns.getD (k % ns.length).toNat 0)):=by
 have h1:0<=k % (ns.length:Int):=kA _ (by omega);have h2:k % (ns.length:Int)<ns.length:=i7 _ (by omega);generalize k % (ns.length:Int)=j at h1 h2 ⊢;obtain⟨n,rfl⟩:=fX h1;have h3:n<ns.length:=by omega
 refine g9 ?_;rw[aW,au h3];simp[h3]
def yK{n dflt:Nat}{i:Int}(h0:0<=i)(h1:i<=n):HT.fV n dflt (a_ i)=i.toNat:=by
 obtain⟨k,rfl⟩:=fX h0;rw[HT.Li];show min k n=k;omega
def M9{α:Type}{xs:List α}{i:Int}(h0:0<=i)(h1:i<=xs.length):cutD xs (a_ i) b_=xs.drop i.toNat:=by
 unfold cutD;rw[yK h0 h1,HT.yL];rw[Aw (by simp)]
def Na{α:Type}{xs:List α}{i:Int}(h0:0<=i)(h1:i<=xs.length):cutD xs b_ (a_ i)=xs.take i.toNat:=by
 unfold cutD;rw[yK h0 h1,HT.yL,eC];rfl
def ud{xs ys:List Dat}(h:xs.length+ys.length<=1000000):gr .add (.lst xs) (.lst ys)=a_ (.lst (xs++ys),je (xs++ys)):=if_pos (p6 h)
noncomputable def vY(ns:List Int)(k:Int):Int:=if 0<ns.length then(ns.getD (k % ns.length).toNat 0) % 2147483629 else 0
noncomputable def FH(ns:List Int)(k m:Int):Int:=(vY ns k+1) * (31 * k * k+7919) % 2147483647 * 48271 % 2147483629 % m
def Jl(ns:List Int)(k:Int):0<=vY ns k/\vY ns k<2147483629:=by
 unfold vY;split
 ·exact⟨kA _ (by omega),i7 _ (by omega)⟩
 ·omega
def Jb(ns:List Int)(k m:Int)(hm:0<m):0<=FH ns k m/\FH ns k m<m:=⟨kA _ (by omega),i7 _ hm⟩
noncomputable abbrev T(l:List Nat):aN:=⟨l.toArray⟩
def JH(a b:List Nat):T a++T b=T (a++b):=by
 show Str.mk _=_;simp[T]
def OU{a b:List Nat}(h:T a=T b):a=b:=by
 have:=congrArg (λx:aN=>x.cps.toList) h;simpa using this
def DN(a b:List Nat):(T a == T b)=decide (a=b):=by
 by_cases h:a=b
 ·subst h;simp
 ·rw[decide_eq_false h];exact beq_false_of_ne λe=>h (OU e)
def wb(a:List Nat):(T a).length=a.length:=by show(a.toArray).size=_;simp
def Iy{c:Nat}{l:List Nat}:eV .isin (.str (T [c])) (.str (T l))=a_ (decide (c∈l)):=by
 show a_ _=_;rw[show(!(dv (T l) (T [c]) 0 (T l).length 1).isEmpty)=_ from B8 (T l) c]
def IM{c:Nat}{l:List Nat}:decide (rO (T l) (T [c])<0)=!decide (c∈l):=by
 have h:=B8 (T l) c;unfold rO
 cases q:dv (T l) (T [c]) 0 (T l).length 1 with
 |nil=>
   rw[show(⟨#[c]⟩:aN)=T [c]from rfl,q]at h;simp at h;simp[h]
 |cons i r=>
   rw[show(⟨#[c]⟩:aN)=T [c]from rfl,q]at h;simp at h;simp[h]
def xu{l:List Nat}:iq (.str (T l))=a_ (l.map λc=>Dat.str (T [c])):=by
 show a_ _=_;simp[T]
def KR{l:List Nat}:lz (T l)=l.map λc=>T [c]:=by
 unfold lz;simp[T]
def len_T{l:List Nat}(h:l.length<=1000000):dw .len [.str (T l)]=a_ (.int l.length,d_):=by
 show(if(T l).length<=aD then a_ (Dat.int (T l).length,d_)else b_)=_;rw[wb,if_pos (by rw[bT];omega)]
def OS{a b:List Nat}(h:a.length+b.length<=1000000):gr .add (.str (T a)) (.str (T b))=a_ (.str (T (a++b)),d_):=by
 show(if(T a).length+(T b).length<=aD then a_ (Dat.str (T a++T b),d_)else b_)=_;rw[wb,wb,if_pos (by rw[bT];omega),JH]
def WH{l:List Nat}{i:Nat}(hl:l.length<=1000000)(h:i<l.length):EH (.str (T l)) (.int (i:Nat))=a_ (.str (T [l[i]])):=by
 show(if(T l).length<=aD then(kO (T l).cps.toList (i:Int)).map λc=>Dat.str ⟨#[c]⟩else b_)=_;rw[wb,if_pos (by rw[bT];omega)];rw[show kO (T l).cps.toList (i:Int)=a_ l[i]from g9 (by simp[h])];rfl
theorem Cp:∀ws:List (List Nat),oF (ws.map λl=>Dat.str (T l))=a_ (ws.map T)
 |[]=>rfl
 |x::r=>by simp only[aw,oF,Cp r,aC]
def Rj:∀ws:List (List Nat),rN (T []) (ws.map T)=T ws.flatten:=by
 intro ws;rw[show rN (T []) (ws.map T)=Str.join (T []) (ws.map T)from StrLaws.glued_eq_join _ _]
 induction ws with
 |nil=>rfl
 |cons x r ih=>
   cases r with
   |nil=>show T x=_;simp
   |cons y r=>
     show(T x++T []++Str.join (T []) ((y::r).map T))=_;rw[ih,JH,JH];simp
def xp{ws:List (List Nat)}(h:(ws.map (·.length)).sum<=1000000):mL .join (.str (T [])) [.lst (ws.map λl=>Dat.str (T l))]=a_ (.str (T ws.flatten),d_):=by
 simp only[mL,UD,Q0,Wz,QZ,Q2,Cp,ao];rw[if_pos,Rj];rw[wb,br];have e:(List.map ((λx:aN=>x.length) ∘ T) ws)=ws.map (·.length):=pz λl _=>wb l;rw[e];simpa using h
def RM(a b:List Nat):eV .eq (.str (T a)) (.str (T b))=a_ (decide (a=b)):=by
 show a_ (T a == T b)=_;rw[DN]
theorem qS:∀(a b:List Int),kX (a.map Dat.int) (b.map Dat.int)=decide (a=b)
 |[],[]=>rfl
 |[],b::bs=>by simp[kX]
 |a::as,[]=>by simp[kX]
 |a::as,b::bs=>by
   simp only[aw,kX,nH,qS as bs];by_cases h:a=b
   ·subst h;by_cases h2:as=bs<;>simp[h2]
   ·simp[h]
theorem wG(k:Nat):∀a:List Int,eh k (a.map Dat.int)=c_
 |[]=>by simp[eh]
 |a::as=>by simp[eh,fE,wG k as]
def RD{z:g_}{ρ:bQ}:full (z::ρ)=z.map (·.1)::full ρ:=rfl
def uc{xs ys:List Dat}(h:xs.length+ys.length<=1000000):gr .add (.tup xs) (.tup ys)=a_ (.tup (xs++ys),d_):=if_pos (p6 h)
end M
local macro_rules | `(tactic| walk_at "py") => do let xs ← ("M.RG M.RF M.K3 M.K2 M.MY M.MZ M.IW M.M4 M.M0 M.QT M.gZ M.fB M.M5 M.M6 M.ja M.fj M.jb M.xD M.RI M.BM M.UY M.Sl M.Uo M.RH M.lC M.xC M.rF M.Dv M.DI M.qe M.CY M.cy M.RJ M.gm M.eU M.Du M.so M.tQ M.zB List.length_cons List.length_nil Nat.reduceAdd Nat.reduceLeDiff M.RD Option.map_none M.qQ M.qR M.tY List.getElem?_cons_succ List.getElem?_cons_zero List.set_cons_succ List.set_cons_zero Option.join_some Option.map_some Option.bind_some M.kN M.ua M.BY M.ub M.Ak M.Nf M.Ng M.Nh M.EY M.EX M.Gq M.t9 M.gp M.xS M.BX M.BU M.BS M.BV M.vL M.zx M.BI M.UP M.qM M.Ru Bool.true_or Bool.false_or Bool.or_true Bool.or_false Bool.true_and Bool.and_true Bool.false_and Bool.and_false Bool.not_true Bool.not_false if_true if_false Bool.false_eq_true M.U2 M.U3 List.length_map List.map_cons List.map_nil List.cons_append List.nil_append List.replicate_succ List.replicate_zero Nat.reduceSub reduceIte reduceCtorEq beq_self_eq_true Option.some.injEq M.Out.rt.injEq exists_eq_left' M.MG M.MF M.MI M.MH M.MA M.Mz M.Mx M.Mw M.My M.ME M.MC M.MB M.MD M.UL M.UK M.WW".splitOn " ").toArray.mapM (fun n => `(Lean.Parser.Tactic.simpLemma| $(Lean.mkIdent n.toName):term)); `(tactic| simp (disch := omega) only [$xs,*, *])
namespace M
open PySem L2
noncomputable def dW:List Nat:=[97,98,99,100,101,102,103,104,105,106,107,108,109,110,111,112,113,114,115,116,117,118,119,120,121,122]
def VH:ag "abcdefghijklmnopqrstuvwxyz"=T dW:=by decide +kernel
noncomputable def uk:List Nat:=[119,98,109,101]
def W7:ag "wbme"=T uk:=by decide +kernel
def VM:ag ""=T []:=by decide +kernel
noncomputable abbrev Fm:=List Nat×List Int×List Nat
noncomputable abbrev bE(t:Fm):Dat:=.tup [.str (T t.1),.tup (t.2.1.map Dat.int),.str (T t.2.2)]
def ki{ns:List Int}{k m:Int}(hm:0<m):∃d:Nat,FH ns k m=d/\(d:Int)<m:=by
 obtain⟨h1,h2⟩:=Jb ns k m hm;obtain⟨d,e⟩:=fX h1;exact⟨d,e,by omega⟩
def nY{m:Nat}(h:m<=1000000):Eh [.int (m:Nat)]=a_ ((aR m).map λk:Nat=>Dat.int k):=by
 show(if _ then _ else b_)=_;rw[if_pos (by omega)];simp
def OC(xs:List Nat):(xs.map λc=>[c]).flatten=xs:=by
 induction xs with
 |nil=>rfl
 |cons a r ih=>rw[aw,F9,ih];rfl
def Tv(xs:List Nat):((xs.map λc=>[c]).map (·.length)).sum=xs.length:=by
 induction xs with
 |nil=>rfl
 |cons a r ih=>rw[aw,aw,List.sum_cons,ih];simp;omega
def JD{α:Type}(g:α->Bool)(xs:List α):dw .all [.lst (xs.map λx=>Dat.bl (g x))]=a_ (.bl (xs.all g),d_):=by
 simp only[dw,b1,qZ,lX,qY,qW,bL,Fi,rd,qX,pe,aC];rw[List.all_map];rfl
def kR(C:Fs)(i:Nat)(ns:List Int):Prop:=∀k m:Int,-(2 ^ 60)<k/\k<2 ^ 60->0<m->C i [.lst (ns.map Dat.int),.int k,.int m]=a_ (.int (FH ns k m),d_)
noncomputable def BP(dr:Nat):List Sx:=[(.ret (.blt .tuple [(.comp 1 c_ [3,1,0] (.rng [(.v 2)]) [] (.bin .add (.e_ 1) (.call dr [(.v 3),(.bin .add (.v 2) (.v 0)),(.v 1)])))]))]
noncomputable def ee(ns:List Int)(k:Int)(l_:Nat)(few:Int):List Int:=(aR l_).map λj:Nat=>1+FH ns (k+(j:Int)) few
def E2{C:Fs}{dr:Nat}{ns:List Int}(hd:kR C dr ns){k few:Int}{l_:Nat}(hk:-1000000<k/\k<1000000)(hm:l_<=1000)(hf:0<few) :
  uT C 4 4 (BP dr) [.lst (ns.map Dat.int),.int k,.int (l_:Nat),.int few]=a_ (.tup ((ee ns k l_ few).map Dat.int),d_):=by
 refine fi (C:=C) (np:=4) (nl:=4) (body:=BP dr) rfl ?_;unfold BP
 have hc:bw C (.comp 1 c_ [3,1,0] (.rng [(.v 2)]) [] (.bin .add (.e_ 1) (.call dr [(.v 3),(.bin .add (.v 2) (.v 0)),(.v 1)]))) [a_ (.lst (ns.map Dat.int)),a_ (.int k),a_ (.int (l_:Nat)),a_ (.int few)]=a_ (.lst ((ee ns k l_ few).map Dat.int),c_):=by
  refine eY (items:=(aR l_).map λk:Nat=>Dat.int k) ?_ (by rw[ak,eJ];omega) ?_
  ·rw[so,eU,gm,fj];exact nY (by omega)
  have:=gf (f:=gD C 1 c_ (dS 1 [3,1,0] [a_ (.lst (ns.map Dat.int)),a_ (.int k),a_ (.int (l_:Nat)),a_ (.int few)]) [] (.bin .add (.e_ 1) (.call dr [(.v 3),(.bin .add (.v 2) (.v 0)),(.v 1)]))) (g:=λd=>match d with | .int x=>.int (1+FH ns (k+((x.toNat:Nat):Int)) few)|_=>.non) (ds:=(aR l_).map λk:Nat=>Dat.int k) ?_ ?_
  ·rw[this,br];unfold ee;rw[br];rfl
  ·intro d hd';obtain⟨j,hj,rfl⟩:=aG.mp hd';refine⟨d_,?_⟩;have hj2:=bW.mp hj;have r:=hd (k+(j:Int)) few (by omega) hf;rw[fu];simp only[dS,dG,aw,dQ,cP,ck,aX,ja,cy,eU,gm,jb,fj,a8,be,bK,aC,ao,kN,r];rfl
  ·intro d hd';obtain⟨j,_,rfl⟩:=aG.mp hd';rfl
 have ht:dw .tuple [.lst ((ee ns k l_ few).map Dat.int)]=a_ (.tup ((ee ns k l_ few).map Dat.int),d_):=rfl;walk_at "py"
def CellsOk(C:Fs)(i:Nat)(ns:List Int):Prop:=∀(k few:Int)(l_:Nat),-1000000<k/\k<1000000->l_<=1000->0<few->C i [.lst (ns.map Dat.int),.int k,.int (l_:Nat),.int few]=a_ (.tup ((ee ns k l_ few).map Dat.int),d_)
noncomputable def nu(k:Nat):List Nat:=(aR 4).filterMap λi=>if k / 2 ^ i % 2=1 then uk[i]? else b_
noncomputable def CP:List Sx:=[(.ret (.mM .join (.f_ "") [(.comp 1 c_ [0] (.rng [(.e_ 4)]) [(.cmp .eq (.bin .band (.bin .shr (.v 1) (.v 0)) (.e_ 1)) (.e_ 1))] (.ix (.f_ "wbme") (.v 0)))]))]
def Ug(C:Fs):((aR 16).all λk=>sY (uT C 1 1 CP [.int (k:Nat)]) (a_ (.str (T (nu k)),d_)) && decide ((nu k).length<=4))=c_:=by kernel_rfl
def uh(C:Fs)(i:Nat):Prop:=∀k:Nat,k<16->C i [.int (k:Nat)]=a_ (.str (T (nu k)),d_)
def Bo{C:Fs}{k:Nat}(h:k<16):uT C 1 1 CP [.int (k:Nat)]=a_ (.str (T (nu k)),d_):=by
 have:=bg.mp (Ug C) k (bW.mpr h);rw[aq]at this;exact sX this.1
def Qk{k:Nat}(h:k<16):(nu k).length<=4:=by
 have:=bg.mp (Ug (λ_ _=>b_)) k (bW.mpr h);rw[aq]at this;exact of_decide_eq_true this.2
structure FG(f:Fm):Prop where
 ne:f.1≠[]
 low:∀c∈f.1,c∈dW
 ll:f.1.length<=6
 cl:f.2.1.length<=4
 pl:f.2.2.length<=4
 c1:0<f.2.1.length
 c3:f.2.1.length≠3
 cr:∀c∈f.2.1,1<=c/\c<=63
 pp:∃k,1<=k/\k<16/\f.2.2=nu k
noncomputable abbrev ent(f:Fm):List Nat×List Int:=(f.1,f.2.1)
structure QM(ls:List Nat)(fs:List Fm):Prop where
 nd:(fs.map ent).Nodup
 sub:∀f∈fs,∀c∈f.1,c∈ls
 own:∀c∈ls,∃g∈fs,g.1=[c]/\g.2.2=uk
def iQ{ns:List Int}{k few:Int}{l_:Nat}(h:0<few/\few<=63):∀c∈ee ns k l_ few,1<=c/\c<=63:=λc hc=>by
 obtain⟨j,_,rfl⟩:=aG.mp hc;have:=Jb ns (k+(j:Int)) few h.1;omega
def Vr:uk=nu 15:=by decide
noncomputable def UX(dr ce:Nat):List Sx:=[(.set 9 (.bin .add (.e_ 1) (.bin .fdiv (.call dr [(.v 0),(.bin .add (.bin .add (.v 1) (.e_ 10)) (.v 6)),(.e_ 5)]) (.e_ 4)))),(.mut .app 8 [(.tup [(.ix (.v 7) (.v 6)),(.call ce [(.v 0),(.bin .add (.bin .add (.v 1) (.e_ 20)) (.bin .mul (.e_ 5) (.v 6))),(.v 9),(.v 2)]),(.f_ "wbme")])])]
noncomputable def S0(dr ce pl:Nat):List Sx:=[(.set 10 (.bin .add (.bin .add (.v 1) (.e_ 60)) (.bin .mul (.e_ 15) (.v 6)))),(.set 11 (.mM .join (.f_ "") [(.comp 1 c_ [10,7,5,0] (.rng [(.bin .add (.e_ 1) (.call dr [(.v 0),(.bin .add (.v 10) (.e_ 4)),(.e_ 3)]))]) [] (.ix (.v 2) (.call dr [(.v 4),(.bin .add (.v 1) (.v 0)),(.v 3)])))])),(.set 12 (.call ce [(.v 0),(.bin .add (.v 10) (.e_ 5)),(.ix (.lst [(.e_ 1),(.e_ 1),(.e_ 2),(.e_ 4)]) (.call dr [(.v 0),(.bin .add (.v 10) (.e_ 9)),(.e_ 4)])),(.v 2)])),(.set 13 (.tup [(.v 11),(.v 12),(.call pl [(.bin .add (.e_ 1) (.call dr [(.v 0),(.bin .add (.v 10) (.e_ 10)),(.e_ 15)]))])])),(.ifs (.cmp .nin (.sl (.v 13) b_ (a_ (.e_ 2))) (.comp 1 c_ [] (.itv (.v 8)) [] (.sl (.v 0) b_ (a_ (.e_ 2))))) [(.mut .ins 8 [(.call dr [(.v 0),(.bin .add (.v 10) (.e_ 11)),(.bin .add (.blt .len [(.v 8)]) (.e_ 1))]),(.v 13)])] [])]
noncomputable def my(dr ce pl:Nat):List Sx:=[(.set 3 (.call dr [(.v 0),(.bin .add (.v 1) (.e_ 1)),(.e_ 26)])),(.set 4 (.ix (.lst [(.e_ 1),(.e_ 3),(.e_ 5),(.e_ 7)]) (.call dr [(.v 0),(.bin .add (.v 1) (.e_ 2)),(.e_ 4)]))),(.set 5 (.ix (.lst [(.e_ 1),(.e_ 2),(.e_ 2),(.e_ 3),(.e_ 3),(.e_ 6)]) (.call dr [(.v 0),(.bin .add (.v 1) (.e_ 3)),(.e_ 6)]))),(.set 7 (.comp 1 c_ [3,4] (.rng [(.v 5)]) [] (.ix (.f_ "abcdefghijklmnopqrstuvwxyz") (.bin .mod (.bin .add (.v 1) (.bin .mul (.v 2) (.v 0))) (.e_ 26))))),(.set 8 (.lst [])),(.loop c_ [6] (.rng [(.v 5)]) (UX dr ce)),(.loop c_ [6] (.rng [(.call dr [(.v 0),(.bin .add (.v 1) (.e_ 4)),(.e_ 5)])]) (S0 dr ce pl)),(.tu 8)]
def gn{ns:List Int}{k few:Int}{l_:Nat}:(ee ns k l_ few).length=l_:=by simp[ee]
def vQ(f:Fm):im (bE f)=c_:=by
 show(c_ && (je (f.2.1.map Dat.int) && (c_ && c_)))=c_;rw[cA];rfl
theorem oY:∀fs:List Fm,je (fs.map bE)=c_
 |[]=>rfl
 |f::fs=>by rw[aw];show(im (bE f) && je (fs.map bE))=c_;rw[vQ,oY fs];rfl
theorem HZ{C:Fs}{dr ce:Nat}{ns:List Int}{base few:Int}{ls:List Nat}(hd:kR C dr ns)(hc:CellsOk C ce ns)(hb:0<=base/\base<=10000)(hf:0<few/\few<=63)(hl:∀c∈ls,c∈dW)(hn:ls.length<=6)(s3 s4 s5:Dat) :
  ∀(js:List Nat)(acc:List Fm)(z6 z9:g_),(∀j∈js,j<ls.length)->acc.length+js.length<=100->(∀f∈acc,FG f)->
  ∃(acc':List Fm) (z6' z9':g_),eL (eF c_ [6]) (bH C (UX dr ce)) (js.map λj:Nat=>Dat.int j) [a_ (.lst (ns.map Dat.int),d_),a_ (.int base,d_),a_ (.int few,d_),a_ (s3,d_),a_ (s4,d_),a_ (s5,d_),z6,a_ (.lst (ls.map λc=>.str (T [c])),c_),a_ (.lst (acc.map bE),c_),z9,b_,b_,b_,b_] =
   a_ (.nx [a_ (.lst (ns.map Dat.int),d_),a_ (.int base,d_),a_ (.int few,d_),a_ (s3,d_),a_ (s4,d_),a_ (s5,d_),z6',a_ (.lst (ls.map λc=>.str (T [c])),c_),a_ (.lst (acc'.map bE),c_),z9',b_,b_,b_,b_])/\acc'.length=acc.length+js.length/\(∀f∈acc',FG f)/\∃gs:List Fm,acc'=acc++gs/\gs.map (·.1)=js.map (λj=>[ls.getD j 0])/\∀g∈gs,g.2.2=uk
 |[],acc,z6,z9,_,_,ha=>⟨acc,z6,z9,rfl,rfl,ha,[],by simp,rfl,λg hg=>by cases hg⟩
 |j::js,acc,z6,z9,hj,hlen,ha=>by
   have hjl:=hj j jB;obtain⟨q,e,b⟩:=ki (ns:=ns) (k:=base+10+(j:Int)) (m:=5) (by omega);have r:=hd (base+10+(j:Int)) 5 (by omega) (by omega);rw[e]at r;have e2:(1:Int)+(q:Int) / 4=((1+q / 4:Nat):Int):=by omega
   have rc:=hc (base+20+5 * (j:Int)) few (1+q / 4) (by omega) (by omega) hf.1;let f:Fm:=([ls[j]],ee ns (base+20+5 * (j:Int)) (1+q / 4) few,uk)
   have hfo:FG f:=⟨by simp[f],λc h=>by simp[f]at h;rw[h];exact hl _ (cm hjl),by simp[f],by simp only[f];rw[gn];omega,by simp[f,uk],by simp only[f];rw[gn];omega,by simp only[f];rw[gn];omega,iQ hf,15,by omega,by omega,Vr⟩
   have hx:kO (ls.map λc=>Dat.str (T [c])) (j:Int)=a_ (.str (T [ls[j]])):=g9 (by simp[hjl]);have him:im (.tup ((ee ns (base+20+5 * (j:Int)) (1+q / 4) few).map Dat.int))=c_:=cA _
   have hmt:ju .app (.lst (acc.map bE)) [Dat.tup [Dat.str (T [ls[j]]),Dat.tup ((ee ns (base+20+5 * (j:Int)) (1+q / 4) few).map Dat.int),Dat.str (T uk)]]=a_ (.lst ((acc++[f]).map bE)):=by
    rw[Et (by rw[ak];simp at hlen;omega),gY];rfl
   obtain⟨acc',z6',z9',h1,h2,h3,gs,g1,g2,g3⟩:=HZ (C:=C) hd hc hb hf hl hn s3 s4 s5 js (acc++[f]) (a_ (.int (j:Nat),d_)) (a_ (.int ((1+q / 4:Nat):Int),d_)) (λi m=>hj i (jN _ m)) (by simp at hlen ⊢;omega) (λg hg=>by
    rcases aK.mp hg with hg|hg
    ·exact ha g hg
    ·rw[aZ.mp hg];exact hfo)
   refine⟨acc',z6',z9',?_,by rw[h2];simp;omega,h3,f::gs,by rw[g1];simp,?_,?_⟩
   rotate_left
   ·rw[aw,aw,g2];simp[f,hjl]
   ·intro g hg
    rcases ah.mp hg with rfl|hg
    ·rfl
    ·exact g3 g hg
   have hb1:∀z9,bH C (UX dr ce) [a_ (.lst (ns.map Dat.int),d_),a_ (.int base,d_),a_ (.int few,d_),a_ (s3,d_),a_ (s4,d_),a_ (s5,d_),a_ (.int (j:Nat),d_),a_ (.lst (ls.map λc=>.str (T [c])),c_),a_ (.lst (acc.map bE),c_),z9,b_,b_,b_,b_] =
     a_ (.nx [a_ (.lst (ns.map Dat.int),d_),a_ (.int base,d_),a_ (.int few,d_),a_ (s3,d_),a_ (s4,d_),a_ (s5,d_),a_ (.int (j:Nat),d_),a_ (.lst (ls.map λc=>.str (T [c])),c_),a_ (.lst ((acc++[f]).map bE),c_),a_ (.int ((1+q / 4:Nat):Int),d_),b_,b_,b_,b_]):=by
    intro z9;unfold UX;rw[W7];clear h1
    cases z9 with
    |none=>walk_at "py"
    |some z=>
      obtain⟨za,zb⟩:=z;walk_at "py"
   simp only[aw,eL,eF,bP,aX,ao,hb1];exact h1
def zI{α β:Type}(g:α->β)(x:α)(i:Int)(xs:List α):insI (g x) i (xs.map g)=(insI x i xs).map g:=by
 unfold insI;rw[ak,gY,aw,x9,List.map_drop]
def zo{α:Type}{x y:α}{i:Int}{xs:List α}(h:y∈insI x i xs):y=x\/y∈xs:=by
 unfold insI at h
 rcases aK.mp h with h|h
 ·exact .inr (j6 h)
 ·rcases ah.mp h with h|h
  ·exact .inl h
  ·exact .inr (j7 h)
def zv{α:Type}{x:α}{i:Int}{xs:List α}:(insI x i xs).length=xs.length+1:=by
 unfold insI;rw[cw,aQ,iw,rV];omega
def Iz{α:Type}{x y:α}{i:Int}{xs:List α}(h:y∈xs):y∈insI x i xs:=by
 unfold insI;rw[<-nO (HT.fV xs.length 0 (a_ i)) xs]at h
 rcases aK.mp h with h|h
 ·exact aL _ h
 ·exact ax _ (jN _ h)
def Bt{α:Type}{x:α}{i:Int}{xs:List α}(h:x∉xs)(nd:xs.Nodup):(insI x i xs).Nodup:=by
 unfold insI;have e:=nO (HT.fV xs.length 0 (a_ i)) xs;have nd':(xs.take (HT.fV xs.length 0 (a_ i))++xs.drop (HT.fV xs.length 0 (a_ i))).Nodup:=by rw[e];exact nd
 obtain⟨n1,n2,n3⟩:=dq.mp nd';refine dq.mpr ⟨n1,bM.mpr ⟨λm=>h (j7 m),n2⟩,λa ha b hb z=>?_⟩;subst z
 rcases ah.mp hb with rfl|hb
 ·exact h (j6 ha)
 ·exact n3 a ha a hb rfl
def yi(a b c:Dat):Of (.tup [a,b,c]) b_ (a_ 2)=a_ (.tup [a,b],d_):=rfl
def pQ(f:Fm):fE 20 (.tup [.str (T f.1),.tup (f.2.1.map Dat.int)])=c_:=by
 show(c_ && (eh 18 (f.2.1.map Dat.int) && c_))=c_;rw[wG];rfl
theorem HY{C:Fs}{dr ce pl:Nat}{ns:List Int}{base few:Int}{ls:List Nat}(hd:kR C dr ns)(hc:CellsOk C ce ns)(hp:uh C pl)(hb:0<=base/\base<=10000)(hf:0<few/\few<=63)(hl:∀c∈ls,c∈dW)(hn:0<ls.length/\ls.length<=6)(s3 s4:Dat) :
  ∀(js:List Nat)(acc:List Fm)(z6 z9 z10 z11 z12 z13:g_),(∀j∈js,j<5)->acc.length+js.length<=100->(∀f∈acc,FG f)->QM ls acc->
  ∃(acc':List Fm) (z6' z9' z10' z11' z12' z13':g_),eL (eF c_ [6]) (bH C (S0 dr ce pl)) (js.map λj:Nat=>Dat.int j) [a_ (.lst (ns.map Dat.int),d_),a_ (.int base,d_),a_ (.int few,d_),a_ (s3,d_),a_ (s4,d_),a_ (.int (ls.length:Nat),d_),z6,a_ (.lst (ls.map λc=>.str (T [c])),c_),a_ (.lst (acc.map bE),c_),z9,z10,z11,z12,z13] =
   a_ (.nx [a_ (.lst (ns.map Dat.int),d_),a_ (.int base,d_),a_ (.int few,d_),a_ (s3,d_),a_ (s4,d_),a_ (.int (ls.length:Nat),d_),z6',a_ (.lst (ls.map λc=>.str (T [c])),c_),a_ (.lst (acc'.map bE),c_),z9',z10',z11',z12',z13'])/\acc.length<=acc'.length/\acc'.length<=acc.length+js.length/\(∀f∈acc',FG f)/\QM ls acc'
 |[],acc,z6,z9,z10,z11,z12,z13,_,_,ha,hol=>⟨acc,z6,z9,z10,z11,z12,z13,rfl,aM _,aM _,ha,hol⟩
 |j::js,acc,z6,z9,z10,z11,z12,z13,hj,hlen,ha,hol=>by
   have hj5:=hj j jB;generalize hkk:base+60+15 * (j:Int)=kk;have hkb:0<=kk/\kk<=20000:=by omega
   obtain⟨q4,e4,b4⟩:=ki (ns:=ns) (k:=kk+4) (m:=3) (by omega);have r4:=hd (kk+4) 3 (by omega) (by omega);rw[e4]at r4;obtain⟨q9,e9,b9⟩:=ki (ns:=ns) (k:=kk+9) (m:=4) (by omega);have r9:=hd (kk+9) 4 (by omega) (by omega);rw[e9]at r9;obtain⟨q10,e10,Vm⟩:=ki (ns:=ns) (k:=kk+10) (m:=15) (by omega);have r10:=hd (kk+10) 15 (by omega) (by omega);rw[e10]at r10;have rp:=hp (1+q10) (by omega);have e10':(1:Int)+(q10:Int)=((1+q10:Nat):Int):=by omega
   have hplen:=Qk (k:=1+q10) (by omega);have hpp:∃k,1<=k/\k<16/\nu (1+q10)=nu k:=⟨1+q10,by omega,by omega,rfl⟩
   generalize nu (1+q10)=P at rp hplen hpp
   obtain⟨nc,hnc,hnc2⟩:∃nc:Nat,kO [Dat.int 1,Dat.int 1,Dat.int 2,Dat.int 4] (q9:Int)=a_ (.int (nc:Nat))/\nc<=4/\0<nc/\nc≠3:=by
    rcases(by omega:q9=0\/q9=1\/q9=2\/q9=3)with rfl|rfl|rfl|rfl
    ·exact⟨1,rfl,by omega,by omega,by omega⟩
    ·exact⟨1,rfl,by omega,by omega,by omega⟩
    ·exact⟨2,rfl,by omega,by omega,by omega⟩
    ·exact⟨4,rfl,by omega,by omega,by omega⟩
   have rc:=hc (kk+5) few nc (by omega) (by omega) hf.1;have hcl:(ee ns (kk+5) nc few).length<=4/\0<(ee ns (kk+5) nc few).length/\(ee ns (kk+5) nc few).length≠3:=by rw[gn];exact hnc2
   have hcr:∀c∈ee ns (kk+5) nc few,1<=c/\c<=63:=iQ hf;generalize ee ns (kk+5) nc few=CL at rc hcl hcr;let ch:Nat->Nat:=λi=>ls.getD (FH ns (kk+(i:Int)) (ls.length:Int)).toNat 97;let W:List Nat:=(aR (1+q4)).map ch;have hW:W.length=1+q4:=by simp[W]
   have hWs:∀c∈W,c∈ls:=λc hc'=>by
    obtain⟨i,_,rfl⟩:=aG.mp hc';obtain⟨q,e,b⟩:=ki (ns:=ns) (k:=kk+(i:Int)) (m:=(ls.length:Int)) (by omega);show ls.getD _ 97∈ls;rw[e];have hq:q<ls.length:=by omega
    simp only[eN,bX,au hq,dF];exact cm hq
   have hWl:∀c∈W,c∈dW:=λc hc'=>hl c (hWs c hc')
   have hcomp:∀y3 y4 y6 y8 y9 y11 y12 y13,bw C (.comp 1 c_ [10,7,5,0] (.rng [(.bin .add (.e_ 1) (.call dr [(.v 0),(.bin .add (.v 10) (.e_ 4)),(.e_ 3)]))]) [] (.ix (.v 2) (.call dr [(.v 4),(.bin .add (.v 1) (.v 0)),(.v 3)]))) [a_ (.lst (ns.map Dat.int)),a_ (.int base),a_ (.int few),y3,y4,a_ (.int (ls.length:Nat)),y6,a_ (.lst (ls.map λc=>.str (T [c]))),y8,y9,a_ (.int kk),y11,y12,y13]=a_ (.lst ((W.map λc=>[c]).map λl=>.str (T l)),c_):=by
    intro y3 y4 y6 y8 y9 y11 y12 y13;refine eY (items:=(aR (1+q4)).map λk:Nat=>Dat.int k) ?_ (by rw[ak,eJ];omega) ?_
    ·simp only[so,eU,gm,jb,ja,cy,fj,a8,be,bK,aC,ao,kN,r4];rw[show(1:Int)+(q4:Int)=((1+q4:Nat):Int) by omega];exact nY (by omega)
    have:=gf (f:=gD C 1 c_ (dS 1 [10,7,5,0] [a_ (.lst (ns.map Dat.int)),a_ (.int base),a_ (.int few),y3,y4,a_ (.int (ls.length:Nat)),y6,a_ (.lst (ls.map λc=>.str (T [c]))),y8,y9,a_ (.int kk),y11,y12,y13]) [] (.ix (.v 2) (.call dr [(.v 4),(.bin .add (.v 1) (.v 0)),(.v 3)]))) (g:=λd=>match d with | .int x=>.str (T [ch x.toNat])|_=>.non) (ds:=(aR (1+q4)).map λk:Nat=>Dat.int k) ?_ ?_
    ·rw[this,br,br,br];rfl
    ·intro d hd';obtain⟨i,hi,rfl⟩:=aG.mp hd';refine⟨d_,?_⟩;have hi2:=bW.mp hi;obtain⟨q,e,b⟩:=ki (ns:=ns) (k:=kk+(i:Int)) (m:=(ls.length:Int)) (by omega);have r:=hd (kk+(i:Int)) (ls.length:Int) (by omega) (by omega);rw[e]at r;have hq:q<ls.length:=by omega
     have hx:kO (ls.map λc=>Dat.str (T [c])) (q:Int)=a_ (.str (T [ls[q]])):=g9 (by simp[hq]);rw[fu];simp only[dS,dG,aw,dQ,cP,ck,aX,rF,ja,cy,eU,gm,jb,fj,a8,be,bK,aC,ao,kN,r,vL,hx];show _=a_ (a_ (Dat.str (T [ch i]),d_));have:ch i=ls[q]:=by show ls.getD _ 97=_;rw[e];simp[hq]
     rw[this]
    ·intro d hd';obtain⟨i,_,rfl⟩:=aG.mp hd';rfl
   have hjn:=xp (ws:=W.map λc=>[c]) (by rw[Tv];omega);rw[OC]at hjn;let f:Fm:=(W,CL,P)
   have hfo:FG f:=⟨by intro e;rw[show f.1=W from rfl]at e;rw[e]at hW;simp at hW;omega,hWl,by show W.length<=6;omega,hcl.1,hplen,hcl.2.1,hcl.2.2,hcr,hpp⟩
   have hcomp2:∀y3 y4 y6 y7 y9 y10 y11 y12 y13,bw C (.comp 1 c_ [] (.itv (.v 8)) [] (.sl (.v 0) b_ (a_ (.e_ 2)))) [a_ (.lst (ns.map Dat.int)),a_ (.int base),a_ (.int few),y3,y4,a_ (.int (ls.length:Nat)),y6,y7,a_ (.lst (acc.map bE)),y9,y10,y11,y12,y13]=a_ (.lst (acc.map λf=>.tup [.str (T f.1),.tup (f.2.1.map Dat.int)]),c_):=by
    intro y3 y4 y6 y7 y9 y10 y11 y12 y13;refine eY (items:=acc.map bE) ?_ (by rw[ak];simp at hlen;omega) ?_
    ·simp only[Du,fj,a8,be,bK,aC,ao,tQ]
    have:=gf (f:=gD C 1 c_ (dS 1 [] [a_ (.lst (ns.map Dat.int)),a_ (.int base),a_ (.int few),y3,y4,a_ (.int (ls.length:Nat)),y6,y7,a_ (.lst (acc.map bE)),y9,y10,y11,y12,y13]) [] (.sl (.v 0) b_ (a_ (.e_ 2)))) (g:=λd=>match d with | .tup [a,b,c]=>.tup [a,b]|_=>.non) (ds:=acc.map bE) ?_ ?_
    ·rw[this,br];rfl
    ·intro d hd';obtain⟨g,hg,rfl⟩:=aG.mp hd';refine⟨d_,?_⟩;rw[fu];simp only[dS,dG,aw,dQ,cP,ck,aX,Dv,fj,DI,qe,CY,ja,a8,bK,aC,ao,yi]
    ·intro d hd';obtain⟨g,hg,rfl⟩:=aG.mp hd';show(c_ && (je (g.2.1.map Dat.int) && c_))=c_;rw[cA];rfl
   have hnin:eV .nin (.tup [.str (T W),.tup (CL.map Dat.int)]) (.lst (acc.map λf=>.tup [.str (T f.1),.tup (f.2.1.map Dat.int)]))=a_ (!decide (ent f∈acc.map ent)):=by
    have hs:eh 20 (acc.map λf=>Dat.tup [.str (T f.1),.tup (f.2.1.map Dat.int)])=c_:=by
     clear hcomp2 hlen ha hol
     induction acc with
     |nil=>rfl
     |cons g r ih=>rw[aw];show(fE 20 _ && eh 20 _)=c_;rw[pQ,ih];rfl
    refine(if_pos (by rw[show fE 20 (.tup [.str (T W),.tup (CL.map Dat.int)])=c_ from pQ f,hs];rfl)).trans ?_
    congr 2
    clear hcomp2 hlen ha hol hs
    induction acc with
    |nil=>rfl
    |cons g r ih=>
      rw[aw,et,ih]
      have e1:nH (.tup [.str (T g.1),.tup (g.2.1.map Dat.int)]) (.tup [.str (T W),.tup (CL.map Dat.int)])=decide (ent g=ent f):=by
       show((T g.1 == T W) && (kX (g.2.1.map Dat.int) (CL.map Dat.int) && c_))=_;rw[DN,qS,bO];by_cases h1:g.1=W
       ·by_cases h2:g.2.1=CL
        ·rw[decide_eq_true h1,decide_eq_true h2,decide_eq_true (show ent g=ent f from Cb h1 h2)];rfl
        ·rw[decide_eq_false h2,jk,decide_eq_false (λz=>h2 (Prod.ext_iff.mp z).2)]
       ·rw[decide_eq_false h1,lj,decide_eq_false (λz=>h1 (Prod.ext_iff.mp z).1)]
      rw[e1];by_cases h:ent g=ent f
      ·simp[h]
      ·have h':¬ent f=ent g:=λz=>h z.symm;simp[h,h']
   obtain⟨bb,hbb0⟩:∃bb:Bool,bb=!decide (ent f∈acc.map ent):=⟨_,rfl⟩
   rw[<-hbb0]at hnin;have hbb:=hnin;have him13:im (.tup [.str (T W),.tup (CL.map Dat.int),.str (T P)])=c_:=vQ f;have himc:im (.tup (CL.map Dat.int))=c_:=cA CL;have hs2:=yi (.str (T W)) (.tup (CL.map Dat.int)) (.str (T P));have hlen8:dw .len [.lst (acc.map bE)]=a_ (.int (acc.length:Nat),d_):=by rw[t9,ak]
   obtain⟨q11,e11,Vl⟩:=ki (ns:=ns) (k:=kk+11) (m:=(acc.length:Int)+1) (by omega);have r11:=hd (kk+11) ((acc.length:Int)+1) (by omega) (by omega);rw[e11]at r11
   have hmt:ju .ins (.lst (acc.map bE)) [.int (q11:Int),.tup [.str (T W),.tup (CL.map Dat.int),.str (T P)]]=a_ (.lst ((insI f (q11:Int) acc).map bE)):=by
    simp only[ju,uO,uM,uL,uN,uJ,uK];rw[if_pos (by rw[ak,bT];simp at hlen;omega),<-zI]
   have opt:∀z:g_,z=b_\/∃d b,z=a_ (d,b):=λz=>by
    cases z with
    |none=>exact .inl rfl
    |some q=>exact .inr ⟨q.1,q.2,rfl⟩
   have key:∃acc1:List Fm,acc.length<=acc1.length/\acc1.length<=acc.length+1/\(∀g∈acc1,FG g)/\QM ls acc1/\∀z9 z10 z11 z12 z13,bH C (S0 dr ce pl) [a_ (.lst (ns.map Dat.int),d_),a_ (.int base,d_),a_ (.int few,d_),a_ (s3,d_),a_ (s4,d_),a_ (.int (ls.length:Nat),d_),a_ (.int (j:Nat),d_),a_ (.lst (ls.map λc=>.str (T [c])),c_),a_ (.lst (acc.map bE),c_),z9,z10,z11,z12,z13] =
     a_ (.nx [a_ (.lst (ns.map Dat.int),d_),a_ (.int base,d_),a_ (.int few,d_),a_ (s3,d_),a_ (s4,d_),a_ (.int (ls.length:Nat),d_),a_ (.int (j:Nat),d_),a_ (.lst (ls.map λc=>.str (T [c])),c_),a_ (.lst (acc1.map bE),c_),z9,a_ (.int kk,d_),a_ (.str (T W),d_),a_ (.tup (CL.map Dat.int),d_),a_ (.tup [.str (T W),.tup (CL.map Dat.int),.str (T P)],d_)]):=by
    cases bb with
    |false=>
      refine⟨acc,aM _,by omega,ha,hol,λz9 z10 z11 z12 z13=>?_⟩;unfold S0;rw[VM];clear ha hj hlen hW hWl hl hfo hol hbb0 hWs hcr hpp hcl;walk_at "py"
    |true=>
      have hnm:ent f∉acc.map ent:=by
       have:decide (ent f∈acc.map ent)=d_:=by simpa using hbb0.symm
       exact of_decide_eq_false this
      refine⟨insI f (q11:Int) acc,by rw[zv];omega,by rw[zv];omega,λg hg=>?_,⟨?_,λg hg=>?_,λc hc'=>?_⟩,λz9 z10 z11 z12 z13=>?_⟩
      ·rcases zo hg with rfl|hg
       ·exact hfo
       ·exact ha g hg
      ·rw[<-zI];exact Bt hnm hol.nd
      ·rcases zo hg with rfl|hg
       ·exact hWs
       ·exact hol.sub g hg
      ·obtain⟨g,hg,q⟩:=hol.own c hc';exact⟨g,Iz hg,q⟩
      ·unfold S0;rw[VM];clear ha hj hlen hW hWl hl hfo hol hbb0 hWs hcr hpp hcl hnm;walk_at "py"
   obtain⟨acc1,k1,k2,k3,k5,k4⟩:=key;obtain⟨acc',z6',z9',z10',z11',z12',z13',h1,h2,h3,h4⟩:=HY (C:=C) hd hc hp hb hf hl hn s3 s4 js acc1 (a_ (.int (j:Nat),d_)) z9 (a_ (.int kk,d_)) (a_ (.str (T W),d_)) (a_ (.tup (CL.map Dat.int),d_)) (a_ (.tup [.str (T W),.tup (CL.map Dat.int),.str (T P)],d_)) (λi m=>hj i (jN _ m)) (by simp at hlen ⊢;omega) k3 k5;refine⟨acc',z6',z9',z10',z11',z12',z13',?_,by omega,by simp;omega,h4⟩;simp only[aw,eL,eF,bP,aX,ao,k4];exact h1
def EN{C:Fs}{dr ce pl:Nat}{ns:List Int}{base few:Int}(hd:kR C dr ns)(hc:CellsOk C ce ns)(hp:uh C pl)(hb:0<=base/\base<=10000)(hf:0<few/\few<=63) :
  ∃fs:List Fm,uT C 3 14 (my dr ce pl) [.lst (ns.map Dat.int),.int base,.int few]=a_ (.lst (fs.map bE),c_)/\fs≠[]/\fs.length<=10/\(∀f∈fs,FG f)/\∃ls:List Nat,QM ls fs:=by
 obtain⟨q1,e1,b1⟩:=ki (ns:=ns) (k:=base+1) (m:=26) (by omega);have r1:=hd (base+1) 26 (by omega) (by omega);rw[e1]at r1;obtain⟨q2,e2,b2⟩:=ki (ns:=ns) (k:=base+2) (m:=4) (by omega);have r2:=hd (base+2) 4 (by omega) (by omega);rw[e2]at r2;obtain⟨q3,e3,b3⟩:=ki (ns:=ns) (k:=base+3) (m:=6) (by omega);have r3:=hd (base+3) 6 (by omega) (by omega);rw[e3]at r3;obtain⟨q4,e4,b4⟩:=ki (ns:=ns) (k:=base+4) (m:=5) (by omega);have r4:=hd (base+4) 5 (by omega) (by omega);rw[e4]at r4
 obtain⟨st,hst,hst2⟩:∃st:Int,kO [Dat.int 1,Dat.int 3,Dat.int 5,Dat.int 7] (q2:Int)=a_ (.int st)/\0<=st/\st<=7/\(st=1\/st=3\/st=5\/st=7):=by
  rcases(by omega:q2=0\/q2=1\/q2=2\/q2=3)with rfl|rfl|rfl|rfl
  ·exact⟨1,rfl,by omega,by omega,by omega⟩
  ·exact⟨3,rfl,by omega,by omega,by omega⟩
  ·exact⟨5,rfl,by omega,by omega,by omega⟩
  ·exact⟨7,rfl,by omega,by omega,by omega⟩
 obtain⟨mm,hmm,hmm2⟩:∃mm:Nat,kO [Dat.int 1,Dat.int 2,Dat.int 2,Dat.int 3,Dat.int 3,Dat.int 6] (q3:Int)=a_ (.int (mm:Nat))/\0<mm/\mm<=6:=by
  rcases(by omega:q3=0\/q3=1\/q3=2\/q3=3\/q3=4\/q3=5)with rfl|rfl|rfl|rfl|rfl|rfl
  ·exact⟨1,rfl,by omega⟩
  ·exact⟨2,rfl,by omega⟩
  ·exact⟨2,rfl,by omega⟩
  ·exact⟨3,rfl,by omega⟩
  ·exact⟨3,rfl,by omega⟩
  ·exact⟨6,rfl,by omega⟩
 let ch:Nat->Nat:=λi=>dW.getD (((q1:Int)+st * (i:Int)) % 26).toNat 97
 have hmem:∀i,ch i∈dW:=λi=>by
  show dW.getD _ 97∈dW;have h1:0<=((q1:Int)+st * (i:Int)) % 26:=kA _ (by omega);have h2:((q1:Int)+st * (i:Int)) % 26<26:=i7 _ (by omega);generalize ((q1:Int)+st * (i:Int)) % 26=z at h1 h2;obtain⟨q,rfl⟩:=fX h1;have hq:q<dW.length:=by show q<26;omega
  simp only[eN,bX,au hq,dF];exact cm hq
 let ls:List Nat:=(aR mm).map ch;have hls:ls.length=mm:=by simp[ls]
 have hll:∀c∈ls,c∈dW:=λc hc'=>by
  obtain⟨i,_,rfl⟩:=aG.mp hc';exact hmem i
 have hcomp:∀y6 y7 y8 y9 y10 y11 y12 y13,bw C (.comp 1 c_ [3,4] (.rng [(.v 5)]) [] (.ix (.con (.str (T dW))) (.bin .mod (.bin .add (.v 1) (.bin .mul (.v 2) (.v 0))) (.e_ 26)))) [a_ (.lst (ns.map Dat.int)),a_ (.int base),a_ (.int few),a_ (.int (q1:Nat)),a_ (.int st),a_ (.int (mm:Nat)),y6,y7,y8,y9,y10,y11,y12,y13]=a_ (.lst (ls.map λc=>.str (T [c])),c_):=by
  intro y6 y7 y8 y9 y10 y11 y12 y13;refine eY (items:=(aR mm).map λk:Nat=>Dat.int k) ?_ (by rw[ak,eJ];omega) ?_
  ·simp only[so,eU,gm,fj,a8,be,bK,aC,ao];exact nY (by omega)
  have:=gf (f:=gD C 1 c_ (dS 1 [3,4] [a_ (.lst (ns.map Dat.int)),a_ (.int base),a_ (.int few),a_ (.int (q1:Nat)),a_ (.int st),a_ (.int (mm:Nat)),y6,y7,y8,y9,y10,y11,y12,y13]) [] (.ix (.con (.str (T dW))) (.bin .mod (.bin .add (.v 1) (.bin .mul (.v 2) (.v 0))) (.e_ 26)))) (g:=λd=>match d with | .int x=>.str (T [ch x.toNat])|_=>.non) (ds:=(aR mm).map λk:Nat=>Dat.int k) ?_ ?_
  ·rw[this,br,br];rfl
  ·intro d hd';obtain⟨i,hi,rfl⟩:=aG.mp hd';refine⟨d_,?_⟩;have hi2:=bW.mp hi;have h1:0<=((q1:Int)+st * (i:Int)) % 26:=kA _ (by omega);have h2:((q1:Int)+st * (i:Int)) % 26<26:=i7 _ (by omega)
   have hcc:∃q:Nat,((q1:Int)+st * (i:Int)) % 26=q/\q<26:=by
    obtain⟨q,e⟩:=fX h1;exact⟨q,e,by omega⟩
   obtain⟨q,e,b⟩:=hcc;have hq:q<dW.length:=by show q<26;omega
   have hx:=WH (l:=dW) (i:=q) (by decide) hq;have hmul:gr .mul (.int st) (.int (i:Nat))=a_ (.int (st * (i:Int)),d_):=ua (by omega) (by omega);have hmod:gr .mod (.int ((q1:Int)+st * (i:Int))) (.int 26)=a_ (.int (q:Nat),d_):=by rw[ub (by omega),e]
   rw[fu];simp only[dS,dG,aw,dQ,cP,ck,aX,rF,ja,jb,fj,a8,be,bK,aC,ao,kN,hmul,hmod,hx];show _=a_ (a_ (Dat.str (T [ch i]),d_));have:ch i=dW[q]:=by show dW.getD _ 97=_;rw[e];simp[hq]
   rw[this]
  ·intro d hd';obtain⟨i,_,rfl⟩:=aG.mp hd';rfl
 obtain⟨a1,z6,z9,L1,k1,k2,gs,w1,w2,w3⟩:=HZ (C:=C) hd hc hb hf hll (by omega) (.int (q1:Nat)) (.int st) (.int (mm:Nat)) (aR mm) [] b_ b_ (λj hj=>by rw[hls];exact bW.mp hj) (by simp;omega) (λf hf'=>by cases hf')
 obtain⟨a2,y6,y9,y10,y11,y12,y13,L2,k3,k4,k5⟩:=HY (C:=C) (pl:=pl) hd hc hp hb hf hll (by omega) (.int (q1:Nat)) (.int st) (aR q4) a1 z6 z9 b_ b_ b_ b_ (λj hj=>by have:=bW.mp hj;omega) (by rw[k1];simp;omega) k2 (by
  rw[ck]at w1;subst w1
  have hnd:ls.Nodup:=by
   have:∀(q1:Fin 26)(s:Fin 4)(m:Fin 7),((aR m.val).map λi:Nat=>dW.getD (((q1.val:Int)+(([1,3,5,7]:List Int).getD s.val 1) * (i:Int)) % 26).toNat 97).Nodup:=by decide +kernel
   have h0:=λs=>this ⟨q1,by omega⟩ s ⟨mm,by omega⟩
   rcases hst2.2.2 with e|e|e|e
   ·rw[show ls=(aR mm).map (λi:Nat=>dW.getD (((q1:Int)+1 * (i:Int)) % 26).toNat 97) by simp only[ls,ch,e]];exact h0 0
   ·rw[show ls=(aR mm).map (λi:Nat=>dW.getD (((q1:Int)+3 * (i:Int)) % 26).toNat 97) by simp only[ls,ch,e]];exact h0 1
   ·rw[show ls=(aR mm).map (λi:Nat=>dW.getD (((q1:Int)+5 * (i:Int)) % 26).toNat 97) by simp only[ls,ch,e]];exact h0 2
   ·rw[show ls=(aR mm).map (λi:Nat=>dW.getD (((q1:Int)+7 * (i:Int)) % 26).toNat 97) by simp only[ls,ch,e]];exact h0 3
  have w2':a1.map (·.1)=ls.map λc=>[c]:=by
   rw[w2];refine rX (by simp[hls]) λi h1 h2=>?_;simp at h1 h2;simp[h2]
  have mem1:∀f∈a1,∃c∈ls,f.1=[c]:=λf hf'=>by
   have:f.1∈a1.map (·.1):=aG.mpr ⟨f,hf',rfl⟩;rw[w2']at this;obtain⟨c,h1,h2⟩:=aG.mp this;exact⟨c,h1,h2.symm⟩
  refine⟨?_,λf hf' c hc'=>?_,λc hc'=>?_⟩
  ·have h1:(a1.map (·.1)).Nodup:=by
    rw[w2'];exact List.Pairwise.map (S:=(·≠·)) (λc=>[c]) (λa b h z=>h (by simpa using z)) hnd
   have h2:(a1.map ent).map (·.1)=a1.map (·.1):=by rw[br];rfl
   rw[<-h2]at h1;exact List.Pairwise.of_map (S:=(·≠·)) (·.1) (λa b h z=>h (by rw[z])) h1
  ·obtain⟨c',h1,h2⟩:=mem1 f hf';rw[h2]at hc';rw[aZ.mp hc'];exact h1
  ·have:[c]∈ls.map λc=>[c]:=aG.mpr ⟨c,hc',rfl⟩;rw[<-w2']at this;obtain⟨g,h1,h2⟩:=aG.mp this
   exact⟨g,h1,h2,w3 g h1⟩)
 rw[hls]at L2;have g1:=nY (m:=mm) (by omega);have g2:=nY (m:=q4) (by omega);have hb0:my dr ce pl=[(my dr ce pl).getD 0 .pass,(my dr ce pl).getD 1 .pass,(my dr ce pl).getD 2 .pass,(my dr ce pl).getD 3 .pass,(my dr ce pl).getD 4 .pass,.loop c_ [6] (.rng [(.v 5)]) (UX dr ce),.loop c_ [6] (.rng [(.call dr [(.v 0),(.bin .add (.v 1) (.e_ 4)),(.e_ 5)])]) (S0 dr ce pl),.tu 8]:=rfl;refine⟨a2,fi (C:=C) (np:=3) (nl:=14) (body:=my dr ce pl) rfl ?_,?_,?_,k5.1,ls,k5.2⟩
 ·rw[hb0];simp only[my,pA,List.getD_cons_succ];rw[VH];clear hb0 hls k1 k2 k3 k4 k5 hll hmem w1 w2 w3;have hn:Dat.lst ([]:List Dat)=.lst (([]:List Fm).map bE):=rfl;walk_at "py";simp only[zS];walk_at "py";simp only[zS];walk_at "py"
 ·intro e;rw[e]at k3;rw[k1]at k3;simp at k3;omega
 ·rw[k1]at k4;simp at k4;omega
noncomputable def Bx(dr ce:Nat):List Sx:=[(.set 3 (.lst [(.tup []),(.tup []),(.tup []),(.tup [])])),(.set 4 (.tup [])),(.ifs (.cmp .eq (.call dr [(.v 0),(.v 1),(.e_ 4)]) (.e_ 1)) [(.mut .seti 3 [(.call ce [(.v 0),(.bin .add (.v 1) (.e_ 1)),(.bin .add (.e_ 1) (.call dr [(.v 0),(.bin .add (.v 1) (.e_ 3)),(.e_ 2)])),(.v 2)]),(.e_ 0)]),(.ifs (.cmp .eq (.call dr [(.v 0),(.bin .add (.v 1) (.e_ 4)),(.e_ 2)]) (.e_ 1)) [(.mut .seti 3 [(.call ce [(.v 0),(.bin .add (.v 1) (.e_ 5)),(.bin .add (.e_ 1) (.call dr [(.v 0),(.bin .add (.v 1) (.e_ 7)),(.e_ 2)])),(.v 2)]),(.e_ 1)])] [])] []),(.ifs (.cmp .eq (.call dr [(.v 0),(.bin .add (.v 1) (.e_ 8)),(.e_ 4)]) (.e_ 1)) [(.mut .seti 3 [(.call ce [(.v 0),(.bin .add (.v 1) (.e_ 9)),(.bin .add (.e_ 1) (.call dr [(.v 0),(.bin .add (.v 1) (.e_ 11)),(.e_ 2)])),(.v 2)]),(.e_ 2)]),(.mut .seti 3 [(.call ce [(.v 0),(.bin .add (.v 1) (.e_ 12)),(.bin .add (.e_ 1) (.call dr [(.v 0),(.bin .add (.v 1) (.e_ 14)),(.e_ 2)])),(.v 2)]),(.e_ 3)]),(.set 4 (.call ce [(.v 0),(.bin .add (.v 1) (.e_ 15)),(.ix (.lst [(.e_ 1),(.e_ 2),(.e_ 3),(.e_ 10)]) (.call dr [(.v 0),(.bin .add (.v 1) (.e_ 25)),(.e_ 4)])),(.v 2)]))] []),(.ret (.tup [(.blt .tuple [(.v 3)]),(.v 4)]))]
noncomputable abbrev tI(l:List Int):Dat:=.tup (l.map Dat.int)
def lR(l:List Int):im (.tup (l.map Dat.int))=c_:=cA l
def Wr(a b c d x:Dat):ju .seti (.lst [a,b,c,d]) [x,.int 0]=a_ (.lst [x,b,c,d]):=rfl
def Wq(a b c d x:Dat):ju .seti (.lst [a,b,c,d]) [x,.int 1]=a_ (.lst [a,x,c,d]):=rfl
def put2(a b c d x:Dat):ju .seti (.lst [a,b,c,d]) [x,.int 2]=a_ (.lst [a,b,x,d]):=rfl
def put3(a b c d x:Dat):ju .seti (.lst [a,b,c,d]) [x,.int 3]=a_ (.lst [a,b,c,x]):=rfl
structure SN(m0 m1 m2 m3 fg:List Int):Prop where
 l0:m0.length<=2
 l1:m1.length<=2
 l2:m2.length<=2
 l3:m3.length<=2
 lf:fg.length<=10
 r0:∀c∈m0,1<=c/\c<=63
 r1:∀c∈m1,1<=c/\c<=63
 r2:∀c∈m2,1<=c/\c<=63
 r3:∀c∈m3,1<=c/\c<=63
 rf:∀c∈fg,1<=c/\c<=63
 k1:m1≠[]->m0≠[]
 k2:m2=[]↔fg=[]
 k3:m3=[]↔fg=[]
def Ez{C:Fs}{dr ce:Nat}{ns:List Int}{base few:Int}(hd:kR C dr ns)(hc:CellsOk C ce ns)(hb:0<=base/\base<=20000)(hf:0<few/\few<=63) :
  ∃(m0 m1 m2 m3 fg:List Int) (fr:Bool),uT C 3 5 (Bx dr ce) [.lst (ns.map Dat.int),.int base,.int few]=a_ (.tup [.tup [tI m0,tI m1,tI m2,tI m3],tI fg],fr)/\SN m0 m1 m2 m3 fg:=by
 have w1:=hd base 4 (by omega) (by omega);have w2:=hd (base+4) 2 (by omega) (by omega);have w3:=hd (base+8) 4 (by omega) (by omega);generalize FH ns base 4=v1 at w1;generalize FH ns (base+4) 2=v2 at w2;generalize FH ns (base+8) 4=v3 at w3
 have two:∀k:Int,0<=k->k<=30000->∃q:Nat,C dr [.lst (ns.map Dat.int),.int k,.int 2]=a_ (.int (q:Nat),d_)/\q<2:=λk h1 h2=>by
  obtain⟨q,e,b⟩:=ki (ns:=ns) (k:=k) (m:=2) (by omega);have r:=hd k 2 (by omega) (by omega);rw[e]at r;exact⟨q,r,by omega⟩
 obtain⟨q3,r3,b3⟩:=two (base+3) (by omega) (by omega);obtain⟨q7,r7,b7⟩:=two (base+7) (by omega) (by omega);obtain⟨q11,r11,Vl⟩:=two (base+11) (by omega) (by omega);obtain⟨q14,r14,XS⟩:=two (base+14) (by omega) (by omega);obtain⟨q25,e25,JA⟩:=ki (ns:=ns) (k:=base+25) (m:=4) (by omega);have Qd:=hd (base+25) 4 (by omega) (by omega);rw[e25]at Qd
 obtain⟨nf,hnf,hnf2⟩:∃nf:Nat,kO [Dat.int 1,Dat.int 2,Dat.int 3,Dat.int 10] (q25:Int)=a_ (.int (nf:Nat))/\nf<=10/\0<nf:=by
  rcases(by omega:q25=0\/q25=1\/q25=2\/q25=3)with rfl|rfl|rfl|rfl
  ·exact⟨1,rfl,by omega,by omega⟩
  ·exact⟨2,rfl,by omega,by omega⟩
  ·exact⟨3,rfl,by omega,by omega⟩
  ·exact⟨10,rfl,by omega,by omega⟩
 have c1:=hc (base+1) few (1+q3) (by omega) (by omega) hf.1;have c5:=hc (base+5) few (1+q7) (by omega) (by omega) hf.1;have c9:=hc (base+9) few (1+q11) (by omega) (by omega) hf.1;have c12:=hc (base+12) few (1+q14) (by omega) (by omega) hf.1;have c15:=hc (base+15) few nf (by omega) (by omega) hf.1;have l1:=gn (ns:=ns) (k:=base+1) (few:=few) (l_:=1+q3);have l5:=gn (ns:=ns) (k:=base+5) (few:=few) (l_:=1+q7);have l9:=gn (ns:=ns) (k:=base+9) (few:=few) (l_:=1+q11);have l12:=gn (ns:=ns) (k:=base+12) (few:=few) (l_:=1+q14);have l15:=gn (ns:=ns) (k:=base+15) (few:=few) (l_:=nf);have R1:∀c∈ee ns (base+1) (1+q3) few,1<=c/\c<=63:=iQ hf;have R5:∀c∈ee ns (base+5) (1+q7) few,1<=c/\c<=63:=iQ hf;have R9:∀c∈ee ns (base+9) (1+q11) few,1<=c/\c<=63:=iQ hf;have R12:∀c∈ee ns (base+12) (1+q14) few,1<=c/\c<=63:=iQ hf;have R15:∀c∈ee ns (base+15) nf few,1<=c/\c<=63:=iQ hf;generalize ee ns (base+1) (1+q3) few=K1 at c1 l1 R1;generalize ee ns (base+5) (1+q7) few=K5 at c5 l5 R5;generalize ee ns (base+9) (1+q11) few=K9 at c9 l9 R9;generalize ee ns (base+12) (1+q14) few=K12 at c12 l12 R12;generalize ee ns (base+15) nf few=K15 at c15 l15 R15;have a3:(1:Int)+(q3:Int)=((1+q3:Nat):Int):=by omega
 have a7:(1:Int)+(q7:Int)=((1+q7:Nat):Int):=by omega
 have a11:(1:Int)+(q11:Int)=((1+q11:Nat):Int):=by omega
 have a14:(1:Int)+(q14:Int)=((1+q14:Nat):Int):=by omega
 generalize g1:(v1 == 1)=u1;generalize g2:(v2 == 1)=u2;generalize g3:(v3 == 1)=u3;have i1:=lR K1;have i5:=lR K5;have i9:=lR K9;have i12:=lR K12;have i15:=lR K15;have i0:im (.tup [])=c_:=rfl;have p0:=Wr;have p1:=Wq;have p2:=put2;have p3:=put3;have i4:∀a b c d:Dat,im (.tup [a,b,c,d])=(im a && (im b && (im c && (im d && c_)))):=λ_ _ _ _=>rfl;have ht:∀ds,dw .tuple [.lst ds]=a_ (.tup ds,d_):=λ_=>rfl;have L1:K1.length<=2:=by omega
 have L5:K5.length<=2:=by omega
 have L9:K9.length<=2:=by omega
 have L12:K12.length<=2:=by omega
 have L15:K15.length<=10:=by omega
 have N1:K1≠[]:=λe=>by rw[e]at l1;simp at l1;omega
 have N9:K9≠[]:=λe=>by rw[e]at l9;simp at l9;omega
 have N12:K12≠[]:=λe=>by rw[e]at l12;simp at l12;omega
 have N15:K15≠[]:=λe=>by rw[e]at l15;simp at l15;omega
 have E0:∀c∈([]:List Int),1<=c/\c<=63:=λc h=>by cases h
 have NB:∀{a b:List Int},a≠[]->b≠[]->(a=[]↔b=[]):=λh1 h2=>⟨λz=>absurd z h1,λz=>absurd z h2⟩
 have fin:∀u1 u2 u3:Bool,SN (if u1 then K1 else []) (if u1 && u2 then K5 else []) (if u3 then K9 else []) (if u3 then K12 else []) (if u3 then K15 else []):=λu1 u2 u3=>by
  cases u1<;>cases u2<;>cases u3
  all_goals
   refine⟨by first|exact L1|simp,by first|exact L5|simp,by first|exact L9|simp,by first|exact L12|simp,by first|exact L15|simp,by first|exact R1|exact E0,by first|exact R5|exact E0,by first|exact R9|exact E0,by first|exact R12|exact E0,by first|exact R15|exact E0,by first|exact λ_=>N1|simp,by first|exact NB N9 N15|simp,by first|exact NB N12 N15|simp⟩
 clear l1 l5 l9 l12 l15 R1 R5 R9 R12 R15 N1 N9 N12 N15 E0 NB L1 L5 L9 L12 L15;refine⟨if u1 then K1 else [],if u1 && u2 then K5 else [],if u3 then K9 else [],if u3 then K12 else [],if u3 then K15 else [],?_⟩;have fin':=fin u1 u2 u3;clear fin;cases u1<;>cases u2<;>cases u3
 all_goals
  refine⟨c_,fi (C:=C) (np:=3) (nl:=5) (body:=Bx dr ce) rfl ?_,fin'⟩;clear fin';unfold Bx;walk_at "py"
  all_goals first|exact⟨rfl,trivial⟩|rfl
noncomputable def AW(dr fo ma:Nat):List Sx:=[(.set 2 (.ix (.lst [(.e_ 4),(.e_ 4),(.e_ 12),(.e_ 63)]) (.call dr [(.v 0),(.v 1),(.e_ 4)]))),(.set 3 (.call fo [(.v 0),(.v 1),(.v 2)])),(.vo [4,5] (.call ma [(.v 0),(.bin .add (.v 1) (.e_ 150)),(.v 2)])),(.ret (.tup [(.blt .tuple [(.v 3)]),(.v 4),(.v 5)]))]
def DP(C:Fs)(i:Nat)(ns:List Int):Prop:=∀base few:Int,0<=base/\base<=10000->0<few/\few<=63->∃fs:List Fm,C i [.lst (ns.map Dat.int),.int base,.int few]=a_ (.lst (fs.map bE),c_)/\fs≠[]/\fs.length<=10/\(∀f∈fs,FG f)/\∃ls:List Nat,QM ls fs
def DO(C:Fs)(i:Nat)(ns:List Int):Prop:=∀base few:Int,0<=base/\base<=20000->0<few/\few<=63->∃(m0 m1 m2 m3 fg:List Int) (fr:Bool),C i [.lst (ns.map Dat.int),.int base,.int few]=a_ (.tup [.tup [tI m0,tI m1,tI m2,tI m3],tI fg],fr)/\SN m0 m1 m2 m3 fg
def wy{C:Fs}{e:Ex}{ρ:bQ}{a b:Dat}{f:Bool}{i j:Nat}(h:bw C e (full ρ)=a_ (.tup [a,b],f))(hi:im (.tup [a,b])=c_):fH C (.vo [i,j] e) ρ=a_ (.nx ((ρ.set i (a_ (a,d_))).set j (a_ (b,d_)))):=by
 show(ou C e ρ).bind _=_;rw[o6 h (by rw[hi];rfl)];rfl
def D9{C:Fs}{dr fo ma:Nat}{ns:List Int}{base:Int}(hd:kR C dr ns)(hfo:DP C fo ns)(hma:DO C ma ns)(hb:0<=base/\base<=10000) :
  ∃(fs:List Fm) (m0 m1 m2 m3 fg:List Int) (fr:Bool),uT C 2 6 (AW dr fo ma) [.lst (ns.map Dat.int),.int base]=a_ (.tup [.tup (fs.map bE),.tup [tI m0,tI m1,tI m2,tI m3],tI fg],fr)/\fs≠[]/\fs.length<=10/\(∀f∈fs,FG f)/\(∃ls:List Nat,QM ls fs)/\SN m0 m1 m2 m3 fg:=by
 obtain⟨q,e,b⟩:=ki (ns:=ns) (k:=base) (m:=4) (by omega);have r:=hd base 4 (by omega) (by omega);rw[e]at r
 obtain⟨few,hfew,hf0⟩:∃few:Int,kO [Dat.int 4,Dat.int 4,Dat.int 12,Dat.int 63] (q:Int)=a_ (.int few)/\0<few/\few<=63:=by
  rcases(by omega:q=0\/q=1\/q=2\/q=3)with rfl|rfl|rfl|rfl
  ·exact⟨4,rfl,by omega,by omega⟩
  ·exact⟨4,rfl,by omega,by omega⟩
  ·exact⟨12,rfl,by omega,by omega⟩
  ·exact⟨63,rfl,by omega,by omega⟩
 obtain⟨fs,h1,h2,h3,h4,h5⟩:=hfo base few hb hf0;obtain⟨m0,m1,m2,m3,fg,fr,g1,g2⟩:=hma (base+150) few (by omega) hf0;refine⟨fs,m0,m1,m2,m3,fg,c_,fi (C:=C) (np:=2) (nl:=6) (body:=AW dr fo ma) rfl ?_,h2,h3,h4,h5,g2⟩
 have hi:im (.tup [.tup [tI m0,tI m1,tI m2,tI m3],tI fg])=c_:=by
  show((je (m0.map Dat.int) && (je (m1.map Dat.int) && (je (m2.map Dat.int) && (je (m3.map Dat.int) && c_)))) && (je (fg.map Dat.int) && c_))=c_;rw[cA,cA,cA,cA,cA];rfl
 have hi2:im (.tup [tI m0,tI m1,tI m2,tI m3])=c_:=by
  show(je (m0.map Dat.int) && (je (m1.map Dat.int) && (je (m2.map Dat.int) && (je (m3.map Dat.int) && c_))))=c_;rw[cA,cA,cA,cA];rfl
 have hi3:im (tI fg)=c_:=cA fg;have hi4:im (.tup (fs.map bE))=c_:=oY fs;have hl:im (.lst (fs.map bE))=d_:=rfl;have ht:dw .tuple [.lst (fs.map bE)]=a_ (.tup (fs.map bE),d_):=rfl
 have hu:∀y4 y5,fH C (.vo [4,5] (.call ma [(.v 0),(.bin .add (.v 1) (.e_ 150)),(.v 2)])) [a_ (.lst (ns.map Dat.int),d_),a_ (.int base,d_),a_ (.int few,d_),a_ (.lst (fs.map bE),c_),y4,y5]=a_ (.nx [a_ (.lst (ns.map Dat.int),d_),a_ (.int base,d_),a_ (.int few,d_),a_ (.lst (fs.map bE),c_),a_ (.tup [tI m0,tI m1,tI m2,tI m3],d_),a_ (tI fg,d_)]):=λy4 y5=>by
  refine wy (f:=fr) ?_ hi;clear hi hi2 hi3 hi4;walk_at "py"
 unfold AW;walk_at "py"
end M
namespace K04
open PySem L2 M
def cn{n j:Nat}{d:Df}{ds:List Dat}{r:g_}(hj:D[j]?=a_ d)(h:uT (Cn D n) d.p d.n d.body ds=r)(hx:j<pM:=by decide):Cn D (n+1) j ds=r:=by
 rw[<-h];simp only[Cn,hj,if_pos hx]
def kF{n:Nat}{ns:List Int}:kR (Cn D (n+1)) 11 ns:=by
 intro k m hk hm;refine cn (d:=XJ) rfl (fi (C:=Cn D n) (np:=3) (nl:=4) (body:=Vl) rfl ?_);unfold Vl;have hb:=Jl ns k;by_cases h:0<ns.length
 ·have hc:vY ns k=ns.getD (k % ns.length).toNat 0 % 2147483629:=if_pos h;have ha:=JB (k:=k) h;unfold FH;rw[hc]at hb ⊢;walk_at "py"
 ·have hc:vY ns k=0:=if_neg h;unfold FH;rw[hc]at hb ⊢;walk_at "py"
def vv{n:Nat}{ns:List Int}:CellsOk (Cn D (n+2)) 13 ns:=λk few l_ h1 h2 h3=>cn (d:=XI) rfl (E2 (C:=Cn D (n+1)) (dr:=11) kF h1 h2 h3)
def sZ{n:Nat}:uh (Cn D (n+1)) 14:=λk h=>cn (d:=XH) rfl (Bo (C:=Cn D n) h)
def Eg{n:Nat}{ns:List Int}:DP (Cn D (n+3)) 15 ns:=λbase few h1 h2=>EN (C:=Cn D (n+2)) (dr:=11) (ce:=13) (pl:=14) kF vv sZ h1 h2
def Ee{n:Nat}{ns:List Int}:DO (Cn D (n+3)) 16 ns:=λbase few h1 h2=>Ez (C:=Cn D (n+2)) (dr:=11) (ce:=13) kF vv h1 h2
def Ed{n:Nat}{ns:List Int}:∃(fs:List Fm) (m0 m1 m2 m3 fg:List Int) (fr:Bool),Cn D (n+4) 17 [.lst (ns.map Dat.int),.int 0]=a_ (.tup [.tup (fs.map bE),.tup [tI m0,tI m1,tI m2,tI m3],tI fg],fr)/\fs≠[]/\fs.length<=10/\(∀f∈fs,FG f)/\(∃ls:List Nat,QM ls fs)/\SN m0 m1 m2 m3 fg:=
 D9 (C:=Cn D (n+3)) (dr:=11) (fo:=15) (ma:=16) kF Eg Ee (by omega)
noncomputable def mz(c:Int):Bool:=decide (1<=c) && decide (c<=63)
def Bb{n:Nat}{c:Int}:Cn D (n+1) 0 [.int c]=a_ (.bl (mz c),d_):=by
 refine cn (d:=d0) rfl (fi (C:=Cn D n) (np:=1) (nl:=1) (body:=b0) rfl ?_);unfold b0 mz;generalize e1:decide (1<=c)=p;generalize e2:decide (c<=63)=q;cases p<;>cases q<;>walk_at "py"
noncomputable def kG(cs:List Int)(lo hi:Int):Bool:=decide (lo<=cs.length) && (decide ((cs.length:Int)<=hi) && cs.all mz)
def tj{n:Nat}{cs:List Int}{lo hi:Int}(hl:cs.length<=1000):Cn D (n+2) 1 [tI cs,.int lo,.int hi]=a_ (.bl (kG cs lo hi),d_):=by
 refine cn (d:=d1) rfl (fi (C:=Cn D (n+1)) (np:=3) (nl:=3) (body:=b1) rfl ?_);unfold b1 kG
 have h3:bw (Cn D (n+1)) (.comp 1 c_ [] (.itv (.v 0)) [] (.call 0 [.v 0])) [a_ (tI cs),a_ (.int lo),a_ (.int hi)]=a_ (.lst (cs.map λc=>.bl (mz c)),c_):=by
  refine eY (items:=cs.map Dat.int) rfl (by rw[ak];omega) ?_;have:=gf (f:=gD (Cn D (n+1)) 1 c_ (dS 1 [] [a_ (tI cs),a_ (.int lo),a_ (.int hi)]) [] (.call 0 [.v 0])) (g:=λd=>match d with | .int x=>.bl (mz x)|_=>.non) (ds:=cs.map Dat.int) ?_ ?_
  ·rw[this,br];rfl
  ·intro d hd;obtain⟨c,_,rfl⟩:=aG.mp hd;refine⟨d_,?_⟩;rw[fu];simp only[dS,dG,dQ,cP,ck,aX,cy,eU,gm,fj,a8,bK,aC,ao,Bb]
  ·intro d hd;obtain⟨c,_,rfl⟩:=aG.mp hd;rfl
 have h4:=JD mz cs;have el:dw .len [tI cs]=a_ (.int (cs.length:Nat),d_):=by unfold tI;rw[gp,ak]
 generalize cs.all mz=r at h4 ⊢;generalize e1:decide (lo<=(cs.length:Int))=p;generalize e2:decide ((cs.length:Int)<=hi)=q;generalize (cs.map λc=>Dat.bl (mz c))=W at h3 h4;generalize tI cs=tc at h3 el ⊢;clear hl;cases p<;>cases q<;>walk_at "py"
noncomputable def EC(l:List Nat):Bool:=decide ((1:Int)<=l.length) && (decide ((l.length:Int)<=6) && l.all λc=>decide (c∈dW))
def yO{n:Nat}{l:List Nat}(hl:l.length<=1000):Cn D (n+1) 2 [.str (T l)]=a_ (.bl (EC l),d_):=by
 refine cn (d:=d2) rfl (fi (C:=Cn D n) (np:=1) (nl:=1) (body:=b2) rfl ?_);unfold b2 EC;rw[VH]
 have h1:bw (Cn D n) (.comp 1 c_ [] (.itv (.v 0)) [] (.cmp .isin (.v 0) (.con (.str (T dW))))) [a_ (.str (T l))]=a_ (.lst (l.map λc=>.bl (decide (c∈dW))),c_):=by
  refine eY (items:=l.map λc=>Dat.str (T [c])) xu (by rw[ak];omega) ?_;have:=gf (f:=gD (Cn D n) 1 c_ (dS 1 [] [a_ (.str (T l))]) [] (.cmp .isin (.v 0) (.con (.str (T dW))))) (g:=λd=>match d with | .str x=>.bl (decide (x.cps.toList.headD 0∈dW))|_=>.non) (ds:=l.map λc=>Dat.str (T [c])) ?_ ?_
  ·rw[this,br];rfl
  ·intro d hd;obtain⟨c,_,rfl⟩:=aG.mp hd;refine⟨d_,?_⟩;rw[fu];simp only[dS,dG,dQ,cP,ck,aX,xD,fj,ja,a8,bK,aC,ao,Iy];rfl
  ·intro d hd;obtain⟨c,_,rfl⟩:=aG.mp hd;rfl
 have h2:=JD (λc=>decide (c∈dW)) l;have h3:=len_T (l:=l) (by omega);generalize (l.all λc=>decide (c∈dW))=r at h2 ⊢;generalize e1:decide ((1:Int)<=(l.length:Int))=p;generalize e2:decide ((l.length:Int)<=6)=q;generalize (l.map λc=>Dat.bl (decide (c∈dW)))=W at h1 h2;clear hl;cases p<;>cases q<;>walk_at "py"
noncomputable def PL:List (List Nat):=(aR 16).map nu++[[98,119]]
noncomputable def Bn(p:List Nat):Bool:=p != [] && p != [98,119]
def Hk(C:Fs):(PL.all λp=>sY (uT C 1 1 b3 [.str (T p)]) (a_ (.bl (Bn p),d_)))=c_:=by kernel_rfl
def G5{n:Nat}{p:List Nat}(h:p∈PL):Cn D (n+1) 3 [.str (T p)]=a_ (.bl (Bn p),d_):=sX (bg.mp (Hk (Cn D n)) p h)
noncomputable def Dk(f:Fm):Bool:=EC f.1 && (kG f.2.1 1 4 && Bn f.2.2)
structure wF(f:Fm):Prop where
 l:f.1.length<=100
 c:f.2.1.length<=100
 p:f.2.2∈PL
def Bc{n:Nat}{f:Fm}(h:wF f):Cn D (n+3) 4 [bE f]=a_ (.bl (Dk f),d_):=by
 refine cn (d:=d4) rfl (fi (C:=Cn D (n+2)) (np:=1) (nl:=1) (body:=b4) rfl ?_);unfold b4 Dk;obtain⟨l,cs,pl⟩:=f;obtain⟨h1,h2,h3⟩:=h;have e1:=yO (n:=n+1) (l:=l) (by have:l.length<=100:=h1;omega);have e2:=tj (n:=n) (cs:=cs) (lo:=1) (hi:=4) (by have:cs.length<=100:=h2;omega);have e3:=G5 (n:=n+1) (p:=pl) h3;dsimp only;generalize Cn D (n+2)=C at e1 e2 e3 ⊢;generalize EC l=a at e1 ⊢;generalize kG cs 1 4=b at e2 ⊢;generalize Bn pl=c at e3 ⊢;unfold bE;dsimp only;unfold tI at e2;clear h1 h2 h3;have i0:∀a b c:Dat,kO [a,b,c] 0=a_ a:=λ_ _ _=>rfl;have i1:∀a b c:Dat,kO [a,b,c] 1=a_ b:=λ_ _ _=>rfl;have i2:∀a b c:Dat,kO [a,b,c] 2=a_ c:=λ_ _ _=>rfl;cases a<;>cases b<;>walk_at "py"
inductive Pl:Nat->Dat->Prop
 |int {k:Nat} (i:Int):Pl k (.int i)
 |str {k:Nat} (x:aN):Pl k (.str x)
 |tup {k:Nat} {ds:List Dat} (h:∀d∈ds,Pl k d) (hl:ds.length<=1000):Pl (k+1) (.tup ds)
 |lst {k:Nat} {ds:List Dat} (h:∀d∈ds,Pl k d) (hl:ds.length<=1000):Pl (k+1) (.lst ds)
def rY(ds:List Dat):(kc ds ds).length=ds.length:=by rw[sI];omega
theorem nX{n:Nat}:∀(k:Nat)(d:Dat),Pl k d->Cn D (n+k+1) 12 [d,d]=a_ (.bl c_,d_)
 |k,_,.int i=>by
   refine cn (d:=U5) rfl (fi (C:=Cn D (n+k)) (np:=2) (nl:=2) (body:=NN) rfl ?_);unfold NN;walk_at "py"
 |k,_,.str x=>by
   refine cn (d:=U5) rfl (fi (C:=Cn D (n+k)) (np:=2) (nl:=2) (body:=NN) rfl ?_);unfold NN;walk_at "py"
 |k+1,_,.tup (ds:=ds) h hl=>by
   refine cn (d:=U5) rfl (fi (C:=Cn D (n+k+1)) (np:=2) (nl:=2) (body:=NN) rfl ?_)
   have h1:bw (Cn D (n+k+1)) (.comp 2 d_ [] (.zip [.v 0,.v 1]) [] (.call 12 [.v 0,.v 1])) [a_ (.tup ds),a_ (.tup ds)]=a_ (.lst (bI ds.length (.bl c_)),c_):=by
    refine eY (items:=kc ds ds) rfl (by rw[rY];omega) ?_
    have:=zr (f:=gD (Cn D (n+k+1)) 2 d_ (dS 2 [] [a_ (.tup ds),a_ (.tup ds)]) [] (.call 12 [.v 0,.v 1])) (y:=.bl c_) (ds:=kc ds ds) rfl (λd hd=>by
     obtain⟨x,hx,rfl⟩:=tH hd;refine⟨d_,?_⟩;have r:=nX (n:=n) k x (h x hx);rw[vX]
     simp only[dS,pw,D1,dQ,cP,ck,aX,bP,cy,eU,gm,fj,a8,be,bK,aC,ao,r])
    rw[this,rY]
   have h2:dw .all [.lst (bI ds.length (.bl c_))]=a_ (.bl c_,d_):=by
    simp only[dw,M.b1,qZ,lX,qY,qW,bL,Fi,rd,qX,pd,aC]
    congr 3
    simp
   unfold NN;clear h hl;generalize bI ds.length (Dat.bl c_)=W at h1 h2;walk_at "py"
 |k+1,_,.lst (ds:=ds) h hl=>by
   refine cn (d:=U5) rfl (fi (C:=Cn D (n+k+1)) (np:=2) (nl:=2) (body:=NN) rfl ?_)
   have h1:bw (Cn D (n+k+1)) (.comp 2 d_ [] (.zip [.v 0,.v 1]) [] (.call 12 [.v 0,.v 1])) [a_ (.lst ds),a_ (.lst ds)]=a_ (.lst (bI ds.length (.bl c_)),c_):=by
    refine eY (items:=kc ds ds) rfl (by rw[rY];omega) ?_
    have:=zr (f:=gD (Cn D (n+k+1)) 2 d_ (dS 2 [] [a_ (.lst ds),a_ (.lst ds)]) [] (.call 12 [.v 0,.v 1])) (y:=.bl c_) (ds:=kc ds ds) rfl (λd hd=>by
     obtain⟨x,hx,rfl⟩:=tH hd;refine⟨d_,?_⟩;have r:=nX (n:=n) k x (h x hx);rw[vX]
     simp only[dS,pw,D1,dQ,cP,ck,aX,bP,cy,eU,gm,fj,a8,be,bK,aC,ao,r])
    rw[this,rY]
   have h2:dw .all [.lst (bI ds.length (.bl c_))]=a_ (.bl c_,d_):=by
    simp only[dw,M.b1,qZ,lX,qY,qW,bL,Fi,rd,qX,pd,aC]
    congr 3
    simp
   unfold NN;clear h hl;generalize bI ds.length (Dat.bl c_)=W at h1 h2;walk_at "py"
noncomputable def Rs(C:Fs)(j:Nat)(ds:List Dat):Option (Nat×aN×Dat)->Prop
 |none=>∃fr,C j ds=a_ (.non,fr)
 |some (c,f,d)=>C j ds=b_/\C (j+pM) ds=a_ (.tup [.int c,.str f,d],d_)
def Bd{n j:Nat}{d:Df}{ds:List Dat}{c:Nat}{f:aN}{x:Dat}(hj:D[j]?=a_ d)(hl:ds.length=d.p)(h:bH (Cn D n) d.body (ds.map (λd=>a_ (d,d_))++bI (d.n - d.p) b_)=a_ (.xc c f x))(hx:j<pM:=by decide):Rs (Cn D (n+1)) j ds (a_ (c,f,x)):=by
 refine⟨?_,?_⟩
 ·simp only[Cn,hj,if_pos hx];unfold uT;rw[if_pos hl,h];rfl
 ·simp only[Cn,F6,hj,if_neg (show¬j+pM<pM by omega)];unfold IX;rw[if_pos hl,h];rfl
def Lp{n j:Nat}{d:Df}{ds:List Dat}{ρ:bQ}(hj:D[j]?=a_ d)(hl:ds.length=d.p)(h:bH (Cn D n) d.body (ds.map (λd=>a_ (d,d_))++bI (d.n - d.p) b_)=a_ (.nx ρ))(hx:j<pM:=by decide):Rs (Cn D (n+1)) j ds b_:=by
 refine⟨d_,?_⟩;simp only[Cn,hj,if_pos hx];unfold uT;rw[if_pos hl,h];rfl
def tL{C:Fs}{ts:List Nat}{i:Nat}{body:List Sx}{ρ:bQ}{xs:List Dat}(hv:bw C (.v i) (rP (kh [i] ρ))=a_ (.tup xs,d_)):fH C (.loop d_ ts (.enu (.v i)) body) ρ=eL (eF d_ ts) (bH C body) (mO 0 xs) (kh [i] ρ):=by
 have h:xF C (.enu (.v i)) (rP (kh [i] ρ))=a_ (mO 0 xs):=by
  show(bw C (.v i) (rP (kh [i] ρ))).bind _=_;rw[hv];rfl
 show((xF C (.enu (.v i)) (rP (kh [i] ρ))).map _).bind _=_;rw[h];rfl
noncomputable def SV:List Sx:=[(.ifs (.not (.call 4 [(.v 2)])) [(.yj cF "number" (.v 1))] [])]
def Vh{C:Fs}{x:Dat}{k:Nat}{f:Fm}(h:C 4 [bE f]=a_ (.bl (Dk f),d_)):bH C SV [a_ (x,d_),a_ (.int (k:Nat),d_),a_ (bE f,d_)]=a_ (if Dk f=c_ then .nx [a_ (x,d_),a_ (.int (k:Nat),d_),a_ (bE f,d_)]else .xc cF "number" (.int (k:Nat))):=by
 unfold SV;generalize bE f=d at h ⊢;cases e:Dk f
 ·rw[e]at h;rw[if_neg (by simp)];show(fH C (.ifs _ _ _) _).bind _=_;rw[fR (d:=.bl c_) (fr:=d_) (by walk_at "py") rfl];rfl
 ·rw[e]at h;rw[if_pos rfl];show(fH C (.ifs _ _ _) _).bind _=_;rw[eT (d:=.bl d_) (fr:=d_) (by walk_at "py") rfl];rfl
noncomputable def lW(f:Fm):Bool:=!Dk f
noncomputable def xq(c:Nat)(f:aN)(ρ:bQ)(k:Nat):Option Nat->Out
 |some j=>.xc c f (.int ((k+j:Nat)))
 |none=>.nx ρ
theorem Ov{C:Fs}(x:Dat):∀(fs:List Fm)(k:Nat)(z1 z2:g_),(∀f∈fs,C 4 [bE f]=a_ (.bl (Dk f),d_))->∃z1' z2',eL (eF d_ [1,2]) (bH C SV) (mO k (fs.map bE)) [a_ (x,d_),z1,z2]=a_ (xq cF "number" [a_ (x,d_),z1',z2'] k (fs.findIdx? lW))
 |[],k,z1,z2,_=>⟨z1,z2,rfl⟩
 |f::fs,k,z1,z2,h=>by
   obtain⟨y1,y2,hl⟩:=Ov x fs (k+1) (a_ (.int (k:Nat),d_)) (a_ (bE f,d_)) λg hg=>h g (jN _ hg);refine⟨y1,y2,?_⟩;have hbd:eF d_ [1,2] (.tup [.int (k:Nat),bE f]) [a_ (x,d_),z1,z2]=a_ [a_ (x,d_),a_ (.int (k:Nat),d_),a_ (bE f,d_)]:=rfl;have hb:=Vh (x:=x) (k:=k) (h f jB);rw[aw];simp only[mO,eL,hbd,ao,hb];cases e:Dk f
   ·have e':lW f=c_:=by unfold lW;rw[e];rfl
    rw[fe,e'];rfl
   ·have e':lW f=d_:=by unfold lW;rw[e];rfl
    rw[fe,e'];simp only[if_true,oE,hl]
    cases q:fs.findIdx? lW with
    |none=>simp[xq]
    |some j=>simp[xq];omega
noncomputable def jc(fs:List Fm):Option (Nat×aN×Dat):=if fs.length=0 then a_ (cF,"number",.int 0)else if 24<fs.length then a_ (cF,"number",.int 24)else(fs.findIdx? lW).map λj=>(cF,"number",.int (j:Nat))
def P5{n:Nat}{fs:List Fm}(h:∀f∈fs,wF f):Rs (Cn D (n+4)) 6 [.tup (fs.map bE)] (jc fs):=by
 obtain⟨z1,z2,hz⟩:=Ov (C:=Cn D (n+3)) (.tup (fs.map bE)) fs 0 b_ b_ λf hf=>Bc (h f hf)
 have hl':fH (Cn D (n+3)) (.loop d_ [1,2] (.enu (.v 0)) SV) [a_ (.tup (fs.map bE),d_),b_,b_]=a_ (xq cF "number" [a_ (.tup (fs.map bE),d_),z1,z2] 0 (fs.findIdx? lW)):=by
  rw[tL (xs:=fs.map bE) (by rw[fj];rfl)];exact hz
 have el:dw .len [.tup (fs.map bE)]=a_ (.int (fs.length:Nat),d_):=by rw[gp,ak]
 have hb:b6=[b6[0],b6[1],.loop d_ [1,2] (.enu (.v 0)) SV]:=rfl;unfold jc;by_cases h0:fs.length=0
 ·rw[if_pos h0];refine Bd (d:=d6) rfl rfl ?_;have e1:((fs.length:Int) == 0)=c_:=by rw[h0];rfl
  show bH _ b6 [a_ (.tup (fs.map bE),d_),b_,b_]=_;unfold b6;generalize fs.map bE=FS at el ⊢;clear hz hl' hb h h0;refine(by show(fH _ (.ifs _ _ _) _).bind _=_;rw[fR (d:=.bl c_) (fr:=d_) (by walk_at "py") rfl];rfl)
 ·rw[if_neg h0];have e1:((fs.length:Int) == 0)=d_:=beq_false_of_ne (by omega);by_cases h1:24<fs.length
  ·rw[if_pos h1];refine Bd (d:=d6) rfl rfl ?_;have e2:decide ((24:Int)<(fs.length:Int))=c_:=decide_eq_true (by omega);show bH _ b6 [a_ (.tup (fs.map bE),d_),b_,b_]=_;unfold b6;generalize fs.map bE=FS at el ⊢;clear hz hl' hb h h0 h1;rw[bf (by rw[eT (d:=.bl d_) (fr:=d_) (by walk_at "py") rfl];rfl)];refine(by show(fH _ (.ifs _ _ _) _).bind _=_;rw[fR (d:=.bl c_) (fr:=d_) (by walk_at "py") rfl];rfl)
  ·rw[if_neg h1];have e2:decide ((24:Int)<(fs.length:Int))=d_:=decide_eq_false (by omega)
   have run:bH (Cn D (n+3)) b6 [a_ (.tup (fs.map bE),d_),b_,b_]=a_ (xq cF "number" [a_ (.tup (fs.map bE),d_),z1,z2] 0 (fs.findIdx? lW)):=by
    rw[hb];simp only[b6,List.getElem_cons_zero,Ay];generalize fs.findIdx? lW=q at hl' ⊢;generalize SV=body at hl' ⊢;generalize fs.map bE=FS at hl' el ⊢;clear hb hz h h0 h1;rw[bf (by rw[eT (d:=.bl d_) (fr:=d_) (by walk_at "py") rfl];rfl),bf (by rw[eT (d:=.bl d_) (fr:=d_) (by walk_at "py") rfl];rfl)];show(fH _ (.loop _ _ _ _) _).bind _=_;rw[hl'];cases q<;>rfl
   cases q:fs.findIdx? lW with
   |none=>rw[q]at run;exact Lp (d:=d6) rfl rfl run
   |some j=>
     rw[q]at run;have:=Bd (j:=6) (ds:=[.tup (fs.map bE)]) (d:=d6) rfl rfl run;rw[jm]at this;exact this
noncomputable abbrev sT(l:List Nat):Dat:=.str (T l)
noncomputable abbrev VB(i:Int):N2:=.inl (.inl i)
noncomputable def nk(f:Fm):List NK:=[.inl (.inr (T f.1)),.inr (f.2.1.map VB)]
theorem tG:∀cs:List Int,SQ (cs.map Dat.int)=a_ (cs.map VB)
 |[]=>rfl
 |c::r=>by simp only[aw,SQ,Wx,tG r,ao,aC]
def zc(f:Fm):zd (.tup [sT f.1,tI f.2.1])=a_ (nk f):=by
 simp only[zd,Uy,Wu,tG,aC,ao,nk]
def MM{a b:List Int}(e:a.map VB=b.map VB):a=b:=(List.map_inj_right (λx y z=>rj (rj z))).mp e
def HS{f g:Fm}(h:nk f=nk g):ent f=ent g:=by
 simp only[nk,Cc,Sum.inl.injEq,Sum.inr.injEq,and_true]at h;exact Cb (OU h.1) (MM h.2)
noncomputable def jI(pre:List Fm):Dat:=match pre with
 |[]=>.dct [] []
 |_=>.dcn (pre.map nk)
def K7{pre:List Fm}{f:Fm}(h:ent f∉pre.map ent):eV .isin (.tup [sT f.1,tI f.2.1]) (jI pre)=a_ d_:=by
 cases pre with
 |nil=>
   show(if c_=c_ then(zd (.tup [sT f.1,tI f.2.1])).map λ_=>d_ else b_)=_;rw[zc];rfl
 |cons a r=>
   show(zd (.tup [sT f.1,tI f.2.1])).map (λk=>decide (k∈(a::r).map nk))=_;rw[zc];refine congrArg a_ (decide_eq_false λm=>?_);obtain⟨g,hg,e⟩:=aG.mp m;exact h (aG.mpr ⟨g,hg,HS e⟩)
def GS{pre:List Fm}{f:Fm}(h:ent f∉pre.map ent)(hl:pre.length<1000):ju .dput (jI pre) [.bl c_,.tup [sT f.1,tI f.2.1]]=a_ (jI (pre++[f])):=by
 cases pre with
 |nil=>
   show(if c_=c_ then(zd (.tup [sT f.1,tI f.2.1])).map λk=>Dat.dcn [k]else b_)=_;rw[zc];rfl
 |cons a r=>
   show(zd (.tup [sT f.1,tI f.2.1])).bind (λk=>if((a::r).map nk).length<aD/\k∉(a::r).map nk then a_ (Dat.dcn ((a::r).map nk++[k]))else b_)=_
   have hk:nk f∉(a::r).map nk:=λm=>by
    obtain⟨g,hg,e⟩:=aG.mp m;exact h (aG.mpr ⟨g,hg,HS e⟩)
   rw[zc,ao,if_pos ⟨by rw[ak,bT];omega,hk⟩];simp[jI]
def GR{pre:List Fm}{f:Fm}(h:ent f∈pre.map ent):eV .isin (.tup [sT f.1,tI f.2.1]) (jI pre)=a_ c_:=by
 cases pre with
 |nil=>cases h
 |cons a r=>
   show(zd (.tup [sT f.1,tI f.2.1])).map (λk=>decide (k∈(a::r).map nk))=_;rw[zc];refine congrArg a_ (decide_eq_true ?_);obtain⟨g,hg,e⟩:=aG.mp h;refine aG.mpr ⟨g,hg,?_⟩;have e1:=congrArg Prod.fst e;have e2:=congrArg Prod.snd e;unfold ent at e1 e2;dsimp only at e1 e2;unfold nk;rw[e1,e2]
noncomputable def D4:List Fm->List Fm->Option Nat
 |_,[]=>b_
 |pre,f::r=>if ent f∈pre.map ent then a_ 0 else(D4 (pre++[f]) r).map (·+ 1)
noncomputable def Ig:List Sx:=[(.set 4 (.tup [(.ix (.v 3) (.e_ 0)),(.ix (.v 3) (.e_ 1))])),(.ifs (.cmp .isin (.v 4) (.v 1)) [(.yj cT "number" (.v 2))] []),(.mut .dput 1 [(.con (.bl c_)),(.v 4)])]
theorem Ou{C:Fs}(s0:Dat):∀(fs pre:List Fm)(k:Nat)(z2 z3 z4:g_),(pre++fs).length<1000->∃ρ,eL (eF d_ [2,3]) (bH C Ig) (mO k (fs.map bE)) [a_ (s0,d_),a_ (jI pre,c_),z2,z3,z4]=a_ (xq cT "number" ρ k (D4 pre fs))
 |[],pre,k,z2,z3,z4,_=>⟨_,rfl⟩
 |f::fs,pre,k,z2,z3,z4,hl=>by
   have e1:pre++f::fs=(pre++[f])++fs:=by simp
   obtain⟨ρ,hr⟩:=Ou (C:=C) s0 fs (pre++[f]) (k+1) (a_ (.int (k:Nat),d_)) (a_ (bE f,d_)) (a_ (.tup [sT f.1,tI f.2.1],d_)) (by rw[<-e1];exact hl);refine⟨ρ,?_⟩;have hbd:eF d_ [2,3] (.tup [.int (k:Nat),bE f]) [a_ (s0,d_),a_ (jI pre,c_),z2,z3,z4]=a_ [a_ (s0,d_),a_ (jI pre,c_),a_ (.int (k:Nat),d_),a_ (bE f,d_),z4]:=rfl;have i0:kO [Dat.str (T f.1),tI f.2.1,.str (T f.2.2)] 0=a_ (.str (T f.1)):=rfl;have i1:kO [Dat.str (T f.1),tI f.2.1,.str (T f.2.2)] 1=a_ (tI f.2.1):=rfl
   have him:im (.tup [sT f.1,tI f.2.1])=c_:=by
    show(c_ && (je (f.2.1.map Dat.int) && c_))=c_;rw[cA];rfl
   rw[aw];simp only[mO,eL,hbd,ao];by_cases hno:ent f∈pre.map ent
   ·have q1:=GR hno
    have hb:bH C Ig [a_ (s0,d_),a_ (jI pre,c_),a_ (.int (k:Nat),d_),a_ (.tup [Dat.str (T f.1),tI f.2.1,.str (T f.2.2)],d_),z4]=a_ (.xc cT "number" (.int (k:Nat))):=by
     unfold Ig;generalize jI pre=S1 at q1 ⊢;generalize tI f.2.1=tc at q1 i0 i1 him ⊢;clear hr hbd hno e1 hl;rw[bf (ρ1:=[a_ (s0,d_),a_ (S1,c_),a_ (.int (k:Nat),d_),a_ (.tup [Dat.str (T f.1),tc,.str (T f.2.2)],d_),a_ (.tup [sT f.1,tc],d_)]) (by walk_at "py")];show(fH _ (.ifs _ _ _) _).bind _=_;rw[fR (d:=.bl c_) (fr:=d_) (by walk_at "py") rfl];rfl
    rw[show bH C Ig [a_ (s0,d_),a_ (jI pre,c_),a_ (.int (k:Nat),d_),a_ (bE f,d_),z4]=_ from hb];simp only[D4,if_pos hno];rfl
   ·have q1:=K7 hno;have q2:=GS hno (by rw[cw]at hl;omega)
    have hb:bH C Ig [a_ (s0,d_),a_ (jI pre,c_),a_ (.int (k:Nat),d_),a_ (.tup [Dat.str (T f.1),tI f.2.1,.str (T f.2.2)],d_),z4]=a_ (.nx [a_ (s0,d_),a_ (jI (pre++[f]),c_),a_ (.int (k:Nat),d_),a_ (.tup [Dat.str (T f.1),tI f.2.1,.str (T f.2.2)],d_),a_ (.tup [sT f.1,tI f.2.1],d_)]):=by
     unfold Ig;generalize jI (pre++[f])=S2 at q2 ⊢;generalize jI pre=S1 at q1 q2 ⊢;generalize tI f.2.1=tc at q1 q2 i0 i1 him ⊢;clear hr hbd hno e1 hl;walk_at "py"
    rw[show bH C Ig [a_ (s0,d_),a_ (jI pre,c_),a_ (.int (k:Nat),d_),a_ (bE f,d_),z4]=_ from hb];simp only[ao,oE,D4,if_neg hno];rw[show eL (eF d_ [2,3]) (bH C Ig) (mO (k+1) (fs.map bE)) [a_ (s0,d_),a_ (jI (pre++[f]),c_),a_ (.int (k:Nat),d_),a_ (.tup [Dat.str (T f.1),tI f.2.1,.str (T f.2.2)],d_),a_ (.tup [sT f.1,tI f.2.1],d_)]=_ from hr]
    cases q:D4 (pre++[f]) fs with
    |none=>simp[xq]
    |some j=>simp[xq];omega
noncomputable def pb(fs:List Fm):Option (Nat×aN×Dat):=(D4 [] fs).map λj=>(cT,"number",.int (j:Nat))
def P0{n:Nat}{fs:List Fm}(hl:fs.length<=100):Rs (Cn D (n+1)) 7 [.tup (fs.map bE)] (pb fs):=by
 obtain⟨ρ,hz⟩:=Ou (C:=Cn D n) (.tup (fs.map bE)) fs [] 0 b_ b_ b_ (by simp;omega);have hb:b7=[.set 1 .BO,.loop d_ [2,3] (.enu (.v 0)) Ig]:=rfl
 have hl':fH (Cn D n) (.loop d_ [2,3] (.enu (.v 0)) Ig) [a_ (.tup (fs.map bE),d_),a_ (.dct [] [],c_),b_,b_,b_]=a_ (xq cT "number" ρ 0 (D4 [] fs)):=by
  rw[tL (xs:=fs.map bE) (by rw[fj];rfl)];exact hz
 have him:im (.dct [] [])=d_:=rfl
 have run:bH (Cn D n) b7 [a_ (.tup (fs.map bE),d_),b_,b_,b_,b_]=a_ (xq cT "number" ρ 0 (D4 [] fs)):=by
  rw[hb];generalize D4 [] fs=q at hl' ⊢;generalize Ig=body at hl' ⊢;generalize fs.map bE=FS at hl' ⊢;clear hb hz hl;rw[bf (ρ1:=[a_ (.tup FS,d_),a_ (.dct [] [],c_),b_,b_,b_]) (by walk_at "py")];show(fH _ (.loop _ _ _ _) _).bind _=_;rw[hl'];cases q<;>rfl
 unfold pb
 cases q:D4 [] fs with
 |none=>rw[q]at run;exact Lp (d:=d7) rfl rfl run
 |some j=>
   rw[q]at run;have:=Bd (j:=7) (ds:=[.tup (fs.map bE)]) (d:=d7) rfl rfl run;rw[jm]at this;exact this
def Yq:ag "0123456789"=T [48,49,50,51,52,53,54,55,56,57]:=by decide +kernel
def ne_nil(cs:List Int):eV .ne (tI cs) (.tup [])=a_ (!decide (cs=[])):=by
 unfold tI;rw[Ww (wG 19 _) rfl];cases cs<;>simp[kX]
def eq_nil(cs:List Int):eV .eq (tI cs) (.tup [])=a_ (decide (cs=[])):=by
 unfold tI;rw[WV (wG 19 _) rfl];cases cs<;>simp[kX]
noncomputable def xo(ρ:bQ):Option Nat->Out
 |some j=>.xc cM "number" (.int (j:Nat))
 |none=>.nx ρ
noncomputable def nK(m:List Int):Bool:=!kG m 0 2
noncomputable def Ie:List Sx:=[(.ifs (.not (.call 1 [(.v 3),(.e_ 0),(.e_ 2)])) [(.yj cM "number" (.v 2))] [])]
theorem Ia{C:Fs}(s0 s1:Dat):∀(ms:List (List Int))(k:Nat)(z2 z3:g_),(∀m∈ms,C 1 [tI m,.int 0,.int 2]=a_ (.bl (kG m 0 2),d_))->∃z2' z3',eL (eF d_ [2,3]) (bH C Ie) (mO k (ms.map tI)) [a_ (s0,d_),a_ (s1,d_),z2,z3]=a_ (xo [a_ (s0,d_),a_ (s1,d_),z2',z3'] ((ms.findIdx? nK).map (k + ·)))
 |[],k,z2,z3,_=>⟨z2,z3,rfl⟩
 |m::ms,k,z2,z3,h=>by
   obtain⟨y2,y3,hl⟩:=Ia s0 s1 ms (k+1) (a_ (.int (k:Nat),d_)) (a_ (tI m,d_)) λg hg=>h g (jN _ hg);refine⟨y2,y3,?_⟩;have hbd:eF d_ [2,3] (.tup [.int (k:Nat),tI m]) [a_ (s0,d_),a_ (s1,d_),z2,z3]=a_ [a_ (s0,d_),a_ (s1,d_),a_ (.int (k:Nat),d_),a_ (tI m,d_)]:=rfl;have r:=h m jB
   have hb:bH C Ie [a_ (s0,d_),a_ (s1,d_),a_ (.int (k:Nat),d_),a_ (tI m,d_)]=a_ (if kG m 0 2=c_ then .nx [a_ (s0,d_),a_ (s1,d_),a_ (.int (k:Nat),d_),a_ (tI m,d_)]else .xc cM "number" (.int (k:Nat))):=by
    unfold Ie;generalize tI m=tm at r ⊢;clear hl hbd h;cases e:kG m 0 2
    ·rw[e]at r;rw[if_neg (by simp)];show(fH C (.ifs _ _ _) _).bind _=_;rw[fR (d:=.bl c_) (fr:=d_) (by walk_at "py") rfl];rfl
    ·rw[e]at r;rw[if_pos rfl];show(fH C (.ifs _ _ _) _).bind _=_;rw[eT (d:=.bl d_) (fr:=d_) (by walk_at "py") rfl];rfl
   rw[aw];simp only[mO,eL,hbd,ao,hb];cases e:kG m 0 2
   ·have e':nK m=c_:=by unfold nK;rw[e];rfl
    rw[fe,e'];rfl
   ·have e':nK m=d_:=by unfold nK;rw[e];rfl
    rw[fe,e'];simp only[if_true,oE,hl]
    cases q:ms.findIdx? nK with
    |none=>simp[xo]
    |some j=>simp[xo];omega
noncomputable def Mr:List Sx:=[(.ifs (.cmp .ne (.cmp .eq (.ix (.v 0) (.v 2)) (.tup [])) (.cmp .eq (.v 1) (.tup []))) [(.yj cM "number" (.v 2))] [])]
noncomputable def lP(m fg:List Int):Bool:=decide (m=[]) != decide (fg=[])
def Jx{C:Fs}{m0 m1 m2 m3 fg:List Int}{k:Nat}{m:List Int}(z3:g_)(hk:([m0,m1,m2,m3]:List (List Int))[k]?=a_ m) :
  bH C Mr [a_ (.tup [tI m0,tI m1,tI m2,tI m3],d_),a_ (tI fg,d_),a_ (.int (k:Nat),d_),z3]=a_ (xo [a_ (.tup [tI m0,tI m1,tI m2,tI m3],d_),a_ (tI fg,d_),a_ (.int (k:Nat),d_),z3] (if lP m fg=c_ then a_ k else b_)):=by
 have i1:kO [tI m0,tI m1,tI m2,tI m3] (k:Int)=a_ (tI m):=by
  refine g9 ?_;show(([m0,m1,m2,m3]:List (List Int)).map tI)[k]?=_;rw[aW,hk];rfl
 have e1:=eq_nil m;have e2:=eq_nil fg;unfold Mr lP;generalize decide (fg=[])=b at e2 ⊢;generalize decide (m=[])=a at e1 ⊢;generalize tI m=tm at i1 e1;generalize tI fg=tf at e2 ⊢;generalize [tI m0,tI m1,tI m2,tI m3]=MS at i1 ⊢;clear hk;show(fH C (.ifs _ _ _) _).bind _=_;cases a<;>cases b
 ·rw[eT (d:=.bl d_) (fr:=d_) (by walk_at "py"<;>rfl) rfl];rfl
 ·rw[fR (d:=.bl c_) (fr:=d_) (by walk_at "py"<;>rfl) rfl];rfl
 ·rw[fR (d:=.bl c_) (fr:=d_) (by walk_at "py"<;>rfl) rfl];rfl
 ·rw[eT (d:=.bl d_) (fr:=d_) (by walk_at "py"<;>rfl) rfl];rfl
noncomputable def JY(m0 m1 m2 m3 fg:List Int):Option Nat:=match [m0,m1,m2,m3].findIdx? nK with
 |some j=>a_ j
 |none=>if kG fg 0 10=d_ then a_ 4 else if(decide (m1=[])=d_/\decide (m0=[])=c_)then a_ 1 else if lP m2 fg=c_ then a_ 2 else if lP m3 fg=c_ then a_ 3 else b_
noncomputable def qV(m0 m1 m2 m3 fg:List Int):Option (Nat×aN×Dat):=(JY m0 m1 m2 m3 fg).map λj=>(cM,"number",.int (j:Nat))
noncomputable def sq(C:Fs)(ss:List Sx)(ρ:bQ):Option Nat->Option Out
 |some j=>a_ (.xc cM "number" (.int (j:Nat)))
 |none=>bH C ss ρ
def wK{C:Fs}{s:Sx}{ss:List Sx}{ρ ρ1:bQ}{q:Option Nat}(h:fH C s ρ=a_ (xo ρ1 q)):bH C (s::ss) ρ=sq C ss ρ1 q:=by
 show(fH C s ρ).bind _=_;rw[h];cases q<;>rfl
def PZ{n:Nat}{m0 m1 m2 m3 fg:List Int}(h:∀m∈[m0,m1,m2,m3,fg],m.length<=1000):∃ρ,bH (Cn D (n+2)) b8 [a_ (.tup [tI m0,tI m1,tI m2,tI m3],d_),a_ (tI fg,d_),b_,b_]=a_ (xo ρ (JY m0 m1 m2 m3 fg)):=by
 obtain⟨z2,z3,hz⟩:=Ia (C:=Cn D (n+2)) (.tup [tI m0,tI m1,tI m2,tI m3]) (tI fg) [m0,m1,m2,m3] 0 b_ b_ (λm hm=>tj (h m (by simp only[ah,aS,or_false]at hm ⊢;rcases hm with rfl|rfl|rfl|rfl<;>simp)));have hb:b8=[.loop d_ [2,3] (.enu (.v 0)) Ie,b8[1],b8[2],.loop c_ [2] (.itv (.tup [.e_ 2,.e_ 3])) Mr]:=rfl;rw[hb]
 have l1:fH (Cn D (n+2)) (.loop d_ [2,3] (.enu (.v 0)) Ie) [a_ (.tup [tI m0,tI m1,tI m2,tI m3],d_),a_ (tI fg,d_),b_,b_]=a_ (xo [a_ (.tup [tI m0,tI m1,tI m2,tI m3],d_),a_ (tI fg,d_),z2,z3] (([m0,m1,m2,m3].findIdx? nK).map (0 + ·))):=by
  rw[tL (xs:=[tI m0,tI m1,tI m2,tI m3]) (by rw[fj];rfl)];exact hz
 have r:=tj (n:=n) (cs:=fg) (lo:=0) (hi:=10) (h fg (by simp));have h10:dw .len [.str (T [48,49,50,51,52,53,54,55,56,57])]=a_ (.int 10,d_):=len_T (l:=[48,49,50,51,52,53,54,55,56,57]) (by simp)
 have l2:fH (Cn D (n+2)) b8[1] [a_ (.tup [tI m0,tI m1,tI m2,tI m3],d_),a_ (tI fg,d_),z2,z3]=a_ (xo [a_ (.tup [tI m0,tI m1,tI m2,tI m3],d_),a_ (tI fg,d_),z2,z3] (if kG fg 0 10=d_ then a_ 4 else b_)):=by
  show fH (Cn D (n+2)) (.ifs (.not (.call 1 [.v 1,.e_ 0,.blt .len [.f_ "0123456789"]])) [(.yj cM "number" (.e_ 4))] []) _=_;rw[Yq];generalize Cn D (n+2)=C at r ⊢;generalize kG fg 0 10=a at r ⊢;generalize tI fg=tf at r ⊢;clear hb hz l1 h;cases a
  ·rw[fR (d:=.bl c_) (fr:=d_) (by walk_at "py") rfl];rfl
  ·rw[eT (d:=.bl d_) (fr:=d_) (by walk_at "py") rfl];rfl
 have l3:fH (Cn D (n+2)) b8[2] [a_ (.tup [tI m0,tI m1,tI m2,tI m3],d_),a_ (tI fg,d_),z2,z3]=a_ (xo [a_ (.tup [tI m0,tI m1,tI m2,tI m3],d_),a_ (tI fg,d_),z2,z3] (if(decide (m1=[])=d_/\decide (m0=[])=c_)then a_ 1 else b_)):=by
  show fH (Cn D (n+2)) (.ifs (.and (.cmp .ne (.ix (.v 0) (.e_ 1)) (.tup [])) (.cmp .eq (.ix (.v 0) (.e_ 0)) (.tup []))) [(.yj cM "number" (.e_ 1))] []) _=_;have e1:=ne_nil m1;have e2:=eq_nil m0;have i0:kO [tI m0,tI m1,tI m2,tI m3] 0=a_ (tI m0):=rfl;have i1:kO [tI m0,tI m1,tI m2,tI m3] 1=a_ (tI m1):=rfl;generalize decide (m1=[])=a at e1 ⊢;generalize decide (m0=[])=b at e2 ⊢;generalize [tI m0,tI m1,tI m2,tI m3]=MS at i0 i1 ⊢;generalize tI m1=t1 at e1 i1 ⊢;generalize tI m0=t0 at e2 i0 ⊢;generalize Cn D (n+2)=C;clear hb hz l1 l2 h r;cases a<;>cases b
  ·rw[eT (d:=.bl d_) (fr:=d_) (by walk_at "py") rfl];rfl
  ·rw[fR (d:=.bl c_) (fr:=d_) (by walk_at "py") rfl];rfl
  ·rw[eT (d:=.bl d_) (fr:=d_) (by walk_at "py") rfl];rfl
  ·rw[eT (d:=.bl d_) (fr:=d_) (by walk_at "py") rfl];rfl
 have c2:=Jx (C:=Cn D (n+2)) (m0:=m0) (m1:=m1) (m2:=m2) (m3:=m3) (fg:=fg) (k:=2) (m:=m2) z3 rfl;have c3:=Jx (C:=Cn D (n+2)) (m0:=m0) (m1:=m1) (m2:=m2) (m3:=m3) (fg:=fg) (k:=3) (m:=m3) z3 rfl
 have l4:∃ρ,fH (Cn D (n+2)) (.loop c_ [2] (.itv (.tup [.e_ 2,.e_ 3])) Mr) [a_ (.tup [tI m0,tI m1,tI m2,tI m3],d_),a_ (tI fg,d_),z2,z3]=a_ (xo ρ (if lP m2 fg=c_ then a_ 2 else if lP m3 fg=c_ then a_ 3 else b_)):=by
  rw[n6]
  have he:bw (Cn D (n+2)) (.tup [.e_ 2,.e_ 3]) (full [a_ (.tup [tI m0,tI m1,tI m2,tI m3],d_),a_ (tI fg,d_),z2,z3])=a_ (.tup [.int (2:Nat),.int (3:Nat)],c_):=by
   simp only[lC,fB,gZ,ja,ao,aC,BI,bY,bO,aQ,cB,dP,cR,if_true];rfl
  rw[he];simp only[ao,zB,bY,if_true,eL,eF,bP,aX,c2];cases e2:lP m2 fg
  ·simp only[aT,if_false,xo,oE,ao,bP,aX,c3];cases e3:lP m3 fg
   ·exact⟨_,rfl⟩
   ·exact⟨[],rfl⟩
  ·exact⟨[],rfl⟩
 obtain⟨ρ,l4⟩:=l4;refine⟨ρ,?_⟩;unfold JY;rw[wK l1]
 cases [m0,m1,m2,m3].findIdx? nK with
 |some j=>simp[xo,sq]
 |none=>
   simp only[Option.map_none,sq];rw[wK l2];by_cases a:kG fg 0 10=d_
   ·rw[if_pos a,if_pos a];rfl
   ·rw[if_neg a,if_neg a];simp only[sq];rw[wK l3];by_cases b:(decide (m1=[])=d_/\decide (m0=[])=c_)
    ·rw[if_pos b,if_pos b];rfl
    ·rw[if_neg b,if_neg b];simp only[sq];rw[wK l4];cases(if lP m2 fg=c_ then a_ 2 else if lP m3 fg=c_ then a_ 3 else b_:Option Nat)<;>rfl
def P1{n:Nat}{m0 m1 m2 m3 fg:List Int}(h:∀m∈[m0,m1,m2,m3,fg],m.length<=1000):Rs (Cn D (n+3)) 8 [.tup [tI m0,tI m1,tI m2,tI m3],tI fg] (qV m0 m1 m2 m3 fg):=by
 obtain⟨ρ,run⟩:=PZ (n:=n) h;unfold qV
 cases q:JY m0 m1 m2 m3 fg with
 |none=>rw[q]at run;exact Lp (d:=d8) rfl rfl run
 |some j=>rw[q]at run;exact Bd (d:=d8) rfl rfl run
structure MO(f:Fm):Prop where
 low:∀c∈f.1,c∈dW
 ll:f.1.length<=6
def Rz{f:Fm}(h:Dk f=c_):MO f:=by
 unfold Dk at h;obtain⟨h1,_⟩:=cq.mp h;unfold EC at h1;simp only[aq,decide_eq_true_eq,bg]at h1;exact⟨h1.2.2,by omega⟩
noncomputable def ltN(a b:Nat):Bool:=decide (a<b)
def UE:M.LO ltN:=⟨λx=>by simp[ltN],λx y z h h'=>by simp[ltN]at *;omega,λx y h h'=>by simp[ltN]at *;omega⟩
def Ya(a b:Nat):sh (T [a]) (T [b])=ltN a b:=by
 show decide ([a] < [b])=decide (a<b);refine decide_eq_decide.mpr ⟨λh=>?_,λh=>?_⟩
 ·cases h with
  |rel h=>exact h
  |cons h=>cases h
 ·exact List.Lex.rel h
theorem zH{α β:Type}{lt:α->α->Bool}{lt':β->β->Bool}{g:α->β}(h:∀a b,lt' (g a) (g b)=lt a b)(x:α):∀l:List α,tS lt' (g x) (l.map g)=(tS lt x l).map g
 |[]=>rfl
 |y::ys=>by
   simp only[aw,tS,h];split
   ·rfl
   ·split
    ·rw[zH h x ys];rfl
    ·rfl
theorem vn{α β:Type}{lt:α->α->Bool}{lt':β->β->Bool}{g:α->β}(h:∀a b,lt' (g a) (g b)=lt a b):∀l:List α,fQ lt' (l.map g)=(fQ lt l).map g
 |[]=>rfl
 |x::l=>by simp only[aw,fQ,vn h l,zH h]
noncomputable abbrev c1(l:List Nat):List Dat:=l.map λc=>Dat.str (T [c])
def Pd{l:List Nat}(h:l.length<4000)(hu:(fQ ltN l).length<64):dw .sset [.str (T l)]=a_ (.lst (c1 (fQ ltN l)),c_):=by
 show vt (lz (T l))=_;rw[KR];unfold vt;rw[vn (lt:=ltN) Ya,if_pos ⟨by rw[ak];omega,by rw[ak];exact hu⟩,br];rfl
def Vg(l:List Nat):c1 l=(l.map λc=>[c]).map λl=>Dat.str (T l):=by rw[br];rfl
def join_1{l:List Nat}(h:l.length<=1000):mL .join (.str (T [])) [.lst (c1 l)]=a_ (.str (T l),d_):=by
 have:=xp (ws:=l.map λc=>[c]) (by rw[Tv];omega);rw[OC,<-Vg]at this;exact this
noncomputable def lets(fs:List Fm):List Nat:=(fs.map (·.1)).flatten
noncomputable def U(fs:List Fm):List Nat:=fQ ltN (lets fs)
def zu{fs:List Fm}(h:fs.length<=100)(ho:∀f∈fs,MO f):(lets fs).length<=6 * fs.length:=by
 clear h
 induction fs with
 |nil=>simp[lets]
 |cons f r ih=>
   have a:=ih λg m=>ho g (jN _ m);have b:=(ho f jB).ll;simp only[lets,aw,F9,cw,aQ]at a ⊢;omega
def OT{fs:List Fm}(ho:∀f∈fs,MO f):∀c∈U fs,c∈dW:=λc hc=>by
 rw[U,kn UE]at hc;obtain⟨l,h1,h2⟩:=JT.mp hc;obtain⟨f,h3,rfl⟩:=aG.mp h1;exact(ho f h3).low c h2
def Vq{fs:List Fm}(ho:∀f∈fs,MO f):(U fs).length<=26:=by
 have hn:(U fs).Nodup:=pX UE (jJ UE _);have hl:(dW.filter λc=>decide (c∈U fs)).Nodup:=yg pB (by decide)
 have hp:(U fs).Perm (dW.filter λc=>decide (c∈U fs)):=by
  rw[ib hn hl];intro c;rw[iW];simp only[decide_eq_true_eq];exact⟨λh=>⟨OT ho c h,h⟩,λh=>h.2⟩
 rw[hp.length_eq];exact cW (List.length_filter_le _ _) (by decide)
def EU{C:Fs}{fs:List Fm}{ρ:eM}{it:Iw}(hi:xF C it ρ=a_ (fs.map bE))(h:fs.length<=100):bw C (.comp 1 c_ [] it [] (.ix (.v 0) (.e_ 0))) ρ=a_ (.lst ((fs.map (·.1)).map λl=>.str (T l)),c_):=by
 refine eY (items:=fs.map bE) hi (by rw[ak];omega) ?_;have:=gf (f:=gD C 1 c_ (dS 1 [] ρ) [] (.ix (.v 0) (.e_ 0))) (g:=λd=>match d with | .tup (a::_)=>a|_=>.non) (ds:=fs.map bE) ?_ ?_
 ·rw[this,br,br];rfl
 ·intro d hd';obtain⟨g,hg,rfl⟩:=aG.mp hd';refine⟨d_,?_⟩;rw[fu];simp only[dS,dG,dQ,cP,ck,aX,rF,ja,fj,a8,bK,aC,ao,zx];rfl
 ·intro d hd';obtain⟨g,hg,rfl⟩:=aG.mp hd';rfl
def EG{fs:List Fm}(h:fs.length<=100)(ho:∀f∈fs,MO f):mL .join (.str (T [])) [.lst ((fs.map (·.1)).map λl=>.str (T l))]=a_ (.str (T (lets fs)),d_):=by
 refine xp (ws:=fs.map (·.1)) ?_
 have e:((fs.map (·.1)).map (·.length)).sum=(lets fs).length:=by
  unfold lets;rw[List.length_flatten]
 rw[e];have:=zu h ho;omega
def Ef{n:Nat}{fs:List Fm}(h:fs.length<=100)(ho:∀f∈fs,MO f):Cn D (n+1) 5 [.tup (fs.map bE)]=a_ (.str (T (U fs)),d_):=by
 refine cn (d:=d5) rfl (fi (C:=Cn D n) (np:=1) (nl:=1) (body:=b5) rfl ?_);unfold b5;rw[VM];have h1:=EU (C:=Cn D n) (fs:=fs) (ρ:=[a_ (.tup (fs.map bE))]) (it:=.itv (.v 0)) rfl h;have h2:=EG h ho;have hul:=Vq ho;unfold U at hul;have h3:=Pd (l:=lets fs) (by have:=zu h ho;omega) (by omega);have h4:=join_1 (l:=fQ ltN (lets fs)) (by omega);show _=a_ (Out.rt (.str (T (fQ ltN (lets fs)))) d_);walk_at "py"
noncomputable def alone(fs:List Fm):List (List Nat):=(fs.filter λf=>decide (f.2.2=uk)).map (·.1)
theorem yH(k:Nat):∀ws:List (List Nat),eh k (ws.map sT)=c_
 |[]=>by simp[eh]
 |a::r=>by rw[aw];simp only[eh,fE,yH k r,pL]
def QS(c:List Nat)(ws:List (List Nat)):eV .nin (sT c) (.lst (ws.map sT))=a_ (!decide (c∈ws)):=by
 refine(if_pos (by rw[yH];rfl)).trans ?_
 congr 2
 induction ws with
 |nil=>rfl
 |cons a r ih=>
   rw[aw,et,ih];show((T a == T c) || _)=_;rw[DN];by_cases h:a=c
   ·simp[h]
   ·have h':¬c=a:=λz=>h z.symm;simp[h,h']
def W9{fs:List Fm}(ho:∀f∈fs,MO f):U fs=dW.filter λc=>decide (c∈lets fs):=by
 refine(Gg UE (yg pB (by decide)) ?_ λz=>?_).symm
 ·refine List.Pairwise.sublist pB ?_;decide
 ·rw[iW];simp only[decide_eq_true_eq];refine⟨λh=>h.2,λh=>⟨?_,h⟩⟩;exact OT ho z (by rw[U,kn UE];exact h)
noncomputable def xl(ρ:bQ):Option Nat->Out
 |some c=>.xc cL "letter" (sT [c])
 |none=>.nx ρ
noncomputable def SU:List Sx:=[(.ifs (.cmp .nin (.v 2) (.v 1)) [(.yj cL "letter" (.v 2))] [])]
theorem Ot{C:Fs}(s0:Dat)(A:List (List Nat)):∀(us:List Nat)(z2:g_),∃z2',eL (eF c_ [2]) (bH C SU) (us.map λc=>Dat.str (T [c])) [a_ (s0,d_),a_ (.lst (A.map sT),c_),z2]=a_ (xl [a_ (s0,d_),a_ (.lst (A.map sT),c_),z2'] (us.find? λc=>!decide ([c]∈A)))
 |[],z2=>⟨z2,rfl⟩
 |c::us,z2=>by
   have q:=QS [c] A;obtain⟨y2,hr⟩:=Ot (C:=C) s0 A us (a_ (sT [c],d_));refine⟨y2,?_⟩
   have hb:bH C SU [a_ (s0,d_),a_ (.lst (A.map sT),c_),a_ (sT [c],d_)]=a_ (if(!decide ([c]∈A))=c_ then .xc cL "letter" (sT [c])else .nx [a_ (s0,d_),a_ (.lst (A.map sT),c_),a_ (sT [c],d_)]):=by
    unfold SU;generalize (!decide ([c]∈A))=b at q ⊢;generalize A.map sT=AA at q ⊢;clear hr;show(fH C (.ifs _ _ _) _).bind _=_;cases b
    ·rw[eT (d:=.bl d_) (fr:=d_) (by walk_at "py") rfl];rfl
    ·rw[fR (d:=.bl c_) (fr:=d_) (by walk_at "py") rfl];rfl
   rw[aw];simp only[eL,eF,bP,aX,ao,hb];rw[dC];cases e:(!decide ([c]∈A))
   ·simp only[aT,if_false,ao,oE,hr]
   ·rfl
noncomputable def Bu(fs:List Fm)(c:Nat):Bool:=decide (c∈lets fs) && !decide ([c]∈alone fs)
noncomputable def rK(fs:List Fm):Option (Nat×aN×Dat):=(dW.find? (Bu fs)).map λc=>(cL,"letter",sT [c])
def P4{n:Nat}{fs:List Fm}(h:fs.length<=100)(ho:∀f∈fs,MO f):Rs (Cn D (n+2)) 9 [.tup (fs.map bE)] (rK fs):=by
 have hc:bw (Cn D (n+1)) (.comp 1 c_ [] (.itv (.v 0)) [.cmp .eq (.ix (.v 0) (.e_ 2)) (.con (.str (T uk)))] (.ix (.v 0) (.e_ 0))) [a_ (.tup (fs.map bE)),b_,b_]=a_ (.lst ((alone fs).map sT),c_):=by
  refine eY (items:=fs.map bE) rfl (by rw[ak];omega) ?_;have:=zq (f:=gD (Cn D (n+1)) 1 c_ (dS 1 [] [a_ (.tup (fs.map bE)),b_,b_]) [.cmp .eq (.ix (.v 0) (.e_ 2)) (.con (.str (T uk)))] (.ix (.v 0) (.e_ 0))) (g:=λd=>match d with | .tup (a::_)=>a|_=>.non) (p:=λd=>match d with | .tup [_,_,.str x]=>decide (x.cps.toList=uk)|_=>d_) (ds:=fs.map bE) ?_ ?_
  ·rw[this,List.filter_map,br];unfold alone;rw[br];rfl
  ·intro d hd;obtain⟨f,_,rfl⟩:=aG.mp hd;refine⟨d_,?_⟩;have i2:kO [Dat.str (T f.1),.tup (f.2.1.map Dat.int),.str (T f.2.2)] 2=a_ (.str (T f.2.2)):=rfl;have i0:kO [Dat.str (T f.1),.tup (f.2.1.map Dat.int),.str (T f.2.2)] 0=a_ (.str (T f.1)):=rfl;have he:=RM f.2.2 uk
   have hq:bw (Cn D (n+1)) (.cmp .eq (.ix (.v 0) (.e_ 2)) (.con (.str (T uk)))) ((dS 1 [] [a_ (Dat.tup (fs.map bE)),b_,b_]).set 0 (a_ (bE f)))=a_ (.bl (decide (f.2.2=uk)),d_):=by
    simp only[dS,dG,dQ,cP,ck,aX,xD,rF,ja,fj,a8,bK,aC,ao,zx,i2,he]
   rw[Jg hq rfl];simp only[dS,dG,dQ,cP,ck,aX,rF,ja,fj,a8,bK,aC,ao,zx,i0];show _=a_ (if decide ((T f.2.2).cps.toList=uk)=c_ then a_ (Dat.str (T f.1),d_)else b_);rw[show(T f.2.2).cps.toList=f.2.2 by simp[T]];cases decide (f.2.2=uk)<;>rfl
  ·intro d hd _;obtain⟨f,_,rfl⟩:=aG.mp hd;rfl
 obtain⟨z2,hz⟩:=Ot (C:=Cn D (n+1)) (.tup (fs.map bE)) (alone fs) (U fs) b_;have r:=Ef (n:=n) h ho;have hb:b9=[.set 1 (.comp 1 c_ [] (.itv (.v 0)) [.cmp .eq (.ix (.v 0) (.e_ 2)) (.f_ "wbme")] (.ix (.v 0) (.e_ 0))),.loop c_ [2] (.itv (.call 5 [.v 0])) SU]:=rfl
 have hl':fH (Cn D (n+1)) (.loop c_ [2] (.itv (.call 5 [.v 0])) SU) [a_ (.tup (fs.map bE),d_),a_ (.lst ((alone fs).map sT),c_),b_]=a_ (xl [a_ (.tup (fs.map bE),d_),a_ (.lst ((alone fs).map sT),c_),z2] (dW.find? (Bu fs))):=by
  rw[n6];simp only[cy,eU,gm,fj,qQ,qR,tY,a8,bK,aC,ao,r,xu,qM,dR,if_true];rw[hz,W9 ho,List.find?_filter,show(λa=>decide (decide (a∈lets fs)=c_/\(!decide ([a]∈alone fs))=c_))=Bu fs from funext λa=>by unfold Bu;cases decide (a∈lets fs)<;>cases decide ([a]∈alone fs)<;>rfl]
 have run:bH (Cn D (n+1)) b9 [a_ (.tup (fs.map bE),d_),b_,b_]=a_ (xl [a_ (.tup (fs.map bE),d_),a_ (.lst ((alone fs).map sT),c_),z2] (dW.find? (Bu fs))):=by
  rw[hb,W7];generalize dW.find? (Bu fs)=q at hl' ⊢;generalize SU=body at hl' ⊢;generalize (alone fs).map sT=AA at hc hl' ⊢;generalize fs.map bE=FS at hc hl' ⊢;clear hb hz r h ho;rw[bf (ρ1:=[a_ (.tup FS,d_),a_ (.lst AA,c_),b_]) (by walk_at "py")];show(fH _ (.loop _ _ _ _) _).bind _=_;rw[hl'];cases q<;>rfl
 unfold rK
 cases q:dW.find? (Bu fs)with
 |none=>rw[q]at run;exact Lp (d:=d9) rfl rfl run
 |some j=>rw[q]at run;exact Bd (d:=d9) rfl rfl run
noncomputable abbrev ml(fs:List Fm)(m0 m1 m2 m3 fg:List Int):Dat:=.tup [.tup (fs.map bE),.tup [tI m0,tI m1,tI m2,tI m3],tI fg]
noncomputable def xr(ρ:bQ):Option (Nat×aN×Dat)->Out
 |some (c,f,d)=>.xc c f d
 |none=>.nx ρ
def xB{C:Fs}{j:Nat}{es:List Ex}{ρ:bQ}{ds:List Dat}{q:Option (Nat×aN×Dat)}(ha:hZ C es (full ρ)=a_ ds)(h:Rs C j ds q):fH C (.MV j es) ρ=a_ (xr ρ q):=by
 have e1:∀j,bw C (.call j es) (full ρ)=C j ds:=λj=>by
  rw[cy,ha];rfl
 show(match bw C (.call j es) (full ρ)with
  |some _=>a_ (Out.nx ρ)
  |none=>(bw C (.call (j+pM) es) (full ρ)).bind λx=>t6 x.1)=_
 rw[e1,e1]
 cases q with
 |none=>
   obtain⟨fr,h⟩:=h;rw[h];rfl
 |some q=>
   obtain⟨c,f,d⟩:=q;obtain⟨h1,h2⟩:=h;rw[h1,h2];show a_ (Out.xc ((c:Int).toNat) f d)=a_ (Out.xc c f d);rw[eN]
noncomputable def sr(C:Fs)(ss:List Sx)(ρ:bQ):Option (Nat×aN×Dat)->Option Out
 |some (c,f,d)=>a_ (.xc c f d)
 |none=>bH C ss ρ
def wJ{C:Fs}{s:Sx}{ss:List Sx}{ρ ρ1:bQ}{q:Option (Nat×aN×Dat)}(h:fH C s ρ=a_ (xr ρ1 q)):bH C (s::ss) ρ=sr C ss ρ1 q:=by
 show(fH C s ρ).bind _=_;rw[h];cases q<;>rfl
noncomputable def sg(fs:List Fm)(m0 m1 m2 m3 fg:List Int):Option (Nat×aN×Dat):=match jc fs with
 |some x=>a_ x
 | none=>match pb fs with
   |some x=>a_ x
   | none=>match qV m0 m1 m2 m3 fg with
     |some x=>a_ x
     |none=>rK fs
noncomputable def Rm(C:Fs)(ds:List Dat)(r:Dat):Option (Nat×aN×Dat)->Prop
 |none=>C 10 ds=a_ (r,d_)
 |some (c,f,d)=>C 10 ds=b_/\C (10+pM) ds=a_ (.tup [.int c,.str f,d],d_)
def IJ{fs:List Fm}(h:jc fs=b_):∀f∈fs,MO f:=λf hf=>by
 unfold jc at h;split at h
 ·cases h
 split at h
 ·cases h
 have q:fs.findIdx? lW=b_:=by simpa using h
 have:=wt.mp q f hf;exact Rz (by unfold lW at this;simpa using this)
def yN{n:Nat}{fs:List Fm}{m0 m1 m2 m3 fg:List Int}{X0 X1 X2:Dat}{f0 f2:Bool}(h0:dw .tuple [X0]=a_ (.tup (fs.map bE),f0))(hc:bw (Cn D (n+4)) (.comp 1 c_ [] (.itv (.v 1)) [] (.blt .tuple [.v 0])) [a_ X0,a_ X1,a_ X2,b_]=a_ (.lst [tI m0,tI m1,tI m2,tI m3],c_))(h2:dw .tuple [X2]=a_ (tI fg,f2))
  (hw:∀f∈fs,wF f)(hl:fs.length<=100)(hm:∀m∈[m0,m1,m2,m3,fg],m.length<=1000):Rm (Cn D (n+5)) [X0,X1,X2] (ml fs m0 m1 m2 m3 fg) (sg fs m0 m1 m2 m3 fg):=by
 have r1:=P5 (n:=n) hw;have r2:=P0 (n:=n+3) hl;have r3:=P1 (n:=n+1) hm;have r4:=λho=>P4 (n:=n+2) hl ho;have i0:kO [Dat.tup (fs.map bE),.tup [tI m0,tI m1,tI m2,tI m3],tI fg] 0=a_ (.tup (fs.map bE)):=rfl;have i1:kO [Dat.tup (fs.map bE),.tup [tI m0,tI m1,tI m2,tI m3],tI fg] 1=a_ (.tup [tI m0,tI m1,tI m2,tI m3]):=rfl;have i2:kO [Dat.tup (fs.map bE),.tup [tI m0,tI m1,tI m2,tI m3],tI fg] 2=a_ (tI fg):=rfl;have j0:im (.tup (fs.map bE))=c_:=oY fs
 have j1:im (.tup [tI m0,tI m1,tI m2,tI m3])=c_:=by
  show(je (m0.map Dat.int) && (je (m1.map Dat.int) && (je (m2.map Dat.int) && (je (m3.map Dat.int) && c_))))=c_;rw[cA,cA,cA,cA];rfl
 have j2:im (tI fg)=c_:=cA fg
 have j3:im (ml fs m0 m1 m2 m3 fg)=c_:=by
  show(im (.tup (fs.map bE)) && (im (.tup [tI m0,tI m1,tI m2,tI m3]) && (im (tI fg) && c_)))=c_;rw[j0,j1,j2];rfl
 have run:bH (Cn D (n+4)) Vm [a_ (X0,d_),a_ (X1,d_),a_ (X2,d_),b_]=(match sg fs m0 m1 m2 m3 fg with
   |some (c,f,d)=>a_ (.xc c f d)
   |none=>a_ (.rt (ml fs m0 m1 m2 m3 fg) d_)):=by
  unfold Vm
  rw[bf (ρ1:=[a_ (X0,d_),a_ (X1,d_),a_ (X2,d_),a_ (ml fs m0 m1 m2 m3 fg,d_)]) (by
   unfold ml at j3 ⊢;generalize [tI m0,tI m1,tI m2,tI m3]=MS at hc i0 i1 i2 j1 j3 ⊢;generalize tI fg=tf at hc h2 i0 i1 i2 j2 j3 ⊢;generalize fs.map bE=FS at h0 hc i0 i1 i2 j0 j3 ⊢;clear r1 r2 r3 r4 hw hl hm
   walk_at "py")]
  rw[wJ (xB (ds:=[.tup (fs.map bE)]) (by unfold ml;generalize [tI m0,tI m1,tI m2,tI m3]=MS at i0 ⊢;generalize tI fg=tf at i0 ⊢;generalize fs.map bE=FS at i0 ⊢;clear r1 r2 r3 r4 hw hl hm hc;walk_at "py") r1)];unfold sg
  cases q1:jc fs with
  |some x=>rfl
  |none=>
    simp only[sr];rw[wJ (xB (ds:=[.tup (fs.map bE)]) (by unfold ml;generalize [tI m0,tI m1,tI m2,tI m3]=MS at i0 ⊢;generalize tI fg=tf at i0 ⊢;generalize fs.map bE=FS at i0 ⊢;clear r1 r2 r3 r4 hw hl hm hc q1;walk_at "py") r2)]
    cases q2:pb fs with
    |some x=>rfl
    |none=>
      simp only[sr];rw[wJ (xB (ds:=[.tup [tI m0,tI m1,tI m2,tI m3],tI fg]) (by unfold ml;generalize [tI m0,tI m1,tI m2,tI m3]=MS at i1 i2 ⊢;generalize tI fg=tf at i1 i2 ⊢;generalize fs.map bE=FS at i1 i2 ⊢;clear r1 r2 r3 r4 hw hl hm hc q1 q2;walk_at "py") r3)]
      cases q3:qV m0 m1 m2 m3 fg with
      |some x=>rfl
      |none=>
        simp only[sr];rw[wJ (xB (ds:=[.tup (fs.map bE)]) (by unfold ml;generalize [tI m0,tI m1,tI m2,tI m3]=MS at i0 ⊢;generalize tI fg=tf at i0 ⊢;generalize fs.map bE=FS at i0 ⊢;clear r1 r2 r3 r4 hw hl hm hc q1 q2 q3;walk_at "py") (r4 (IJ q1)))]
        cases q4:rK fs with
        |some x=>rfl
        |none=>
          simp only[sr];generalize ml fs m0 m1 m2 m3 fg=R at j3 ⊢;clear r1 r2 r3 r4 hw hl hm hc q1 q2 q3 q4 i0 i1 i2 j0 j1 j2 h0 h2;walk_at "py"
 cases q:sg fs m0 m1 m2 m3 fg with
 |none=>rw[q]at run;exact cn (d:=W2) rfl (fi (C:=Cn D (n+4)) (np:=3) (nl:=4) (body:=Vm) rfl run)
 |some x=>rw[q]at run;exact Bd (j:=10) (d:=W2) rfl rfl run
noncomputable def Xs(c:Nat):aN:=if c=cF then "form" else if c=cT then "twice" else if c=cM then "mark" else "letter"
noncomputable def Cg(r:Dat):Option (Nat×aN×Dat)->Dat
 |none=>.tup [.str "made",r]
 |some (c,_,d)=>.tup [.str (Xs c),d]
noncomputable def Xq:Option (Nat×aN×Dat)->Prop
 |none=>True
 |some (c,f,d)=>((c=cF\/c=cT\/c=cM)/\f="number"/\∃j:Nat,d=.int (j:Nat))\/(c=cL/\f="letter"/\∃a:Nat,d=sT [a])
noncomputable def Al:List Sx:=S7.drop 3
def TR(C:Fs)(X0 X1 X2:Dat)(k:Int):bH C Al [a_ (X0,d_),a_ (X1,d_),a_ (X2,d_),a_ (.exc cF "number" (.inl k),c_),a_ (.non,d_),b_,b_,b_]=a_ (.rt (.tup [.str "form",.int k]) c_):=by kernel_rfl
def TM(C:Fs)(X0 X1 X2:Dat)(k:Int):bH C Al [a_ (X0,d_),a_ (X1,d_),a_ (X2,d_),a_ (.exc cT "number" (.inl k),c_),a_ (.non,d_),b_,b_,b_]=a_ (.rt (.tup [.str "twice",.int k]) c_):=by kernel_rfl
def TN(C:Fs)(X0 X1 X2:Dat)(k:Int):bH C Al [a_ (X0,d_),a_ (X1,d_),a_ (X2,d_),a_ (.exc cM "number" (.inl k),c_),a_ (.non,d_),b_,b_,b_]=a_ (.rt (.tup [.str "mark",.int k]) c_):=by kernel_rfl
def TQ(C:Fs)(X0 X1 X2:Dat)(k:aN):bH C Al [a_ (X0,d_),a_ (X1,d_),a_ (X2,d_),a_ (.exc cL "letter" (.inr k),c_),a_ (.non,d_),b_,b_,b_]=a_ (.rt (.tup [.str "letter",.str k]) c_):=by kernel_rfl
def Gw{C:Fs}{X0 X1 X2 r:Dat}(hi:im r=c_)(h:C 10 [X0,X1,X2]=a_ (r,d_)):fH C (.Oc 4 10 [.v 0,.v 1,.v 2] 3 5 cE) [a_ (X0,d_),a_ (X1,d_),a_ (X2,d_),a_ (.non,d_),a_ (.non,d_),b_,b_,b_]=a_ (.nx [a_ (X0,d_),a_ (X1,d_),a_ (X2,d_),a_ (.non,d_),a_ (r,d_),b_,b_,b_]):=by
 have e:ou C (.call 10 [.v 0,.v 1,.v 2]) [a_ (X0,d_),a_ (X1,d_),a_ (X2,d_),a_ (.non,d_),a_ (.non,d_),b_,b_,b_]=a_ (r,d_,[a_ (X0,d_),a_ (X1,d_),a_ (X2,d_),a_ (.non,d_),a_ (.non,d_),b_,b_,b_]):=by
  unfold ou
  have e1:bw C (.call 10 [.v 0,.v 1,.v 2]) (full [a_ (X0,d_),a_ (X1,d_),a_ (X2,d_),a_ (.non,d_),a_ (.non,d_),b_,b_,b_])=a_ (r,d_):=by
   rw[cy];exact h
  rw[e1];show(if(im r || d_)=c_ then _ else _)=_;rw[hi];rfl
 show(match ou C (.call 10 [.v 0,.v 1,.v 2]) _ with
  |some x=>a_ (Out.nx (x.2.2.set 4 (a_ (x.1,x.2.1 && !im x.1))))
  |none=>_)=_
 rw[e];rfl
def pP{C:Fs}{X0 X1 X2 d:Dat}{c:Nat}{f:aN}{k:Key}(hk:nF d=a_ k)(hc:c∈cE)(h1:C 10 [X0,X1,X2]=b_)(h2:C (10+pM) [X0,X1,X2]=a_ (.tup [.int c,.str f,d],d_)):fH C (.Oc 4 10 [.v 0,.v 1,.v 2] 3 5 cE) [a_ (X0,d_),a_ (X1,d_),a_ (X2,d_),a_ (.non,d_),a_ (.non,d_),b_,b_,b_]=a_ (.nx [a_ (X0,d_),a_ (X1,d_),a_ (X2,d_),a_ (.exc c f k,c_),a_ (.non,d_),b_,b_,b_]):=by
 have e:ou C (.call 10 [.v 0,.v 1,.v 2]) [a_ (X0,d_),a_ (X1,d_),a_ (X2,d_),a_ (.non,d_),a_ (.non,d_),b_,b_,b_]=b_:=by
  unfold ou
  have e1:bw C (.call 10 [.v 0,.v 1,.v 2]) (full [a_ (X0,d_),a_ (X1,d_),a_ (X2,d_),a_ (.non,d_),a_ (.non,d_),b_,b_,b_])=b_:=by
   rw[cy];exact h1
  rw[e1];rfl
 have e2:ou C (.yB 10 [.v 0,.v 1,.v 2]) [a_ (X0,d_),a_ (X1,d_),a_ (X2,d_),a_ (.non,d_),a_ (.non,d_),b_,b_,b_]=a_ (.exc c f k,c_,[a_ (X0,d_),a_ (X1,d_),a_ (X2,d_),a_ (.non,d_),a_ (.non,d_),b_,b_,b_]):=by
  unfold ou
  have e1:bw C (.yB 10 [.v 0,.v 1,.v 2]) (full [a_ (X0,d_),a_ (X1,d_),a_ (X2,d_),a_ (.non,d_),a_ (.non,d_),b_,b_,b_])=a_ (.exc c f k,c_):=by
   show(bw C (.call (10+pM) [.v 0,.v 1,.v 2]) _).bind _=_;rw[cy];show(C (10+pM) [X0,X1,X2]).bind _=_;rw[h2];show(nF d).map _=_;rw[hk];rfl
  rw[e1];rfl
 show(match ou C (.call 10 [.v 0,.v 1,.v 2]) _ with
  |some x=>a_ (Out.nx (x.2.2.set 4 (a_ (x.1,x.2.1 && !im x.1))))
  |none=>(ou C (.yB 10 [.v 0,.v 1,.v 2]) _).bind λx=>O2 3 5 cE x.2.2 x.2.1 x.1)=_
 rw[e];dsimp only;rw[e2];show(if c∈cE then _ else b_)=_;rw[if_pos hc];rfl
def WT:S7=.set 3 (.con .non)::.set 4 (.con .non)::.Oc 4 10 [.v 0,.v 1,.v 2] 3 5 cE::Al:=rfl
def yM{n:Nat}{X0 X1 X2 r:Dat}{q:Option (Nat×aN×Dat)}(h:Rm (Cn D (n+5)) [X0,X1,X2] r q)(hq:Xq q)(hi:im r=c_):∃fr,Cn D (n+6) 24 [X0,X1,X2]=a_ (Cg r q,fr):=by
 have start:∀C,bH C S7 [a_ (X0,d_),a_ (X1,d_),a_ (X2,d_),b_,b_,b_,b_,b_]=bH C (.Oc 4 10 [.v 0,.v 1,.v 2] 3 5 cE::Al) [a_ (X0,d_),a_ (X1,d_),a_ (X2,d_),a_ (.non,d_),a_ (.non,d_),b_,b_,b_]:=λC=>by
  rw[WT];rfl
 have fin:∀{d:Dat}{fr:Bool},bH (Cn D (n+5)) S7 [a_ (X0,d_),a_ (X1,d_),a_ (X2,d_),b_,b_,b_,b_,b_]=a_ (.rt d fr)->Cn D (n+6) 24 [X0,X1,X2]=a_ (d,fr):=λe=>cn (d:=XA) rfl (fi (C:=Cn D (n+5)) (np:=3) (nl:=8) (body:=S7) rfl e);generalize Cn D (n+5)=C at h fin
 cases q with
 |none=>
   have he:∃fr,bw C (.tup [.con (.str "made"),.v 4]) (full [a_ (X0,d_),a_ (X1,d_),a_ (X2,d_),a_ (.non,d_),a_ (r,d_),b_,b_,b_])=a_ (.tup [.str "made",r],fr):=by
    refine⟨c_,?_⟩;simp only[lC,fB,gZ,ja,fj,qQ,qR,tY,a8,be,bK,ao,aC,qM,hi,bY,bO,aQ,cB,dP,cR,if_true]
    try rfl
   obtain⟨fr,he⟩:=he;refine⟨fr,fin ?_⟩;rw[start,bf (Gw hi h)];have hr:Al=.ifs (.cmp .isn (.v 3) (.con .non)) [.ret (.tup [.con (.str "made"),.v 4])] []::Al.drop 1:=rfl;rw[hr];refine eD ?_;rw[fR (d:=.bl c_) (fr:=d_) rfl rfl];exact eD (lA he)
 |some q=>
   obtain⟨c,f,d⟩:=q;obtain⟨h1,h2⟩:=h
   rcases hq with⟨hc,rfl,j,rfl⟩|⟨rfl,rfl,a,rfl⟩
   ·rcases hc with rfl|rfl|rfl
    ·exact⟨c_,fin (by rw[start,bf (pP (k:=.inl (j:Int)) rfl (by decide) h1 h2),TR];rfl)⟩
    ·exact⟨c_,fin (by rw[start,bf (pP (k:=.inl (j:Int)) rfl (by decide) h1 h2),TM];rfl)⟩
    ·exact⟨c_,fin (by rw[start,bf (pP (k:=.inl (j:Int)) rfl (by decide) h1 h2),TN];rfl)⟩
   ·exact⟨c_,fin (by rw[start,bf (pP (k:=.inr (T [a])) rfl (by decide) h1 h2),TQ];rfl)⟩
def B2{α:Type}(g:α->Bool)(xs:List α):dw .any [.lst (xs.map λx=>Dat.bl (g x))]=a_ (.bl (xs.any g),d_):=by
 simp only[dw,M.b1,qZ,lX,qY,qW,bL,Fi,rd,qX,pe,aC];rw[List.any_map];rfl
def IP{c:Nat}:(mL .find (.str (T dW)) [.str (T [c])]).bind (λx=>(eV .lt x.1 (.int 0)).map λb=>(Dat.bl b,d_))=a_ (.bl (!decide (c∈dW)),d_):=by
 rw[<-IM];rfl
def Lr(C:Fs)(X0 X1 X2:Dat):(PL.all λp=>sY (uT C 4 5 (JZ.drop 3) [X0,X1,X2,.str (T p)]) (a_ (.bl (Bn p),d_)))=c_:=by kernel_rfl
def P9{C:Fs}{X0 X1 X2:Dat}{p:List Nat}(h:p∈PL):uT C 4 5 (JZ.drop 3) [X0,X1,X2,.str (T p)]=a_ (.bl (Bn p),d_):=sX (bg.mp (Lr C X0 X1 X2) p h)
def ints_map(cs:List Int):j8 (cs.map Dat.int)=a_ cs:=by
 induction cs with
 |nil=>rfl
 |cons c r ih=>simp only[aw,j8,ih];rfl
def UC(c:Int)(r:List Int):zj (tI (c::r))=a_ (.int (zk c r),d_):=by
 show(j8 ((c::r).map Dat.int)).bind _=_;rw[ints_map];rfl
def UB(c:Int)(r:List Int):zf (tI (c::r))=a_ (.int (vE c r),d_):=by
 show(j8 ((c::r).map Dat.int)).bind _=_;rw[ints_map];rfl
def Sn(c:Int)(r:List Int):(c::r).all mz=(decide (1<=zk c r) && decide (vE c r<=63)):=by
 rw[dD,bg,aq,decide_eq_true_eq,decide_eq_true_eq];unfold mz;simp only[aq,decide_eq_true_eq];constructor
 ·exact λh=>⟨(h _ (xn r c)).1,(h _ (se r c)).2⟩
 ·intro⟨h1,h2⟩ x hx;have a:=Bv r c;have b:=xm r c
  rcases ah.mp hx with rfl|hx
  ·exact⟨by have:=a.1;omega,by have:=b.1;omega⟩
  ·exact⟨by have:=a.2 x hx;omega,by have:=b.2 x hx;omega⟩
def RU{C:Fs}{l:List Nat}{ρ:eM}(hv:bw C (.v 1) ρ=a_ (.str (T l),d_))(hl:l.length<=1000):bw C (.comp 1 c_ [] (.itv (.v 1)) [] (.cmp .lt (.mM .find (.con (.str (T dW))) [.v 0]) (.e_ 0))) ρ=a_ (.lst (l.map λc=>.bl (!decide (c∈dW))),c_):=by
 refine eY (items:=l.map λc=>Dat.str (T [c])) (by show(bw C (.v 1) ρ).bind _=_;rw[hv];exact xu) (by rw[ak];omega) ?_;have:=gf (f:=gD C 1 c_ (dS 1 [] ρ) [] (.cmp .lt (.mM .find (.con (.str (T dW))) [.v 0]) (.e_ 0))) (g:=λd=>match d with | .str x=>.bl (!decide (x.cps.toList.headD 0∈dW))|_=>.non) (ds:=l.map λc=>Dat.str (T [c])) ?_ ?_
 ·rw[this,br];rfl
 ·intro d hd;obtain⟨c,_,rfl⟩:=aG.mp hd;refine⟨d_,?_⟩;rw[fu];exact congrArg (mF a_) (IP (c:=c))
 ·intro d hd;obtain⟨c,_,rfl⟩:=aG.mp hd;rfl
noncomputable def xM:Ex:=(.or (.not (.Jk .le .le (.e_ 1) (.blt .len [(.v 1)]) (.e_ 6))) (.or (.not (.Jk .le .le (.e_ 1) (.blt .len [(.v 2)]) (.e_ 4))) (.or (.cmp .lt (.un zj (.v 2)) (.e_ 1)) (.cmp .gt (.un zf (.v 2)) (.e_ 63)))))
def G1{C:Fs}{X0 X3:Dat}{l:List Nat}{cs:List Int}(hl:l.length<=1000):bw C xM [a_ X0,a_ (.str (T l)),a_ (tI cs),a_ X3,b_]=a_ (.bl (!(decide ((1:Int)<=l.length) && decide ((l.length:Int)<=6)) || !kG cs 1 4),d_):=by
 have h3:=len_T (l:=l) (by omega);have el:dw .len [tI cs]=a_ (.int (cs.length:Nat),d_):=by unfold tI;rw[gp,ak]
 unfold xM kG;generalize e1:decide ((1:Int)<=(l.length:Int))=p1;generalize e2:decide ((l.length:Int)<=6)=p2
 cases cs with
 |nil=>
   generalize tI []=tc at el ⊢;clear hl;have e3:decide ((1:Int)<=(([]:List Int).length:Int))=d_:=rfl;cases p1<;>cases p2<;>walk_at "py"
 |cons c r=>
   have m1:bw C (.un zj (.v 2)) [a_ X0,a_ (.str (T l)),a_ (tI (c::r)),a_ X3,b_]=a_ (.int (zk c r),d_):=UC c r;have m2:bw C (.un zf (.v 2)) [a_ X0,a_ (.str (T l)),a_ (tI (c::r)),a_ X3,b_]=a_ (.int (vE c r),d_):=UB c r;rw[Sn];have a1:decide (zk c r<1)=!decide (1<=zk c r):=by rw[dD];simp
   have a2:decide (63<vE c r)=!decide (vE c r<=63):=by rw[dD];simp
   generalize decide (1<=zk c r)=q3 at a1 ⊢;generalize decide (vE c r<=63)=q4 at a2 ⊢;generalize zk c r=mn at m1 a1;generalize vE c r=mx at m2 a2;generalize e3:decide ((1:Int)<=((c::r).length:Int))=q1;generalize e4:decide (((c::r).length:Int)<=4)=q2;generalize ((c::r).length:Int)=L at el e3 e4;generalize tI (c::r)=tc at el m1 m2 ⊢;generalize (Ex.un zj (.v 2))=u1 at m1 ⊢;generalize (Ex.un zf (.v 2))=u2 at m2 ⊢;clear hl;cases p1<;>cases p2<;>walk_at "py"<;>(cases q1<;>cases q2<;>cases q3<;>cases q4<;>rfl)
def Ln{n:Nat}{f:Fm}(h:wF f):Cn D (n+1) 19 [bE f]=a_ (.bl (Dk f),d_):=by
 refine cn (d:=XF) rfl ?_;obtain⟨l,cs,p⟩:=f;obtain⟨h1,h2,h3⟩:=h;have h1:l.length<=100:=h1;show uT (Cn D n) 1 5 JZ _=_;generalize Cn D n=C;have r1:=G1 (C:=C) (X0:=bE (l,cs,p)) (X3:=.str (T p)) (l:=l) (cs:=cs) (by omega);have r2:=RU (C:=C) (l:=l) (ρ:=[a_ (bE (l,cs,p)),a_ (.str (T l)),a_ (tI cs),a_ (.str (T p)),b_]) rfl (by omega);have r3:=B2 (λc=>!decide (c∈dW)) l;have r4:=P9 (C:=C) (X0:=bE (l,cs,p)) (X1:=.str (T l)) (X2:=tI cs) (p:=p) h3;have hb:JZ=.vo [1,2,3] (.v 0)::.ifs xM [.ret (.con (.bl d_))] []::.ifs (.blt .any [.comp 1 c_ [] (.itv (.v 1)) [] (.cmp .lt (.mM .find (.f_ "abcdefghijklmnopqrstuvwxyz") [.v 0]) (.e_ 0))]) [.ret (.con (.bl d_))] []::JZ.drop 3:=rfl
 have hu:fH C (.vo [1,2,3] (.v 0)) [a_ (bE (l,cs,p),d_),b_,b_,b_,b_]=a_ (.nx [a_ (bE (l,cs,p),d_),a_ (.str (T l),d_),a_ (tI cs,d_),a_ (.str (T p),d_),b_]):=by
  have hi:im (bE (l,cs,p))=c_:=vQ (l,cs,p);show(ou C (.v 0) [a_ (bE (l,cs,p),d_),b_,b_,b_,b_]).bind _=_;rw[o6 (d:=bE (l,cs,p)) (f:=d_) rfl (by rw[hi];rfl)];rfl
 have u:uT C 1 5 JZ [bE (l,cs,p)]=(bH C JZ [a_ (bE (l,cs,p),d_),b_,b_,b_,b_]).bind RO:=if_pos rfl;rw[u,hb,VH,bf hu];unfold Dk;dsimp only;have r5:uT C 4 5 (JZ.drop 3) [bE (l,cs,p),.str (T l),tI cs,.str (T p)]=(bH C (JZ.drop 3) [a_ (bE (l,cs,p),d_),a_ (.str (T l),d_),a_ (tI cs,d_),a_ (.str (T p),d_),b_]).bind RO:=if_pos rfl;rw[r4]at r5;unfold EC;have r6:(l.any λc=>!decide (c∈dW))=!(l.all λc=>decide (c∈dW)):=by rw[yx,Bool.not_not]
 rw[r6]at r3;generalize (l.all λc=>decide (c∈dW))=a at r3 ⊢;generalize kG cs 1 4=b at r1 ⊢;generalize decide ((1:Int)<=(l.length:Int))=p1 at r1 ⊢;generalize decide ((l.length:Int)<=6)=p2 at r1 ⊢
 have rs:∀(x:Bool),(!(p1 && p2) || !b)=x->fH C (.ifs xM [.ret (.con (.bl d_))] []) [a_ (bE (l,cs,p),d_),a_ (.str (T l),d_),a_ (tI cs,d_),a_ (.str (T p),d_),b_]=if x=c_ then a_ (.rt (.bl d_) d_)else a_ (.nx [a_ (bE (l,cs,p),d_),a_ (.str (T l),d_),a_ (tI cs,d_),a_ (.str (T p),d_),b_]):=λx hx=>by
  rw[hx]at r1;cases x
  ·rw[eT (d:=.bl d_) (fr:=d_) r1 rfl];rfl
  ·rw[fR (d:=.bl c_) (fr:=d_) r1 rfl];rfl
 have re:bw C (.blt .any [.comp 1 c_ [] (.itv (.v 1)) [] (.cmp .lt (.mM .find (.con (.str (T dW))) [.v 0]) (.e_ 0))]) [a_ (bE (l,cs,p)),a_ (.str (T l)),a_ (tI cs),a_ (.str (T p)),b_]=a_ (.bl (!a),d_):=by
  show(hZ C [_] _).bind _=_;simp only[eU,gm,r2,ao,aC,r3]
 cases hx:(!(p1 && p2) || !b)
 ·have q:=rs d_ hx;rw[bf q];have hp:p1=c_/\p2=c_/\b=c_:=by revert hx;cases p1<;>cases p2<;>cases b<;>simp
  obtain⟨rfl,rfl,rfl⟩:=hp;cases a
  ·rw[eD (d:=.bl d_) (fr:=d_) (by rw[fR (d:=.bl c_) (fr:=d_) re rfl];rfl)];rfl
  ·rw[bf (by rw[eT (d:=.bl d_) (fr:=d_) re rfl];rfl),<-r5];rfl
 ·have q:=rs c_ hx;rw[eD (d:=.bl d_) (fr:=d_) q];have hp:(p1 && (p2 && a) && (b && Bn p))=d_:=by revert hx;cases p1<;>cases p2<;>cases b<;>simp
  rw[hp];rfl
noncomputable def uW:Ex:=(.or (.cmp .lt (.v 0) (.e_ 1)) (.cmp .gt (.v 0) (.e_ 63)))
def Jf{C:Fs}{cs:List Int}{ρ:eM}{it:Ex}(hv:bw C it ρ=a_ (tI cs,d_))(hl:cs.length<=1000):bw C (.comp 1 c_ [] (.itv it) [] uW) ρ=a_ (.lst (cs.map λc=>.bl (!mz c)),c_):=by
 refine eY (items:=cs.map Dat.int) (by show(bw C it ρ).bind _=_;rw[hv];rfl) (by rw[ak];omega) ?_;have:=gf (f:=gD C 1 c_ (dS 1 [] ρ) [] uW) (g:=λd=>match d with | .int x=>.bl (!mz x)|_=>.non) (ds:=cs.map Dat.int) ?_ ?_
 ·rw[this,br];rfl
 ·intro d hd;obtain⟨c,_,rfl⟩:=aG.mp hd;refine⟨d_,?_⟩;rw[fu]
  have e:bw C uW ((dS 1 [] ρ).set 0 (a_ (.int c)))=a_ (.bl (!mz c),d_):=by
   have a1:decide (c<1)=!decide (1<=c):=by rw[dD];simp
   have a2:decide (63<c)=!decide (c<=63):=by rw[dD];simp
   show bw C uW [a_ (.int c)]=_;unfold uW mz;generalize decide (1<=c)=p at a1 ⊢;generalize decide (c<=63)=q at a2 ⊢;cases p<;>cases q<;>walk_at "py"
  rw[e];rfl
 ·intro d hd;obtain⟨c,_,rfl⟩:=aG.mp hd;rfl
def NQ(cs:List Int):dw .any [.lst (cs.map λc=>.bl (!mz c))]=a_ (.bl (!cs.all mz),d_):=by
 rw[B2 (λc=>!mz c),yx,Bool.not_not]
def GZ{C:Fs}{cs:List Int}{ρ:eM}{it:Ex}{k:Int}(hv:bw C it ρ=a_ (tI cs,d_))(hl:cs.length<=1000):bw C (.or (.cmp .gt (.blt .len [it]) (.con (.int k))) (.blt .any [.comp 1 c_ [] (.itv it) [] uW])) ρ=a_ (.bl (!kG cs 0 k),d_):=by
 have h1:=Jf hv hl;have h2:=NQ cs;have el:dw .len [tI cs]=a_ (.int (cs.length:Nat),d_):=by unfold tI;rw[gp,ak]
 have a2:decide (k<(cs.length:Int))=!decide ((cs.length:Int)<=k):=by rw[dD];simp
 have e0:decide ((0:Int)<=(cs.length:Int))=c_:=decide_eq_true (by omega);unfold kG;rw[e0,yh];generalize cs.all mz=a at h2 ⊢;generalize (cs.map λc=>Dat.bl (!mz c))=W at h1 h2;generalize decide ((cs.length:Int)<=k)=b at a2 ⊢;generalize (Ex.comp 1 c_ [] (.itv it) [] uW)=ce at h1 ⊢;generalize tI cs=tc at hv el;clear hl e0;cases a<;>cases b<;>walk_at "py"
noncomputable def xd(ρ:bQ):Option Nat->Out
 |some j=>.rt (.tup [.str "mark",.int (j:Nat)]) c_
 |none=>.nx ρ
noncomputable def vI:List Sx:=[(.ifs (.or (.cmp .gt (.blt .len [(.ix (.v 0) (.v 2))]) (.e_ 2)) (.blt .any [(.comp 1 c_ [] (.itv (.ix (.v 0) (.v 2))) [] uW)])) [(.ret (.tup [(.f_ "mark"),(.v 2)]))] [])]
def yQ(C:Fs)(ρ:bQ)(k:Nat)(h:bw C (.v 2) (full ρ)=a_ (.int (k:Nat),d_)):bH C [(.ret (.tup [(.f_ "mark"),(.v 2)]))] ρ=a_ (.rt (.tup [.str "mark",.int (k:Nat)]) c_):=by
 refine eD (lA ?_);simp only[lC,fB,gZ,ja,h,ao,aC,qM,BI,bY,dR,bO,aQ,cB,dP,cR,if_true]
 try rfl
def sv{C:Fs}{m0 m1 m2 m3 m:List Int}{X1:Dat}{k:Nat}(hk:([m0,m1,m2,m3]:List (List Int))[k]?=a_ m)(hl:m.length<=1000):bH C vI [a_ (.tup [tI m0,tI m1,tI m2,tI m3],d_),a_ (X1,d_),a_ (.int (k:Nat),d_)]=a_ (xd [a_ (.tup [tI m0,tI m1,tI m2,tI m3],d_),a_ (X1,d_),a_ (.int (k:Nat),d_)] (if nK m=c_ then a_ k else b_)):=by
 have i1:kO [tI m0,tI m1,tI m2,tI m3] (k:Int)=a_ (tI m):=by
  refine g9 ?_;show(([m0,m1,m2,m3]:List (List Int)).map tI)[k]?=_;rw[aW,hk];rfl
 have hv:bw C (.ix (.v 0) (.v 2)) [a_ (.tup [tI m0,tI m1,tI m2,tI m3]),a_ X1,a_ (.int (k:Nat))]=a_ (tI m,d_):=by
  show(EH (.tup [tI m0,tI m1,tI m2,tI m3]) (.int (k:Nat))).map _=_;rw[zx,i1];rfl
 have r:=GZ (k:=2) hv hl;unfold vI;show(fH C (.ifs _ _ _) _).bind _=_;have e:nK m=!kG m 0 2:=rfl;rw[e];cases q:kG m 0 2
 ·rw[q]at r;rw[fR (d:=.bl c_) (fr:=d_) r rfl,yQ C _ k rfl];rfl
 ·rw[q]at r;rw[eT (d:=.bl d_) (fr:=d_) r rfl];rfl
noncomputable def Dg:List Sx:=[(.ifs (.cmp .ne (.cmp .gt (.blt .len [(.ix (.v 0) (.v 2))]) (.e_ 0)) (.cmp .gt (.blt .len [(.v 1)]) (.e_ 0))) [(.ret (.tup [(.f_ "mark"),(.v 2)]))] [])]
def len_pos(cs:List Int):decide ((0:Int)<(cs.length:Int))=!decide (cs=[]):=by
 cases cs<;>simp<;>omega
def DG{C:Fs}{m0 m1 m2 m3 m fg:List Int}{k:Nat}(hk:([m0,m1,m2,m3]:List (List Int))[k]?=a_ m):bH C Dg [a_ (.tup [tI m0,tI m1,tI m2,tI m3],d_),a_ (tI fg,d_),a_ (.int (k:Nat),d_)]=a_ (xd [a_ (.tup [tI m0,tI m1,tI m2,tI m3],d_),a_ (tI fg,d_),a_ (.int (k:Nat),d_)] (if lP m fg=c_ then a_ k else b_)):=by
 have i1:kO [tI m0,tI m1,tI m2,tI m3] (k:Int)=a_ (tI m):=by
  refine g9 ?_;show(([m0,m1,m2,m3]:List (List Int)).map tI)[k]?=_;rw[aW,hk];rfl
 have el:dw .len [tI m]=a_ (.int (m.length:Nat),d_):=by unfold tI;rw[gp,ak]
 have ef:dw .len [tI fg]=a_ (.int (fg.length:Nat),d_):=by unfold tI;rw[gp,ak]
 have p1:=len_pos m;have p2:=len_pos fg
 have r:bw C (.cmp .ne (.cmp .gt (.blt .len [(.ix (.v 0) (.v 2))]) (.e_ 0)) (.cmp .gt (.blt .len [(.v 1)]) (.e_ 0))) [a_ (.tup [tI m0,tI m1,tI m2,tI m3]),a_ (tI fg),a_ (.int (k:Nat))]=a_ (.bl (lP m fg),d_):=by
  unfold lP;generalize decide (m=[])=a at p1 ⊢;generalize decide (fg=[])=b at p2 ⊢;generalize [tI m0,tI m1,tI m2,tI m3]=MS at i1 ⊢;generalize tI m=tm at i1 el;generalize tI fg=tf at ef ⊢;clear hk;cases a<;>cases b<;>walk_at "py"<;>rfl
 unfold Dg;show(fH C (.ifs _ _ _) _).bind _=_;cases q:lP m fg
 ·rw[q]at r;rw[eT (d:=.bl d_) (fr:=d_) r rfl];rfl
 ·rw[q]at r;rw[fR (d:=.bl c_) (fr:=d_) r rfl,yQ C _ k rfl];rfl
noncomputable def U0:Option Nat->Dat
 |some j=>.tup [.str "mark",.int (j:Nat)]
 |none=>.non
noncomputable def sd(C:Fs)(ss:List Sx)(ρ:bQ):Option Nat->Option Out
 |some j=>a_ (.rt (.tup [.str "mark",.int (j:Nat)]) c_)
 |none=>bH C ss ρ
def wL{C:Fs}{s:Sx}{ss:List Sx}{ρ ρ1:bQ}{q:Option Nat}(h:fH C s ρ=a_ (xd ρ1 q)):bH C (s::ss) ρ=sd C ss ρ1 q:=by
 show(fH C s ρ).bind _=_;rw[h];cases q<;>rfl
def PY{n:Nat}{m0 m1 m2 m3 fg:List Int}(h:∀m∈[m0,m1,m2,m3,fg],m.length<=1000):∃fr,Cn D (n+1) 20 [.tup [tI m0,tI m1,tI m2,tI m3],tI fg]=a_ (U0 (JY m0 m1 m2 m3 fg),fr):=by
 have fin:∀{d:Dat}{fr:Bool},bH (Cn D n) Vk [a_ (.tup [tI m0,tI m1,tI m2,tI m3],d_),a_ (tI fg,d_),b_]=a_ (.rt d fr)->Cn D (n+1) 20 [.tup [tI m0,tI m1,tI m2,tI m3],tI fg]=a_ (d,fr):=λe=>cn (d:=XE) rfl (fi (C:=Cn D n) (np:=2) (nl:=3) (body:=Vk) rfl e);generalize Cn D n=C at fin;have hb:Vk=.loop c_ [2] (.rng [.e_ 4]) vI::.ifs (.or (.cmp .gt (.blt .len [.v 1]) (.e_ 10)) (.blt .any [.comp 1 c_ [] (.itv (.v 1)) [] uW])) [.ret (.tup [.f_ "mark",.e_ 4])] []::.ifs (.and (.cmp .gt (.blt .len [.ix (.v 0) (.e_ 1)]) (.e_ 0)) (.cmp .eq (.blt .len [.ix (.v 0) (.e_ 0)]) (.e_ 0))) [.ret (.tup [.f_ "mark",.e_ 1])] []::.loop c_ [2] (.itv (.lst [.e_ 2,.e_ 3])) Dg::[.ret (.con .non)]:=rfl;have c0:=sv (C:=C) (m0:=m0) (m1:=m1) (m2:=m2) (m3:=m3) (X1:=tI fg) (k:=0) (m:=m0) rfl (h m0 (by simp));have c1:=sv (C:=C) (m0:=m0) (m1:=m1) (m2:=m2) (m3:=m3) (X1:=tI fg) (k:=1) (m:=m1) rfl (h m1 (by simp));have c2:=sv (C:=C) (m0:=m0) (m1:=m1) (m2:=m2) (m3:=m3) (X1:=tI fg) (k:=2) (m:=m2) rfl (h m2 (by simp));have c3:=sv (C:=C) (m0:=m0) (m1:=m1) (m2:=m2) (m3:=m3) (X1:=tI fg) (k:=3) (m:=m3) rfl (h m3 (by simp))
 have l1:∃z,fH C (.loop c_ [2] (.rng [.e_ 4]) vI) [a_ (.tup [tI m0,tI m1,tI m2,tI m3],d_),a_ (tI fg,d_),b_]=a_ (xd [a_ (.tup [tI m0,tI m1,tI m2,tI m3],d_),a_ (tI fg,d_),z] ([m0,m1,m2,m3].findIdx? nK)):=by
  have e:fH C (.loop c_ [2] (.rng [.e_ 4]) vI) [a_ (.tup [tI m0,tI m1,tI m2,tI m3],d_),a_ (tI fg,d_),b_]=eL (eF c_ [2]) (bH C vI) [.int (0:Nat),.int (1:Nat),.int (2:Nat),.int (3:Nat)] [a_ (.tup [tI m0,tI m1,tI m2,tI m3],d_),a_ (tI fg,d_),b_]:=rfl;refine⟨a_ (.int (3:Nat),d_),?_⟩;rw[e];simp only[eL,eF,bP,aX,ao,c0,fe,List.findIdx?_nil];cases nK m0
  ·simp only[aT,if_false,xd,oE,bP,aX,ao,c1];cases nK m1
   ·simp only[aT,if_false,xd,oE,bP,aX,ao,c2];cases nK m2
    ·simp only[aT,if_false,xd,oE,bP,aX,ao,c3];cases nK m3<;>rfl
    ·rfl
   ·rfl
  ·rfl
 obtain⟨z,l1⟩:=l1;have r2:=GZ (C:=C) (k:=10) (ρ:=[a_ (.tup [tI m0,tI m1,tI m2,tI m3]),a_ (tI fg),z.map (·.1)]) (it:=.v 1) (cs:=fg) rfl (h fg (by simp))
 have l2:fH C (.ifs (.or (.cmp .gt (.blt .len [.v 1]) (.e_ 10)) (.blt .any [.comp 1 c_ [] (.itv (.v 1)) [] uW])) [.ret (.tup [.f_ "mark",.e_ 4])] []) [a_ (.tup [tI m0,tI m1,tI m2,tI m3],d_),a_ (tI fg,d_),z]=a_ (xd [a_ (.tup [tI m0,tI m1,tI m2,tI m3],d_),a_ (tI fg,d_),z] (if kG fg 0 10=d_ then a_ 4 else b_)):=by
  cases q:kG fg 0 10
  ·rw[q]at r2;rw[fR (d:=.bl c_) (fr:=d_) r2 rfl];rfl
  ·rw[q]at r2;rw[eT (d:=.bl d_) (fr:=d_) r2 rfl];rfl
 have l3:fH C (.ifs (.and (.cmp .gt (.blt .len [.ix (.v 0) (.e_ 1)]) (.e_ 0)) (.cmp .eq (.blt .len [.ix (.v 0) (.e_ 0)]) (.e_ 0))) [.ret (.tup [.f_ "mark",.e_ 1])] []) [a_ (.tup [tI m0,tI m1,tI m2,tI m3],d_),a_ (tI fg,d_),z]=a_ (xd [a_ (.tup [tI m0,tI m1,tI m2,tI m3],d_),a_ (tI fg,d_),z] (if(decide (m1=[])=d_/\decide (m0=[])=c_)then a_ 1 else b_)):=by
  have i0:kO [tI m0,tI m1,tI m2,tI m3] 0=a_ (tI m0):=rfl;have i1:kO [tI m0,tI m1,tI m2,tI m3] 1=a_ (tI m1):=rfl;have e0:dw .len [tI m0]=a_ (.int (m0.length:Nat),d_):=by unfold tI;rw[gp,ak]
  have e1:dw .len [tI m1]=a_ (.int (m1.length:Nat),d_):=by unfold tI;rw[gp,ak]
  have p1:=len_pos m1;have p0:((m0.length:Int) == 0)=decide (m0=[]):=by cases m0<;>simp<;>omega
  have r:bw C (.and (.cmp .gt (.blt .len [.ix (.v 0) (.e_ 1)]) (.e_ 0)) (.cmp .eq (.blt .len [.ix (.v 0) (.e_ 0)]) (.e_ 0))) [a_ (.tup [tI m0,tI m1,tI m2,tI m3]),a_ (tI fg),z.map (·.1)]=a_ (.bl (!decide (m1=[]) && decide (m0=[])),d_):=by
   generalize decide (m1=[])=a at p1 ⊢;generalize decide (m0=[])=b at p0 ⊢;generalize [tI m0,tI m1,tI m2,tI m3]=MS at i0 i1 ⊢;generalize tI m0=t0 at i0 e0;generalize tI m1=t1 at i1 e1;generalize tI fg=tf;generalize z.map (·.1)=zz;clear l1 l2 r2 c0 c1 c2 c3 h hb fin;cases a<;>cases b<;>walk_at "py"
  generalize decide (m1=[])=a at r ⊢;generalize decide (m0=[])=b at r ⊢;cases a<;>cases b
  ·rw[eT (d:=.bl d_) (fr:=d_) r rfl];rfl
  ·rw[fR (d:=.bl c_) (fr:=d_) r rfl];rfl
  ·rw[eT (d:=.bl d_) (fr:=d_) r rfl];rfl
  ·rw[eT (d:=.bl d_) (fr:=d_) r rfl];rfl
 have d2:=DG (C:=C) (m0:=m0) (m1:=m1) (m2:=m2) (m3:=m3) (fg:=fg) (k:=2) (m:=m2) rfl;have d3:=DG (C:=C) (m0:=m0) (m1:=m1) (m2:=m2) (m3:=m3) (fg:=fg) (k:=3) (m:=m3) rfl
 have l4:∃ρ,fH C (.loop c_ [2] (.itv (.lst [.e_ 2,.e_ 3])) Dg) [a_ (.tup [tI m0,tI m1,tI m2,tI m3],d_),a_ (tI fg,d_),z]=a_ (xd ρ (if lP m2 fg=c_ then a_ 2 else if lP m3 fg=c_ then a_ 3 else b_)):=by
  rw[n6];have he:bw C (.lst [.e_ 2,.e_ 3]) (full [a_ (.tup [tI m0,tI m1,tI m2,tI m3],d_),a_ (tI fg,d_),z])=a_ (.lst [.int (2:Nat),.int (3:Nat)],c_):=rfl;rw[he];simp only[ao,tQ,bY,if_true,eL,eF,bP,aX,d2];cases e2:lP m2 fg
  ·simp only[aT,if_false,xd,oE,ao,bP,aX,d3];cases e3:lP m3 fg
   ·exact⟨_,rfl⟩
   ·exact⟨[],rfl⟩
  ·exact⟨[],rfl⟩
 obtain⟨ρ,l4⟩:=l4
 have run:bH C Vk [a_ (.tup [tI m0,tI m1,tI m2,tI m3],d_),a_ (tI fg,d_),b_]=a_ (.rt (U0 (JY m0 m1 m2 m3 fg)) (JY m0 m1 m2 m3 fg).isSome):=by
  rw[hb,wL l1];unfold JY
  cases [m0,m1,m2,m3].findIdx? nK with
  |some j=>rfl
  |none=>
    simp only[sd];rw[wL l2];by_cases a:kG fg 0 10=d_
    ·rw[if_pos a,if_pos a];rfl
    ·rw[if_neg a,if_neg a];simp only[sd];rw[wL l3];by_cases b:(decide (m1=[])=d_/\decide (m0=[])=c_)
     ·rw[if_pos b,if_pos b];rfl
     ·rw[if_neg b,if_neg b];simp only[sd];rw[wL l4];cases(if lP m2 fg=c_ then a_ 2 else if lP m3 fg=c_ then a_ 3 else b_:Option Nat)<;>rfl
 exact⟨_,fin run⟩
noncomputable def Ii:List Sx:=[(.ifs (.and (.cmp .eq (.ix (.v 2) (.e_ 0)) (.v 1)) (.cmp .eq (.ix (.v 2) (.e_ 2)) (.con (.str (T uk))))) [(.ret (.con (.bl c_)))] [])]
noncomputable def uR(c:Nat)(f:Fm):Bool:=decide (f.1=[c]) && decide (f.2.2=uk)
def R8{C:Fs}{X0:Dat}{c:Nat}{f:Fm}:bH C Ii [a_ (X0,d_),a_ (sT [c],d_),a_ (bE f,d_)]=a_ (if uR c f=c_ then .rt (.bl c_) d_ else .nx [a_ (X0,d_),a_ (sT [c],d_),a_ (bE f,d_)]):=by
 obtain⟨l,cs,p⟩:=f;have e1:=RM l [c];have e2:=RM p uk
 have r:bw C (.and (.cmp .eq (.ix (.v 2) (.e_ 0)) (.v 1)) (.cmp .eq (.ix (.v 2) (.e_ 2)) (.con (.str (T uk))))) [a_ X0,a_ (sT [c]),a_ (bE (l,cs,p))]=a_ (.bl (uR c (l,cs,p)),d_):=by
  unfold uR;dsimp only;generalize decide (l=[c])=a at e1 ⊢;generalize decide (p=uk)=b at e2 ⊢;have i0:∀a b c:Dat,kO [a,b,c] 0=a_ a:=λ_ _ _=>rfl;have i2:∀a b c:Dat,kO [a,b,c] 2=a_ c:=λ_ _ _=>rfl;unfold bE sT;dsimp only;generalize (Dat.tup (cs.map Dat.int))=tc;generalize T uk=t4 at e2 ⊢;generalize T [c]=t1 at e1 ⊢;cases a<;>cases b<;>walk_at "py"
 unfold Ii;show(fH C (.ifs _ _ _) _).bind _=_;cases q:uR c (l,cs,p)
 ·rw[q]at r;rw[eT (d:=.bl d_) (fr:=d_) r rfl];rfl
 ·rw[q]at r;rw[fR (d:=.bl c_) (fr:=d_) r rfl];rfl
noncomputable def bo(ρ:bQ):Bool->Out
 |true=>.rt (.bl c_) d_
 |false=>.nx ρ
theorem Ib{C:Fs}{X0:Dat}{c:Nat}:∀(fs:List Fm)(z:g_),∃z',eL (eF c_ [2]) (bH C Ii) (fs.map bE) [a_ (X0,d_),a_ (sT [c],d_),z]=a_ (bo [a_ (X0,d_),a_ (sT [c],d_),z'] (fs.any (uR c)))
 |[],z=>⟨z,rfl⟩
 |f::fs,z=>by
   obtain⟨z',h⟩:=Ib (C:=C) (X0:=X0) (c:=c) fs (a_ (bE f,d_));refine⟨z',?_⟩;rw[aw];rw[et];simp only[eL,eF,bP,aX,ao,R8];by_cases e:uR c f=c_
   ·rw[if_pos e,e];rfl
   ·rw[if_neg e,Gb.mpr e,pK];exact h
def Ep(fs:List Fm)(c:Nat):fs.any (uR c)=decide ([c]∈alone fs):=by
 rw[dD,iA,decide_eq_true_eq];unfold alone uR;rw[aG];constructor
 ·rintro⟨f,hf,h⟩;simp only[aq,decide_eq_true_eq]at h;exact⟨f,iW.mpr ⟨hf,decide_eq_true h.2⟩,h.1⟩
 ·rintro⟨f,hf,h⟩;obtain⟨h1,h2⟩:=iW.mp hf;exact⟨f,h1,by rw[decide_eq_true h,h2];rfl⟩
def Ll{n:Nat}{fs:List Fm}{c:Nat}:Cn D (n+1) 18 [.lst (fs.map bE),sT [c]]=a_ (.bl (decide ([c]∈alone fs)),d_):=by
 refine cn (d:=XG) rfl (fi (C:=Cn D n) (np:=2) (nl:=3) (body:=VF) rfl ?_);show bH (Cn D n) VF [a_ (.lst (fs.map bE),d_),a_ (sT [c],d_),b_]=_;obtain⟨z,h⟩:=Ib (C:=Cn D n) (X0:=.lst (fs.map bE)) (c:=c) fs b_;have hb:VF=[.loop c_ [2] (.itv (.v 0)) [(.ifs (.and (.cmp .eq (.ix (.v 2) (.e_ 0)) (.v 1)) (.cmp .eq (.ix (.v 2) (.e_ 2)) (.f_ "wbme"))) [(.ret (.con (.bl c_)))] [])],.ret (.con (.bl d_))]:=rfl;rw[hb,W7]
 have l1:fH (Cn D n) (.loop c_ [2] (.itv (.v 0)) Ii) [a_ (.lst (fs.map bE),d_),a_ (sT [c],d_),b_]=a_ (bo [a_ (.lst (fs.map bE),d_),a_ (sT [c],d_),z] (fs.any (uR c))):=by
  rw[<-h,n6];have he:bw (Cn D n) (.v 0) (full [a_ (.lst (fs.map bE),d_),a_ (sT [c],d_),b_])=a_ (.lst (fs.map bE),d_):=rfl;rw[he];rfl
 show bH _ (.loop c_ [2] (.itv (.v 0)) Ii::_) _=_;rw[<-Ep];cases q:fs.any (uR c)
 ·rw[q]at l1;rw[bf l1];rfl
 ·rw[q]at l1;rw[eD l1]
noncomputable abbrev uU(f:Fm):Dat:=.tup [.str (T f.1),.tup (f.2.1.map Dat.int)]
def Iv(f:Fm)(acc:List Fm):eV .isin (uU f) (.lst (acc.map uU))=a_ (decide (ent f∈acc.map ent)):=by
 have hs:eh 20 (acc.map uU)=c_:=by
  induction acc with
  |nil=>rfl
  |cons g r ih=>rw[aw];show(fE 20 _ && eh 20 _)=c_;rw[pQ,ih];rfl
 refine(if_pos (by rw[show fE 20 (uU f)=c_ from pQ f,hs];rfl)).trans ?_
 congr 1
 clear hs
 induction acc with
 |nil=>rfl
 |cons g r ih=>
   rw[aw,et,ih]
   have e1:nH (uU g) (uU f)=decide (ent g=ent f):=by
    show((T g.1 == T f.1) && (kX (g.2.1.map Dat.int) (f.2.1.map Dat.int) && c_))=_;rw[DN,qS,bO];by_cases h1:g.1=f.1
    ·by_cases h2:g.2.1=f.2.1
     ·rw[decide_eq_true h1,decide_eq_true h2,decide_eq_true (show ent g=ent f from Cb h1 h2)];rfl
     ·rw[decide_eq_false h2,jk,decide_eq_false (λz:ent g=ent f=>h2 (mX (show(g.1,g.2.1)=(f.1,f.2.1)from z)).2)]
    ·rw[decide_eq_false h1,lj,decide_eq_false (λz:ent g=ent f=>h1 (mX (show(g.1,g.2.1)=(f.1,f.2.1)from z)).1)]
   rw[e1];by_cases h:ent g=ent f
   ·simp[h]
   ·have h':¬ent f=ent g:=λz=>h z.symm;simp[h,h']
noncomputable def xk(R:Nat->Dat)(ρ:bQ):Option Nat->Out
 |some k=>.rt (R k) c_
 |none=>.nx ρ
noncomputable def Vz(R:Nat->Dat)(ρ:bQ)(k:Nat):Bool->Out
 |true=>.rt (R k) c_
 |false=>.nx ρ
theorem si{C:Fs}{body:List Sx}{t:Nat}{E:g_->bQ}{V:Nat->Dat}(hset:∀z k,eF c_ [t] (V k) (E z)=a_ (E (a_ (V k,d_)))){P:Nat->Bool}{R:Nat->Dat}:∀(ks:List Nat)(z:g_),(∀k∈ks,bH C body (E (a_ (V k,d_)))=a_ (Vz R (E (a_ (V k,d_))) k (P k)))->∃z',eL (eF c_ [t]) (bH C body) (ks.map V) (E z)=a_ (xk R (E z') (ks.find? P))
 |[],z,_=>⟨z,rfl⟩
 |k::ks,z,h=>by
   obtain⟨z',hr⟩:=si hset (P:=P) (R:=R) ks (a_ (V k,d_)) λj hj=>h j (jN _ hj);refine⟨z',?_⟩;rw[aw,dC];simp only[eL,hset,ao,h k jB];cases P k
   ·exact hr
   ·rfl
theorem Dt{α:Type}(p:α->Bool)(a:α):∀l:List α,(aR l.length).find? (λk=>p (l.getD k a))=l.findIdx? p
 |[]=>rfl
 |x::l=>by
   rw[aQ,mS,dC,fe];simp only[pA];cases p x
   ·simp only[aT,if_false];rw[N7,<-Dt p a l];rfl
   ·rfl
theorem Ds:∀(fs pre:List Fm),(aR fs.length).find? (λk=>decide (ent (fs.getD k ([],[],[]))∈(pre++fs.take k).map ent))=D4 pre fs
 |[],pre=>rfl
 |f::fs,pre=>by
   rw[aQ,mS,dC,D4];simp only[pA,List.take_zero,bN];by_cases h:ent f∈pre.map ent
   ·rw[if_pos h,decide_eq_true h]
   ·rw[if_neg h,decide_eq_false h];simp only;rw[N7,<-Ds fs (pre++[f])]
    congr 2
    funext k;rw[lK];rfl
noncomputable abbrev E3(fs:List Fm)(Mq G:Dat)(z4 z5 z3:g_):bQ:=[a_ (.lst (fs.map bE),d_),a_ (Mq,d_),a_ (G,d_),z3,z4,z5]
def P8(C:Fs)(ρ:bQ)(w:aN)(i:Nat){d:Dat}(hi:im d=c_)(h:bw C (.v i) (full ρ)=a_ (d,d_)):bH C [(.ret (.tup [(.con (.str w)),(.v i)]))] ρ=a_ (.rt (.tup [.str w,d]) c_):=by
 refine eD (lA ?_);simp only[lC,fB,gZ,ja,h,ao,aC,qM,hi,bY,dR,bO,aQ,cB,dP,cR,if_true]
 try rfl
noncomputable def vH:List Sx:=[(.ifs (.not (.call 19 [(.ix (.v 0) (.v 3))])) [(.ret (.tup [(.f_ "form"),(.v 3)]))] [])]
def NJ{C:Fs}{fs:List Fm}{Mq G:Dat}{z4 z5:g_}{k:Nat}(hk:k<fs.length)(h:∀f∈fs,C 19 [bE f]=a_ (.bl (Dk f),d_)):bH C vH (E3 fs Mq G z4 z5 (a_ (.int (k:Nat),d_)))=a_ (Vz (λk=>.tup [.str "form",.int (k:Nat)]) (E3 fs Mq G z4 z5 (a_ (.int (k:Nat),d_))) k (lW (fs.getD k ([],[],[])))):=by
 have hg:fs[k]?=a_ fs[k]:=au hk;have e:fs.getD k ([],[],[])=fs[k]:=by rw[bX,hg];rfl
 rw[e];have hc:=h fs[k] (cm hk);have i1:kO (fs.map bE) (k:Int)=a_ (bE fs[k]):=g9 (by rw[aW,hg];rfl);generalize fs[k]=f at hc i1
 have hv:bw C (.not (.call 19 [(.ix (.v 0) (.v 3))])) (full (E3 fs Mq G z4 z5 (a_ (.int (k:Nat),d_))))=a_ (.bl (lW f),d_):=by
  unfold lW;generalize Dk f=a at hc ⊢;unfold E3;generalize fs.map bE=FS at i1 ⊢;generalize bE f=d at hc i1;clear h hg e hk;cases a<;>walk_at "py"
 unfold vH;show(fH C (.ifs _ _ _) _).bind _=_;cases q:lW f
 ·rw[q]at hv;rw[eT (d:=.bl d_) (fr:=d_) hv rfl];rfl
 ·rw[q]at hv;rw[fR (d:=.bl c_) (fr:=d_) hv rfl,P8 C _ _ 3 (d:=.int (k:Nat)) rfl rfl];rfl
def Dz{α:Type}{xs:List α}{k:Nat}(h:k<=xs.length):cutD xs b_ (a_ (k:Int))=xs.take k:=by
 rw[Na (by omega) (by omega),eN]
noncomputable def vG:List Sx:=[(.ifs (.cmp .isin (.sl (.ix (.v 0) (.v 3)) b_ (a_ (.e_ 2))) (.comp 1 c_ [] (.itv (.sl (.v 0) b_ (a_ (.v 3)))) [] (.sl (.v 0) b_ (a_ (.e_ 2))))) [(.ret (.tup [(.f_ "twice"),(.v 3)]))] [])]
def RT{C:Fs}{fs:List Fm}{ρ:eM}{it:Ex}{fr:Bool}(hv:bw C it ρ=a_ (.lst (fs.map bE),fr))(hl:fs.length<=1000):bw C (.comp 1 c_ [] (.itv it) [] (.sl (.v 0) b_ (a_ (.e_ 2)))) ρ=a_ (.lst (fs.map uU),c_):=by
 refine eY (items:=fs.map bE) (by show(bw C it ρ).bind _=_;rw[hv];rfl) (by rw[ak];omega) ?_;have:=gf (f:=gD C 1 c_ (dS 1 [] ρ) [] (.sl (.v 0) b_ (a_ (.e_ 2)))) (g:=λd=>match d with | .tup [a,b,_]=>.tup [a,b]|_=>.non) (ds:=fs.map bE) ?_ ?_
 ·rw[this,br];rfl
 ·intro d hd;obtain⟨f,_,rfl⟩:=aG.mp hd;refine⟨d_,?_⟩;rw[fu];rfl
 ·intro d hd;obtain⟨f,_,rfl⟩:=aG.mp hd;show(c_ && (je (f.2.1.map Dat.int) && c_))=c_;rw[cA];rfl
def NI{C:Fs}{fs:List Fm}{Mq G:Dat}{z4 z5:g_}{k:Nat}(hk:k<fs.length)(hl:fs.length<=1000):bH C vG (E3 fs Mq G z4 z5 (a_ (.int (k:Nat),d_)))=a_ (Vz (λk=>.tup [.str "twice",.int (k:Nat)]) (E3 fs Mq G z4 z5 (a_ (.int (k:Nat),d_))) k (decide (ent (fs.getD k ([],[],[]))∈([]++fs.take k).map ent))):=by
 have hg:fs[k]?=a_ fs[k]:=au hk;have e:fs.getD k ([],[],[])=fs[k]:=by rw[bX,hg];rfl
 rw[e,ck];have i1:kO (fs.map bE) (k:Int)=a_ (bE fs[k]):=g9 (by rw[aW,hg];rfl)
 have hs:bw C (.sl (.v 0) b_ (a_ (.v 3))) (full (E3 fs Mq G z4 z5 (a_ (.int (k:Nat),d_))))=a_ (.lst ((fs.take k).map bE),je (cutD (fs.map bE) b_ (a_ (k:Int)))):=by
  show a_ (Dat.lst (cutD (fs.map bE) b_ (a_ (k:Int))),_)=_;rw[Dz (by rw[ak];omega),x9]
 have hc:=RT (C:=C) hs (by rw[iw];omega)
 have hf:bw C (.sl (.ix (.v 0) (.v 3)) b_ (a_ (.e_ 2))) (full (E3 fs Mq G z4 z5 (a_ (.int (k:Nat),d_))))=a_ (uU fs[k],d_):=by
  show((EH (.lst (fs.map bE)) (.int (k:Nat))).map λd=>(d,d_)).bind (λx=>Of x.1 b_ (a_ 2))=_;rw[vL,i1];rfl
 have hi:=Iv fs[k] (fs.take k)
 have hv:bw C (.cmp .isin (.sl (.ix (.v 0) (.v 3)) b_ (a_ (.e_ 2))) (.comp 1 c_ [] (.itv (.sl (.v 0) b_ (a_ (.v 3)))) [] (.sl (.v 0) b_ (a_ (.e_ 2))))) (full (E3 fs Mq G z4 z5 (a_ (.int (k:Nat),d_))))=a_ (.bl (decide (ent fs[k]∈(fs.take k).map ent)),d_):=by
  rw[xD,hf];show(bw C (.comp _ _ _ _ _ _) _).bind _=_;rw[hc];show(eV .isin (uU fs[k]) (.lst ((fs.take k).map uU))).map _=_;rw[hi];rfl
 unfold vG;show(fH C (.ifs _ _ _) _).bind _=_;cases q:decide (ent fs[k]∈(fs.take k).map ent)
 ·rw[q]at hv;rw[eT (d:=.bl d_) (fr:=d_) hv rfl];rfl
 ·rw[q]at hv;rw[fR (d:=.bl c_) (fr:=d_) hv rfl,P8 C _ _ 3 (d:=.int (k:Nat)) rfl rfl];rfl
abbrev E5(fs:List Fm)(Mq G:Dat)(z3 z5:g_):bQ:=[a_ (.lst (fs.map bE),d_),a_ (Mq,d_),a_ (G,d_),z3,a_ (.non,d_),z5]
def tN:List Sx:=[(.ifs (.and (.blt .any [(.comp 1 c_ [5] (.itv (.v 0)) [] (.cmp .isin (.v 1) (.ix (.v 0) (.e_ 0))))]) (.not (.call 18 [(.v 0),(.v 5)]))) [(.ret (.tup [(.f_ "letter"),(.v 5)]))] [])]
def Nd{C:Fs}{fs:List Fm}{Mq G:Dat}{z3:g_}{c:Nat}(hl:fs.length<=1000):bw C (.comp 1 c_ [5] (.itv (.v 0)) [] (.cmp .isin (.v 1) (.ix (.v 0) (.e_ 0)))) (full (E5 fs Mq G z3 (a_ (sT [c],d_))))=a_ (.lst (fs.map λf=>.bl (decide (c∈f.1))),c_):=by
 refine eY (items:=fs.map bE) rfl (by rw[ak];omega) ?_;have:=gf (f:=gD C 1 c_ (dS 1 [5] (full (E5 fs Mq G z3 (a_ (sT [c],d_))))) [] (.cmp .isin (.v 1) (.ix (.v 0) (.e_ 0)))) (g:=λd=>match d with | .tup [.str x,_,_]=>.bl (decide (c∈x.cps.toList))|_=>.non) (ds:=fs.map bE) ?_ ?_
 ·rw[this,br];rfl
 ·intro d hd;obtain⟨f,_,rfl⟩:=aG.mp hd;refine⟨d_,?_⟩;rw[fu];have e:=Iy (c:=c) (l:=f.1);show((eV .isin (.str (T [c])) (.str (T f.1))).map λb=>(Dat.bl b,d_)).map a_=_;rw[e];rfl
 ·intro d hd;obtain⟨f,_,rfl⟩:=aG.mp hd;rfl
def JC(fs:List Fm)(c:Nat):(fs.any λf=>decide (c∈f.1))=decide (c∈lets fs):=by
 rw[dD,iA,decide_eq_true_eq];unfold lets;rw[JT];constructor
 ·rintro⟨f,h1,h2⟩;exact⟨f.1,aG.mpr ⟨f,h1,rfl⟩,of_decide_eq_true h2⟩
 ·rintro⟨l,h1,h2⟩;obtain⟨f,h3,rfl⟩:=aG.mp h1;exact⟨f,h3,decide_eq_true h2⟩
def NH{C:Fs}{fs:List Fm}{Mq G:Dat}{z3:g_}{c:Nat}(hl:fs.length<=1000)(ho:C 18 [.lst (fs.map bE),sT [c]]=a_ (.bl (decide ([c]∈alone fs)),d_)):bH C tN (E5 fs Mq G z3 (a_ (sT [c],d_)))=a_ (Vz (λc=>.tup [.str "letter",sT [c]]) (E5 fs Mq G z3 (a_ (sT [c],d_))) c (Bu fs c)):=by
 have h1:=Nd (C:=C) (Mq:=Mq) (G:=G) (z3:=z3) (c:=c) hl;have h2:=B2 (λf:Fm=>decide (c∈f.1)) fs;rw[JC]at h2
 have hv:bw C (.and (.blt .any [(.comp 1 c_ [5] (.itv (.v 0)) [] (.cmp .isin (.v 1) (.ix (.v 0) (.e_ 0))))]) (.not (.call 18 [(.v 0),(.v 5)]))) (full (E5 fs Mq G z3 (a_ (sT [c],d_))))=a_ (.bl (Bu fs c),d_):=by
  unfold Bu;generalize decide (c∈lets fs)=a at h2 ⊢;generalize decide ([c]∈alone fs)=b at ho ⊢;generalize (fs.map λf=>Dat.bl (decide (c∈f.1)))=W at h1 h2;generalize (Ex.comp 1 c_ [5] (.itv (.v 0)) [] (.cmp .isin (.v 1) (.ix (.v 0) (.e_ 0))))=ce at h1 ⊢;unfold E5 at h1 ⊢;generalize fs.map bE=FS at h1 ho ⊢;generalize sT [c]=s at h1 ho ⊢;have h1:bw C ce [a_ (.lst FS),a_ Mq,a_ G,z3.map (·.1),a_ .non,a_ s]=a_ (.lst W,c_):=h1;clear hl;cases a<;>cases b<;>walk_at "py"
 unfold tN;show(fH C (.ifs _ _ _) _).bind _=_;cases q:Bu fs c
 ·rw[q]at hv;rw[eT (d:=.bl d_) (fr:=d_) hv rfl];rfl
 ·rw[q]at hv;rw[fR (d:=.bl c_) (fr:=d_) hv rfl,P8 C _ _ 5 (d:=sT [c]) rfl rfl];rfl
def EO:Option (Nat×aN×Dat)->Dat
 |some (c,_,d)=>.tup [.str (Xs c),d]
 |none=>.non
def Ic:Ex:=(.or (.cmp .eq (.blt .len [(.v 0)]) (.e_ 0)) (.cmp .gt (.blt .len [(.v 0)]) (.e_ 24)))
def CC{C:Fs}{fs:List Fm}{ρ:bQ}{body:List Sx}(hl:fs.length<=1000)(h:bw C (.v 0) (full ρ)=a_ (.lst (fs.map bE),d_)):fH C (.loop c_ [3] (.rng [.blt .len [.v 0]]) body) ρ=eL (eF c_ [3]) (bH C body) ((aR fs.length).map λk:Nat=>Dat.int (k:Nat)) ρ:=by
 have e:xF C (.rng [.blt .len [.v 0]]) (full ρ)=a_ ((aR fs.length).map λk:Nat=>Dat.int (k:Nat)):=by
  show(hZ C [.blt .len [.v 0]] (full ρ)).bind Eh=_
  have e1:hZ C [.blt .len [.v 0]] (full ρ)=a_ [.int (fs.length:Nat)]:=by
   have e2:bw C (.blt .len [.v 0]) (full ρ)=a_ (.int (fs.length:Nat),d_):=by
    show(hZ C [.v 0] (full ρ)).bind _=_;simp only[eU,gm,h,ao,aC];show a_ (Dat.int ((fs.map bE).length:Nat),d_)=_;rw[ak]
   simp only[eU,gm,e2,ao,aC]
  rw[e1];exact nY (by omega)
 show((xF C (.rng [.blt .len [.v 0]]) (full ρ)).map _).bind _=_;rw[e];rfl
def Lo{n:Nat}{fs:List Fm}{m0 m1 m2 m3 fg:List Int}(hw:∀f∈fs,wF f)(hl:fs.length<=100)(hm:∀m∈[m0,m1,m2,m3,fg],m.length<=1000):∃fr,Cn D (n+2) 21 [.lst (fs.map bE),.tup [tI m0,tI m1,tI m2,tI m3],tI fg]=a_ (EO (sg fs m0 m1 m2 m3 fg),fr):=by
 have fin:∀{d:Dat}{fr:Bool},bH (Cn D (n+1)) Vj [a_ (.lst (fs.map bE),d_),a_ (.tup [tI m0,tI m1,tI m2,tI m3],d_),a_ (tI fg,d_),b_,b_,b_]=a_ (.rt d fr)->Cn D (n+2) 21 [.lst (fs.map bE),.tup [tI m0,tI m1,tI m2,tI m3],tI fg]=a_ (d,fr):=λe=>cn (d:=XD) rfl (fi (C:=Cn D (n+1)) (np:=3) (nl:=6) (body:=Vj) rfl e);have c1:=λf(hf:f∈fs)=>Ln (n:=n) (hw f hf);obtain⟨fm,c2⟩:=PY (n:=n) hm;have c3:=λc=>Ll (n:=n) (fs:=fs) (c:=c);generalize Cn D (n+1)=C at fin c1 c2 c3;generalize hM:Dat.tup [tI m0,tI m1,tI m2,tI m3]=Mq at fin c2 ⊢;generalize hG:tI fg=G at fin c2 ⊢;have hb:Vj=.ifs Ic [(.ret (.tup [(.f_ "form"),(.ix (.lst [(.e_ 0),(.e_ 24)]) (.blt .int [(.cmp .gt (.blt .len [(.v 0)]) (.e_ 0))]))]))] []::.loop c_ [3] (.rng [.blt .len [.v 0]]) vH::.loop c_ [3] (.rng [.blt .len [.v 0]]) vG::.set 4 (.call 20 [.v 1,.v 2])::.ifs (.cmp .isn (.v 4) (.con .non)) [.loop c_ [5] (.itv (.f_ "abcdefghijklmnopqrstuvwxyz")) tN] []::[.tu 4]:=rfl
 have el:dw .len [.lst (fs.map bE)]=a_ (.int (fs.length:Nat),d_):=by
  show a_ (Dat.int ((fs.map bE).length:Nat),d_)=_;rw[ak]
 obtain⟨y1,l1⟩:=si (C:=C) (body:=vH) (t:=3) (E:=E3 fs Mq G b_ b_) (V:=λk:Nat=>Dat.int (k:Nat)) (λ_ _=>rfl) (aR fs.length) b_ λk hk=>NJ (bW.mp hk) c1;obtain⟨y2,l2⟩:=si (C:=C) (body:=vG) (t:=3) (E:=E3 fs Mq G b_ b_) (V:=λk:Nat=>Dat.int (k:Nat)) (λ_ _=>rfl) (aR fs.length) y1 λk hk=>NI (bW.mp hk) (by omega);rw[Dt lW ([],[],[])]at l1;rw[Ds fs []]at l2;have l1':=(CC (C:=C) (ρ:=E3 fs Mq G b_ b_ b_) (body:=vH) (by omega) rfl).trans l1;have l2':=(CC (C:=C) (ρ:=E3 fs Mq G b_ b_ y1) (body:=vG) (by omega) rfl).trans l2;by_cases h0:fs.length=0
 ·have hfs:fs=[]:=mG.mp h0;subst hfs;exact⟨c_,fin rfl⟩
 have p0:decide ((0:Int)<(fs.length:Int))=c_:=decide_eq_true (by omega);have p1:((fs.length:Int) == 0)=d_:=beq_false_of_ne (by omega);have hmk:∀{x:Nat×aN×Dat},jc fs=a_ x->sg fs m0 m1 m2 m3 fg=a_ x:=λh=>by unfold sg;rw[h]
 by_cases h1:24<fs.length
 ·have p2:decide ((24:Int)<(fs.length:Int))=c_:=decide_eq_true (by omega);have hc:jc fs=a_ (cF,("number":aN),Dat.int 24):=by unfold jc;rw[if_neg h0,if_pos h1]
  refine⟨c_,fin ?_⟩;rw[hb,hmk hc];have hi:dw .int [.bl c_]=a_ (.int 1,d_):=rfl;have ha:kO [Dat.int 0,Dat.int 24] 1=a_ (.int 24):=rfl
  have r1:bw C Ic [a_ (.lst (fs.map bE)),a_ Mq,a_ G,b_,b_,b_]=a_ (.bl c_,d_):=by
   unfold Ic;generalize fs.map bE=FS at el ⊢;clear hM hG fin c1 c2 c3 hb l1 l2 l1' l2' hmk hc h0 h1 hw hl hm;walk_at "py"
  have r2:bH C [(.ret (.tup [(.f_ "form"),(.ix (.lst [(.e_ 0),(.e_ 24)]) (.blt .int [(.cmp .gt (.blt .len [(.v 0)]) (.e_ 0))]))]))] [a_ (.lst (fs.map bE),d_),a_ (Mq,d_),a_ (G,d_),b_,b_,b_]=a_ (.rt (.tup [.str "form",.int 24]) c_):=by
   generalize fs.map bE=FS at el ⊢;clear hM hG fin c1 c2 c3 hb l1 l2 l1' l2' hmk hc h0 h1 hw hl hm r1;walk_at "py"
  refine eD ?_;rw[fR (d:=.bl c_) (fr:=d_) r1 rfl,r2];rfl
 have p2:decide ((24:Int)<(fs.length:Int))=d_:=decide_eq_false (by omega)
 have r1:bw C Ic [a_ (.lst (fs.map bE)),a_ Mq,a_ G,b_,b_,b_]=a_ (.bl d_,d_):=by
  unfold Ic;generalize fs.map bE=FS at el ⊢;clear hM hG fin c1 c2 c3 hb l1 l2 l1' l2' hmk h0 h1 hw hl hm;walk_at "py"
 have st:bH C Vj [a_ (.lst (fs.map bE),d_),a_ (Mq,d_),a_ (G,d_),b_,b_,b_]=bH C (.loop c_ [3] (.rng [.blt .len [.v 0]]) vH::.loop c_ [3] (.rng [.blt .len [.v 0]]) vG::.set 4 (.call 20 [.v 1,.v 2])::.ifs (.cmp .isn (.v 4) (.con .non)) [.loop c_ [5] (.itv (.f_ "abcdefghijklmnopqrstuvwxyz")) tN] []::[.tu 4]) (E3 fs Mq G b_ b_ b_):=by
  rw[hb];exact bf (by rw[eT (d:=.bl d_) (fr:=d_) r1 rfl];rfl)
 have hcf:jc fs=(fs.findIdx? lW).map λj=>(cF,("number":aN),Dat.int (j:Nat)):=by unfold jc;rw[if_neg h0,if_neg h1]
 cases q1:fs.findIdx? lW with
 |some j=>
   rw[q1]at l1' hcf;refine⟨c_,fin ?_⟩;rw[st,hmk hcf];exact eD l1'
 |none=>
   rw[q1]at l1' hcf;have hcf:jc fs=b_:=hcf
   cases q2:D4 [] fs with
   |some j=>
     rw[q2]at l2';refine⟨c_,fin ?_⟩;have:sg fs m0 m1 m2 m3 fg=a_ (cT,("number":aN),Dat.int (j:Nat)):=by unfold sg pb;rw[hcf,q2];rfl
     rw[st,this,bf l1'];exact eD l2'
   |none=>
     rw[q2]at l2'
     have h3:∀{x:Option Nat},JY m0 m1 m2 m3 fg=x->sg fs m0 m1 m2 m3 fg=match x with|some j=>a_ (cM,("number":aN),Dat.int (j:Nat))|none=>rK fs:=λ{x}hx=>by
      unfold sg pb qV;rw[hcf,q2,hx];cases x<;>rfl
     have hset:∀(d:Dat),im d=c_->C 20 [Mq,G]=a_ (d,fm)->fH C (.set 4 (.call 20 [.v 1,.v 2])) (E3 fs Mq G b_ b_ y2)=a_ (.nx [a_ (.lst (fs.map bE),d_),a_ (Mq,d_),a_ (G,d_),y2,a_ (d,d_),b_]):=λd hd hc=>by
      have e1:bw C (.call 20 [.v 1,.v 2]) (full (E3 fs Mq G b_ b_ y2))=a_ (d,fm):=by rw[cy];exact hc
      show(ou C (.call 20 [.v 1,.v 2]) (E3 fs Mq G b_ b_ y2)).map _=_;rw[o6 e1 (by rw[hd];rfl)];show a_ (Out.nx [_,_,_,_,a_ (d,fm && !im d),_])=_;rw[hd,fL,jk]
     cases q3:JY m0 m1 m2 m3 fg with
     |some j=>
       rw[q3]at c2;refine⟨d_,fin ?_⟩;rw[st,h3 q3,bf l1',bf l2',bf (hset _ rfl c2)];rfl
     |none=>
       rw[q3]at c2;obtain⟨y3,l3⟩:=si (C:=C) (body:=tN) (t:=5) (E:=E5 fs Mq G y2) (V:=λc:Nat=>sT [c]) (λ_ _=>rfl) dW b_ λc _=>NH (by omega) (c3 c)
       have l3':fH C (.loop c_ [5] (.itv (.con (.str (T dW)))) tN) (E5 fs Mq G y2 b_)=a_ (xk (λc=>.tup [.str "letter",sT [c]]) (E5 fs Mq G y2 y3) (dW.find? (Bu fs))):=by
        rw[<-l3];rfl
       rw[<-VH]at l3'
       have l4:fH C (.ifs (.cmp .isn (.v 4) (.con .non)) [.loop c_ [5] (.itv (.f_ "abcdefghijklmnopqrstuvwxyz")) tN] []) (E5 fs Mq G y2 b_)=a_ (xk (λc=>.tup [.str "letter",sT [c]]) (E5 fs Mq G y2 y3) (dW.find? (Bu fs))):=by
        rw[fR (d:=.bl c_) (fr:=d_) rfl rfl];show(fH C (.loop _ _ _ _) _).bind _=_;rw[l3'];cases dW.find? (Bu fs)<;>rfl
       have hL:sg fs m0 m1 m2 m3 fg=rK fs:=h3 q3;unfold rK at hL
       cases q4:dW.find? (Bu fs)with
       |some c=>
         rw[q4]at l4 hL;refine⟨c_,fin ?_⟩;rw[st,hL,bf l1',bf l2',bf (hset _ rfl c2)];exact eD l4
       |none=>
         rw[q4]at l4 hL;refine⟨d_,fin ?_⟩;rw[st,hL,bf l1',bf l2',bf (hset _ rfl c2)];exact(bf l4).trans rfl
def tD{fs:List Fm}{m0 m1 m2 m3 fg:List Int}:Xq (sg fs m0 m1 m2 m3 fg):=by
 unfold sg
 cases q1:jc fs with
 |some x=>
   unfold jc at q1;split at q1
   ·cases q1;exact .inl ⟨.inl rfl,rfl,0,rfl⟩
   split at q1
   ·cases q1;exact .inl ⟨.inl rfl,rfl,24,rfl⟩
   ·obtain⟨j,_,rfl⟩:=dJ q1;exact .inl ⟨.inl rfl,rfl,j,rfl⟩
 |none=>
   cases q2:pb fs with
   |some x=>
     obtain⟨j,_,rfl⟩:=dJ q2;exact .inl ⟨.inr (.inl rfl),rfl,j,rfl⟩
   |none=>
     cases q3:qV m0 m1 m2 m3 fg with
     |some x=>
       obtain⟨j,_,rfl⟩:=dJ q3;exact .inl ⟨.inr (.inr rfl),rfl,j,rfl⟩
     |none=>
       cases q4:rK fs with
       |none=>trivial
       |some x=>
         obtain⟨c,_,rfl⟩:=dJ q4;exact .inr ⟨rfl,rfl,c,rfl⟩
def qB(cs:List Int)(h:cs.length<=1000):Pl 1 (tI cs):=.tup (λd hd=>by obtain⟨c,_,rfl⟩:=aG.mp hd;exact .int c) (by rw[ak];exact h)
def oH{k:Nat}{d:Dat}(h:Pl k d):Pl (k+1) d:=by
 induction h with
 |int i=>exact .int i
 |str x=>exact .str x
 |tup h hl ih=>exact .tup ih hl
 |lst h hl ih=>exact .lst ih hl
def Om{f:Fm}(h:wF f):Pl 2 (bE f):=.tup (λd hd=>by
 simp only[ah,aS,or_false]at hd
 rcases hd with rfl|rfl|rfl
 ·exact .str _
 ·exact qB _ (by have:=h.c;omega)
 ·exact .str _) (by simp)
def Qj{fs:List Fm}{m0 m1 m2 m3 fg:List Int}(hw:∀f∈fs,wF f)(hl:fs.length<=1000)(hm:∀m∈[m0,m1,m2,m3,fg],m.length<=1000):Pl 4 (ml fs m0 m1 m2 m3 fg):=.tup (λd hd=>by
 simp only[ah,aS,or_false]at hd
 rcases hd with rfl|rfl|rfl
 ·exact .tup (λd hd=>by obtain⟨f,hf,rfl⟩:=aG.mp hd;exact Om (hw f hf)) (by rw[ak];exact hl)
 ·exact .tup (λd hd=>by
   simp only[ah,aS,or_false]at hd
   rcases hd with rfl|rfl|rfl|rfl
   ·exact oH (qB _ (hm _ (by simp)))
   ·exact oH (qB _ (hm _ (by simp)))
   ·exact oH (qB _ (hm _ (by simp)))
   ·exact oH (qB _ (hm _ (by simp)))) (by simp)
 ·exact oH (oH (qB _ (hm _ (by simp))))) (by simp)
def LD{fs:List Fm}{m0 m1 m2 m3 fg:List Int}(hw:∀f∈fs,wF f)(hl:fs.length<=1000)(hm:∀m∈[m0,m1,m2,m3,fg],m.length<=1000):Pl 5 (Cg (ml fs m0 m1 m2 m3 fg) (sg fs m0 m1 m2 m3 fg)):=by
 have hq:=tD (fs:=fs) (m0:=m0) (m1:=m1) (m2:=m2) (m3:=m3) (fg:=fg)
 cases q:sg fs m0 m1 m2 m3 fg with
 |none=>
   exact .tup (λd hd=>by
    simp only[ah,aS,or_false]at hd
    rcases hd with rfl|rfl
    ·exact .str _
    ·exact Qj hw hl hm) (by simp)
 |some x=>
   obtain⟨c,f,d⟩:=x;rw[q]at hq
   have hd':Pl 4 d:=by
    rcases hq with⟨_,_,j,rfl⟩|⟨_,_,a,rfl⟩
    ·exact .int _
    ·exact .str _
   exact .tup (λe he=>by
    simp only[ah,aS,or_false]at he
    rcases he with rfl|rfl
    ·exact .str _
    ·exact hd') (by simp)
def ip{C:Fs}{i:Nat}{e:Ex}{ρ:bQ}{d:Dat}{f:Bool}(h:bw C e (full ρ)=a_ (d,f))(hd:im d=c_):fH C (.set i e) ρ=a_ (.nx (ρ.set i (a_ (d,d_)))):=by
 show(ou C e ρ).map _=_;rw[o6 h (by rw[hd];rfl)];show a_ (Out.nx (ρ.set i (a_ (d,f && !im d))))=_;rw[hd,fL,jk]
def rQ(ms:List (List Int)):Dat:=.tup (ms.map tI)
def vP(ms:List (List Int)):im (rQ ms)=c_:=by
 show je (ms.map tI)=c_
 induction ms with
 |nil=>rfl
 |cons m r ih=>
   rw[aw];show(je (m.map Dat.int) && je (r.map tI))=c_;rw[cA,ih];rfl
abbrev Qg(y:Ex):Ex:=(.bin .add (.bin .add (.sl (.v 2) b_ (a_ (.v 5))) (.tup [y])) (.sl (.v 2) (a_ (.bin .add (.v 5) (.e_ 1))) b_))
def Lk{C:Fs}{m0 m1 m2 m3 y:List Int}{X0 X1 X3 X4:Option Dat}{z:Option Dat}{ye:Ex}{f:Bool}{a:Nat}(ha:a<4)(hy:bw C ye [X0,X1,a_ (rQ [m0,m1,m2,m3]),X3,X4,a_ (.int (a:Nat)),z]=a_ (tI y,f)):bw C (Qg ye) [X0,X1,a_ (rQ [m0,m1,m2,m3]),X3,X4,a_ (.int (a:Nat)),z]=a_ (rQ ([m0,m1,m2,m3].set a y),d_):=by
 have ht:bw C (.tup [ye]) [X0,X1,a_ (rQ [m0,m1,m2,m3]),X3,X4,a_ (.int (a:Nat)),z]=a_ (.tup [tI y],c_):=by
  simp only[lC,fB,gZ,hy,ao,aC,lR,dR,bY,bO,aQ,cB,dP,cR,if_true]
  try rfl
 unfold Qg;rw[jb,jb,ht];have:a=0\/a=1\/a=2\/a=3:=by omega
 rcases this with rfl|rfl|rfl|rfl<;>rfl
abbrev Zm(N:Dat)(k:Int)(w a:Nat)(ms:List (List Int))(fg:List Int)(z:g_):bQ:=[a_ (N,d_),a_ (.int k,d_),a_ (rQ ms,d_),a_ (tI fg,d_),a_ (.int (w:Nat),d_),a_ (.int (a:Nat),d_),z]
section
variable{C:Fs}{N:Dat}{k:Int}{w a:Nat}{ms ms':List (List Int)}{fg fg':List Int}{z z':g_}{i:Int}{B R:List Sx}
def dA(h:((w:Int) == i)=d_):bH C (.ifs (.cmp .eq (.v 4) (.con (.int i))) B []::R) (Zm N k w a ms fg z)=bH C R (Zm N k w a ms fg z):=by
 refine bf ?_;rw[eT (d:=.bl ((w:Int) == i)) (fr:=d_) rfl (by rw[h];rfl)];rfl
def sN(h:((w:Int) == i)=c_)(hB:bH C B (Zm N k w a ms fg z)=a_ (.nx (Zm N k w a ms' fg' z'))):bH C (.ifs (.cmp .eq (.v 4) (.con (.int i))) B []::R) (Zm N k w a ms fg z)=bH C R (Zm N k w a ms' fg' z'):=by
 refine bf ?_;rw[fR (d:=.bl ((w:Int) == i)) (fr:=d_) rfl (by rw[h];rfl)];exact hB
end
def Wp:List Sx:=S8.drop 2
def Lj{C:Fs}{ns:List Int}{k:Int}(hd:kR C 11 ns)(hk:0<=k/\k<=10000){w a:Nat}(hw:w<7)(ha:a<4){m0 m1 m2 m3 fg:List Int} :
  ∃ms' fg' z',bH C Wp (Zm (.lst (ns.map Dat.int)) k w a [m0,m1,m2,m3] fg b_)=bH C [.ret (.tup [.v 2,.v 3])] (Zm (.lst (ns.map Dat.int)) k w a ms' fg' z')/\ms'.length=4/\(∀m∈fg'::ms',m.length<=11\/m∈[m0,m1,m2,m3,fg]):=by
 have hset:∀(y:List Int),y.length<=11->∀m∈fg::[m0,m1,m2,m3].set a y,m.length<=11\/m∈[m0,m1,m2,m3,fg]:=λy hy m hm=>by
  rcases ah.mp hm with rfl|hm
  ·exact .inr (by simp)
  ·rcases List.mem_or_eq_of_mem_set hm with h|rfl
   ·exact .inr (by simp only[ah,aS,or_false]at h ⊢;rcases h with rfl|rfl|rfl|rfl<;>simp)
   ·exact .inl hy
 have hsame:∀(y:List Int),y.length<=11->∀m∈y::[m0,m1,m2,m3],m.length<=11\/m∈[m0,m1,m2,m3,fg]:=λy hy m hm=>by
  rcases ah.mp hm with rfl|hm
  ·exact .inl hy
  ·exact .inr (by simp only[ah,aS,or_false]at hm ⊢;rcases hm with rfl|rfl|rfl|rfl<;>simp)
 have put:∀(ye:Ex)(y:List Int)(f:Bool)(z:g_),bw C ye (full (Zm (.lst (ns.map Dat.int)) k w a [m0,m1,m2,m3] fg z))=a_ (tI y,f)->bH C [.set 2 (Qg ye)] (Zm (.lst (ns.map Dat.int)) k w a [m0,m1,m2,m3] fg z)=a_ (.nx (Zm (.lst (ns.map Dat.int)) k w a ([m0,m1,m2,m3].set a y) fg z)):=λye y f z hy=>qE (ip (Lk ha hy) (vP _));obtain⟨d,e,b⟩:=ki (ns:=ns) (k:=k+2) (m:=4) (by omega);have r:=hd (k+2) 4 (by omega) (by omega);rw[e]at r
 have hc:∀(ms:List (List Int))(z:g_),bw C (.call 11 [(.v 0),(.bin .add (.v 1) (.e_ 2)),(.e_ 4)]) (full (Zm (.lst (ns.map Dat.int)) k w a ms fg z))=a_ (.int (d:Nat),d_):=λms z=>by
  rw[cy];exact r
 have hd4:d=0\/d=1\/d=2\/d=3:=by omega
 unfold Wp S8;simp only[dU,eC];have hw7:w=0\/w=1\/w=2\/w=3\/w=4\/w=5\/w=6:=by omega
 have fgs:∀(ye:Ex)(y:List Int)(f:Bool),bw C ye (full (Zm (.lst (ns.map Dat.int)) k w a [m0,m1,m2,m3] fg b_))=a_ (tI y,f)->bH C [.set 3 ye] (Zm (.lst (ns.map Dat.int)) k w a [m0,m1,m2,m3] fg b_)=a_ (.nx (Zm (.lst (ns.map Dat.int)) k w a [m0,m1,m2,m3] y b_)):=λye y f hy=>qE (ip hy (lR _))
 have ixe:∀(L ce:Ex)(ds:List Dat)(f:Bool),bw C L (full (Zm (.lst (ns.map Dat.int)) k w a [m0,m1,m2,m3] fg b_))=a_ (.lst ds,f)->bw C ce (full (Zm (.lst (ns.map Dat.int)) k w a [m0,m1,m2,m3] fg b_))=a_ (.int (d:Nat),d_)->∀v,ds[d]?=a_ v->bw C (.ix L ce) (full (Zm (.lst (ns.map Dat.int)) k w a [m0,m1,m2,m3] fg b_))=a_ (v,d_):=λL ce ds f hL hce v hv=>by
  rw[rF,hL];show(bw C ce _).bind _=_;rw[hce];show(EH (.lst ds) (.int (d:Nat))).map _=_;rw[vL,g9 hv];rfl
 rcases hw7 with rfl|rfl|rfl|rfl|rfl|rfl|rfl
 ·refine⟨_,_,b_,?_,?_,hset [1,2,3] (by simp)⟩
  ·rw[sN rfl (put (.tup [.e_ 1,.e_ 2,.e_ 3]) [1,2,3] c_ b_ rfl),dA rfl,dA rfl,dA rfl,dA rfl,dA rfl,dA rfl]
  ·simp
 ·have hv:∃y:List Int,y.length<=11/\([tI [0],tI [64],tI [5,-1],tI [100000000000000000000,1]]:List Dat)[d]?=a_ (tI y):=by
   rcases hd4 with rfl|rfl|rfl|rfl
   ·exact⟨[0],by simp,rfl⟩
   ·exact⟨[64],by simp,rfl⟩
   ·exact⟨[5,-1],by simp,rfl⟩
   ·exact⟨[100000000000000000000,1],by simp,rfl⟩
  obtain⟨y,hy,hv⟩:=hv;have h6:=ixe (.lst [(.tup [(.e_ 0)]),(.tup [(.e_ 64)]),(.tup [(.e_ 5),(.neg (.e_ 1))]),(.tup [(.bin .pow (.e_ 10) (.e_ 20)),(.e_ 1)])]) _ _ c_ rfl (hc _ b_) _ hv;refine⟨_,_,a_ (tI y,d_),?_,?_,hset y hy⟩
  ·rw[dA rfl,sN rfl ((bf (ip h6 (lR _))).trans (put (.v 6) y d_ (a_ (tI y,d_)) rfl)),dA rfl,dA rfl,dA rfl,dA rfl,dA rfl]
  ·simp
 ·refine⟨_,_,b_,?_,?_,hset [] (by simp)⟩
  ·rw[dA rfl,dA rfl,sN rfl (put (.tup []) [] c_ b_ rfl),dA rfl,dA rfl,dA rfl,dA rfl]
  ·simp
 ·refine⟨_,_,b_,?_,?_,hset [7] (by simp)⟩
  ·rw[dA rfl,dA rfl,dA rfl,sN rfl (put (.tup [.e_ 7]) [7] c_ b_ rfl),dA rfl,dA rfl,dA rfl]
  ·simp
 ·refine⟨_,_,b_,?_,?_,hsame [1,2,3,4,5,6,7,8,9,10,11] (by simp)⟩
  ·rw[dA rfl,dA rfl,dA rfl,dA rfl,sN rfl (fgs _ [1,2,3,4,5,6,7,8,9,10,11] d_ rfl),dA rfl,dA rfl]
  ·simp
 ·have hv:∃y:List Int,y.length<=11/\([tI [],tI [3],tI [0,3],tI [64]]:List Dat)[d]?=a_ (tI y):=by
   rcases hd4 with rfl|rfl|rfl|rfl
   ·exact⟨[],by simp,rfl⟩
   ·exact⟨[3],by simp,rfl⟩
   ·exact⟨[0,3],by simp,rfl⟩
   ·exact⟨[64],by simp,rfl⟩
  obtain⟨y,hy,hv⟩:=hv;have h6:=ixe (.lst [(.tup []),(.tup [(.e_ 3)]),(.tup [(.e_ 0),(.e_ 3)]),(.tup [(.e_ 64)])]) _ _ c_ rfl (hc _ b_) _ hv;refine⟨_,_,b_,?_,?_,hsame y hy⟩
  ·rw[dA rfl,dA rfl,dA rfl,dA rfl,dA rfl,sN rfl (fgs _ y d_ h6),dA rfl]
  ·simp
 ·refine⟨[[],[9],[],[]],fg,b_,?_,by simp,λm hm=>?_⟩
  ·rw[dA rfl,dA rfl,dA rfl,dA rfl,dA rfl,dA rfl,sN (ms':=[[],[9],[],[]]) (fg':=fg) (z':=b_) rfl (qE (ip (d:=rQ [[],[9],[],[]]) (f:=c_) rfl (vP _)))]
  ·rcases ah.mp hm with rfl|hm
   ·exact .inr (by simp)
   ·simp only[ah,aS,or_false]at hm
    rcases hm with rfl|rfl|rfl|rfl<;>exact .inl (by simp)
def P6{n:Nat}{ns:List Int}{k:Int}(hk:0<=k/\k<=10000){m0 m1 m2 m3 fg:List Int} :
  ∃ms' fg' fr,Cn D (n+2) 23 [.lst (ns.map Dat.int),.int k,rQ [m0,m1,m2,m3],tI fg]=a_ (.tup [rQ ms',tI fg'],fr)/\ms'.length=4/\(∀m∈fg'::ms',m.length<=11\/m∈[m0,m1,m2,m3,fg]):=by
 have fin:∀{d:Dat}{fr:Bool},bH (Cn D (n+1)) S8 [a_ (.lst (ns.map Dat.int),d_),a_ (.int k,d_),a_ (rQ [m0,m1,m2,m3],d_),a_ (tI fg,d_),b_,b_,b_]=a_ (.rt d fr)->Cn D (n+2) 23 [.lst (ns.map Dat.int),.int k,rQ [m0,m1,m2,m3],tI fg]=a_ (d,fr):=λe=>cn (d:=XB) rfl (fi (C:=Cn D (n+1)) (np:=4) (nl:=7) (body:=S8) rfl e);have hd:=kF (n:=n) (ns:=ns);generalize Cn D (n+1)=C at fin hd;obtain⟨w,e1,b1⟩:=ki (ns:=ns) (k:=k) (m:=7) (by omega);have r1:=hd k 7 (by omega) (by omega);rw[e1]at r1;obtain⟨a,e2,b2⟩:=ki (ns:=ns) (k:=k+1) (m:=4) (by omega);have r2:=hd (k+1) 4 (by omega) (by omega);rw[e2]at r2;obtain⟨ms',fg',z',hr,hl,hm⟩:=Lj hd hk (w:=w) (a:=a) (by omega) (by omega) (m0:=m0) (m1:=m1) (m2:=m2) (m3:=m3) (fg:=fg);refine⟨ms',fg',c_,fin ?_,hl,hm⟩;have hb:S8=.set 4 (.call 11 [(.v 0),(.v 1),(.e_ 7)])::.set 5 (.call 11 [(.v 0),(.bin .add (.v 1) (.e_ 1)),(.e_ 4)])::Wp:=rfl;rw[hb,bf (ip (d:=.int (w:Nat)) (f:=d_) (by rw[cy];exact r1) rfl),bf (ip (d:=.int (a:Nat)) (f:=d_) (by rw[cy];exact r2) rfl)];refine Eq.trans hr ?_;refine eD (lA ?_);have i1:=vP ms';have i2:=lR fg';show bw C (.tup [.v 2,.v 3]) [a_ _,a_ _,a_ (rQ ms'),a_ (tI fg'),a_ _,a_ _,_]=_;simp only[lC,fB,gZ,fj,a8,be,bK,ao,aC,i1,i2,dR,bY,bO,aQ,cB,dP,cR,if_true]
 try rfl
abbrev Zf(N:Dat)(k:Int)(fs:List Fm)(w a:Nat)(f:Fm)(z8 z9 z10 z11:g_):bQ:=[a_ (N,d_),a_ (.int k,d_),a_ (.lst (fs.map bE),d_),a_ (.int (w:Nat),d_),a_ (.int (a:Nat),d_),a_ (.str (T f.1),d_),a_ (tI f.2.1,d_),a_ (.str (T f.2.2),d_),z8,z9,z10,z11]
section
variable{C:Fs}{N:Dat}{k:Int}{fs:List Fm}{w a:Nat}{f:Fm}{z8 z9 z10 z11:g_}{i:Int}{B R:List Sx}
def iG(h:((w:Int) == i)=d_):bH C (.ifs (.cmp .eq (.v 3) (.con (.int i))) B []::R) (Zf N k fs w a f z8 z9 z10 z11)=bH C R (Zf N k fs w a f z8 z9 z10 z11):=by
 refine bf ?_;rw[eT (d:=.bl ((w:Int) == i)) (fr:=d_) rfl (by rw[h];rfl)];rfl
def vp{d:Dat}{fr:Bool}(h:((w:Int) == i)=c_)(hB:bH C B (Zf N k fs w a f z8 z9 z10 z11)=a_ (.rt d fr)):bH C (.ifs (.cmp .eq (.v 3) (.con (.int i))) B []::R) (Zf N k fs w a f z8 z9 z10 z11)=a_ (.rt d fr):=by
 refine eD ?_;rw[fR (d:=.bl ((w:Int) == i)) (fr:=d_) rfl (by rw[h];rfl)];exact hB
variable{ρ:eM}{x y e:Ex}{X Y:List Fm}{b1 b2:Bool}{g:Fm}
def Vo(hx:bw C x ρ=a_ (.lst (X.map bE),b1))(hy:bw C y ρ=a_ (.lst (Y.map bE),b2))(h:X.length+Y.length<=1000000):∃b,bw C (.bin .add x y) ρ=a_ (.lst ((X++Y).map bE),b):=by
 refine⟨je (X.map bE++Y.map bE),?_⟩;rw[jb,hx];show(bw C y ρ).bind _=_;rw[hy,ao];dsimp only;rw[ud (by rw[ak,ak];exact h),gY]
def An(hx:bw C x ρ=a_ (.lst (X.map bE),b1))(hy:bw C y ρ=a_ (.lst (Y.map bE),b2))(h:X.length+Y.length<=1000000):bw C (.bin .add x y) ρ=a_ (.lst ((X++Y).map bE),c_):=by
 rw[jb,hx];show(bw C y ρ).bind _=_;rw[hy,ao];dsimp only;rw[ud (by rw[ak,ak];exact h),<-gY,oY]
def Uu(he:bw C e ρ=a_ (bE g,b1)):bw C (.lst [e]) ρ=a_ (.lst ([g].map bE),c_):=by
 have hi:im (bE g)=c_:=vQ g;rw[xC];simp only[fB,gZ,he,ao,aC,hi,dR,bY,bO,aQ,cB,dP,cR,if_true];rfl
def Uc{hi:Ex}{j:Nat}(hv:bw C (.v 2) ρ=a_ (.lst (fs.map bE),b1))(hh:bw C hi ρ=a_ (.int (j:Nat),b2))(hj:j<=fs.length):∃b,bw C (.sl (.v 2) b_ (a_ hi)) ρ=a_ (.lst ((fs.take j).map bE),b):=by
 refine⟨je (cutD (fs.map bE) b_ (a_ (j:Int))),?_⟩;rw[Dv,hv,qe,hh];show a_ (Dat.lst (cutD (fs.map bE) b_ (a_ (j:Int))),_)=_;rw[Dz (by rw[ak];exact hj),x9]
def Tw{lo:Ex}{j:Nat}(hv:bw C (.v 2) ρ=a_ (.lst (fs.map bE),b1))(hh:bw C lo ρ=a_ (.int (j:Nat),b2))(hj:j<=fs.length):∃b,bw C (.sl (.v 2) (a_ lo) b_) ρ=a_ (.lst ((fs.drop j).map bE),b):=by
 refine⟨je (cutD (fs.map bE) (a_ (j:Int)) b_),?_⟩;rw[Dv,hv,qe,hh];show a_ (Dat.lst (cutD (fs.map bE) (a_ (j:Int)) b_),_)=_;rw[M9 (by omega) (by rw[ak];omega),eN,List.map_drop]
def QW{hi lo:Ex}{j1 j2:Nat}{b3 b4:Bool}(hv:bw C (.v 2) ρ=a_ (.lst (fs.map bE),b1))(hh:bw C hi ρ=a_ (.int (j1:Nat),b2))(hl:bw C lo ρ=a_ (.int (j2:Nat),b3))(h1:j1<=fs.length)(h2:j2<=fs.length)(hf:fs.length<=1000)(he:bw C e ρ=a_ (bE g,b4)) :
  bw C (.bin .add (.bin .add (.sl (.v 2) b_ (a_ hi)) (.lst [e])) (.sl (.v 2) (a_ lo) b_)) ρ=a_ (.lst ((fs.take j1++[g]++fs.drop j2).map bE),c_):=by
 obtain⟨c1,e1⟩:=Uc hv hh h1;obtain⟨c2,e2⟩:=Tw hv hl h2;obtain⟨c3,e3⟩:=Vo e1 (Uu he) (by simp;omega);exact An e3 e2 (by simp;omega)
end
structure wB(b:Nat)(f:Fm):Prop where
 l:f.1.length<=b
 c:f.2.1.length<=b
 p:f.2.2∈PL
def JW:List Sx:=Fj.drop 3
def vy{j:Nat}(h:j<16):nu j∈PL:=aL _ (aG.mpr ⟨j,bW.mpr h,rfl⟩)
def jC{C:Fs}{ρ:eM}{x y z:Ex}{l p:List Nat}{cs:List Int}{f1 f2 f3:Bool}(hx:bw C x ρ=a_ (.str (T l),f1))(hy:bw C y ρ=a_ (tI cs,f2))(hz:bw C z ρ=a_ (.str (T p),f3)):bw C (.tup [x,y,z]) ρ=a_ (bE (l,cs,p),c_):=by
 simp only[lC,fB,gZ,hx,hy,hz,ao,aC,lR,qM,dR,bY,bO,aQ,cB,dP,cR,if_true]
 try rfl
def mem_mid{α:Type}{X:List α}{g h:α}{i j:Nat}(m:h∈X.take i++[g]++X.drop j):h=g\/h∈X:=by
 rcases aK.mp m with m|m
 ·rcases aK.mp m with m|m
  ·exact .inr (j6 m)
  ·exact .inl (by simpa using m)
 ·exact .inr (j7 m)
def wB.up{b:Nat}{g:Fm}(h:wB b g):wB (b+6) g:=⟨by have:=h.l;omega,by have:=h.c;omega,h.p⟩
def Bw{fs:List Fm}{i j b:Nat}{g:Fm}(hw:∀g∈fs,wB b g)(hg:wB (b+6) g)(hij:i<=j)(hj:j<=fs.length):(∀h∈fs.take i++[g]++fs.drop j,wB (b+6) h)/\(fs.take i++[g]++fs.drop j).length<=fs.length+26:=by
 refine⟨λh hh=>?_,by simp;omega⟩
 rcases mem_mid hh with rfl|hh
 ·exact hg
 ·exact(hw h hh).up
def Aq(C:Fs)(fs:List Fm)(b:Nat)(ρ:bQ):Prop:=∃(fs':List Fm),bH C JW ρ=a_ (.rt (.lst (fs'.map bE)) c_)/\(∀g∈fs',wB (b+6) g)/\fs'.length<=fs.length+26
section
variable{C:Fs}{N:Dat}{k:Int}{fs:List Fm}{a b:Nat}{f:Fm}
def VT:Aq C fs b (Zf N k fs 0 a f b_ b_ b_ b_):=by
 refine⟨[],?_,λg hg=>(nomatch hg),by simp⟩;unfold JW Fj;simp only[dU,eC];exact vp rfl rfl
def VO(ha:a<fs.length)(hl:fs.length<=100)(hf:f∈fs)(hw:∀g∈fs,wB b g):Aq C fs b (Zf N k fs 5 a f b_ b_ b_ b_):=by
 have WBE:ag "wbe"=T (nu 11):=by decide +kernel
 have he:=QW (C:=C) (fs:=fs) (ρ:=full (Zf N k fs 5 a f b_ b_ b_ b_)) (hi:=.v 4) (lo:=.bin .add (.v 4) (.e_ 1)) (j1:=a) (j2:=a+1) (e:=.tup [.v 5,.v 6,.con (.str (T (nu 11)))]) (g:=(f.1,f.2.1,nu 11)) rfl rfl rfl (by omega) (by omega) (by omega) (jC rfl rfl rfl);have:=(hw f hf).up;refine⟨fs.take a++[(f.1,f.2.1,nu 11)]++fs.drop (a+1),?_,Bw hw ⟨this.l,this.c,vy (j:=11) (by omega)⟩ (by omega) (by omega)⟩;unfold JW Fj;simp only[dU,eC];rw[iG rfl,iG rfl,iG rfl,iG rfl,iG rfl,WBE];exact vp rfl (eD (lA he))
def VP(ha:a<fs.length)(hl:fs.length<=100)(hw:∀g∈fs,wB b g):Aq C fs b (Zf N k fs 4 a f b_ b_ b_ b_):=by
 obtain⟨c1,e1⟩:=Uc (C:=C) (fs:=fs) (ρ:=full (Zf N k fs 4 a f b_ b_ b_ b_)) (hi:=.v 4) (j:=a) rfl rfl (by omega);obtain⟨c2,e2⟩:=Tw (C:=C) (fs:=fs) (ρ:=full (Zf N k fs 4 a f b_ b_ b_ b_)) (lo:=.bin .add (.v 4) (.e_ 1)) (j:=a+1) rfl rfl (by omega);have he:=An e1 e2 (by simp;omega);refine⟨fs.take a++fs.drop (a+1),?_,λg hg=>?_,by simp;omega⟩
 ·unfold JW Fj;simp only[dU,eC];rw[iG rfl,iG rfl,iG rfl,iG rfl];exact vp rfl (eD (lA he))
 ·rcases aK.mp hg with hg|hg
  ·exact(hw g (j6 hg)).up
  ·exact(hw g (j7 hg)).up
def VQ{w3:Nat}(hp:∀j:Nat,j<16->C 14 [.int (j:Nat)]=a_ (.str (T (nu j)),d_)){ns:List Int}(hd:kR C 11 ns)(hk:0<=k/\k<=10000)(ha:a<fs.length)(hl:fs.length<=100)(hf:f∈fs)(hw:∀g∈fs,wB b g):Aq C fs b (Zf (.lst (ns.map Dat.int)) k fs 3 a f b_ b_ b_ b_):=by
 obtain⟨q,e1,b1⟩:=ki (ns:=ns) (k:=k+2) (m:=15) (by omega);have r1:=hd (k+2) 15 (by omega) (by omega);rw[e1]at r1;obtain⟨p,e2,b2⟩:=ki (ns:=ns) (k:=k+3) (m:=(fs.length:Int) - (a:Int)) (by omega);have r2:=hd (k+3) ((fs.length:Int) - (a:Int)) (by omega) (by omega);rw[e2]at r2
 have h10:bw C (.tup [(.v 5),(.v 6),(.call 14 [(.bin .add (.e_ 1) (.call 11 [(.v 0),(.bin .add (.v 1) (.e_ 2)),(.e_ 15)]))])]) (full (Zf (.lst (ns.map Dat.int)) k fs 3 a f b_ b_ b_ b_))=a_ (bE (f.1,f.2.1,nu (1+q)),c_):=by
  refine jC (f3:=d_) rfl rfl ?_;have c1:bw C (.call 11 [(.v 0),(.bin .add (.v 1) (.e_ 2)),(.e_ 15)]) (full (Zf (.lst (ns.map Dat.int)) k fs 3 a f b_ b_ b_ b_))=a_ (.int (q:Nat),d_):=by rw[cy];exact r1
  have c2:bw C (.bin .add (.e_ 1) (.call 11 [(.v 0),(.bin .add (.v 1) (.e_ 2)),(.e_ 15)])) (full (Zf (.lst (ns.map Dat.int)) k fs 3 a f b_ b_ b_ b_))=a_ (.int ((1+q:Nat)),d_):=by
   rw[jb];show(bw C (.call 11 _) _).bind _=_;rw[c1];show a_ (Dat.int (1+(q:Int)),d_)=_;rw[show(1+(q:Int))=((1+q:Nat):Int) by omega]
  rw[cy];simp only[eU,gm,c2,ao,aC];exact hp (1+q) (by omega)
 have hi:im (bE (f.1,f.2.1,nu (1+q)))=c_:=vQ _
 have h11:bw C (.bin .add (.bin .add (.v 4) (.e_ 1)) (.call 11 [(.v 0),(.bin .add (.v 1) (.e_ 3)),(.bin .sub (.blt .len [(.v 2)]) (.v 4))])) (full (Zf (.lst (ns.map Dat.int)) k fs 3 a f b_ b_ (a_ (bE (f.1,f.2.1,nu (1+q)),d_)) b_))=a_ (.int ((a+1+p:Nat)),d_):=by
  have c1:bw C (.call 11 [(.v 0),(.bin .add (.v 1) (.e_ 3)),(.bin .sub (.blt .len [(.v 2)]) (.v 4))]) (full (Zf (.lst (ns.map Dat.int)) k fs 3 a f b_ b_ (a_ (bE (f.1,f.2.1,nu (1+q)),d_)) b_))=a_ (.int (p:Nat),d_):=by
   rw[cy];show C 11 [.lst (ns.map Dat.int),.int (k+3),.int (((fs.map bE).length:Int) - (a:Int))]=_;rw[ak];exact r2
  rw[jb];show(bw C (.call 11 _) _).bind _=_;rw[c1];show a_ (Dat.int ((a:Int)+1+(p:Int)),d_)=_;rw[show((a:Int)+1+(p:Int))=((a+1+p:Nat):Int) by omega]
 have he:=QW (C:=C) (fs:=fs) (ρ:=full (Zf (.lst (ns.map Dat.int)) k fs 3 a f b_ b_ (a_ (bE (f.1,f.2.1,nu (1+q)),d_)) (a_ (.int ((a+1+p:Nat)),d_)))) (hi:=.v 11) (lo:=.v 11) (j1:=a+1+p) (j2:=a+1+p) (e:=.v 10) (g:=(f.1,f.2.1,nu (1+q))) rfl rfl rfl (by omega) (by omega) (by omega) rfl;have:=(hw f hf).up;refine⟨fs.take (a+1+p)++[(f.1,f.2.1,nu (1+q))]++fs.drop (a+1+p),?_,Bw hw ⟨this.l,this.c,vy (j:=1+q) (by omega)⟩ (by omega) (by omega)⟩;unfold JW Fj;simp only[dU,eC];rw[iG rfl,iG rfl,iG rfl];exact vp rfl ((bf (ip h10 hi)).trans ((bf (ip h11 rfl)).trans (eD (lA he))))
def zF(j:Nat):Fm:=([122],[1+(j:Int),63],nu 1)
def VS{ns:List Int}(hd:kR C 11 ns)(hk:0<=k/\k<=10000)(hl:fs.length<=100)(hb:6<=b)(hw:∀g∈fs,wB b g):Aq C fs b (Zf (.lst (ns.map Dat.int)) k fs 1 a f b_ b_ b_ b_):=by
 obtain⟨q,e1,b1⟩:=ki (ns:=ns) (k:=k+2) (m:=3) (by omega);have r1:=hd (k+2) 3 (by omega) (by omega);rw[e1]at r1;have ZT:ag "z"=T [122]:=by decide +kernel
 have W1:ag "w"=T (nu 1):=by decide +kernel
 have W15:ag "wbme"=T (nu 15):=by decide +kernel
 obtain⟨m,hm⟩:∃m:Int,m=23+(q:Int) - (fs.length:Int):=⟨_,rfl⟩
 have h8:bw C (.bin .sub (.bin .add (.e_ 23) (.call 11 [(.v 0),(.bin .add (.v 1) (.e_ 2)),(.e_ 3)])) (.blt .len [(.v 2)])) (full (Zf (.lst (ns.map Dat.int)) k fs 1 a f b_ b_ b_ b_))=a_ (.int m,d_):=by
  have c1:bw C (.call 11 [(.v 0),(.bin .add (.v 1) (.e_ 2)),(.e_ 3)]) (full (Zf (.lst (ns.map Dat.int)) k fs 1 a f b_ b_ b_ b_))=a_ (.int (q:Nat),d_):=by rw[cy];exact r1
  have c2:bw C (.bin .add (.e_ 23) (.call 11 [(.v 0),(.bin .add (.v 1) (.e_ 2)),(.e_ 3)])) (full (Zf (.lst (ns.map Dat.int)) k fs 1 a f b_ b_ b_ b_))=a_ (.int (23+(q:Int)),d_):=by
   rw[jb];show(bw C (.call 11 _) _).bind _=_;rw[c1];rfl
  rw[jb,c2];show a_ (Dat.int (23+(q:Int) - ((fs.map bE).length:Int)),d_)=_;rw[ak,hm]
 have hc:bw C (.comp 1 c_ [] (.rng [(.v 8)]) [] (.tup [(.con (.str (T [122]))),(.tup [(.bin .add (.e_ 1) (.v 0)),(.e_ 63)]),(.con (.str (T (nu 1))))])) (full (Zf (.lst (ns.map Dat.int)) k fs 1 a f (a_ (.int m,d_)) b_ b_ b_))=a_ (.lst (((aR m.toNat).map zF).map bE),c_):=by
  refine eY (items:=(aR m.toNat).map λj:Nat=>Dat.int (j:Nat)) ?_ (by rw[ak,eJ];omega) ?_
  ·show Eh [.int m]=_;exact if_pos ⟨by omega,by omega⟩
  have:=gf (f:=gD C 1 c_ (dS 1 [] (full (Zf (.lst (ns.map Dat.int)) k fs 1 a f (a_ (.int m,d_)) b_ b_ b_))) [] (.tup [(.con (.str (T [122]))),(.tup [(.bin .add (.e_ 1) (.v 0)),(.e_ 63)]),(.con (.str (T (nu 1))))])) (g:=λd=>match d with | .int x=>.tup [.str (T [122]),.tup [.int (1+x),.int 63],.str (T (nu 1))]|_=>.non) (ds:=(aR m.toNat).map λj:Nat=>Dat.int (j:Nat)) ?_ ?_
  ·rw[this,br,br];rfl
  ·intro d hd;obtain⟨c,_,rfl⟩:=aG.mp hd;exact⟨c_,rfl⟩
  ·intro d hd;obtain⟨c,_,rfl⟩:=aG.mp hd;rfl
 have ho:bw C (.lst [(.tup [(.con (.str (T [122]))),(.tup [(.e_ 63),(.e_ 63)]),(.con (.str (T (nu 15))))])]) (full (Zf (.lst (ns.map Dat.int)) k fs 1 a f (a_ (.int m,d_)) b_ b_ b_))=a_ (.lst ([([122],[63,63],nu 15)].map bE),c_):=rfl;have hx:bw C (.v 2) (full (Zf (.lst (ns.map Dat.int)) k fs 1 a f (a_ (.int m,d_)) b_ b_ b_))=a_ (.lst (fs.map bE),d_):=rfl;obtain⟨c3,e3⟩:=Vo hx hc (by simp;omega);have he:=An e3 ho (by simp;omega);refine⟨fs++(aR m.toNat).map zF++[([122],[63,63],nu 15)],?_,λg hg=>?_,by simp;omega⟩
 ·unfold JW Fj;simp only[dU,eC];rw[iG rfl,ZT,W1,W15];exact vp rfl ((bf (ip h8 rfl)).trans (eD (lA he)))
 ·rcases aK.mp hg with hg|hg
  ·rcases aK.mp hg with hg|hg
   ·exact(hw g hg).up
   ·obtain⟨j,_,rfl⟩:=aG.mp hg;exact⟨by simp[zF],by simp[zF],vy (j:=1) (by omega)⟩
  ·obtain rfl:g=([122],[63,63],nu 15):=by simpa using hg
   exact⟨by simp,by simp,vy (j:=15) (by omega)⟩
def Wd:((aR 101).all λn=>decide ((Builtin.Str.strSliceIndices b_ (a_ 5) 1 n).length<=5))=c_:=by decide +kernel
def Xb(s:aN):T s.cps.toList=s:=by cases s;simp[T]
def KQ{l:List Nat}(h:l.length<=100):(jE (T l) b_ (a_ 5)).cps.toList.length<=max l.length 5:=by
 have hn:(T l).length=l.length:=by simp[T,FR]
 have h5:=of_decide_eq_true (bg.mp Wd l.length (bW.mpr (by omega)));unfold jE;split
 ·have:(T l).cps.toList.length=l.length:=by simp[T]
  omega
 ·rw[pv];refine cW (List.length_filterMap_le _ _) ?_;rw[hn];omega
def VN(hl:fs.length<=100)(hf:f∈fs)(hb:b<=90)(hw:∀g∈fs,wB b g):Aq C fs b (Zf N k fs 6 a f b_ b_ b_ b_):=by
 have ZT:ag "z"=T [122]:=by decide +kernel
 have hwf:=hw f hf;have hlen:=KQ (l:=f.1) (by have:=hwf.l;omega);obtain⟨s,hs⟩:∃s:List Nat,s=(jE (T f.1) b_ (a_ 5)).cps.toList:=⟨_,rfl⟩
 rw[<-hs]at hlen
 have h1:bw C (.sl (.v 5) b_ (a_ (.e_ 5))) (full (Zf N k fs 6 a f b_ b_ b_ b_))=a_ (.str (T s),d_):=by
  rw[hs,Xb]
  exact if_pos (by
   have hn:(T f.1).length=f.1.length:=by simp[T,FR]
   rw[hn,bT];have:=hwf.l;omega)
 have h2:bw C (.bin .add (.con (.str (T [122]))) (.sl (.v 5) b_ (a_ (.e_ 5)))) (full (Zf N k fs 6 a f b_ b_ b_ b_))=a_ (.str (T ([122]++s)),d_):=by
  rw[jb];show(bw C (.sl _ _ _) _).bind _=_;rw[h1];exact OS (by have:=hwf.l;simp;omega)
 have hx:bw C (.v 2) (full (Zf N k fs 6 a f b_ b_ b_ b_))=a_ (.lst (fs.map bE),d_):=rfl;have he:=An hx (Uu (jC (y:=.v 6) (z:=.v 7) (cs:=f.2.1) (p:=f.2.2) h2 rfl rfl)) (by simp;omega);refine⟨fs++[([122]++s,f.2.1,f.2.2)],?_,λg hg=>?_,by simp⟩
 ·unfold JW Fj;simp only[dU,eC];rw[iG rfl,iG rfl,iG rfl,iG rfl,iG rfl,iG rfl,ZT];exact eD (lA he)
 ·rcases aK.mp hg with hg|hg
  ·exact(hw g hg).up
  ·obtain rfl:g=([122]++s,f.2.1,f.2.2):=by simpa using hg
   exact⟨by have:=hwf.l;simp;omega,hwf.up.c,hwf.p⟩
def wH{i:Nat}{e:Ex}{ρ:bQ}{X:List Dat}(h:bw C e (full ρ)=a_ (.lst X,c_)):fH C (.set i e) ρ=a_ (.nx (ρ.set i (a_ (.lst X,c_)))):=by
 show(ou C e ρ).map _=_;rw[o6 h (by rw[bY])];rfl
def WA{ρ:eM}{x1 x2 x3 x4:Ex}{g1 g2 g3 g4:Fm}(h1:bw C x1 ρ=a_ (bE g1,c_))(h2:bw C x2 ρ=a_ (bE g2,c_))(h3:bw C x3 ρ=a_ (bE g3,c_))(h4:bw C x4 ρ=a_ (bE g4,c_)):bw C (.lst [x1,x2,x3,x4]) ρ=a_ (.lst ([g1,g2,g3,g4].map bE),c_):=by
 rw[xC];simp only[fB,gZ,h1,h2,h3,h4,ao,aC,dR,bY,bO,aQ,cB,dP,cR,if_true];rfl
def WB{ρ:eM}{x1 x2 x3:Ex}{g1 g2 g3:Fm}(h1:bw C x1 ρ=a_ (bE g1,c_))(h2:bw C x2 ρ=a_ (bE g2,c_))(h3:bw C x3 ρ=a_ (bE g3,c_)):bw C (.lst [x1,x2,x3]) ρ=a_ (.lst ([g1,g2,g3].map bE),c_):=by
 rw[xC];simp only[fB,gZ,h1,h2,h3,ao,aC,dR,bY,bO,aQ,cB,dP,cR,if_true];rfl
def VR{ns:List Int}(hd:kR C 11 ns)(hk:0<=k/\k<=10000)(ha:a<fs.length)(hl:fs.length<=100)(hf:f∈fs)(hb:b<=90)(hw:∀g∈fs,wB b g):Aq C fs b (Zf (.lst (ns.map Dat.int)) k fs 2 a f b_ b_ b_ b_):=by
 obtain⟨d,e1,b1⟩:=ki (ns:=ns) (k:=k+2) (m:=7) (by omega);have r1:=hd (k+2) 7 (by omega) (by omega);rw[e1]at r1;have AT:ag "A"=T [65]:=by decide +kernel
 have BW:ag "bw"=T [98,119]:=by decide +kernel
 have hwf:=hw f hf;obtain⟨l,cs,p⟩:=f;have hl1:l.length<=b:=hwf.l;have hc1:cs.length<=b:=hwf.c;have a1:∀z9,bw C (.bin .add (.v 5) (.con (.str (T [65])))) (full (Zf (.lst (ns.map Dat.int)) k fs 2 a (l,cs,p) b_ z9 b_ b_))=a_ (.str (T (l++[65])),d_):=λz9=>OS (by simp;omega)
 have a2:∀z9,∃q,bw C (.bin .add (.v 6) (.tup [(.e_ 64)])) (full (Zf (.lst (ns.map Dat.int)) k fs 2 a (l,cs,p) b_ z9 b_ b_))=a_ (tI (cs++[64]),q):=λz9=>⟨d_,by
  show gr .add (.tup (cs.map Dat.int)) (.tup [.int 64])=_;rw[uc (by rw[ak];simp;omega)];unfold tI
  rw[gY];rfl⟩
 have a3:∀z9,∃q,bw C (.bin .add (.tup [(.e_ 0)]) (.v 6)) (full (Zf (.lst (ns.map Dat.int)) k fs 2 a (l,cs,p) b_ z9 b_ b_))=a_ (tI ([0]++cs),q):=λz9=>⟨d_,by
  show gr .add (.tup [.int 0]) (.tup (cs.map Dat.int))=_;rw[uc (by rw[ak];simp;omega)]
  rfl⟩
 have s1:=WA (C:=C) (ρ:=full (Zf (.lst (ns.map Dat.int)) k fs 2 a (l,cs,p) b_ b_ b_ b_)) (jC (x:=.con (.str (T []))) (y:=.v 6) (z:=.v 7) (l:=[]) (cs:=cs) (p:=p) rfl rfl rfl) (jC (x:=.v 5) (y:=.tup []) (z:=.v 7) (l:=l) (cs:=[]) (p:=p) rfl rfl rfl) (jC (x:=.v 5) (y:=.v 6) (z:=.con (.str (T []))) (l:=l) (cs:=cs) (p:=[]) rfl rfl rfl) (jC (y:=.v 6) (z:=.v 7) (cs:=cs) (p:=p) (a1 b_) rfl rfl);obtain⟨G4,hG4⟩:∃G:List Fm,G=[([],cs,p),(l,[],p),(l,cs,[]),(l++[65],cs,p)]:=⟨_,rfl⟩
 rw[<-hG4]at s1;obtain⟨q2,a2⟩:=a2 (a_ (.lst (G4.map bE),c_));obtain⟨q3,a3⟩:=a3 (a_ (.lst (G4.map bE),c_));have s2:=WB (C:=C) (ρ:=full (Zf (.lst (ns.map Dat.int)) k fs 2 a (l,cs,p) b_ (a_ (.lst (G4.map bE),c_)) b_ b_)) (jC (x:=.v 5) (z:=.v 7) (l:=l) (p:=p) rfl a2 rfl) (jC (x:=.v 5) (z:=.v 7) (l:=l) (p:=p) rfl a3 rfl) (jC (x:=.v 5) (y:=.v 6) (z:=.con (.str (T [98,119]))) (l:=l) (cs:=cs) (p:=[98,119]) rfl rfl rfl);have v9:bw C (.v 9) (full (Zf (.lst (ns.map Dat.int)) k fs 2 a (l,cs,p) b_ (a_ (.lst (G4.map bE),c_)) b_ b_))=a_ (.lst (G4.map bE),d_):=rfl;obtain⟨G3,hG3⟩:∃G:List Fm,G=[(l,cs++[64],p),(l,[0]++cs,p),(l,cs,[98,119])]:=⟨_,rfl⟩
 rw[<-hG3]at s2;have s3:=An v9 s2 (by rw[hG4,hG3];simp)
 have hG:∀g∈G4++G3,wB (b+6) g:=λg hg=>by
  rw[hG4,hG3]at hg;simp only[cP,ck,ah,aS,or_false]at hg;have hp:p∈PL:=hwf.p;have hp0:[]∈PL:=vy (j:=0) (by omega);have hpb:[98,119]∈PL:=by decide
  rcases hg with rfl|rfl|rfl|rfl|rfl|rfl|rfl
  ·exact⟨by simp,by show cs.length<=_;omega,hp⟩
  ·exact⟨by show l.length<=_;omega,by simp,hp⟩
  ·exact⟨by show l.length<=_;omega,by show cs.length<=_;omega,hp0⟩
  ·exact⟨by simp;omega,by show cs.length<=_;omega,hp⟩
  ·exact⟨by show l.length<=_;omega,by simp;omega,hp⟩
  ·exact⟨by show l.length<=_;omega,by simp;omega,hp⟩
  ·exact⟨by show l.length<=_;omega,by show cs.length<=_;omega,hpb⟩
 have h7:(G4++G3).length=7:=by rw[hG4,hG3];rfl
 generalize hGG:G4++G3=G7 at s3 hG h7;have hd7:d<G7.length:=by omega
 have hgd:G7[d]?=a_ G7[d]:=au hd7
 have h9:bw C (.ix (.v 9) (.call 11 [(.v 0),(.bin .add (.v 1) (.e_ 2)),(.e_ 7)])) (full (Zf (.lst (ns.map Dat.int)) k fs 2 a (l,cs,p) b_ (a_ (.lst (G7.map bE),c_)) b_ b_))=a_ (bE G7[d],d_):=by
  have c1:bw C (.call 11 [(.v 0),(.bin .add (.v 1) (.e_ 2)),(.e_ 7)]) (full (Zf (.lst (ns.map Dat.int)) k fs 2 a (l,cs,p) b_ (a_ (.lst (G7.map bE),c_)) b_ b_))=a_ (.int (d:Nat),d_):=by rw[cy];exact r1
  rw[rF];show(bw C (.call 11 _) _).bind _=_;rw[c1];show(EH (.lst (G7.map bE)) (.int (d:Nat))).map _=_;rw[vL,g9 (v:=bE G7[d]) (by rw[aW,hgd];rfl)];rfl
 have he:=QW (C:=C) (fs:=fs) (ρ:=full (Zf (.lst (ns.map Dat.int)) k fs 2 a (l,cs,p) b_ (a_ (.lst (G7.map bE),c_)) b_ b_)) (hi:=.v 4) (lo:=.bin .add (.v 4) (.e_ 1)) (j1:=a) (j2:=a+1) (g:=G7[d]) rfl rfl rfl (by omega) (by omega) (by omega) h9;refine⟨fs.take a++[G7[d]]++fs.drop (a+1),?_,Bw hw (hG _ (cm hd7)) (by omega) (by omega)⟩;unfold JW Fj;simp only[dU,eC];rw[iG rfl,iG rfl,AT,BW,VM];exact vp rfl ((bf (wH s1)).trans ((bf (wH s3)).trans (eD (lA he))))
end
def P7{n:Nat}{ns:List Int}{k:Int}{fs:List Fm}{b:Nat}(hk:0<=k/\k<=10000)(hn:fs≠[])(hl:fs.length<=100)(hb:6<=b/\b<=90)(hw:∀g∈fs,wB b g) :
  ∃(fs':List Fm),Cn D (n+2) 22 [.lst (ns.map Dat.int),.int k,.lst (fs.map bE)]=a_ (.lst (fs'.map bE),c_)/\(∀g∈fs',wB (b+6) g)/\fs'.length<=fs.length+26:=by
 have fin:∀{d:Dat}{fr:Bool},bH (Cn D (n+1)) Fj [a_ (.lst (ns.map Dat.int),d_),a_ (.int k,d_),a_ (.lst (fs.map bE),d_),b_,b_,b_,b_,b_,b_,b_,b_,b_]=a_ (.rt d fr)->Cn D (n+2) 22 [.lst (ns.map Dat.int),.int k,.lst (fs.map bE)]=a_ (d,fr):=λe=>cn (d:=XC) rfl (fi (C:=Cn D (n+1)) (np:=3) (nl:=12) (body:=Fj) rfl e);have hd:=kF (n:=n) (ns:=ns);have hp:∀j:Nat,j<16->Cn D (n+1) 14 [.int (j:Nat)]=a_ (.str (T (nu j)),d_):=sZ (n:=n);generalize Cn D (n+1)=C at fin hd hp
 have hlen:0<fs.length:=by
  cases fs with
  |nil=>exact absurd rfl hn
  |cons _ _=>simp
 obtain⟨w,e1,b1⟩:=ki (ns:=ns) (k:=k) (m:=7) (by omega);have r1:=hd k 7 (by omega) (by omega);rw[e1]at r1;obtain⟨a,e2,b2⟩:=ki (ns:=ns) (k:=k+1) (m:=(fs.length:Int)) (by omega);have r2:=hd (k+1) (fs.length:Int) (by omega) (by omega);rw[e2]at r2;have ha:a<fs.length:=by omega
 have hg:fs[a]?=a_ fs[a]:=au ha;have hf:=cm ha;generalize fs[a]=f at hg hf
 have start:bH C Fj [a_ (.lst (ns.map Dat.int),d_),a_ (.int k,d_),a_ (.lst (fs.map bE),d_),b_,b_,b_,b_,b_,b_,b_,b_,b_]=bH C JW (Zf (.lst (ns.map Dat.int)) k fs w a f b_ b_ b_ b_):=by
  have hb:Fj=.set 3 (.call 11 [(.v 0),(.v 1),(.e_ 7)])::.set 4 (.call 11 [(.v 0),(.bin .add (.v 1) (.e_ 1)),(.blt .len [(.v 2)])])::.vo [5,6,7] (.ix (.v 2) (.v 4))::JW:=rfl
  rw[hb,bf (ip (d:=.int (w:Nat)) (f:=d_) (by rw[cy];exact r1) rfl),bf (ip (d:=.int (a:Nat)) (f:=d_) (by
   rw[cy];show C 11 [.lst (ns.map Dat.int),.int (k+1),.int ((fs.map bE).length:Int)]=_
   rw[ak];exact r2) rfl)]
  refine bf ?_;have hi:im (bE f)=c_:=vQ f
  have he:bw C (.ix (.v 2) (.v 4)) (full [a_ (.lst (ns.map Dat.int),d_),a_ (.int k,d_),a_ (.lst (fs.map bE),d_),a_ (.int (w:Nat),d_),a_ (.int (a:Nat),d_),b_,b_,b_,b_,b_,b_,b_])=a_ (bE f,d_):=by
   show(EH (.lst (fs.map bE)) (.int (a:Nat))).map _=_;rw[vL,g9 (v:=bE f) (by rw[aW,hg];rfl)];rfl
  show(ou C (.ix (.v 2) (.v 4)) [a_ (.lst (ns.map Dat.int),d_),a_ (.int k,d_),a_ (.lst (fs.map bE),d_),a_ (.int (w:Nat),d_),a_ (.int (a:Nat),d_),b_,b_,b_,b_,b_,b_,b_]).bind _=_;rw[o6 he (by rw[hi];rfl)];rfl
 have bent:Aq C fs b (Zf (.lst (ns.map Dat.int)) k fs w a f b_ b_ b_ b_):=by
  have hw7:w=0\/w=1\/w=2\/w=3\/w=4\/w=5\/w=6:=by omega
  rcases hw7 with rfl|rfl|rfl|rfl|rfl|rfl|rfl
  ·exact VT
  ·exact VS hd hk hl hb.1 hw
  ·exact VR hd hk ha hl hf hb.2 hw
  ·exact VQ (w3:=0) hp hd hk ha hl hf hw
  ·exact VP ha hl hw
  ·exact VO ha hl hf hw
  ·exact VN hl hf hb.2 hw
 obtain⟨fs',h1,h2,h3⟩:=bent;exact⟨fs',fin (start.trans h1),h2,h3⟩
abbrev lI(m:List Int):Dat:=.lst (m.map Dat.int)
def Nb{C:Fs}{X0 X2:Dat}{ms:List (List Int)}(hl:ms.length<=1000):bw C (.comp 1 c_ [] (.itv (.v 1)) [] (.blt .tuple [.v 0])) [a_ X0,a_ (rQ ms),a_ X2,b_]=a_ (.lst (ms.map tI),c_):=by
 refine eY (items:=ms.map tI) rfl (by rw[ak];omega) ?_;have:=gf (f:=gD C 1 c_ (dS 1 [] [a_ X0,a_ (rQ ms),a_ X2,b_]) [] (.blt .tuple [.v 0])) (g:=λd=>d) (ds:=ms.map tI) ?_ ?_
 ·rw[this,List.map_id']
 ·intro d hd;obtain⟨m,_,rfl⟩:=aG.mp hd;exact⟨d_,rfl⟩
 ·intro d hd;obtain⟨m,_,rfl⟩:=aG.mp hd;exact cA _
def Nc{C:Fs}{X0 X2:Dat}{ms:List (List Int)}(hl:ms.length<=1000):bw C (.comp 1 c_ [] (.itv (.v 1)) [] (.blt .tuple [.v 0])) [a_ X0,a_ (.lst (ms.map lI)),a_ X2,b_]=a_ (.lst (ms.map tI),c_):=by
 refine eY (items:=ms.map lI) rfl (by rw[ak];omega) ?_;have:=gf (f:=gD C 1 c_ (dS 1 [] [a_ X0,a_ (.lst (ms.map lI)),a_ X2,b_]) [] (.blt .tuple [.v 0])) (g:=λd=>match d with | .lst xs=>.tup xs|d=>d) (ds:=ms.map lI) ?_ ?_
 ·rw[this,br];rfl
 ·intro d hd;obtain⟨m,_,rfl⟩:=aG.mp hd;exact⟨d_,rfl⟩
 ·intro d hd;obtain⟨m,_,rfl⟩:=aG.mp hd;exact cA _
section
variable{n:Nat}{fs:List Fm}{m0 m1 m2 m3 fg:List Int}
abbrev TD(fs:List Fm)(m0 m1 m2 m3 fg:List Int):Dat:=Cg (ml fs m0 m1 m2 m3 fg) (sg fs m0 m1 m2 m3 fg)
def xw:im (ml fs m0 m1 m2 m3 fg)=c_:=by
 show(je (fs.map bE) && (im (rQ [m0,m1,m2,m3]) && (im (tI fg) && c_)))=c_;rw[oY,vP,lR];rfl
def UQ:im (TD fs m0 m1 m2 m3 fg)=c_:=by
 have hq:=tD (fs:=fs) (m0:=m0) (m1:=m1) (m2:=m2) (m3:=m3) (fg:=fg);unfold TD
 cases q:sg fs m0 m1 m2 m3 fg with
 |none=>
   show(c_ && (im (ml fs m0 m1 m2 m3 fg) && c_))=c_;rw[xw];rfl
 |some x=>
   obtain⟨c,f,d⟩:=x;rw[q]at hq
   rcases hq with⟨_,_,j,rfl⟩|⟨_,_,a,rfl⟩<;>rfl
def O3(hw:∀f∈fs,wF f)(hl:fs.length<=100)(hm:∀m∈[m0,m1,m2,m3,fg],m.length<=1000):∃fr,Cn D (n+6) 24 [.tup (fs.map bE),rQ [m0,m1,m2,m3],tI fg]=a_ (TD fs m0 m1 m2 m3 fg,fr):=
 yM (yN (f0:=d_) (f2:=d_) rfl (Nb (ms:=[m0,m1,m2,m3]) (by simp)) rfl hw hl hm) tD xw
def O4(hw:∀f∈fs,wF f)(hl:fs.length<=100)(hm:∀m∈[m0,m1,m2,m3,fg],m.length<=1000):∃fr,Cn D (n+6) 24 [.lst (fs.map bE),.lst ([m0,m1,m2,m3].map lI),lI fg]=a_ (TD fs m0 m1 m2 m3 fg,fr):=
 yM (yN (f0:=d_) (f2:=d_) rfl (Nc (ms:=[m0,m1,m2,m3]) (by simp)) rfl hw hl hm) tD xw
abbrev HD(fs:List Fm)(ms:List (List Int))(fg:List Int):Dat:=.tup [.lst (fs.map bE),.lst (ms.map lI),lI fg]
def Ol(cs:List Int)(h:cs.length<=1000):Pl 1 (lI cs):=.lst (λd hd=>by obtain⟨c,_,rfl⟩:=aG.mp hd;exact .int c) (by rw[ak];exact h)
def Ue(hw:∀f∈fs,wF f)(hl:fs.length<=1000)(hm:∀m∈[m0,m1,m2,m3,fg],m.length<=1000):Pl 5 (HD fs [m0,m1,m2,m3] fg):=oH (.tup (λd hd=>by
 simp only[ah,aS,or_false]at hd
 rcases hd with rfl|rfl|rfl
 ·exact .lst (λd hd=>by obtain⟨f,hf,rfl⟩:=aG.mp hd;exact Om (hw f hf)) (by rw[ak];exact hl)
 ·exact .lst (λd hd=>by
   obtain⟨m,hm',rfl⟩:=aG.mp hd;refine oH (Ol _ (hm _ ?_));simp only[ah,aS,or_false]at hm' ⊢
   rcases hm' with rfl|rfl|rfl|rfl<;>simp) (by simp)
 ·exact oH (oH (Ol _ (hm _ (by simp))))) (by simp))
end
abbrev P2(N TB:Dat)(fs:List Fm)(ms:List (List Int))(fg:List Int)(w:Nat)(z6 z7 z8 z9:g_):bQ:=[a_ (N,d_),a_ (TB,d_),a_ (.lst (fs.map bE),c_),a_ (rQ ms,d_),a_ (tI fg,d_),a_ (.int (w:Nat),d_),z6,z7,z8,z9]
def GP{C:Fs}{i:Nat}{e:Ex}{ρ:bQ}{d:Dat}(h:bw C e (full ρ)=a_ (d,c_))(hd:im d=d_):fH C (.set i e) ρ=a_ (.nx (ρ.set i (a_ (d,c_)))):=by
 show(ou C e ρ).map _=_;rw[o6 h (by rw[bY])];show a_ (Out.nx (ρ.set i (a_ (d,c_ && !im d))))=_;rw[hd];rfl
def M3{C:Fs}{op:uq}{i j:Nat}{es:List Ex}{ρ:bQ}:fH C (.Az op i j es) ρ=(lD C es (full ρ)).bind λx=>if x.2=c_ then QU op i j ρ x.1 (ρ[i]?).join else b_:=rfl
def Qd:List Sx:=JA.drop 8
def VZ:Dat->Dat
 |.tup xs=>.lst xs
 |d=>d
def DB{C:Fs}{ρ:eM}{it:Ex}{ms:List (List Int)}{X:Dat}{Y:List Int->Dat}{fr:Bool}(hv:bw C it ρ=a_ (X,fr))(hX:iq X=a_ (ms.map Y))(hY:∀m,dw .list [Y m]=a_ (lI m,je (m.map Dat.int))/\VZ (Y m)=lI m)(hl:ms.length<=1000):bw C (.comp 1 c_ [] (.itv it) [] (.blt .list [.v 0])) ρ=a_ (.lst (ms.map lI),c_):=by
 refine eY (items:=ms.map Y) (by show(bw C it ρ).bind _=_;rw[hv];exact hX) (by rw[ak];omega) ?_
 have:=zp (f:=gD C 1 c_ (dS 1 [] ρ) [] (.blt .list [.v 0])) (g:=VZ) (b:=λ_=>c_) (ds:=ms.map Y) λd hd=>by
  obtain⟨m,_,rfl⟩:=aG.mp hd;rw[fu,(hY m).2];show(dw .list [Y m]).map a_=_;rw[(hY m).1,cA];rfl
 rw[this,br];have e:VZ ∘ Y=lI:=funext λm=>(hY m).2;rw[e];simp
def half{n:Nat}{N TB:Dat}{fs:List Fm}{m0 m1 m2 m3 fg:List Int}{w:Nat}(hw:∀f∈fs,wF f)(hl:fs.length<=100)(hm:∀m∈[m0,m1,m2,m3,fg],m.length<=1000):∃fr,bH (Cn D (n+6)) Qd (P2 N TB fs [m0,m1,m2,m3] fg w b_ b_ b_ b_)=a_ (.rt (.bl c_) fr):=by
 obtain⟨f1,c1⟩:=Lo (n:=n+4) hw hl hm;obtain⟨f2,c2⟩:=O3 (n:=n) hw hl hm;obtain⟨f3,c3⟩:=O4 (n:=n) hw hl hm;have c4:=nX (n:=n) 5 _ (LD hw (by omega) hm);have c5:=nX (n:=n) 5 _ (Ue hw (by omega) hm);have hq:=tD (fs:=fs) (m0:=m0) (m1:=m1) (m2:=m2) (m3:=m3) (fg:=fg);have iT:=UQ (fs:=fs) (m0:=m0) (m1:=m1) (m2:=m2) (m3:=m3) (fg:=fg);have c1:Cn D (n+6) 21 [.lst (fs.map bE),rQ [m0,m1,m2,m3],tI fg]=a_ (EO (sg fs m0 m1 m2 m3 fg),f1):=c1;have c4:Cn D (n+6) 12 [TD fs m0 m1 m2 m3 fg,TD fs m0 m1 m2 m3 fg]=a_ (.bl c_,d_):=c4;have c5:Cn D (n+6) 12 [HD fs [m0,m1,m2,m3] fg,HD fs [m0,m1,m2,m3] fg]=a_ (.bl c_,d_):=c5;generalize Cn D (n+6)=C at c1 c2 c3 c4 c5
 have iD:im (EO (sg fs m0 m1 m2 m3 fg))=c_:=by
  cases q:sg fs m0 m1 m2 m3 fg with
  |none=>rfl
  |some x=>
    obtain⟨c,f,d⟩:=x;rw[q]at hq
    rcases hq with⟨_,_,j,rfl⟩|⟨_,_,a,rfl⟩<;>rfl
 have hb:Qd=.set 6 (.call 21 [.v 2,.v 3,.v 4])::.ifs (.cmp .isn (.v 6) (.con .non)) [(.set 6 (.tup [(.f_ "made"),(.tup [(.blt .tuple [(.v 2)]),(.blt .tuple [(.v 3)]),(.blt .tuple [(.v 4)])])]))] []::Qd.drop 2:=rfl;have s1:fH C (.set 6 (.call 21 [.v 2,.v 3,.v 4])) (P2 N TB fs [m0,m1,m2,m3] fg w b_ b_ b_ b_)=a_ (.nx (P2 N TB fs [m0,m1,m2,m3] fg w (a_ (EO (sg fs m0 m1 m2 m3 fg),d_)) b_ b_ b_)):=ip (by rw[cy];exact c1) iD
 have s2:fH C (.ifs (.cmp .isn (.v 6) (.con .non)) [(.set 6 (.tup [(.f_ "made"),(.tup [(.blt .tuple [(.v 2)]),(.blt .tuple [(.v 3)]),(.blt .tuple [(.v 4)])])]))] []) (P2 N TB fs [m0,m1,m2,m3] fg w (a_ (EO (sg fs m0 m1 m2 m3 fg),d_)) b_ b_ b_)=a_ (.nx (P2 N TB fs [m0,m1,m2,m3] fg w (a_ (TD fs m0 m1 m2 m3 fg,d_)) b_ b_ b_)):=by
  unfold TD at iT ⊢
  cases q:sg fs m0 m1 m2 m3 fg with
  |none=>
    rw[q]at iT;rw[fR (d:=.bl c_) (fr:=d_) rfl rfl];have e:∃fr,bw C (.tup [(.f_ "made"),(.tup [(.blt .tuple [(.v 2)]),(.blt .tuple [(.v 3)]),(.blt .tuple [(.v 4)])])]) (full (P2 N TB fs [m0,m1,m2,m3] fg w (a_ (EO b_,d_)) b_ b_ b_))=a_ (Cg (ml fs m0 m1 m2 m3 fg) b_,fr):=⟨_,rfl⟩
    obtain⟨fr,e⟩:=e;exact qE (ip e iT)
  |some x=>
    obtain⟨c,f,d⟩:=x;rw[eT (d:=.bl d_) (fr:=d_) rfl rfl];rfl
 have hb2:Qd.drop 2=.set 7 (.tup [(.blt .list [(.v 2)]),(.lst []),(.blt .list [(.v 4)])])::.Az .ext 7 1 [(.comp 1 c_ [] (.itv (.v 3)) [] (.blt .list [(.v 0)]))]::.set 8 (.tup [(.blt .list [(.v 2)]),(.comp 1 c_ [] (.itv (.ix (.v 7) (.e_ 1))) [] (.blt .list [(.v 0)])),(.blt .list [(.v 4)])])::.ifs (.not (.call 12 [(.call 24 [(.blt .tuple [(.v 2)]),(.v 3),(.v 4)]),(.v 6)])) [(.ret (.con (.bl d_)))] []::.set 9 (.call 24 [(.ix (.v 7) (.e_ 0)),(.ix (.v 7) (.e_ 1)),(.ix (.v 7) (.e_ 2))])::.ifs (.not (.call 12 [(.v 7),(.v 8)])) [(.ret (.con (.bl d_)))] []::.Az .clr 7 0 []::.Az .clr 7 1 []::.Az .clr 7 2 []::[.TL 12 [(.v 9),(.v 6)]]:=rfl;generalize hTD:TD fs m0 m1 m2 m3 fg=R at c2 c3 c4 iT s2
 have bl2:∀z6 z7 z8 z9,bw C (.blt .list [(.v 2)]) (full (P2 N TB fs [m0,m1,m2,m3] fg w z6 z7 z8 z9))=a_ (.lst (fs.map bE),c_):=λz6 z7 z8 z9=>by
  show a_ (Dat.lst (fs.map bE),je (fs.map bE))=_;rw[oY]
 have bl4:∀z6 z7 z8 z9,bw C (.blt .list [(.v 4)]) (full (P2 N TB fs [m0,m1,m2,m3] fg w z6 z7 z8 z9))=a_ (lI fg,c_):=λz6 z7 z8 z9=>by
  show a_ (Dat.lst (fg.map Dat.int),je (fg.map Dat.int))=_;rw[cA]
 have s3:fH C (.set 7 (.tup [(.blt .list [(.v 2)]),(.lst []),(.blt .list [(.v 4)])])) (P2 N TB fs [m0,m1,m2,m3] fg w (a_ (R,d_)) b_ b_ b_)=a_ (.nx (P2 N TB fs [m0,m1,m2,m3] fg w (a_ (R,d_)) (a_ (HD fs [] fg,c_)) b_ b_)):=by
  refine GP (d:=HD fs [] fg) ?_ rfl;have bn:bw C (.lst []) (full (P2 N TB fs [m0,m1,m2,m3] fg w (a_ (R,d_)) b_ b_ b_))=a_ (.lst [],c_):=rfl;simp only[lC,fB,gZ,bl2,bl4,bn,ao,aC,dR,bY,bO,aQ,cB,dP,cR,if_true];rfl
 have s4:fH C (.Az .ext 7 1 [(.comp 1 c_ [] (.itv (.v 3)) [] (.blt .list [(.v 0)]))]) (P2 N TB fs [m0,m1,m2,m3] fg w (a_ (R,d_)) (a_ (HD fs [] fg,c_)) b_ b_)=a_ (.nx (P2 N TB fs [m0,m1,m2,m3] fg w (a_ (R,d_)) (a_ (HD fs [m0,m1,m2,m3] fg,c_)) b_ b_)):=by
  have hc:=DB (C:=C) (ρ:=full (P2 N TB fs [m0,m1,m2,m3] fg w (a_ (R,d_)) (a_ (HD fs [] fg,c_)) b_ b_)) (it:=.v 3) (ms:=[m0,m1,m2,m3]) (X:=rQ [m0,m1,m2,m3]) (Y:=tI) (fr:=d_) rfl rfl (λm=>⟨rfl,rfl⟩) (by simp)
  have hf:lD C [(.comp 1 c_ [] (.itv (.v 3)) [] (.blt .list [(.v 0)]))] (full (P2 N TB fs [m0,m1,m2,m3] fg w (a_ (R,d_)) (a_ (HD fs [] fg,c_)) b_ b_))=a_ ([.lst ([m0,m1,m2,m3].map lI)],c_):=by
   simp only[fB,gZ,hc,ao,aC,dR,bY,bO]
  rw[M3,hf];rfl
 have s5:fH C (.set 8 (.tup [(.blt .list [(.v 2)]),(.comp 1 c_ [] (.itv (.ix (.v 7) (.e_ 1))) [] (.blt .list [(.v 0)])),(.blt .list [(.v 4)])])) (P2 N TB fs [m0,m1,m2,m3] fg w (a_ (R,d_)) (a_ (HD fs [m0,m1,m2,m3] fg,c_)) b_ b_)=a_ (.nx (P2 N TB fs [m0,m1,m2,m3] fg w (a_ (R,d_)) (a_ (HD fs [m0,m1,m2,m3] fg,c_)) (a_ (HD fs [m0,m1,m2,m3] fg,c_)) b_)):=by
  refine GP (d:=HD fs [m0,m1,m2,m3] fg) ?_ rfl;have hc:=DB (C:=C) (ρ:=full (P2 N TB fs [m0,m1,m2,m3] fg w (a_ (R,d_)) (a_ (HD fs [m0,m1,m2,m3] fg,c_)) b_ b_)) (it:=.ix (.v 7) (.e_ 1)) (ms:=[m0,m1,m2,m3]) (X:=.lst ([m0,m1,m2,m3].map lI)) (Y:=lI) (fr:=d_) rfl rfl (λm=>⟨rfl,rfl⟩) (by simp);simp only[lC,fB,gZ,bl2,bl4,hc,ao,aC,dR,bY,bO,aQ,cB,dP,cR,if_true]
  try rfl
 have s6:fH C (.ifs (.not (.call 12 [(.call 24 [(.blt .tuple [(.v 2)]),(.v 3),(.v 4)]),(.v 6)])) [(.ret (.con (.bl d_)))] []) (P2 N TB fs [m0,m1,m2,m3] fg w (a_ (R,d_)) (a_ (HD fs [m0,m1,m2,m3] fg,c_)) (a_ (HD fs [m0,m1,m2,m3] fg,c_)) b_)=a_ (.nx (P2 N TB fs [m0,m1,m2,m3] fg w (a_ (R,d_)) (a_ (HD fs [m0,m1,m2,m3] fg,c_)) (a_ (HD fs [m0,m1,m2,m3] fg,c_)) b_)):=by
  have k1:bw C (.call 24 [(.blt .tuple [(.v 2)]),(.v 3),(.v 4)]) (full (P2 N TB fs [m0,m1,m2,m3] fg w (a_ (R,d_)) (a_ (HD fs [m0,m1,m2,m3] fg,c_)) (a_ (HD fs [m0,m1,m2,m3] fg,c_)) b_))=a_ (R,f2):=by rw[cy];exact c2
  have k2:bw C (.call 12 [(.call 24 [(.blt .tuple [(.v 2)]),(.v 3),(.v 4)]),(.v 6)]) (full (P2 N TB fs [m0,m1,m2,m3] fg w (a_ (R,d_)) (a_ (HD fs [m0,m1,m2,m3] fg,c_)) (a_ (HD fs [m0,m1,m2,m3] fg,c_)) b_))=a_ (.bl c_,d_):=by
   rw[cy];simp only[eU,gm,k1,ao,aC];exact c4
  rw[eT (d:=.bl d_) (fr:=d_) (by show(bw C (.call 12 _) _).bind _=_;rw[k2];rfl) rfl];rfl
 have s7:fH C (.set 9 (.call 24 [(.ix (.v 7) (.e_ 0)),(.ix (.v 7) (.e_ 1)),(.ix (.v 7) (.e_ 2))])) (P2 N TB fs [m0,m1,m2,m3] fg w (a_ (R,d_)) (a_ (HD fs [m0,m1,m2,m3] fg,c_)) (a_ (HD fs [m0,m1,m2,m3] fg,c_)) b_)=a_ (.nx (P2 N TB fs [m0,m1,m2,m3] fg w (a_ (R,d_)) (a_ (HD fs [m0,m1,m2,m3] fg,c_)) (a_ (HD fs [m0,m1,m2,m3] fg,c_)) (a_ (R,d_)))):=ip (by rw[cy];exact c3) iT
 have s8:fH C (.ifs (.not (.call 12 [(.v 7),(.v 8)])) [(.ret (.con (.bl d_)))] []) (P2 N TB fs [m0,m1,m2,m3] fg w (a_ (R,d_)) (a_ (HD fs [m0,m1,m2,m3] fg,c_)) (a_ (HD fs [m0,m1,m2,m3] fg,c_)) (a_ (R,d_)))=a_ (.nx (P2 N TB fs [m0,m1,m2,m3] fg w (a_ (R,d_)) (a_ (HD fs [m0,m1,m2,m3] fg,c_)) (a_ (HD fs [m0,m1,m2,m3] fg,c_)) (a_ (R,d_)))):=by
  have k2:bw C (.call 12 [(.v 7),(.v 8)]) (full (P2 N TB fs [m0,m1,m2,m3] fg w (a_ (R,d_)) (a_ (HD fs [m0,m1,m2,m3] fg,c_)) (a_ (HD fs [m0,m1,m2,m3] fg,c_)) (a_ (R,d_))))=a_ (.bl c_,d_):=by rw[cy];exact c5
  rw[eT (d:=.bl d_) (fr:=d_) (by show(bw C (.call 12 _) _).bind _=_;rw[k2];rfl) rfl];rfl
 refine⟨d_,?_⟩;rw[hb,bf s1,bf s2,hb2,bf s3,bf s4,bf s5,bf s6,bf s7,bf s8];have s9:∀z7,bw C (.call 12 [(.v 9),(.v 6)]) (full (P2 N TB fs [m0,m1,m2,m3] fg w (a_ (R,d_)) z7 (a_ (HD fs [m0,m1,m2,m3] fg,c_)) (a_ (R,d_))))=a_ (.bl c_,d_):=λz7=>by rw[cy];exact c4
 refine(bf (ρ1:=P2 N TB fs [m0,m1,m2,m3] fg w (a_ (R,d_)) (a_ (.tup [.lst [],.lst ([m0,m1,m2,m3].map lI),lI fg],c_)) (a_ (HD fs [m0,m1,m2,m3] fg,c_)) (a_ (R,d_))) rfl).trans ?_;refine(bf (ρ1:=P2 N TB fs [m0,m1,m2,m3] fg w (a_ (R,d_)) (a_ (.tup [.lst [],.lst [],lI fg],c_)) (a_ (HD fs [m0,m1,m2,m3] fg,c_)) (a_ (R,d_))) rfl).trans ?_;refine(bf (ρ1:=P2 N TB fs [m0,m1,m2,m3] fg w (a_ (R,d_)) (a_ (.tup [.lst [],.lst [],.lst []],c_)) (a_ (HD fs [m0,m1,m2,m3] fg,c_)) (a_ (R,d_))) rfl).trans ?_;refine eD ?_
 show(match bw C (.call 12 [(.v 9),(.v 6)]) _ with
  |some x=>a_ (Out.rt x.1 x.2)
  |none=>_)=_
 rw[s9]
structure RA(b q:Nat)(fs:List Fm)(ms:List (List Int))(fg:List Int):Prop where
 w:∀g∈fs,wB b g
 l:fs.length<=q
 m:ms.length=4
 k:∀m∈fg::ms,m.length<=1000
def ML{C:Fs}{e:Ex}{B:List Sx}{ρ:bQ}{c:Bool}(h:bw C e (full ρ)=a_ (.bl c,d_)){P:Out->Prop}(h1:c=c_->∃o,bH C B ρ=a_ o/\P o)(h2:c=d_->P (.nx ρ)):∃o,fH C (.ifs e B []) ρ=a_ o/\P o:=by
 cases c
 ·exact⟨.nx ρ,by rw[eT (d:=.bl d_) (fr:=d_) h rfl];rfl,h2 rfl⟩
 ·obtain⟨o,a,b⟩:=h1 rfl;exact⟨o,by rw[fR (d:=.bl c_) (fr:=d_) h rfl];exact a,b⟩
section
variable{n:Nat}{ns:List Int}{TB:Dat}{w:Nat}
abbrev Pz(ns:List Int)(TB:Dat)(w:Nat)(fs:List Fm)(ms:List (List Int))(fg:List Int):bQ:=P2 (.lst (ns.map Dat.int)) TB fs ms fg w b_ b_ b_ b_
def SX(ns:List Int)(TB:Dat)(w b q:Nat)(o:Out):Prop:=∃fs ms fg,o=.nx (Pz ns TB w fs ms fg)/\RA b q fs ms fg
def OR{b q:Nat}{fs:List Fm}{ms:List (List Int)}{fg:List Int}{k:Int}(h:RA b q fs ms fg)(hn:fs≠[])(hq:q<=74)(hb:6<=b/\b<=90)(hk:0<=k/\k<=10000):∃o,bH (Cn D (n+2)) [.set 2 (.call 22 [.v 0,.con (.int k),.v 2])] (Pz ns TB w fs ms fg)=a_ o/\SX ns TB w (b+6) (q+26) o:=by
 have hql:=h.l;obtain⟨fs',h1,h2,h3⟩:=P7 (n:=n) (ns:=ns) (k:=k) hk hn (by omega) hb h.w;refine⟨_,qE (wH (X:=fs'.map bE) (by rw[cy];exact h1)),fs',ms,fg,rfl,h2,by omega,h.m,h.k⟩
def OQ{b q:Nat}{fs:List Fm}{ms:List (List Int)}{fg:List Int}{k:Int}(h:RA b q fs ms fg)(hk:0<=k/\k<=10000):∃o,bH (Cn D (n+2)) [.vo [3,4] (.call 23 [.v 0,.con (.int k),.v 3,.v 4])] (Pz ns TB w fs ms fg)=a_ o/\SX ns TB w b q o:=by
 have h4:=h.m
 match ms,h4,h with
 |[m0,m1,m2,m3],_,h=>
   obtain⟨ms',fg',fr,h1,h2,h3⟩:=P6 (n:=n) (ns:=ns) (k:=k) hk (m0:=m0) (m1:=m1) (m2:=m2) (m3:=m3) (fg:=fg)
   have hi:im (.tup [rQ ms',tI fg'])=c_:=by
    show(im (rQ ms') && (im (tI fg') && c_))=c_;rw[vP,lR];rfl
   refine⟨_,qE (wy (a:=rQ ms') (b:=tI fg') (f:=fr) (by rw[cy];exact h1) hi),fs,ms',fg',rfl,h.w,h.l,h2,λm hm=>?_⟩
   rcases h3 m hm with z|z
   ·omega
   ·refine h.k m ?_;simp only[ah,aS,or_false]at z ⊢
    rcases z with rfl|rfl|rfl|rfl|rfl<;>simp
end
def RA.up{b q b' q':Nat}{fs:List Fm}{ms:List (List Int)}{fg:List Int}(h:RA b q fs ms fg)(hb:b<=b')(hq:q<=q'):RA b' q' fs ms fg:=⟨λg hg=>⟨by have:=(h.w g hg).l;omega,by have:=(h.w g hg).c;omega,(h.w g hg).p⟩,by have:=h.l;omega,h.m,h.k⟩
def UU{fs:List Fm}{m0 m1 m2 m3 fg:List Int}(ho:∀f∈fs,FG f)(hl:fs.length<=10)(hm:SN m0 m1 m2 m3 fg):RA 6 10 fs [m0,m1,m2,m3] fg:=⟨λg hg=>⟨(ho g hg).ll,by have:=(ho g hg).cl;omega,by obtain⟨j,_,h2,h3⟩:=(ho g hg).pp;rw[h3];exact vy h2⟩,hl,rfl,λm h=>by
 simp only[ah,aS,or_false]at h
 rcases h with rfl|rfl|rfl|rfl|rfl
 ·have:=hm.lf;omega
 ·have:=hm.l0;omega
 ·have:=hm.l1;omega
 ·have:=hm.l2;omega
 ·have:=hm.l3;omega⟩
def Lm{n:Nat}{ns:List Int}:∃fr,Cn D (n+7) 25 [.lst (ns.map Dat.int)]=a_ (.bl c_,fr):=by
 have fin:∀{d:Dat}{fr:Bool},bH (Cn D (n+6)) JA [a_ (.lst (ns.map Dat.int),d_),b_,b_,b_,b_,b_,b_,b_,b_,b_]=a_ (.rt d fr)->Cn D (n+7) 25 [.lst (ns.map Dat.int)]=a_ (d,fr):=λe=>cn (d:=Xz) rfl (fi (C:=Cn D (n+6)) (np:=1) (nl:=10) (body:=JA) rfl e);obtain⟨fs,m0,m1,m2,m3,fg,f0,t1,hne,hlen,hok,_,hM⟩:=Ed (n:=n+2) (ns:=ns);have t1:Cn D (n+6) 17 [.lst (ns.map Dat.int),.int 0]=a_ (ml fs m0 m1 m2 m3 fg,f0):=t1;obtain⟨w,e5,b5⟩:=ki (ns:=ns) (k:=200) (m:=8) (by omega);have r5:=kF (n:=n+5) (ns:=ns) 200 8 (by omega) (by omega);rw[e5]at r5;have r5:Cn D (n+6) 11 [.lst (ns.map Dat.int),.int 200,.int 8]=a_ (.int (w:Nat),d_):=r5;have g0:=UU hok hlen hM;obtain⟨TB,hTB⟩:∃TB,TB=ml fs m0 m1 m2 m3 fg:=⟨_,rfl⟩
 have start:bH (Cn D (n+6)) JA [a_ (.lst (ns.map Dat.int),d_),b_,b_,b_,b_,b_,b_,b_,b_,b_]=bH (Cn D (n+6)) (JA.drop 4) (Pz ns TB w fs [m0,m1,m2,m3] fg):=by
  have hb:JA=.set 1 (.call 17 [.v 0,.e_ 0])::.set 2 (.blt .list [.ix (.v 1) (.e_ 0)])::.vo [3,4] (.sl (.v 1) (a_ (.e_ 1)) b_)::.set 5 (.call 11 [.v 0,.e_ 200,.e_ 8])::JA.drop 4:=rfl
  have hi:im (.tup [rQ [m0,m1,m2,m3],tI fg])=c_:=by
   show(im (rQ [m0,m1,m2,m3]) && (im (tI fg) && c_))=c_;rw[vP,lR];rfl
  generalize JA.drop 4=R at hb ⊢;rw[hb,hTB];generalize Cn D (n+6)=C at t1 r5;rw[bf (ip (d:=ml fs m0 m1 m2 m3 fg) (f:=f0) (by rw[cy];exact t1) xw)]
  refine(bf (wH (X:=fs.map bE) (by
   show a_ (Dat.lst (fs.map bE),je (fs.map bE))=_
   rw[oY]))).trans ?_
  refine(bf (wy (a:=rQ [m0,m1,m2,m3]) (b:=tI fg) (f:=d_) rfl hi)).trans ?_;refine(bf (ip (d:=.int (w:Nat)) (f:=d_) (by rw[cy];exact r5) rfl)).trans ?_;rfl
 have hb4:JA.drop 4=.ifs (.cmp .gt (.v 5) (.e_ 2)) [(.set 2 (.call 22 [(.v 0),(.e_ 201),(.v 2)]))] []::.ifs (.and (.cmp .isin (.v 5) (.tup [(.e_ 3),(.e_ 4),(.e_ 5)])) (.cmp .gt (.blt .len [(.v 2)]) (.e_ 0))) [(.set 2 (.call 22 [(.v 0),(.e_ 230),(.v 2)]))] []::.ifs (.cmp .isin (.v 5) (.tup [(.e_ 1),(.e_ 2),(.e_ 7)])) [(.vo [3,4] (.call 23 [(.v 0),(.e_ 210),(.v 3),(.v 4)]))] []::.ifs (.cmp .isin (.v 5) (.tup [(.e_ 2),(.e_ 7)])) [(.vo [3,4] (.call 23 [(.v 0),(.e_ 240),(.v 3),(.v 4)]))] []::Qd:=rfl;obtain⟨o1,x1,fs1,ms1,fg1,rfl,g1⟩:=ML (C:=Cn D (n+6)) (e:=.cmp .gt (.v 5) (.e_ 2)) (B:=[(.set 2 (.call 22 [(.v 0),(.e_ 201),(.v 2)]))]) (ρ:=Pz ns TB w fs [m0,m1,m2,m3] fg) (P:=SX ns TB w 12 36) rfl (λ_=>OR (n:=n+4) g0 hne (by omega) (by omega) (by omega)) λ_=>⟨fs,_,fg,rfl,g0.up (by omega) (by omega)⟩
 have h2:∃c:Bool,bw (Cn D (n+6)) (.and (.cmp .isin (.v 5) (.tup [(.e_ 3),(.e_ 4),(.e_ 5)])) (.cmp .gt (.blt .len [(.v 2)]) (.e_ 0))) (full (Pz ns TB w fs1 ms1 fg1))=a_ (.bl c,d_)/\(c=c_->fs1≠[]):=by
  have hA:∃c1:Bool,bw (Cn D (n+6)) (.cmp .isin (.v 5) (.tup [(.e_ 3),(.e_ 4),(.e_ 5)])) (full (Pz ns TB w fs1 ms1 fg1))=a_ (.bl c1,d_):=⟨_,rfl⟩
  have hB:bw (Cn D (n+6)) (.cmp .gt (.blt .len [(.v 2)]) (.e_ 0)) (full (Pz ns TB w fs1 ms1 fg1))=a_ (.bl (decide ((0:Int)<(fs1.length:Int))),d_):=by
   show a_ (Dat.bl (decide ((0:Int)<((fs1.map bE).length:Int))),d_)=_;rw[ak]
  obtain⟨c1,hA⟩:=hA;cases c1
  ·exact⟨d_,by rw[BM,hA];rfl,λz=>nomatch z⟩
  ·refine⟨decide ((0:Int)<(fs1.length:Int)),by rw[BM,hA,hB];rfl,λz hz=>?_⟩;subst hz;exact absurd (of_decide_eq_true z) (by simp)
 obtain⟨c,h2,h2'⟩:=h2;obtain⟨o2,x2,fs2,ms2,fg2,rfl,g2⟩:=ML (B:=[(.set 2 (.call 22 [(.v 0),(.e_ 230),(.v 2)]))]) (P:=SX ns TB w 18 62) h2 (λhc=>OR (n:=n+4) g1 (h2' hc) (by omega) (by omega) (by omega)) λ_=>⟨fs1,_,fg1,rfl,g1.up (by omega) (by omega)⟩
 obtain⟨o3,x3,fs3,ms3,fg3,rfl,g3⟩:=ML (C:=Cn D (n+6)) (e:=.cmp .isin (.v 5) (.tup [(.e_ 1),(.e_ 2),(.e_ 7)])) (B:=[(.vo [3,4] (.call 23 [(.v 0),(.e_ 210),(.v 3),(.v 4)]))]) (ρ:=Pz ns TB w fs2 ms2 fg2) (P:=SX ns TB w 18 62) rfl (λ_=>OQ (n:=n+4) g2 (by omega)) λ_=>⟨fs2,_,fg2,rfl,g2⟩
 obtain⟨o4,x4,fs4,ms4',fg4,rfl,g4⟩:=ML (C:=Cn D (n+6)) (e:=.cmp .isin (.v 5) (.tup [(.e_ 2),(.e_ 7)])) (B:=[(.vo [3,4] (.call 23 [(.v 0),(.e_ 240),(.v 3),(.v 4)]))]) (ρ:=Pz ns TB w fs3 ms3 fg3) (P:=SX ns TB w 18 62) rfl (λ_=>OQ (n:=n+4) g3 (by omega)) λ_=>⟨fs3,_,fg3,rfl,g3⟩
 have h4:=g4.m
 match ms4',h4,g4,x4 with
 |[p0,p1,p2,p3],_,g4,x4=>
   obtain⟨fr,hh⟩:=half (n:=n) (N:=.lst (ns.map Dat.int)) (TB:=TB) (fs:=fs4) (m0:=p0) (m1:=p1) (m2:=p2) (m3:=p3) (fg:=fg4) (w:=w) (λf hf=>⟨by have:=(g4.w f hf).l;omega,by have:=(g4.w f hf).c;omega,(g4.w f hf).p⟩) (by have:=g4.l;omega) λm hm=>g4.k m (by
    simp only[ah,aS,or_false]at hm ⊢
    rcases hm with rfl|rfl|rfl|rfl|rfl<;>simp)
   exact⟨fr,fin (start.trans (by rw[hb4,bf x1,bf x2,bf x3,bf x4];exact hh))⟩
def math(ns:List Int)(_:ns.length<=63):∃fr,Cn D 12 25 [.lst (ns.map Dat.int)]=a_ (.bl c_,fr):=Lm (n:=5)
end K04
open PySem PySem.W PyProof.Rows
namespace PySem.W.Fast
def tw7486623750466730662:=0
def tw8029695560069066299:=0
def tw4258726642918733309:=0
def tw5038643933784255431:=0
def tw12253063656079940502:=0
def tw12082119857208542690:=0
def tw8854866322904330949:=0
def tw8637585449447587343:=0
def tw16222763685069451466:=0
def tw15776157602939153798:=0
def tw14306460900453110811:=0
def tw10466614648028880345:=0
def tw6026820041046305424:=0
def tw17409441272774938952:=0
def tw10066581030296052741:=0
def tw18238262190773417045:=0
def tw9148068366483605791:=0
def tw468471244262411643:=0
def tw516420572914154928:=0
def tw2657880552570959286:=0
def tw9182117499265583242:=0
def tw60889240108495924:=0
def tw5312570786466654378:=0
def tw654054819989524997:=0
def tw12911812185990233028:=0
def tw13858583497026545810:=0
def tw1529990860123979393:=0
def tw13074696234680060362:=0
def tw15554130243871645458:=0
def tw5989551720539804503:=0
def tw1301258979592272023:=0
def tw7772051720073920498:=0
def tw206904611486463466:=0
def tw5506990653601536678:=0
def tw850833033495068310:=0
def tw17203115933525892435:=0
def tw1022643835182886217:=0
def tw13710974739926461257:=0
def tw16918600206602435763:=0
def tw18114183974489284805:=0
def tw4455797448063412807:=0
def tw11440411140618781211:=0
def tw16342883738626951528:=0
def tw12139183166514480297:=0
def tw15320267565153517431:=0
def tw3662337195699405219:=0
def tw12382756551554303055:=0
def tw14050139828984868121:=0
def tw10845620828927865122:=0
def tw6381560930147301598:=0
def tw12792075835190515505:=0
def tw16223153504696531183:=0
def tw409917482651877980:=0
def tw214465741009701688:=0
def tw13627900184120875605:=0
def tw18224904763742530638:=0
def tw6937611940331562935:=0
def tw14231304391167106557:=0
def tw7427233181348616232:=0
def tw16335008953552254894:=0
def tw13357132661332066156:=0
def tw5508839601201436253:=0
def tw8215657769636041719:=0
def tw7655270658365142913:=0
def tw11690659662346580871:=0
def tw15601186214909812509:=0
def tw17709866369193671595:=0
def tw12332598293864898400:=0
def tw14670648200633182226:=0
def tw4047592474933759108:=0
def tw13786065587519440680:=0
def tw2563999800781746631:=0
def tw17352765786285758710:=0
def tw13809212556191959446:=0
def tw808892263369714158:=0
def tw9275311587823728658:=0
def tw12232283650450507174:=0
def tw18065409739319029204:=0
def tw8133265628079121422:=0
def tw18290899709561174359:=0
def tw4307721657714269207:=0
def tw10502872674449684929:=0
def tw11096317517163603994:=0
def tw12521433870324830374:=0
def tw4764591877931365735:=0
def tw6526512802623506258:=0
def tw7566481868143798609:=0
def tw5463781149412982833:=0
def tw15223225957769563806:=0
def tw18058586472924083398:=0
def tw14380100841716779154:=0
def tw11939925426609004123:=0
def tw9113700149655725011:=0
def tw13540197742789663782:=0
def tw389595632556092154:=0
def tw8366904307302875207:=0
def tw6679174760163789385:=0
def tw12627730663814087855:=0
def tw11867952698070910891:=0
def tw16034214899095074155:=0
def tw10904415602962604179:=0
def tw16362426104414563025:=0
def tw6817526173189428148:=0
def tw17771497309526872702:=0
def tw10769125181481366974:=0
def tw12967825998168381618:=0
def tw3031988629761163691:=0
def tw9287146475009489112:=0
def tw16268281438987580771:=0
def tw8408876257000753064:=0
def tw15729666701544489070:=0
def tw5894704134583306532:=0
def tw15520756898632477017:=0
def tw11998662052641765758:=0
def tw14105908077921049671:=0
def tw3112105582702269080:=0
def tw16454567928460880210:=0
def tw14764142384935083504:=0
def tw17710570021352639061:=0
def tw16127772764671351495:=0
def tw17810415143706317474:=0
def tw12927845804529017343:=0
def tw7804655156700993893:=0
def tw15817076748550024694:=0
def tw3871402176675465952:=0
def tw14098685677087836778:=0
def tw9850386546841178892:=0
def tw14452318630128002751:=0
def tw6935378399078351966:=0
def tw13095585076836294720:=0
def tw4810441213842099182:=0
def tw995994369890388235:=0
def tw7556790820648876039:=0
def tw7827641607510029552:=0
def tw7377153872556321744:=0
def tw7562207935173787542:=0
def tw6835862944795773179:=0
def tw5177087635437487997:=0
def tw377189480684261926:=0
def tw921795575716388573:=0
def tw12636971074263640044:=0
def tw15630336326304334561:=0
def tw3836390515238109312:=0
def tw17032675468543407522:=0
def tw471513530740601990:=0
def tw2015814527516243631:=0
def tw6562063750870095677:=0
def tw1593743086528468472:=0
def tw10089808494031195988:=0
def tw15401806461453511795:=0
def tw2078539668659914625:=0
def tw13592379331762326293:=0
def tw1640312888191939780:=0
def tw12733594695645765531:=0
def tw4522463362890161124:=0
def tw270752584264631349:=0
def tw5503889853807041384:=0
def tw7843661854525898196:=0
def tw6245085284087008908:=0
def tw8778663709350908073:=0
def tw3595513185547615372:=0
def tw7857019916050363512:=0
def tw11682518199052852991:=0
def tw14464869804049019509:=0
def tw8473710197087627165:=0
def tw17775810860580118581:=0
def tw2627704343514916425:=0
def tw6266381219835713196:=0
def tw12864736910327973954:=0
def tw3405203910778725030:=0
def tw16732936804966093249:=0
def tw6683300209852340807:=0
def tw17360509465874979775:=0
def tw4809927994150011990:=0
def tw10298269277148763132:=0
def tw12882920474714354674:=0
def tw10704547722566625113:=0
def tw5718702755134284902:=0
def tw5730198761986669124:=0
def tw1806966345370539364:=0
def tw11125594155522397456:=0
def tw11776595599542990245:=0
def tw17543470903562357961:=0
def tw5772662500916572719:=0
def tw11620392486908214341:=0
def tw12121053330945004798:=0
def tw10943238167189102781:=0
def tw10454883297867701795:=0
def tw5248363171089060402:=0
def tw1479177238857937590:=0
def tw12569204586983651014:=0
def tw1452136087364288663:=0
def tw13346792502324906936:=0
def tw14267363689994624652:=0
def tw15899106729452331175:=0
def tw8743123081273694815:=0
def tw9179473602857582755:=0
def tw16981809992413899720:=0
def tw2583009050297599494:=0
def tw16869550868975721023:=0
def tw4305455206333810517:=0
def tw10491819632519319457:=0
def tw10907765985471819293:=0
def tw15383300634960425783:=0
def tw12438799963966349327:=0
def tw17222276783629338267:=0
def tw13877219002702463302:=0
def tw7992460413965267773:=0
def tw10552777780421936648:=0
def tw2548813862256206528:=0
def tw10834957724963140897:=0
def tw10789140981470895323:=0
def tw17474688132693563075:=0
def tw5526252166718592327:=0
def tw1906358120882688345:=0
def tw16617701169753611846:=0
def tw16203405355687108527:=0
def tw8589139765506235320:=0
def tw1481391917180486478:=0
def tw4961596569970280354:=0
def tw5569658475873070153:=0
def tw5036065556959633631:=0
def tw14649079547006188880:=0
def tw5748257994563715273:=0
def tw11857765230109215659:=0
def tw11617891056914949700:=0
def tw16948240170099799880:=0
def tw13146799163962113711:=0
def tw859459843930460302:=0
def tw8876693133017446817:=0
def tw5513097595316782193:=0
def tw17723409529980590528:=0
def tw3133279050542416953:=0
def tw347736916243823864:=0
def tw18371407832416239010:=0
def tw2131108962828663459:=0
def tw17705882279468646805:=0
def tw13249869936319261293:=0
def tw4569188167300781224:=0
def tw16941851461218661950:=0
def tw1614878335301712309:=0
def tw11401121710707559276:=0
def tw10149329397346283206:=0
def tw17018651855655472187:=0
def tw17783418554603634268:=0
def tw5445782320070148511:=0
end PySem.W.Fast
set_option maxRecDepth 100000 in
set_option maxHeartbeats 0 in
theorem PySem.Challenge.cw_dots_k04_tables_made_holds : PySem.Challenge.rw_dots_k04_tables_made.Holds := by
 w_on;o_law;k_head;(case hw=>w_witness2)
 k_fill
 refine M.walk (l:=lg) (n:=14) (x:="_law_script") rfl ⟨rfl,by decide,by decide⟩ rfl (λw h Y=>PySem.W.kIn_of Y) ?F
 case F=>
  intro w mg fa h KX G hmg
  have Z:∀x∈M.kL,mg x=b_:=by
   refine M.NL KX G ?_
   kernel_rfl
  have T1:=M.Sj (D:=K04.D) KX G (by kernel_rfl) (by kernel_rfl) (λ_ _ _ _ _ _ _=>by kernel_rfl);have T2:=M.DA (con:=K04.con) KX G (by kernel_rfl);have T3:=M.MX (L:=K04.xg.exc) (B:=lh.main.body) KX G (by kernel_rfl) (by kernel_rfl) (by kernel_rfl) (λ_ _ _=>by kernel_rfl);have T4:=M.Ni (L:=K04.xg.cls) KX G (by kernel_rfl);have T5:=M.Ku (L:=K04.xg.tcl) KX G (by kernel_rfl);have T6:=M.NP (K:=L2.XT KX) (L:=K04.xg.AE) (by kernel_rfl);have T7:=M.MN (L:=K04.xg.hnd) KX G (by kernel_rfl);have T:M.Here (L2.XT KX) mg K04.D K04.con K04.xg:=⟨K04.Uw,T1,Z,T2,T3,T4,T5,T6,T7,trivial,by decide⟩
  exact M.Q7 (l:=lg) T (j:=25) rfl rfl hmg K04.math
