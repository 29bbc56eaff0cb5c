import PyProof.Rows.All
import KE.BitLaws
import KE.KDictLaws
import KE.KDictList
import KE.KDictSum
import KE.KLam
import KE.KMinKey
import KE.OsGo
import KE.OsHead
import KE.OsShapes
import Open.SpecLaws
import Open.Tops
import OpenK.AllK
import PyProof.EqAt
import PyProof.EqKinds
import PyProof.Rows.SortShellAny
import PyProof.TupleCall
import PySem.Challenge.RW_recordbooks_s01_answers
import PyVblwai
import VblwaiSpec
import Wide.All
import Wide.FinOn
set_option Elab.async false
set_option linter.all false
set_option maxRecDepth 100000
set_option maxHeartbeats 0
set_option compiler.extract_closed false
set_option bootstrap.genMatcherCode false
set_option genSizeOf false
set_option genInjectivity false
local macro_rules|`(tactic|omega)=>`(tactic|first|assumption|lia)
open Array renaming getElem?_eq_none->DH,getElem?_eq_some_iff->qu,getElem?_toList->sV,length_toList->oQ,mk->DI
open Bool renaming and_comm->lg,and_eq_false_iff->DK,and_eq_true->fe,and_eq_true_iff->qv,and_false->ku,and_true->DL,eq_false_iff->DM,eq_iff_iff->hw,false->ae,false_and->jk,false_eq_true->jl,false_ne_true->ed,false_or->sW,not_eq_false'->wF,not_eq_true'->wG,not_false->DN,not_true->DO,or_eq_true->wH,or_false->DP,or_true->sX,true->ab,true_and->gg
open Classical renaming byContradiction->kv,epsilon->TC,epsilon_spec->DQ
open Decidable renaming decide->aq,of_not_not->TD
open Eq renaming mpr->wI,trans->wJ
open Except renaming ok->DR
open False renaming elim->eW
open ForInStep renaming yield->sY
open Function renaming comp_def->TE
open Inhabited renaming default->xc
open Int renaming eq_ofNat_of_zero_le->fQ,le_trans->Gj,natCast_nonneg->qL,not_le->qM,not_lt->qN,ofNat->Gk,ofNat_lt->Gl,toNat->f7,toNat_natCast->eX,toNat_of_nonneg->jn
open Int.ofNat renaming inj->TF
open LawfulBEq renaming eq_of_beq->gI
open List renaming Perm->rr,all_cons->rt,all_eq_true->hE,all_map->yK,any->Je,any_append->Jf,any_cons->nN,any_eq_false->pt,any_eq_true->ib,any_map->yL,append_assoc->b8,append_nil->dM,append_of_mem->yM,cons_append->gJ,contains_cons->nO,contains_eq_mem->Vj,contains_iff_mem->mG,dropLast_concat_getLast->Jg,dropWhile_sublist->Jh,drop_drop->uj,drop_eq_getElem_cons->ic,drop_left->Ji,drop_left'->Jj,drop_length->jv,drop_of_length_le->uk,drop_sublist->yN,drop_zero->Jk,eq_of_mem_replicate->yO,ext_getElem?->mH,filterMap_append->yP,filterMap_cons->mI,filter_append->ie,filter_congr->Jl,filter_cons->ig,filter_cons_of_neg->Jm,filter_cons_of_pos->yQ,filter_eq_nil_iff->yR,filter_filter->lz,filter_map->ul,filter_nil->Jn,filter_sublist->jw,find?_append->kJ,find?_cons->hF,find?_eq_none->j9,find?_map->ru,find?_some->yS,flatMap_append->g8,flatMap_cons->ez,flatMap_map->jx,flatMap_nil->um,flatten_append->lA,flatten_cons->fj,flatten_nil->pu,foldl->Jo,foldl_append->mJ,foldl_cons->kK,foldl_nil->Jp,foldr_cons->yT,forIn_nil->Jq,getD_eq_getElem?_getD->pw,getElem?_append_right->Jr,getElem?_cons_succ->yU,getElem?_cons_zero->yV,getElem?_drop->Js,getElem?_eq_getElem->eM,getElem?_eq_none->px,getElem?_eq_none_iff->yW,getElem?_eq_some_iff->bu,getElem?_inj->Jt,getElem?_map->bw,getElem?_modify->mK,getElem?_set->py,getElem?_set_ne->un,getElem?_set_self->fK,getElem_mem->Ju,getElem_of_mem->Jv,getLast?_eq_none_iff->yX,getLast?_eq_some_iff->Jw,getLast?_map->Jx,length->fu,length_append->bH,length_cons->cz,length_drop->kL,length_eq_zero_iff->Jy,length_filter_le->fv,length_flatMap->pz,length_map->an,length_modify->j_,length_nil->f',length_pos_iff->Jz,length_replicate->jy,length_set->j',length_take->e7,length_take_le->JA,lookup->ih,lookup_cons->ii,map->nP,map_append->a6,map_congr_left->ga,map_cons->b1,map_drop->jz,map_id->yY,map_inj_left->yZ,map_map->bz,map_nil->nQ,map_replicate->JB,map_set->nR,map_take->ka,mem_append->cU,mem_append_left->g9,mem_append_right->gb,mem_cons->bW,mem_cons_of_mem->cJ,mem_cons_self->cr,mem_filter->cY,mem_filterMap->uo,mem_flatMap->kM,mem_iff_getElem->JC,mem_iff_getElem?->hG,mem_map->bm,mem_map_of_mem->nS,mem_of_find?_eq_some->kN,mem_of_getElem?->a1,mem_of_getLast?->uq,mem_of_mem_drop->ur,mem_of_mem_take->y0,mem_or_eq_of_mem_set->iT,mem_range->ut,mem_singleton->dZ,mem_zipIdx->JD,nil_append->lB,nodup_append->jA,nodup_cons->g_,nodup_iff_pairwise_ne->JE,nodup_nil->nT,not_mem_nil->Vk,of_mem_zip->y1,pairwise_append->rv,pairwise_cons->lC,pairwise_iff_getElem->JF,pairwise_map->uu,perm_append_comm->nU,perm_middle->y2,range->ij,replicate->cA,replicate_succ'->JG,set_set->kb,size_toArray->e8,sum_append->rx,sum_cons->ik,takeWhile_append_dropWhile->JH,take_append_drop->gK,take_append_of_le_length->y3,take_length->dN,take_of_length_le->mL,take_sublist->y4,take_succ->en,zip_cons_cons->JI
open List.Pairwise renaming and->TJ,imp->Ja,nil->yH
open List.Perm renaming append->TK,append_left->ia,append_right->ly,flatten->TM,refl->Jb,swap->Jc,trans->rs
open List.Sublist renaming append->yI,append_left->TN,map->Jd,refl->yJ
open List.cons renaming inj->TO
open Max renaming max->eN
open Min renaming min->iU
open MonadExcept renaming tryCatch->pA
open Nat renaming add_assoc->uv,add_comm->y5,add_le_add_left->JJ,add_le_add_right->JK,add_sub_cancel_left->JL,blt->JM,le_of_ble_eq_true->bJ,le_of_eq->ry,le_of_lt->pB,le_of_succ_le->uw,le_refl->bp,le_succ->mM,le_succ_of_le->eZ,le_trans->cu,lt_irrefl->fV,lt_of_le_of_lt->lD,lt_of_lt_of_le->eg,lt_succ_of_lt->mN,lt_succ_self->ux,lt_trans->JN,lt_trichotomy->JO,max_le->JP,min_eq_left->pC,min_eq_right->uy,mod_lt->y6,mul_le_mul_right->JQ,ne_of_gt->mO,ne_of_lt->eA,sub_self->JR,succ_le_succ->JS,succ_ne_self->JT,succ_pos->JU,zero_add->JV,zero_le->co
open Nat.succ renaming inj->pD
open Ne renaming symm->df
open Option renaming bind_some->JW,getD_none->JX,isSome_iff_exists->nV,isSome_map->lE,isSome_none->JY,isSome_some->uz,map->y7,map_eq_map->uA,map_eq_some_iff->y8,map_map->JZ,map_some->lF,none->aa,some->O,toList_some->J0
open Option.some renaming inj->bA,injEq->kO
open Or renaming inl->y9
open Prod renaming fst->rz
open Pure renaming pure->cR
open PyFlat renaming call->d0,calls->kc,played->J1,row->J2,rows->lG,told->J3
open PyProof.Rows renaming AllBare->nW,Constant_none->y_,IntsAre->il,IsTup->uB,Subscript_->y',boot_list->rA,boot_min->uC,boot_ord->uD,boot_sorted->J4,boot_sum->uE,callWith_builtin1->TP,callWith_type1->Aa,envOfC->fW,iadd_int->TQ,joinParts_cons->J5,lt_int->J6,sortedAll_at->TR,sortedAll_old->TS,sorted_ints->TU,subscriptTail->Ab,subscriptTail_builtinR->J7
open PySem renaming Addr->Y,Arguments->pE,Around->bK,ClassData->uI,CmpOp->mP,DictEntry->gi,Env->cS,ExcBaseFacts->uJ,Expr->aZ,FuncData->hH,GenState->uO,Heap->be,IsEnum->lH,IsEnumOut->Ai,IsRangeIter->Ky,KeyKind->Kz,Keyword->mT,Model->jC,NameKind->eq,Obj->aF,Operator->uP,OsState->im,Paired->kd,Params->eO,Pos->bL,Program->bd,PyData->jD,Result->kR,Scope->ea,Sem->fw,Shared->ao,Stmt->bh,Str->ac,Tok->fx,TriplesOk->Am,Value->ag,Within->AD,World->aO,assign->ob,assignEach->pQ,atKey->lM,attributeBase->lN,backTo->d5,backToKw->gM,behindInMarks->oc,binaryOp->oe,bindArgs->rQ,bindC->mY,bindL->mZ,bootBuiltins->rR,boot_len->cC,builtinsNs->uX,cLine->eK,call->e',callWith->kh,call_list_seq->K9,call_meets->uY,call_meetsIn->rS,cellsFrom->fX,checkBuiltinCall->AE,closureFor->uZ,codeAny->iX,codeAny_builtin->u0,codeAny_call_builtin->u1,codeAny_mono->og,codeAny_of_tree->AF,compEnvC->iY,compPost->AG,compareOp->eL,comprehension->K_,constantsAlone->Vl,eval->bB,evalPart_none->K',excClassObj->m0,field->pR,foldedSetIterable->u2,getAttr->rT,getItem->pS,getMethod->oh,hashInt->rU,holding->iZ,importedModules->rV,intBits_le_64->La,interactive->Lb,isInstance->AH,isSubtype_stop->Lc,isTrue->rW,keywordEach->gN,letOwnedTupleGo->u4,mainGlobals->kT,mem_of_lookup->hc,model->aT,newFunctionEnv->Ld,noteFrame->pT,notedBy->pU,nums_intItems->Le,operate->AI,pastItsLine_dict->Lf,plainId_quiet->u5,plainObj_wpAny_Assign_Attribute->Lg,pushCells->m1,pushCells_keeps->u6,pyIter->pV,pyNext->ip,rawInt->fy,recursionLimit->Lh,seqIndex?->u7,seqIndex_neg->AJ,seqIndex_of->AK,seqItems?->AL,setAttr->AM,setField->pW,setFlight->rX,setItem->u8,sizeLine->aH,sizeLine_eq->bn,sliceBounds->oi,slot_list_getitem->Li,spliced->AN,standAt->oj,starEach->bX,startupNames->Lj,strLen_append->fa,subscripted->u9,swapsWith->lO,sysModules->hd,theTreesLotGoes->Lk,treeTable->lP,tupleKind->ok,tupleKind_room_in1->pX,typeLookup->AO,valueAt->kU,wpAny->aC,wpAny_Call_Name_kw->pY,wpAny_Call_method->u_,wpAny_Name->AP,wpAny_alloc->Ll,wpAny_assign_Name->Lm,wpAny_attempt->pZ,wpAny_bind->aD,wpAny_call->ol,wpAny_callSpecial?_slot->u',wpAny_call_entry->m2,wpAny_dictEntries->AQ,wpAny_dictEpoch->AR,wpAny_execs_cons->Ln,wpAny_execs_nil->rY,wpAny_field->kV,wpAny_fieldsOf->Lo,wpAny_getItem_of->Lp,wpAny_holding->iq,wpAny_in_of->Lr,wpAny_isInstance->Ls,wpAny_isOneOf_keyiter->Lt,wpAny_isSubtype_exc->va,wpAny_isTrue_Compare1->Lu,wpAny_letGo->rZ,wpAny_loadPart->Lv,wpAny_loadPart_at->om,wpAny_lookBehind->Lw,wpAny_madeBy_exc->Lx,wpAny_mono->fM,wpAny_newList->Ly,wpAny_newObj_type->r0,wpAny_notIn_of->Lz,wpAny_noted->LA,wpAny_nsSet1->LB,wpAny_of_eq->AS,wpAny_passesOwn->oo,wpAny_pure->bF,wpAny_pyIter_enum->LC,wpAny_pyIter_list->p0,wpAny_pyIter_revIter->LD,wpAny_pyIter_slot->LF,wpAny_pyNext_list_end->LG,wpAny_pyNext_list_item->AT,wpAny_seqItems->AU,wpAny_setField->r1,wpAny_setField_rec->r2,wpAny_specialOf->AV,wpAny_standAt->oq,wpAny_truthy_bool->kW,wpAny_tryCatch->p1,wpAny_typeNameOfWhole_keyiter->vb,wpAny_updateSeq->AW,wpAt_bind->LH,wpAt_of_wpAny->LI,«leaving»->u3
open PySem.Around renaming frames_deeper->J8,under_plainId->Ac
open PySem.AutoSeq1 renaming list_extend_list_list_0->TV,sub_tuple_tuple->TW
open PySem.Builtin.Builtins renaming bindParams->TX
open PySem.Builtin.Dict renaming dictSlotNone->TY,showsAll->J_
open PySem.Builtin.Dict_items renaming ownsTuple->J'
open PySem.Builtin.List renaming listTooLong->Ad
open PySem.Builtin.Range renaming rangeSize->TZ
open PySem.Builtin.SmallTypes renaming ownedTupleHandOut->T1,ownedTupleIsFree->T2
open PySem.Builtin.Tuple renaming tupleCompareSizes->T3
open PySem.Calls renaming Constant_str->Ka,Name_function_global->Kb,callWith_builtin->uF,evalArgs_plain->uG,spliced_cons->pF,spliced_nil->uH
open PySem.Challenge renaming pw_recordbooks_s01_answers->jB,rw_recordbooks_s01_answers->Kc
open PySem.CmpOp renaming In->Kd,NotIn->Ke
open PySem.Code renaming quiet_builtin->Ae
open PySem.Data renaming func->Kf
open PySem.DictEntry renaming refKey->T4
open PySem.EntryCells renaming newEntry->Kg
open PySem.EqMixed renaming eq_bool_str->T5,eq_int_str->T6,eq_str_bool->T7,eq_str_int->T8,ne_bool_str->T9,ne_int_str->T_,ne_str_bool->T',ne_str_int->Ua
open PySem.EqNone renaming eq_bool_none->Ub,eq_int_none->Uc,eq_none_bool->Ud,eq_none_int->Ue,eq_none_none->Uf,eq_none_str->Ug,eq_str_none->Uh,ne_bool_none->Ui,ne_int_none->Uj,ne_none_bool->Uk,ne_none_int->Ul,ne_none_none->Um,ne_none_str->Un,ne_str_none->Uo
open PySem.F renaming args_dict_get_2->Kh,args_dict_get_3->Ki,args_dict_keyiterator_next_1->Kj,args_enumerate_next_1->Kk,attr_Exception->Kl,called_enumerate->Af,entry_dict_get->uK,entry_dict_keyiterator_next->Km,entry_enumerate_next->Kn,entry_min_loop->Ag,plainAttrs_dict->uL,plainAttrs_list->e9,plain_min_loop->nX,slot_NoneType_hash->uM,slot_dict_get->pG,slot_dict_getitem->Ko,slot_dict_iter->Kp,slot_dict_keyiterator_iter->Kq,slot_dict_keyiterator_next->pH,slot_dict_setdefault->Kr,slot_dict_values->Ks,slot_enumerate_next->uN,slot_list_append->gL,slot_list_extend->mQ,slot_list_index->Kt,slot_list_pop->Ku,type_dict_get->Kv,type_list_append->ha,type_list_extend->nY
open PySem.Heap renaming ExtBut->Kw,SameBut->rB,get?_none_of_le->Ah,get?_push_of_some->dw,get?_push_size->eo,get?_update_other->mS,get?_update_self->pI,lt_size->cB,size_push->hI
open PySem.Heap.DictOf renaming new->Up
open PySem.Heap.IsSliceOf renaming new->Uq
open PySem.Heap.Ns1 renaming of_empty->Kx
open PySem.Heap.SameBut renaming update->rC
open PySem.IsL renaming update->Ur
open PySem.MeetsSeq renaming list_pop_at->Us
open PySem.NameKind renaming cell->Aj,free->mU,«local»->Ut
open PySem.Obj renaming data_mapFields->rD,isFreed_of_fields->Ak,mapFields->kP,mapSeq->lI
open PySem.Paired renaming length->lJ,snoc->KA
open PySem.PassesOwn renaming never->e_,«leaving»->kQ
open PySem.PyData renaming canLayAll0->nZ,depthAll->rE,eqv->KC,eqvAll->uQ,int->ke,list->pJ
open PySem.ReadsAll renaming cons->Uu,nil->Uv
open PySem.SeqAt renaming EqAt->Al,shaped->mV
open PySem.SeqAt.EqAt renaming bool_bool->Uw,bool_int->Ux,bool_none->Uy,bool_str->Uz,int_bool->UA,int_int->KD,int_none->KE,int_str->KG,none_bool->UB,none_int->KH,none_str->KI,same->KJ,str_bool->UC,str_int->KL,str_none->KN,str_str->UD
open PySem.Str renaming empty->pK,length->KO,ofString->dg
open PySem.Value renaming bool->n_,builtin->pL,bytes->KP,float->KQ,int->kS,isInt->KR,isStrOf->KS,none->fL,ref->b9,str->uR,type->An
open PySem.W renaming CodeHd->pM,Frag->aR,InstAt->rF,Looks->rG,bind_fn->KY,boot_drawn->rH,boot_heap->iV,boot_toks->rI,byRow2->uU,callWith_K->rJ,callWith_K0->Ap,cellsFrom_some->KZ,chainsOk->Aq,clsIn->pO,codeIn->Ar,emptyDict->lK,envX->rK,exmOne->n',findCls->K0,findIn->eb,findObj_own->K1,fnOf->oa,handedIn->As,hasDictIn->rL,instObj->mW,isFn->lL,kdl_dict->K2,keepIn->kg,kla_fn->K3,lookIn->pP,looks_clsIn->Au,looks_findIn->rM,looks_mroIn->K4,makesIn->uV,methodCall_KW->Av,methodObj->Aw,nsIn->iW,openGood->Ax,opensWell->Ay,plainGet->rN,plainGet_of->Az,plainOver->AA,readsIn->K5,set_plain->K6,specialIn->K7,tabObj->AB,takerIn->rO,topFrame->mX,topRun->rP,topStub->uW,typeIn->AC
open PySem.W.Codec renaming and_of->KU,fits->KV,inLen->KW
open PySem.W.Fast renaming lEq->UE,te10110043849684766642->UF,te11892475500146522536->UG,te12908688711261696721->UH,te14364793385576792824->Ao,te14374325043358763698->UI,te15667345088766844465->UJ,te18344453789297297638->UK,te4187177175401517315->UL,tw10110043849684766642->UM,tw11892475500146522536->UN,tw12908688711261696721->UO,tw14364793385576792824->uS,tw14374325043358763698->UP,tw15667345088766844465->UQ,tw18344453789297297638->UR,tw4187177175401517315->US
open PySem.W.Looks renaming here->pN,ld->UT
open PySem.W.SL renaming s10062305145149207511x16->UU,s10220274742760427390x26->UV,s11030030927630378310x26->UW,s11443829558043349243x14->UX,s12411053484034534018x21->UY,s14018661285674007319x4->UZ,s14755015743595814543x17->U0,s17162191345867700912x4->U1,s2742458400755230247x6->U2,s2766695959194262286x5->U3,s4278001404047624695x13->U4,s4290257624100764138x5->U5,s4860613602091757760x24->U6,s5160863994218179198x17->U7,s5856160107412720595x4->U8,s5946037652744460706x9->U9,s6511155373996960695x17->U_,s658472552662922059x5->U',s7097527257260152453x26->Va,s7174869446012820540x8->Vb
open PySem.W.WData renaming int->uT
open PySem.Within renaming cons->K8
open PyVblwai renaming answers->kX,answers_asked->r3,calls->Vc,shape->bv,whole->m3
open Sum renaming inl->bb,inr->oN
open Sum.inl renaming inj->jQ
open ToString renaming toString->kr
open True renaming intro->ma
open Vblwai renaming Answer->gn,BOOKS->sL,Book->iD,Call->kt,Deal->gy,Group->mb,Part->d3,Rec->aG,Seg->wz,Sender->gf,State->bt,TIMES->sM,allOf->bU,assigned->jh,begins->oO,bookAt->fn,bookOf->wA,booksFrom->Dw,booksOf->sN,bytesOf->wB,countOf->dd,counts->jR,cut->dB,cutBack->Dx,dealt->qn,decimal->iE,doneDeal->jS,dropOld->Dy,emptyPart->qo,fate->iF,fetched->eu,fewest->lf,find->Dz,findTime->DA,finished->Tv,flushed->jT,givenUp->gz,groupAt->nv,insert->gA,isBook->DB,isDigit->ji,isName->DC,isPart->DD,isSmall->qp,isValue->qq,joined->Tw,kept->go,keyNumber->c_,keyOf->hX,lastSeq->sO,latest->Tx,mapOf->sP,marked->hY,mayGo->DE,no->dS,number->ht,numberIn->sQ,onGroup->sR,onOwner->qr,onSender->nw,overtaken->DF,partAt->bP,partFor->Tz,placeOf->wC,powerBack->jU,putAny->oP,putDeal->sS,putIn->nx,recNumbers->hu,seen->eV,senderAt->DG,shownBook->sT,stable->fF,start->sU,step->bi,text->e4,tightened->jV,total->f4,withGroup->hv,withMembers->wD,withPart->gB,withPlaces->TA,withSender->dt,within->cW,words->c',worked->wE,«ints»->cd
open Vblwai.Group renaming id->Ve
open Vblwai.Sender renaming id->Vf
open VblwaiNeutral renaming step->qt
abbrev V:=List
abbrev ar:=Option
def a7:=@absurd
def cb:=@congrArg
def da:=@decide_eq_false
def dm:=@decide_eq_true
def aw:=@if_neg
def ay:=@if_pos
def dH:=@of_decide_eq_false
def cj:=@of_decide_eq_true
theorem I.{u}{α:Sort u}{a:α}:a=a:=rfl
noncomputable section
namespace Hd
open PySem PySem.W
noncomputable section
noncomputable abbrev Ge:String:=U3
noncomputable abbrev Gc:String:=U8
noncomputable abbrev xb:String:=Vb
noncomputable abbrev qH:String:=UZ
noncomputable abbrev tu:String:=U1
noncomputable abbrev xa:String:=U'
noncomputable abbrev Gd:String:=U5
noncomputable abbrev w':String:=UW
noncomputable abbrev tt:String:=U0
noncomputable abbrev Ei:String:=UU
noncomputable abbrev wN:String:=U7
noncomputable abbrev Eh:String:=UX
noncomputable abbrev wO:String:=UV
noncomputable abbrev Ed:String:=U_
noncomputable abbrev Ee:String:=UY
noncomputable abbrev Ef:String:=U6
noncomputable abbrev qI:String:=U9
noncomputable abbrev w_:String:=U4
noncomputable abbrev qJ:String:=U2
noncomputable abbrev Eg:String:=Va
noncomputable def ES(a b:ac):Bool:=UE a.cps.toList b.cps.toList
noncomputable def tf:ac:=⟨⟨[47,99,108,97,105,109,47,99,117,116,46,112,121]⟩⟩
noncomputable def F3:ac:=⟨⟨[95,95,109,111,100,117,108,101,95,95]⟩⟩
noncomputable def F5:ac:=⟨⟨[95,95,113,117,97,108,110,97,109,101,95,95]⟩⟩
noncomputable def F2:ac:=⟨⟨[95,95,102,105,114,115,116,108,105,110,101,110,111,95,95]⟩⟩
noncomputable def F6:ac:=⟨⟨[95,95,115,116,97,116,105,99,95,97,116,116,114,105,98,117,116,101,115,95,95]⟩⟩
noncomputable def w8:ac:=⟨⟨[95,95,100,105,99,116,95,95]⟩⟩
noncomputable def qG:ac:=⟨⟨[95,95,119,101,97,107,114,101,102,95,95]⟩⟩
noncomputable def qF:ac:=⟨⟨[95,95,100,111,99,95,95]⟩⟩
noncomputable def F4:ac:=⟨⟨[95,95,110,97,109,101,95,95]⟩⟩
noncomputable def F7:ac:=⟨⟨[116,121,112,101,46,95,95,115,117,98,99,108,97,115,115,101,115,95,95,46,69,120,99,101,112,116,105,111,110,46,48]⟩⟩
noncomputable def F8:ac:=⟨⟨[116,121,112,101,46,95,95,115,117,98,99,108,97,115,115,101,115,95,95,46,69,120,99,101,112,116,105,111,110,46,110]⟩⟩
noncomputable def eF(b:eO)(a:ac)(c:Nat)(d:ag):gi:=⟨PyData.keyHash b a,.str a c,d⟩
noncomputable def li(a:V ag):aF:=⟨.type Ge,aa,.seq ⟨a⟩ 0,⟨[]⟩⟩
noncomputable def iG(a:ag)(b:V ag):aF:=⟨a,aa,.fields ⟨b⟩,⟨[]⟩⟩
noncomputable def qD:Nat->V ac->V ag
 |_,[]=>[]
 |a,c::b=>.str c a::qD (a+1) b
noncomputable def EI:eq->Bool
 |.local=>ab
 |.cell=>ab
 |_=>ae
noncomputable def EF:eq->Bool
 |.cell=>ab
 |_=>ae
noncomputable def qE(a:eq->Bool):V (ac×eq)->V ac
 |[]=>[]
 |(d,c)::b=>match a c with|true=>d::qE a b|false=>qE a b
noncomputable def g1(b:Nat)(a:Nat):ag:=.int (Gk b) a
structure DY where
 f:V aF
 b:Nat
 c:Nat
 a:Nat
 e:ac
 d:Nat
noncomputable def qz(h j:ac)(a c g f d e b:Nat)(i:Bool)(k l m:ag):aF:=
 iG (.type Gc) [.str h a,.str j (a+1),.str tf (a+2),g1 c 0,g1 g 0,g1 0 0,g1 0 0,g1 f 0,.ref d,.bool i,g1 181 0,.ref e,.none,k,l,m,g1 b 0,g1 c 0,.str tf (b+1)]
noncomputable def w2(m:Bool)(a c:Nat)(l:ag)(n:ac):bh->DY
 |.FunctionDef b d g _ _ _ f _ _ h=>
  let e:ac:=⟨⟨n.cps.toList++b.cps.toList⟩⟩
  match m with
  |true=>⟨[li [],iG .none [],⟨.none,aa,.func ⟨b,e,d,.stmts g,f,0,[],.none,.none,.none,.none,aa,.none,.none,0⟩,⟨[]⟩⟩,qz b e c h.line d.args.length 3 a (a+1) (c+3) ab .none .none (.ref (a+2)),⟨.type xb,aa,.func ⟨b,e,d,.stmts g,f,3,[],.none,.none,.none,l,aa,.ref (a+3),.none,0⟩,⟨[]⟩⟩],c+5,a+3,a+4,b,h.line⟩
  |false=>
   let i:=qE EI f.names
   let j:=qE EF f.names
   let k:=c+3+i.length+j.length
   ⟨[li [],iG .none [],li (qD (c+3) i),li (qD (c+3+i.length) j),⟨.none,aa,.func ⟨b,e,d,.stmts g,f,0,[],.none,.none,.none,.none,aa,.none,.none,0⟩,⟨[]⟩⟩,qz b e c h.line d.args.length 3 a (a+1) k ab (.ref (a+2)) (.ref (a+3)) (.ref (a+4)),⟨.type xb,aa,.func ⟨b,e,d,.stmts g,f,3,[],.none,.none,.none,l,aa,.ref (a+5),.none,0⟩,⟨[]⟩⟩],k+2,a+5,a+6,b,h.line⟩
 |_=>⟨[],c,0,0,⟨⟨[]⟩⟩,0⟩
structure D0 where
 f:V aF
 c:Nat
 b:Nat
 a:V gi
 d:V ag
 e:V Bool
noncomputable def w3(f:eO)(g:ag)(h:ac):V bh->Nat->Nat->V Bool->D0
 |[],d,e,c=>⟨[],d,e,[],[],c⟩
 |j::i,d,e,c=>
  let a:=w2 (c.headD ae) d e g h j
  let b:=w3 f g h i (a.a+1) (a.b+1) c.tail
  ⟨a.f++b.f,b.c,b.b,eF f a.e a.b (.ref a.a)::b.a,g1 a.d 0::g1 4 0::.ref a.c::b.d,b.e⟩
structure kw where
 e:BT
 c:Nat
 a:Nat
 b:V gi
 f:V ag
 d:ag
 h:V ag
 g:V Bool
noncomputable def oV:BT->Nat->V aF->BT
 |a,_,[]=>a
 |a,b,c::d=>oV (a.ins b c) (b+1) d
noncomputable def w7(b:V ag)(a:ac):aF:=⟨.type tu,aa,.cls {name:=a,bases:=[.type qI],mro:=[.ref 31,.type qI,.type w_,.type qJ],ns:=30,qualname:=a,hasDict:=ab,slotNames:=[],subclasses:=b,abstract:=ae,collection:=aa,hasDel:=ae},⟨[O (.ref 15),aa,O (.str a 189),O (.str a 197),O (.builtin wN),O (.bool ab)]⟩⟩
noncomputable def wR(a:ac)(c d:V ag)(e b:Nat)(g:ar ag)(f:String):aF:=⟨.type tu,aa,.cls {name:=a,bases:=c,mro:=d,ns:=e,qualname:=a,hasDict:=ab,slotNames:=[],subclasses:=[],abstract:=ae,collection:=aa,hasDel:=ae},⟨[g,aa,O (.str a b),O (.str a (b+8)),O (.builtin f),O (.bool ab)]⟩⟩
noncomputable def EL:V aZ->Nat
 |[]=>0
 |.Name a _::_=>if a.cps.toList.length=9 then 1 else 2
 |_=>3
noncomputable def E2(c:eO)(a:kw)(i:ac)(u:V aZ)(w:V bh)(t:V ac)(l:Nat):kw:=
 let h:=a.c
 let f:=a.a
 let B:ac:=⟨⟨i.cps.toList++[46]⟩⟩
 let g:=w3 c a.d B w (h+7) (f+12) a.g
 let e:=g.c
 let b:=g.b+t.length
 let d:=e+2
 let o:=eF c F3 (f+7) a.d
 let p:=eF c F2 (f+11) (g1 l (f+10))
 let q:=eF c F6 b (.ref e)
 let s:=EL u
 let y:V aF:=[li (match s with|0=>[]|1=>[.type qI]|_=>[.ref 31]),iG (.type w') [.builtin Ei,.type tu],⟨.type qH,aa,.dict ⟨o::eF c F5 (f+9) (.str i (f+8))::p::(g.a++[q])⟩ (4+g.a.length),⟨[]⟩⟩,li [],iG .none g.d,qz i i (f+2) l 0 0 (h+3) (h+4) (f+5) ae .none .none .none,⟨.type xa,aa,.plain,⟨[O (.ref (h+5)),O (.ref 3),O (.ref (h+2)),aa,O a.d,aa,O (.ref 0)]⟩⟩]
 let j (D:V gi) (x:Nat):aF:=⟨.type qH,aa,.dict ⟨o::p::(g.a++(q::D))⟩ x,⟨[]⟩⟩
 let n:aF:=iG (.type Gd) [.ref d,.ref d,.ref d]
 let k:aF:=iG (.type w') [.builtin Ef,.ref d]
 let m (z r:Nat) (A:V aF) (C:V ag):kw:=⟨oV a.e h (y++(g.f++(li (qD g.b t)::A))),z,r+1,a.b++[eF c i r (.ref d)],a.f++[g1 l 0,g1 0 0,.ref (h+5)],a.d,C,g.e⟩
 match s with|0=>m (e+7) (b+7) [j [eF c w8 (b+2) (.ref (e+3)),eF c qG (b+4) (.ref (e+4)),eF c qF (b+5) .none] 4,wR i [.type qJ] [.ref d,.type qJ] (e+1) f aa Eh,iG (.type tt) [.str w8 (b+1),.ref d,.builtin Ed,.builtin Ee],iG (.type tt) [.str qG (b+3),.ref d,.builtin wO,.none],n,k] a.h|1=>m (e+6) (b+7) [j [eF c qG (b+2) (.ref (e+3)),eF c qF (b+3) .none] 3,w7 [] i,iG (.type tt) [.str qG (b+1),.ref d,.builtin wO,.none],n,k] a.h|_=>m (e+5) (b+3) [j [eF c qF (b+1) .none] 2,wR i [.ref 31] [.ref d,.ref 31,.type qI,.type w_,.type qJ] (e+1) f (O (.ref h)) wN,n,k] (a.h++[.ref d])
noncomputable def tn(a:ac):V gi->ag
 |[]=>.none
 |b::c=>match b.key with
  |.str d _=>match ES d a with|true=>b.val|false=>tn a c
  |_=>tn a c
noncomputable def E5:aZ->ac
 |.Name a _=>a
 |_=>⟨⟨[]⟩⟩
noncomputable def wY:ar aZ->Int
 |some (.Constant (.int a) _ _)=>a
 |_=>0
noncomputable def wT(a:V gi):Nat->V (ar aZ)->V aZ->V gi
 |b,c::e,f::d=>⟨wY c,.int (wY c) b,tn (E5 f) a⟩::wT a (b+1) e d
 |_,_,_=>[]
noncomputable def Ep(k:eO)(h:kw):bh->kw
 |.Assign [.Name j _] (.Constant (.str t) _ _) _=>{h with a:=h.a+2,d:=.str t h.a}
 |.Assign [.Name j _] (.Constant (.int m) _ _) _=>{h with a:=h.a+2,b:=h.b++[eF k j (h.a+1) (.int m h.a)]}
 |.Assign [.Name j _] (.UnaryOp _ (.Constant (.int m) _ _) _) _=>{h with a:=h.a+3,b:=h.b++[eF k j (h.a+2) (.int (-m) (h.a+1))]}
 |.Assign [.Name j _] (.Dict l u _) _=>{h with e:=oV h.e h.c [⟨.type qH,aa,.dict ⟨wT h.b h.a l u⟩ l.length,⟨[]⟩⟩],c:=h.c+1,a:=h.a+2*l.length+1,b:=h.b++[eF k j (h.a+2*l.length) (.ref h.c)]}
 |.ClassDef p o _ n _ _ _ _ _ r q=>E2 k h p o n r q.line
 |s@(.FunctionDef ..)=>
  let i:=w2 (h.g.headD ae) h.c h.a h.d ⟨⟨[]⟩⟩ s
  {h with e:=oV h.e h.c i.f,c:=i.a+1,a:=i.b+1,b:=h.b++[eF k i.e i.b (.ref i.a)],f:=h.f++[g1 i.d 0,g1 0 0,.ref i.c],g:=h.g.tail}
 |_=>h
noncomputable def Ga(a:eO)(b:ag):V gi:=[eF a F4 165 b,eF a qF 166 .none,eF a ⟨⟨[95,95,112,97,99,107,97,103,101,95,95]⟩⟩ 167 .none,eF a ⟨⟨[95,95,108,111,97,100,101,114,95,95]⟩⟩ 168 (.builtin Eg),eF a ⟨⟨[95,95,115,112,101,99,95,95]⟩⟩ 169 .none,eF a ⟨⟨[95,95,97,110,110,111,116,97,116,105,111,110,115,95,95]⟩⟩ 170 (.ref 6),eF a ⟨⟨[95,95,98,117,105,108,116,105,110,115,95,95]⟩⟩ 171 (.ref 4),eF a ⟨⟨[95,95,102,105,108,101,95,95]⟩⟩ 173 (.str tf 172),eF a ⟨⟨[95,95,99,97,99,104,101,100,95,95]⟩⟩ 174 .none]
noncomputable def Ex(b:eO)(a:kw):aF:=⟨.type qH,aa,.dict ⟨Ga b a.d++a.b⟩ (9+a.b.length),⟨[]⟩⟩
noncomputable def kw.i(k:eO)(j:kw)(l:ac):BT:=(((j.e.set 3 λ_=>Ex k j).set 12 λ_=>iG .none j.f).set 31 λ_=>w7 j.h l).set 2 λ_=>⟨.none,aa,.dict ⟨[eF k F7 214 (.int 31 0),eF k F8 215 (.int 1 0)]⟩ 2,⟨[]⟩⟩
noncomputable abbrev dI:bd:=jB
noncomputable abbrev me:V bh:=dI.main.body
noncomputable def ky:cS:={scope:=dI.main.scope,locals:=3,globals:=3,cells:=[],code:=.ref 13,frame:=O 14}
noncomputable def Et:V Bool:=[ae,ae,ae,ae,ae,ae,ae,ae,ae,ae,ae,ae,ae,ae,ae,ae,ae,ae,ae,ae,ae,ae,ae,ae,ae,ae,ae,ae,ae,ae,ab,ae,ab,ab,ae,ab,ae,ae,ae,ae,ae,ae,ae,ae,ae,ae,ae,ae,ae,ae,ae,ae,ae,ae,ae,ab,ae,ab,ab,ab,ab,ae,ab,ae,ab,ab,ae,ab,ab,ae,ae,ae,ae,ae,ae,ab,ae,ae,ae,ab,ae,ae,ae,ae,ab,ab,ae,ab,ab,ae,ae,ae,ae,ab,ae,ae,ab,ab,ae,ab,ae,ae,ae,ae,ae,ae,ae,ae,ae,ab,ae,ab,ae,ae,ae,ae,ae,ae,ab,ae,ae,ae,ae,ae,ab,ae,ab,ae,ae,ae,ae,ae,ab,ab,ab,ae,ae,ae,ae,ae,ae,ae,ae,ae,ae,ae,ae,ae,ae,ae,ae,ae,ae,ae,ae,ae,ae,ae,ae,ae]
noncomputable def tr:ac:=⟨⟨[82,101,102,117,115,97,108]⟩⟩
noncomputable def E3(a:Nat):aF:=qz ⟨⟨[60,109,111,100,117,108,101,62]⟩⟩ ⟨⟨[60,109,111,100,117,108,101,62]⟩⟩ (a+1) 1 0 0 11 12 (a+4) ae .none .none .none
noncomputable def w9(a:eO):BT:=oV .nil 0 [boot_o_0 a,boot_o_1 a,boot_o_2 a,boot_o_3 a,boot_o_4 a,boot_o_5 a,boot_o_6 a,boot_o_7 a,boot_o_8 a,boot_o_9 a,boot_o_10 a,li [],iG .none [],E3 181,⟨.type xa,aa,.plain,⟨[O (.ref 13),O (.ref 3),O (.ref 3),aa,O (.str ⟨⟨[95,95,109,97,105,110,95,95]⟩⟩ 164),aa,O (.ref 0)]⟩⟩]
noncomputable def Ey(a:eO):kw:=⟨w9 a,15,187,[],[],.none,[],Et⟩
noncomputable def oU(a:eO)(b:Nat):kw:=(me.take b).foldl (Ep a) (Ey a)
noncomputable def gC(b:aO)(e:im):Nat->SharedT
 |0=>⟨w9 b.params,15,{},⟨[]⟩,{},187,e⟩
 |d=>⟨(oU b.params d).i b.params tr,(oU b.params d).c,{},⟨[]⟩,{},(oU b.params d).a,e⟩
noncomputable abbrev f5:bL:=⟨0,0,0,0⟩
noncomputable def FS:bh->bL
 |.FunctionDef _ _ _ _ _ _ _ _ _ a=>a
 |.ClassDef _ _ _ _ _ _ _ _ _ _ a=>a
 |.Assign (.Name _ a::_) _ _=>a
 |_=>f5
noncomputable def tq:Nat->bL
 |0=>f5
 |a+1=>FS (me.getD a (.Pass f5))
noncomputable def bk(a c g:Nat)(e:aO):Prop:=(λ(f:bd)(b:V bh)(d:im)=>UM uS f e 11 (O (.ref 6)) 1 g (gC e d a) (piecesOf ((me.drop a).take c) ky (.body b ky) (tq a) [mX f5]))=λf b d=>O (.next,gC e d (a+c),Code.body b ky,tq (a+c))
theorem Fb(a:aO):bk 0 2 238 a:=by unfold bk;kernel_rfl
theorem Fc(a:aO):bk 2 1 244 a:=by unfold bk;kernel_rfl
theorem Fn(a:aO):bk 3 1 244 a:=by unfold bk;kernel_rfl
theorem Fz(a:aO):bk 4 1 244 a:=by unfold bk;kernel_rfl
theorem FL(a:aO):bk 5 1 244 a:=by unfold bk;kernel_rfl
theorem FN(a:aO):bk 6 1 244 a:=by unfold bk;kernel_rfl
theorem FO(a:aO):bk 7 1 244 a:=by unfold bk;kernel_rfl
theorem FP(a:aO):bk 8 1 244 a:=by unfold bk;kernel_rfl
theorem FQ(a:aO):bk 9 1 244 a:=by unfold bk;kernel_rfl
theorem FR(a:aO):bk 10 1 244 a:=by unfold bk;kernel_rfl
theorem Fd(a:aO):bk 11 1 244 a:=by unfold bk;kernel_rfl
theorem Fe(a:aO):bk 12 1 244 a:=by unfold bk;kernel_rfl
theorem Ff(a:aO):bk 13 1 244 a:=by unfold bk;kernel_rfl
theorem Fg(a:aO):bk 14 11 396 a:=by unfold bk;kernel_rfl
theorem Fh(a:aO):bk 25 11 207 a:=by unfold bk;kernel_rfl
theorem Fi(a:aO):bk 36 7 373 a:=by unfold bk;kernel_rfl
theorem Fj(a:aO):bk 43 14 370 a:=by unfold bk;kernel_rfl
theorem Fk(a:aO):bk 57 7 210 a:=by unfold bk;kernel_rfl
theorem Fl(a:aO):bk 64 1 224 a:=by unfold bk;kernel_rfl
theorem Fm(a:aO):bk 65 1 571 a:=by unfold bk;kernel_rfl
theorem Fo(a:aO):bk 66 8 396 a:=by unfold bk;kernel_rfl
theorem Fp(a:aO):bk 74 13 377 a:=by unfold bk;kernel_rfl
theorem Fq(a:aO):bk 87 13 378 a:=by unfold bk;kernel_rfl
theorem Fs(a:aO):bk 100 1 27 a:=by unfold bk;kernel_rfl
theorem Ft:∀a:aO,bk 101 1 151 a:=uU "special-get-raises" (λa=>by unfold bk;kernel_rfl) (λa=>by unfold bk;kernel_rfl)
theorem Fu(a:aO):bk 102 5 398 a:=by unfold bk;kernel_rfl
theorem Fv(a:aO):bk 107 2 57 a:=by unfold bk;kernel_rfl
theorem Fw(a:aO):bk 109 1 545 a:=by unfold bk;kernel_rfl
theorem Fx(a:aO):bk 110 6 325 a:=by unfold bk;kernel_rfl
theorem Fy(a:aO):bk 116 1 229 a:=by unfold bk;kernel_rfl
theorem FA(a:aO):bk 117 1 257 a:=by unfold bk;kernel_rfl
theorem FC(a:aO):bk 118 7 384 a:=by unfold bk;kernel_rfl
theorem FD(a:aO):bk 125 14 375 a:=by unfold bk;kernel_rfl
theorem FE:∀a:aO,bk 139 1 109 a:=uU "special-get-raises" (λa=>by unfold bk;kernel_rfl) (λa=>by unfold bk;kernel_rfl)
theorem FF(a:aO):bk 140 8 211 a:=by unfold bk;kernel_rfl
theorem FG:∀a:aO,bk 148 1 67 a:=uU "special-get-raises" (λa=>by unfold bk;kernel_rfl) (λa=>by unfold bk;kernel_rfl)
theorem FH(a:aO):bk 149 12 340 a:=by unfold bk;kernel_rfl
theorem FI:∀a:aO,bk 161 1 109 a:=uU "special-get-raises" (λa=>by unfold bk;kernel_rfl) (λa=>by unfold bk;kernel_rfl)
theorem FJ(a:aO):bk 162 1 10 a:=by unfold bk;kernel_rfl
theorem FK(a:aO):bk 163 1 521 a:=by unfold bk;kernel_rfl
theorem FM(a:aO):bk 164 5 134 a:=by unfold bk;kernel_rfl
end
abbrev jW:ar ag:=O (.ref 6)
theorem Eo(b:V bh)(a c:Nat):(b.drop a).take c++b.drop (a+c)=b.drop a:=by rw[<-uj];exact gK c (b.drop a)
section
variable{w:aO}
abbrev jm(a:V bh):Code:=.body a ky
theorem En:me.drop 169=[]:=by kernel_rfl
def qw(a c:Nat)(w:aO):Prop:=∀(b:im)(d:V bh)(e:bd),rP lP e w 11 jW c (gC w b a).abs (restOf (me.drop a) ky (jm d) (tq a) [mX f5])=O (gC w b 169).abs
theorem FX:qw 169 2 w:=λb a c=>by rw[En];exact piece_nil I
theorem db{a b e c:Nat}(h:bk a b e w)(i:qw (a+b) c w):qw a (e+c) w:=λf d g=>by rw[<-Eo me a b];exact piece_app (segRun_of (by rw[UF,Ao];exact congrFun (congrFun (congrFun h g) d) f)) (i f d g)
theorem FV(w:aO):qw 0 10919 w:=db (Fb w) (db (Fc w) (db (Fn w) (db (Fz w) (db (FL w) (db (FN w) (db (FO w) (db (FP w) (db (FQ w) (db (FR w) (db (Fd w) (db (Fe w) (db (Ff w) (db (Fg w) (db (Fh w) (db (Fi w) (db (Fj w) (db (Fk w) (db (Fl w) (db (Fm w) (db (Fo w) (db (Fp w) (db (Fq w) (db (Fs w) (db (Ft w) (db (Fu w) (db (Fv w) (db (Fw w) (db (Fx w) (db (Fy w) (db (FA w) (db (FC w) (db (FD w) (db (FE w) (db (FF w) (db (FG w) (db (FH w) (db (FI w) (db (FJ w) (db (FK w) (db (FM w) (FX)))))))))))))))))))))))))))))))))))))))))
end
section
variable(w:aO)
abbrev g0:V bh:=behindTheImports dI
theorem FU:(λa=>UQ uS dI w 11 jW 12 ⟨iV w.params,⟨[]⟩,rH,rI,a⟩ (uW dI))=λa=>O ((gC w a 0).abs,(⟨UN uS (jm g0),jm g0,f5,[mX f5]⟩:Thread)):=by kernel_rfl
theorem FT(a:im):topGo lP dI w 11 jW 12 ⟨iV w.params,⟨[]⟩,rH,rI,a⟩ (uW dI)=O ((gC w a 0).abs,⟨denote lP (jm g0),jm g0,f5,[mX f5]⟩):=by rw[UJ,Ao,UG];exact congrFun (FU w) a
theorem Ek:g0=me:=by kernel_rfl
theorem Em:(λa=>UP uS dI w 11 jW 1 1 (gC w a 0).abs (blockOf g0 ky (jm g0) f5 [mX f5]))=λa=>O (Flow.next,(gC w a 0).abs,jm g0,f5):=by kernel_rfl
theorem El(a:im):segRun lP dI w 11 jW 1 1 (gC w a 0).abs (blockOf g0 ky (jm g0) f5 [mX f5])=O (.next,(gC w a 0).abs,jm g0,f5):=by rw[UI,Ao];exact congrFun (Em w) a
theorem FW(a:im):rP lP dI w 11 jW 10919 (gC w a 0).abs (restOf g0 ky (jm g0) f5 [mX f5])=O (gC w a 169).abs:=
 (cb (λb=>rP lP dI w 11 jW 10919 (gC w a 0).abs (restOf b ky (jm g0) f5 [mX f5])) Ek).trans (FV w a g0 dI)
theorem F0(a:im):rP lP dI w 11 jW (12+(1+10919)) ⟨iV w.params,⟨[]⟩,rH,rI,a⟩ (uW dI)=O (gC w a 169).abs:=
 go_top (FT w a) (piece_block (El w a) (FW w a))
end
def ff(a:eO):be:=absHeap ((oU a 169).i a tr) 1398 {}
theorem D1(b:aO)(a:im):(gC b a 169).abs=⟨ff b.params,⟨[]⟩,{},2206,a⟩:=by kernel_rfl
theorem E8:12+(1+10919)=10932:=by decide
def s7(c:Nat)(a:bd)(b:aO)(d:im)(e:ao):Prop:=rP lP a b 11 jW c ⟨iV b.params,⟨[]⟩,rH,rI,d⟩ (uW a)=O e
theorem FZ(b:aO)(a:im):s7 10932 dI b a ⟨ff b.params,⟨[]⟩,{},2206,a⟩:=by have c:s7 (12+(1+10919)) dI b a (gC b a 169).abs:=F0 b a;rw[E8,D1]at c;exact c
theorem Fa:∀b:aO,(fencedOpening lP jB b 30000).map (λa=>(a.heap,a.gens,a.drawn,a.toks))=O (iV b.params,DI [],rH,rI):=
 boot_open (by kernel_rfl) (by decide) (λa=>by kernel_rfl)
theorem F':∀a:aO,((iV a.params).isNs kT&&(DI []:Array uO).size==0,(iV a.params).objs.size,(iV a.params).nsMap kT "__annotations__")=(ab,11,jW):=λa=>by kernel_rfl
noncomputable def hz(a:bd):bd:={a with main:={a.main with body:=[a.main.body.getD 168 (.Pass ⟨0,0,0,0⟩)]}}
noncomputable def E4:bh->V ac
 |.FunctionDef a ..=>[a]
 |.ClassDef a ..=>[a]
 |.Assign [.Name b _] (.Constant (.str _) _ _) _=>[]
 |.Assign [.Name b _] _ _=>[b]
 |_=>[]
noncomputable def jX(a:bd):V ac:=(a.main.body.take 168).flatMap E4
theorem EM(a:aO):staticsOk (rV dI.main.body) (iV a.params) (ff a.params)=ab:=by kernel_rfl
theorem EN(a:aO):namesBound dI (ff a.params)=ab:=by kernel_rfl
theorem EO(b:aO)(a:im):gensDone ⟨ff b.params,⟨[]⟩,{},2206,a⟩=ab:=by kernel_rfl
theorem EP(a:aO):laidKept (iV a.params) (ff a.params)=ab:=by kernel_rfl
theorem ER(b:aO):(λa=>US (hz dI) (jX dI) (rV dI.main.body) (λ_=>ab) ab ⟨ff b.params,⟨[]⟩,{},2206,a⟩)=λ_=>Ax (hz dI) (jX dI):=by kernel_rfl
theorem EQ(b:aO)(a:im):openSeen (hz dI) (jX dI) (rV dI.main.body) (λ_=>ab) ab ⟨ff b.params,⟨[]⟩,{},2206,a⟩=Ax (hz dI) (jX dI):=by rw[UL];exact congrFun (ER b) a
def wL(b:bd):Prop:=∀a:aO,(λc=>((staticsOk (rV b.main.body) (iV a.params) (ff a.params)&&namesBound b (ff a.params)&&gensDone ⟨ff a.params,⟨[]⟩,{},2206,c⟩&&laidKept (iV a.params) (ff a.params)),openSeen (hz b) (jX b) (rV b.main.body) (λ_=>ab) ab ⟨ff a.params,⟨[]⟩,{},2206,c⟩,(⟨ff a.params,⟨[]⟩,{},2206,c⟩:ao).heap))=λ_=>(ab,Ax (hz b) (jX b),ff a.params)
theorem E0:wL dI:=λb=>funext λa=>by
 rw[EM,EN,EO,EP,EQ]
 rfl
abbrev du:bd:=jB
theorem ET:LeftO du (hz du) (jX du) (λ_=>ab) (λc=>c.heap) (λa=>ff a.params) 30000:=
 LeftO.of_pieces (H₀:=iV) (H₁:=ff) (M:=10932) Fa F' (λa b=>FZ a b) (by decide) E0
def s8(w:aO)(c:be):Prop:=∀a b,(ff w.params).get? a=O b->c.get? a=O b
open PySem PySem.W PyProof.Rows
abbrev f6:OpenSpec:=Kc
noncomputable def ny:ac:=⟨⟨[97,110,115,119,101,114,115]⟩⟩
theorem D5:f6.name=ny:=by kernel_rfl
theorem EU:UO dI=ab:=by kernel_rfl
theorem EV:(UR dI).contains ny=ab:=by kernel_rfl
theorem EW:Lj.contains ny=ae:=by kernel_rfl
theorem EX:specDef dI ny 1=ab:=by kernel_rfl
theorem EY:(f6.args.all KV)=ab:=by kernel_rfl
theorem EZ:f6.ret.ok=ab:=by kernel_rfl
def qx(b:bd)(a:ac):Prop:=(looksOpen b&&b.boundNames.contains a&&!Lj.contains a&&specDef b a 1&&f6.args.all KV&&f6.ret.ok)=ab
theorem F_:qx dI ny:=by
 unfold qx;rw[UH,UK,EU,EV,EW,EX,EY,EZ]
 rfl
theorem F9:qx du f6.name:=by rw[D5];exact F_
theorem EJ:f6.wellSaid=ab:=F9
theorem Eb:du.tablesWhole=ab:=by kernel_rfl
theorem D8:du.modules=[]:=by kernel_rfl
theorem D9:du.parses=[]:=by kernel_rfl
theorem D_:du.absent=[]:=by kernel_rfl
theorem D':du.harvested=[]:=by kernel_rfl
theorem Ea:du.given={argv:=[],stdin:=[],environ:=O Program.claimEnviron,cwd:=aa,tree:=aa,leftOut:=[],nothingAt:=[]}:=by kernel_rfl
theorem Ej:f6.prog.bare:=⟨D8,D9,D_,D',Ea,Eb⟩
theorem FY(a:ao):recOk [] a=ab:=by kernel_rfl
theorem ED:∃a,f6.pre a=ab/\WData.layableAll a=ab:=⟨[.list [.int 0]],by decide+kernel,by decide+kernel⟩
theorem E9:Aq (hz du)=ab:=by kernel_rfl
theorem E_:Ay du=ab:=by kernel_rfl
theorem E':(Aq (hz du)&&Ay f6.prog)=ab:=by
 show(Aq (hz du)&&Ay du)=ab;rw[E9,E_]
 rfl
end Hd
namespace L2
open PySem PySem.Spec PyProof.Rows
abbrev aU:=Sum Int ac
def iL:aU->ag->Bool
 |.inl k,v=>KR k v
 |.inr x,v=>KS x v
def xR(b:aO):aU->Int
 |.inl a=>rU a
 |.inr a=>hashStr b a
def iM:∀{k:aU}{v:ag},iL k v=ab->(∃b a,k=bb b/\v=kS b a)\/(∃x a,k=oN x/\v=uR x a)
 |.inl b,v,d=>by obtain⟨a,c⟩:=Value.isInt_shape (k:=b) (v:=v) d;exact .inl ⟨b,a,I,c⟩
 |.inr x,v,d=>by obtain⟨a,c⟩:=Value.isStrOf_shape (x:=x) (v:=v) d;exact .inr ⟨x,a,I,c⟩
def G8(a)(b):iL (.inl a) (.int a b)=ab:=by simp[iL,KR]
def G9(a)(b):iL (.inr a) (.str a b)=ab:=by simp[iL,KS]
def G_(a b):aq ((bb a:aU)=bb b)=(a==b):=by by_cases c:a=b;subst c;simp;have d:¬(bb a:aU)=bb b:=λa=>c (jQ a);rw[da d];exact(beq_eq_false_iff_ne.mpr c).symm
def Hb(a b):aq ((oN a:aU)=oN b)=aq (a=b):=by by_cases c:a=b;subst c;simp;have d:¬(oN a:aU)=oN b:=λa=>c (Sum.inr.inj a);rw[da d,da c]
def G'(a)(b):aq ((bb a:aU)=oN b)=ae:=da (λa=>nomatch a)
def Ha(a)(b):aq ((oN a:aU)=bb b)=ae:=da (λa=>nomatch a)
def dW(b:bd)(a:aO):Kz b a aU where
 is:=iL
 hash:=xR a
 inj:=λv c d b a=>by rcases iM b with⟨d,t,rfl,rfl⟩|⟨e,t,rfl,rfl⟩;rcases iM a with⟨h,c,rfl,b⟩|⟨f,c,rfl,b⟩;injection b with i _;rw[i];exact nomatch b;rcases iM a with⟨h,c,rfl,b⟩|⟨f,c,rfl,b⟩;exact nomatch b;injection b with i _;rw[i]
 byValue:=λk v a=>by rcases iM a with⟨d,t,rfl,rfl⟩|⟨e,t,rfl,rfl⟩<;>rfl
 pyHash:=λg a=>by rcases iM g with⟨d,t,rfl,rfl⟩|⟨e,t,rfl,rfl⟩;exact wpAny_pyHash_int a;exact wpAny_pyHash_str a
 eqBool:=λj g a=>by rcases iM j with⟨d,t,rfl,rfl⟩|⟨e,t,rfl,rfl⟩;rcases iM g with⟨h,c,rfl,rfl⟩|⟨f,c,rfl,rfl⟩;rw[G_]at a;exact wpAny_eqBool_int a;rw[G']at a;exact KG d t f c _ _ _ _ a;rcases iM g with⟨h,c,rfl,rfl⟩|⟨f,c,rfl,rfl⟩;rw[Ha]at a;exact KL e t h c _ _ _ _ a;rw[Hb]at a;exact wpAny_eqBool_str a
 «strs»:=λk e t v a=>by rcases iM a with⟨d,c,rfl,b⟩|⟨f,c,rfl,b⟩;exact nomatch b;injection b with i _;subst i;cases v<;>rfl
def t2(b)(c)(a)(t):(dW b c).is (.inl a) (.int a t)=ab:=G8 a t
def Hi(c)(d)(a)(b):(dW c d).is (.inr a) (.str a b)=ab:=G9 a b
set_option genInjectivity true in inductive ah where
 |c|d (b:Bool)|a (i:Int)|e (x:ac)|f (b:Array UInt8)|g (b:UInt64)|b (a:Y)|h (n:String)
 deriving DecidableEq
def br:ah->ag->Prop
 |.c,u=>u=fL
 |.d k,u=>u=n_ k
 |.a i,u=>∃j,u=kS i j
 |.e x,u=>∃j,u=uR x j
 |.f k,u=>∃j,u=KP k j
 |.g k,u=>∃j,u=KQ k j
 |.b a,u=>u=b9 a
 |.h j,u=>u=An j
abbrev bR:V ah->V ag->Prop:=kd br
def bR.a{m:V ah}{us:V ag}(n:bR m us):m.length=us.length:=lJ n
theorem bR.b:∀{m:V ah}{us:V ag}{i:Nat}{x:ah},bR m us->m[i]?=O x->∃n,us[i]?=O n/\br x n
 |_,_,_,_,.nil,m=>by simp at m
 |_,_,0,_,.cons o _,m=>by simp at m;subst m;exact⟨_,I,o⟩
 |_,_,i+1,x,.cons _ q,m=>by obtain⟨n,o,p⟩:=bR.b (i:=i) (x:=x) q (by simpa using m);exact⟨n,by simpa using o,p⟩
theorem bR.k(o:br q n):∀{r:V ah}{p:V ag}(m:Nat),bR r p->bR (r.set m q) (p.set m n)
 |_,_,_,.nil=>.nil
 |_,_,0,.cons _ n=>.cons o n
 |_,_,m+1,.cons p n=>.cons p (bR.k o m n)
theorem bR.c:∀{o p:V ah}{m n:V ag},bR o m->bR p n->bR (o++p) (m++n)
 |_,_,_,_,.nil,m=>m
 |_,_,_,_,.cons n o,m=>.cons n (bR.c o m)
theorem bR.l:∀{o:V ah}{n:V ag}(m:Nat),bR o n->bR (o.take m) (n.take m)
 |_,_,0,_=>.nil
 |_,_,_+1,.nil=>.nil
 |_,_,m+1,.cons n o=>.cons n (bR.l m o)
theorem bR.h:∀{o:V ah}{n:V ag}(m:Nat),bR o n->bR (o.drop m) (n.drop m)
 |_,_,0,n=>n
 |_,_,_+1,.nil=>.nil
 |_,_,m+1,.cons _ n=>bR.h m n
def iJ:ar ah->ar ag->Prop
 |some b,O a=>br b a
 |none,aa=>True
 |_,_=>False
def gu{a:Type}:V (a×ah)->V (a×ag)->Prop:=kd λ(b:a×ah)(c:a×ag)=>b.1=c.1/\br b.2 c.2
def dC:aU->ah
 |.inl b=>.a b
 |.inr x=>.e x
set_option genInjectivity true in inductive cw where
 |a (xs:V ah)
 |d (xs:V ah)
 |b (kvs:V (aU×ah))|h (kvs:V (V aU×ah))
 |k (S:Int->Bool) (n:Nat)
 |c (C dx:Y) (fs:V (ac×ah))
 |f (x:Y)
 |i (fs:V (ac×ah))
 |l (f x:Y)
 |m (lo hi:Int)
 |e (o:aF) (u:cw)
 |g (ps:Array ag)
 |j (φ:be->Prop)
abbrev af:=Y->ar cw
def al(c:af)(a:Y)(o:cw):af:=λb=>if b=a then O o else c b
def az{a:Y}{o:cw}:al b a o a=O o:=by unfold al;rw[ay I]
def aL{a b:Y}{o:cw}(d:b≠a):al c a o b=c b:=by unfold al;rw[aw d]
def kC{b:af}{a c:Y}{o e:cw}(g:b a=O o)(d:b c=O e)(f:o≠e):a≠c:=by intro b;subst b;rw[g]at d;exact f (bA d)
def cX{b:af}{a c:Y}{o:cw}(e:b a=O o)(d:b c=aa):a≠c:=by intro b;subst b;rw[e]at d;cases d
section
variable(P:bd)(w:aO)
def d_(u:af)(p:be)(n:Y):cw->Prop
 |.a q=>q.length<=aH/\∃(r:V ag)(s:Nat),bR q r/\p.get? n=O {cls:=.type "list",data:=.seq r.toArray s}
 |.d q=>q.length<=aH/\∃r:V ag,bR q r/\uB p n r.toArray
 |.b kvs=>kvs.length<=aH/\(n==hd)=ae/\∃r,gu kvs r/\p.DictOf (dW P w) n r
 |.h kvs=>kvs.length<=aH/\(n==hd)=ae/\∃q:V (V aU×Y×ag),
   kd (λ(r:V aU×ah)(t:V aU×Y×ag)=>r.1=t.1/\u t.2.1=O (.d (r.1.map dC))/\br r.2 t.2.2) kvs q/\
   ∃o r ep,p.get? n=O o/\o.ExactDict/\o.data=.dict r ep/\r.toList=q.map (entryOfKey (ok (dW P w)))/\(q.map (·.1)).Nodup
 |.k q s=>p.SetOf (intKind P w) n q s
 |.c q t s=>u t=O (.f n)/\s.length<=1000/\t≠n/\p.get? n=O (mW q t)/\
   ∃r,p.Ns1 t r/\(∀q,iJ (s.lookup q) (r q))/\AD r (s.map (·.1))
 |.f _=>∃o,p.get? n=O o
 |.i s=>∃r,p.Ns1 n r/\∀q,iJ (s.lookup q) (r q)
 |.m t s=>∃y r v,p.get? n=O {cls:=.type "range",data:=.fields #[.int t y,.int s r,.int 1 v]}
 |.e o r=>p.get? n=O o/\d_ u p n r
 |.g r=>p.get? n=O {cls:=.none,data:=.fields r}
 |.l q x=>p.get? n=O (Aw (.ref q) (.ref x))
 |.j q=>q p/\(∃o,p.get? n=O o)/\∀r s:be,q r->(∀o,r.get? n=O o->s.get? n=O o)->q s
def ek(b:af)(c:be):Prop:=∀a o,b a=O o->d_ P w b c a o
end
section
variable{P:bd}{w:aO}{H H':af}{h h':be}{a:Y}{o:cw}
def d_.c(p:d_ P w H h a o):a<h.objs.size:=by
 cases o with
 |a q=>obtain⟨_,_,_,_,n⟩:=p;exact cB n
 |d q=>obtain⟨_,_,_,q⟩:=p;exact q.lt
 |b q=>obtain⟨_,_,_,_,o,_,_,n,_⟩:=p;exact cB n
 |h q=>obtain⟨_,_,_,_,o,_,_,n,_⟩:=p;exact cB n
 |k q r=>obtain⟨o,_,_,_,n,_⟩:=p;exact cB n
 |c r s q=>obtain⟨_,_,_,n,_⟩:=p;exact cB n
 |f r=>obtain⟨_,n⟩:=p;exact cB n
 |i q=>obtain⟨_,⟨_,_,_,n,_⟩,_⟩:=p;exact cB n
 |m s q=>obtain⟨_,_,_,n⟩:=p;exact cB n
 |e q s=>obtain⟨n,_⟩:=p;exact cB n
 |g q=>exact cB (show h.get? a=O _ from p)
 |l q r=>exact cB (show h.get? a=O _ from p)
 |j q=>obtain⟨_,⟨_,n⟩,_⟩:=p;exact cB n
theorem Paired.b:∀{f:V i}{g:V j},kd c f g->(∀a e,c a e->d a e)->kd d f g
 |_,_,.nil,_=>.nil
 |_,_,.cons d e,c=>.cons (c _ _ d) (Paired.b e c)
def d_.b(x:d_ P w H h a o)(n:∀p z,(p=a\/H p=O (.f a))->h.get? p=O z->h'.get? p=O z)
  (J:∀p,H p=O (.f a)->H' p=O (.f a)) (C:∀p y,H p=O (.d y)->H' p=O (.d y)):d_ P w H' h' a o:=by
 induction o with
 |a y=>obtain⟨p,s,B,q,e⟩:=x;exact⟨p,s,B,q,n _ _ (.inl I) e⟩
 |d y=>obtain⟨p,s,q,r,e,c⟩:=x;exact⟨p,s,q,r,n _ _ (.inl I) e,c⟩
 |b A=>obtain⟨p,u,D,q,r,t,s,e,c⟩:=x;exact⟨p,u,D,q,r,t,s,n _ _ (.inl I) e,c⟩
 |h A=>obtain⟨p,u,y,q,r,t,s,e,c⟩:=x;exact⟨p,u,y,Paired.b q λE A p=>⟨p.1,C _ _ p.2.1,p.2.2⟩,r,t,s,n _ _ (.inl I) e,c⟩
 |k y B=>obtain⟨r,t,s,C,e,c⟩:=x;exact⟨r,t,s,C,n _ _ (.inl I) e,c⟩
 |c y B G=>obtain⟨D,p,K,e,y,⟨B,t,s,F,c⟩,q⟩:=x;exact⟨J _ D,p,K,n _ _ (.inl I) e,y,⟨B,t,s,n _ _ (.inr D) F,c⟩,q⟩
 |f u=>obtain⟨r,e⟩:=x;exact⟨r,n _ _ (.inl I) e⟩
 |i G=>obtain⟨y,⟨B,t,s,e,c⟩,q⟩:=x;exact⟨y,⟨B,t,s,n _ _ (.inl I) e,c⟩,q⟩
 |m q p=>obtain⟨C,z,p,e⟩:=x;exact⟨C,z,p,n _ _ (.inl I) e⟩
 |e r z p=>obtain⟨e,A⟩:=x;exact⟨n _ _ (.inl I) e,p A⟩
 |g p=>have e:h.get? a=O {cls:=.none,data:=.fields p}:=x;show h'.get? a=O {cls:=.none,data:=.fields p};exact n a _ (.inl I) e
 |l p u=>have e:h.get? a=O (Aw (.ref p) (.ref u)):=x;show h'.get? a=O (Aw (.ref p) (.ref u));exact n a _ (.inl I) e
 |j p=>obtain⟨E,⟨o,e⟩,p⟩:=x;exact⟨p _ _ E λo A=>n _ _ (.inl I) A,⟨o,n _ _ (.inl I) e⟩,p⟩
def ek.d(g:ek P w H h)(f:H a=O o):a<h.objs.size:=(g a o f).c
def ek.b(x:ek P w H h)(f:h.objs.size<=a):H a=aa:=by
 cases g:H a with|none=>rfl|some i=>exact a7 (eg (x.d g) f) (fV _)
def ek.c(l:ek P w H h)(k:∀g i,h.get? g=O i->h'.get? g=O i):ek P w H h':=λa o j=>
 (l a o j).b (λg i _ f=>k g i f) (λ_ f=>f) λ_ _ f=>f
def ek.e(m:ek P w H h)(n:∀g j,h.get? g=O j->h'.get? g=O j)(f:h.objs.size<=a)(k:d_ P w (al H a o) h' a o):ek P w (al H a o) h':=λg j i=>by have l:=m.b f;by_cases f:g=a;subst f;rw[az]at i;cases i;exact k;rw[aL f]at i;exact(m g j i).b (λk p _ f=>n k p f) (λk f=>by rw[aL (cX f l)];exact f) λk g f=>by rw[aL (cX f l)];exact f
end
def iI(a:af)(b:Y)(c:cw):Prop:=a b=O c\/∃d,a b=O (.e d c)
def iI.a(b:iI d c e)(i:ek f h d g):d_ f h d g c e:=by rcases b with b|⟨d,b⟩;exact i c e b;obtain⟨_,d⟩:=i c _ b;exact d
def lm:ar cw->Prop
 |some (.a _)=>True
 |some (.b _)=>True
 |some (.h _)=>True
 |some (.k _ _)=>True
 |some (.c _ _ _)=>True
 |some (.j _)=>True
 |_=>False
section
variable{P:bd}{w:aO}{H:af}{h h':be}{x e:Y}{o':cw}
def ek.a(A:ek P w H h)(n:lm (H x))(s:e=x\/H e=O (.f x))(y:∀k l,k≠e->h.get? k=O l->h'.get? k=O l)(u:∃l,h'.get? e=O l)
  (p:d_ P w (al H x o') h' x o'):ek P w (al H x o') h':=λk l m=>by
 have t:∀g o,H g=O (.f o)->g≠x:=λg o j i=>by subst i;rw[j]at n;exact n
 have z:∀g q,H g=O (.d q)->g≠x:=λg q j i=>by subst i;rw[j]at n;exact n
 by_cases n:k=x;subst n;rw[az]at m;cases m;exact p;rw[aL n]at m;by_cases o:k=e;have p:H k=O (.f x):=by rcases s with i|i;exact a7 (o.trans i) n;rw[o];exact i
 rw[m]at p;cases p;obtain⟨r,p⟩:=u;exact⟨r,by rw[o];exact p⟩;refine(A k l m).b (λg r p j=>y g r ?_ j) (λg j=>by rw[aL (t g k j)];exact j) λg q j=>by rw[aL (z g q j)];exact j
 rcases p with rfl|p;exact o;rintro rfl;rcases s with i|i;exact t g k p i;rw[p]at i;cases i;exact n I
end
structure h5(fs ex:V Y)(H H':af)(h h':be):Prop where
 c:∀b o,h.get? b=O o->H b=aa->b∉fs->b∉ex->h'.get? b=O o
 f:∀b o,h.get? b=O o->H b=aa->b∈fs->b∉ex->∃sl,h'.get? b=O {o with slots:=sl}
 a:∀b o,h.get? b=O o->H b=aa->b∉ex->H' b=aa
 e:∀b o,h.get? b=O o->b∉ex->∃o',h'.get? b=O o'
 i:∀b xs,H b=O (.d xs)->H' b=O (.d xs)
 d:∀b o u,H b=O (.e o u)->H' b=O (.e o u)
 g:∀b ps,H b=O (.g ps)->∃more,H' b=O (.g (ps++more))
section
variable{n m k j:V Y}{H i g:af}{h f d h':be}{a x e:Y}{o:cw}
def h5.p(A:h5 n k H i h f)(z:h.get? b=O t)(y:H b=aa)(w:b∉k):∃u,f.get? b=O {t with slots:=u}:=by by_cases u:b∈n;exact A.f b t z y u w;exact⟨t.slots,A.c b t z y u w⟩
def h5.l(o:∀j b,h.get? j=O b->h'.get? j=O b):h5 n k H H h h':=
 ⟨λj m b _ _ _=>o j m b,λj m b _ _ _=>⟨m.slots,o j m b⟩,λ_ _ _ n _=>n,λj m b _=>⟨m,o j m b⟩,λ_ _ b=>b,λ_ _ _ b=>b,λ_ j b=>⟨#[],by rw[b];simp⟩⟩
def h5.r:h5 n k H H h h:=h5.l λ_ _ b=>b
def h5.q(u:∀j m,h.get? j=O m->h'.get? j=O m)(w:h.objs.size<=a)(t:H a=aa):h5 n k H (al H a o) h h' where
 c:=λj m b _ _ _=>u j m b
 f:=λj m b _ _ _=>⟨m.slots,u j m b⟩
 a:=λj m b x _=>by rw[aL (eA (eg (cB b) w))];exact x
 e:=λj m b _=>⟨m,u j m b⟩
 i:=λj u b=>by rw[aL (cX b t)];exact b
 d:=λj m u b=>by rw[aL (cX b t)];exact b
 g:=λj m b=>⟨#[],by rw[aL (cX b t),b];simp⟩
def h5.s(w:lm (H x))(E:e=x\/H e=O (.f x))(A:∀b j,b≠e->h.get? b=O j->h'.get? b=O j)(F:∃j,h'.get? e=O j):h5 n k H (al H x o) h h':=by
 have D:∀b,H b=aa->b≠x:=λb t u=>by subst u;rw[t]at w;exact w
 have B:∀b,H b=aa->b≠e:=λb t u=>by subst u;rcases E with y|y;exact D b t y;rw[t]at y;cases y
 have z:∀b j,H b=O j->¬lm (O j)->b≠x:=λb j m G u=>by subst u;rw[m]at w;exact G w
 refine⟨λb j m t _ _=>A b j (B b t) m,λb j m t _ _=>⟨j.slots,A b j (B b t) m⟩,λb j m t _=>by rw[aL (D b t)];exact t,λb j m _=>?_,
  λb J m=>by rw[aL (z b _ m λu=>u)];exact m,λb j J m=>by rw[aL (z b _ m λu=>u)];exact m,λb K m=>⟨#[],by rw[aL (z b _ m λu=>u),m];simp⟩⟩
 by_cases C:b=e;subst C;exact F;exact⟨j,A b j C m⟩
end
def rl(c:be)(a:af):V Y:=(ij c.objs.size).filter λb=>(a b).isSome
def lt(a:be)(b:af):be:=PySem.W.hideAll a (rl a b)
def GX(a:be)(b):(lt a b).objs.size=a.objs.size:=PySem.W.hideAll_size _ _
def xM{c:be}(e:c.get? a=O d)(n:b a=aa):(lt c b).get? a=O d:=
 PySem.W.hideAll_get _ e λd=>by have c:(b a).isSome=ab:=(cY.mp d).2;rw[n]at c;simp at c
def Ho{c:be}(d:(lt c a).get? b=O e):c.get? b=O e/\a b=aa:=by
 have f:c.get? b=O e:=PySem.W.of_hideAll (rl c a) d;refine⟨f,?_⟩;cases g:a b with|none=>rfl|some e=>have e:b∈rl c a:=cY.mpr ⟨ut.mpr (cB f),by simp[g]⟩;have f:(lt c a).get? b=aa:=PySem.W.hideAll_none (rl c a) e;rw[f]at d;cases d
structure qR(K:aR)(mg:ac->ar ag)(base:be):Prop where
 a:K.In base
 b:base.Ns kT mg
 d:∃mb,base.Ns uX mb/\∀x:ac,x≠"__name__"->mb x=rR x
 c:base.NoLimit
structure aK where
 c:bd
 d:aO
 e:aR
 g:ac->ar ag
 h:be
 b:bK
 i:V ac
 j:ao
 u:af
 a:cS
 p:V cS
 l:V cS
 o:V Y
 r:ac->Bool
 k:Bool
 q:V (Y×aF)
 f:ag->ao->Prop
def fr(a:V cS):V Y:=a.filterMap (·.frame)
abbrev aK.n(x:aK):V Y:=fr x.p
def o6(a:ea)(b:ac):Prop:=a.names.lookup b=O .local\/a.names.lookup b=O .cell\/a.names.lookup b=O .free
def nz(a:ea)(b:ac):Prop:=a.names.lookup b=O .local\/a.names.lookup b=O .cell
def Gs(b:cS)(e:be)(f:ac->ar ag)(a:ac)(d:ag):Prop:=
 (b.kindOf a=O .local/\f a=O d)\/((b.kindOf a=O .cell\/b.kindOf a=O .free)/\∃c,b.cells.lookup a=O c/\e.IsCell c (O d))
structure aK.t(X:aK):Prop where
 e:qR X.e X.g X.h
 d:X.a.scope.kind=.function
 g:X.a.globals=kT
 q:X.a.builtins=uX
 f:X.j.heap.objs.size<=X.a.locals
 t:∀x y c,X.a.cells.lookup x=O c->X.a.cells.lookup y=O c->x=y
 h:∀x,(X.a.kindOf x=O .cell\/X.a.kindOf x=O .free)->∃c,X.a.cells.lookup x=O c
 m:∀x c,X.r x=ab->X.a.cells.lookup x=O c->X.j.heap.objs.size<=c
 a:X.k=ab->X.b.handled=aa
 k:X.b.frames=O X.l
 u:X.l=X.p\/(X.l=X.a::X.p/\X.a.frame=O X.a.locals)
 r:∀b∈X.o,b≠X.a.locals/\∀x c,X.a.cells.lookup x=O c->c≠b
 i:∀b o,X.h.get? b=O o->X.j.heap.get? b=O o/\X.u b=aa
 j:X.h.objs.size<=X.j.heap.objs.size
 p:∀b o,X.h.get? b=O o->b∉X.o
 n:∀b∈X.o,b∉X.n
 l:X.j.heap.FunFrames X.h X.p
 s:∀b∈X.n,X.u b=aa
structure ax(X:aK)(pins:V (Y×aF))(σ:V (ar ah))(H:af)(s:ao):Prop where
 b:X.t
 t:s.os=X.j.os
 k:nW s.gens
 d:h5 X.n X.o X.u H X.j.heap s.heap
 j:∃m,s.heap.Ns X.a.locals m/\∀(i:Nat)(x:ac)(v:ah),X.i[i]?=O x->σ[i]?=O (O v)->o6 X.a.scope x->∃u,br v u/\Gs X.a s.heap m x u
 l:∀x c,X.a.cells.lookup x=O c->∃v,s.heap.IsCell c v
 n:H X.a.locals=aa
 q:∀x c,X.a.cells.lookup x=O c->H c=aa
 f:∀p∈X.q++pins,s.heap.get? p.1=O p.2/\H p.1=aa/\p.1≠X.a.locals/\p.1∉X.n/\∀v,p.2.data≠.cell v
 a:ek X.c X.d H s.heap
 r:σ.length=X.i.length
section
variable{X:aK}{pins:V (Y×aF)}{σ:V (ar ah)}{H H':af}{s:ao}{h':be}
def aK.t.w(x:X.t){b:Y}{o:aF}(c:X.h.get? b=O o):b∉X.n:=λb=>by have:=(x.l.mem b).1;rw[c]at this;cases this
def ax.Q(i:ax X pins σ H s):∀c o,X.h.get? c=O o->s.heap.get? c=O o/\H c=aa:=λc o m=>
 ⟨i.d.c c o (i.b.i c o m).1 (i.b.i c o m).2 (i.b.w m) (i.b.p c o m),i.d.a c o (i.b.i c o m).1 (i.b.i c o m).2 (i.b.p c o m)⟩
def ax.z(i:ax X pins σ H s):∀c o,X.h.get? c=O o->s.heap.get? c=O o:=λc o m=>(i.Q c o m).1
def ax.K(c:ax X pins σ H s):qR X.e X.g X.h:=c.b.e
def ax.h(c:ax X pins σ H s):X.e.In s.heap:=c.b.e.a.keeps c.z
def ax.zu(c:ax X pins σ H s):s.heap.NoLimit:=c.b.e.c.keeps c.z
def ax.S(c:ax X pins σ H s):X.a.locals<s.heap.objs.size:=let⟨_,i,_⟩:=c.j;i.lt
def ax.A(c:ax X pins σ H s):X.j.heap.objs.size<=s.heap.objs.size:=cu c.b.f (pB c.S)
def ax.zt(c:ax X pins σ H s)(m:s.heap.objs.size<=i):i∉X.n:=λi=>by obtain⟨_,u,p,_⟩:=c.b.l.mem i;exact a7 (eg (cB p) (cu c.A m)) (fV _)
def ax.M(m:ax X pins σ H s):∀i c,X.a.cells.lookup i=O c->c≠X.a.locals:=λi c x zy=>by obtain⟨zA,zz,u,p⟩:=m.l i c x;obtain⟨zA,⟨zB,zz,x,i,c,_⟩,_⟩:=m.j;rw[zy,i]at u;cases u;rw[c]at p;cases p
def ax.zg(i:ax X pins σ H s):s.heap.FunFrames X.h X.p:=by
 have zy:∀c,(∀m∈fr c,m∈X.n)->X.j.heap.FunFrames X.h c->s.heap.FunFrames X.h c:=by
  intro c;induction c with|nil=>intro _ _;trivial|cons c p zF=>intro x p;obtain⟨zB,⟨c,zG,u,zC,zD,zA⟩,zE⟩:=p;have p:c∈X.n:=x c (by unfold fr;rw[mI,u];exact cr);obtain⟨zH,zz⟩:=i.d.f c zG zD (i.b.s c p) p λzH=>i.b.n c zH p;exact⟨zB,⟨c,_,u,zC,zz,zA⟩,zF (λm p=>x m (by unfold fr;rw[mI,u];exact cJ _ p)) zE⟩
 exact zy X.p (λ_ p=>p) i.b.l
def ax.U(c:ax X pins σ H s):s.heap.FunFrames X.h X.l:=by rcases c.b.u with i|⟨i,m⟩;rw[i];exact c.zg;rw[i];obtain⟨p,i,_⟩:=c.j;refine .cons (by rw[c.b.d];decide) m i ?_ c.zg;exact Ah (cu c.b.j c.b.f)
def ax.P(m:ax X pins σ H s):∀i∈fr X.l,i∈X.a.locals::X.n:=λi c=>by rcases m.b.u with i|⟨i,m⟩;rw[i]at c;exact cJ _ c;rw[i]at c;unfold fr at c;rw[mI,m]at c;exact c
def ax.za(c:ax X pins σ H s):∀i∈fr X.l,H i=aa:=λi m=>by rcases bW.mp (c.P i m)with p|m;rw[p];exact c.n;obtain⟨_,u,p,_⟩:=c.b.l.mem m;exact c.d.a i u p (c.b.s i m) λx=>c.b.n i x m
def ax.N{g':Array uO}{t':Nat}{d':Drawn}{ch:V Y}(u:ax X pins σ H s)
  (zI:∀c∈ch,(c∈X.o\/X.j.heap.objs.size<=c)/\c≠X.a.locals/\(∀x p,X.a.cells.lookup x=O p->p≠c)/\∀zB∈X.q++pins,zB.1≠c)
  (zQ:∀c i,c≠X.a.locals->c∉X.n->c∉ch->s.heap.get? c=O i->H c=aa->h'.get? c=O i)
  (zU:∀c i,c≠X.a.locals->c∈X.n->c∉ch->s.heap.get? c=O i->H c=aa->∃zH,h'.get? c=O {i with slots:=zH}) (zL:∀c i,c∉ch->s.heap.get? c=O i->H c=aa->H' c=aa)
  (z0:∀c i,c∉ch->s.heap.get? c=O i->∃zK,h'.get? c=O zK)
  (z1:∀c zC,H c=O (.d zC)->H' c=O (.d zC)) (zS:∀c i zO,H c=O (.e i zO)->H' c=O (.e i zO)) (zZ:∀c zN,H c=O (.g zN)->∃m,H' c=O (.g (zN++m)))
  (zX:∀zG,s.heap.Ns X.a.locals zG->h'.Ns X.a.locals zG) (zW:ek X.c X.d H' h') (zV:nW g'):
  ax X pins σ H' {s with heap:=h',gens:=g',drawn:=d',toks:=t'}:=by
 have zT:∀c i,X.j.heap.get? c=O i->c≠X.a.locals:=λc i m=>eA (eg (cB m) u.b.f);have zM:∀c i,X.j.heap.get? c=O i->c∉X.o->c∉ch:=λc i m zy zE=>by rcases(zI c zE).1 with zz|zz;exact zy zz;exact a7 (eg (cB m) zz) (fV _)
 have zR:∀x p,X.a.cells.lookup x=O p->∀zD,s.heap.IsCell p zD->h'.IsCell p zD:=λx p m zD ⟨i,zF,zP⟩=>by have zJ:p∉ch:=λzz=>(zI p zz).2.2.1 x p m I;by_cases zA:p∈X.n;obtain⟨zH,zY⟩:=zU p i (u.M x p m) zA zJ zF (u.q x p m);exact⟨_,zY,zP⟩;exact⟨i,zQ p i (u.M x p m) zA zJ zF (u.q x p m),zP⟩
 refine⟨u.b,u.t,zV,⟨λc i m zA zE zy=>?_,λc i m zA zE zy=>?_,λc i m zA zy=>?_,λc i m zy=>?_,λc zC m=>z1 c zC (u.d.i c zC m),λc i zC m=>zS c i zC (u.d.d c i zC m),λc zN m=>?_⟩,?_,λx p m=>?_,?_,λx p m=>?_,λzB zS=>?_,zW,u.r⟩;exact zQ c i (zT c i m) zE (zM c i m zy) (u.d.c c i m zA zE zy) (u.d.a c i m zA zy);obtain⟨zH,zC⟩:=u.d.f c i m zA zE zy;obtain⟨zV,zH⟩:=zU c _ (zT c i m) zE (zM c i m zy) zC (u.d.a c i m zA zy);exact⟨zV,zH⟩;obtain⟨zK,zC⟩:=u.d.e c i m zy;exact zL c zK (zM c i m zy) zC (u.d.a c i m zA zy);obtain⟨zK,zC⟩:=u.d.e c i m zy;exact z0 c zK (zM c i m zy) zC;obtain⟨zy,zC⟩:=u.d.g c zN m;obtain⟨zE,zH⟩:=zZ c _ zC;exact⟨zy++zE,by rw[zH,Array.append_assoc]⟩;obtain⟨zG,c,zE⟩:=u.j;refine⟨zG,zX zG c,λzK x zD zC zH zy=>?_⟩;obtain⟨zO,zM,c⟩:=zE zK x zD zC zH zy;refine⟨zO,zM,?_⟩;rcases c with c|⟨zy,p,m,zz⟩;exact .inl c;exact .inr ⟨zy,p,m,zR x p m _ zz⟩;obtain⟨zD,zz⟩:=u.l x p m;exact⟨zD,zR x p m zD zz⟩;obtain⟨zG,⟨i,_,_,zF,_⟩,_⟩:=u.j;exact zL _ i (λzz=>(zI _ zz).2.1 I) zF u.n;obtain⟨zD,i,zF,zP⟩:=u.l x p m;exact zL p i (λzz=>(zI p zz).2.2.1 x p m I) zF (u.q x p m);obtain⟨m,zA,c,i,p⟩:=u.f zB zS;have zJ:zB.1∉ch:=λzz=>(zI zB.1 zz).2.2.2 zB zS I;exact⟨zQ zB.1 zB.2 c i zJ m zA,zL zB.1 zB.2 zJ m zA,c,i,p⟩
def ax.D{t':Nat}(u:ax X pins σ H s)(c:h5 X.n [] H H' s.heap h')(zA:ek X.c X.d H' h'):ax X pins σ H' {s with heap:=h',toks:=t'}:=by
 obtain⟨p,⟨o,m,i,zy,x⟩,_⟩:=id u.j;obtain⟨i,zz⟩:=c.p zy u.n (by simp);exact u.N (g':=s.gens) (d':=s.drawn) (ch:=[]) (λ_ zB=>nomatch zB) (λi o _ x _ m p=>c.c i o m p x (by simp)) (λi o _ x _ m p=>c.f i o m p x (by simp)) (λi o _ m p=>c.a i o m p (by simp)) (λi o _ m=>c.e i o m (by simp)) c.i c.d c.g (λx p=>by obtain⟨zB,m,i,c,x⟩:=p;rw[zy]at c;cases c;exact⟨_,m,i,zz,x⟩) zA u.k
def ax.zk{g':Array uO}{t':Nat}{d':Drawn}{ch:V Y}(zy:ax X pins σ H s)(i:h5 (fr X.l) ch H H' s.heap h')(zF:ek X.c X.d H' h')(zE:nW g')
  (zB:∀c∈ch,(c∈X.o\/X.j.heap.objs.size<=c)/\c≠X.a.locals/\(∀u m,X.a.cells.lookup u=O m->m≠c)/\∀p∈X.q++pins,p.1≠c):
  ax X pins σ H' {s with heap:=h',gens:=g',drawn:=d',toks:=t'}:=by
 obtain⟨x,⟨u,p,m,zC,zz⟩,_⟩:=id zy.j;obtain⟨m,zz⟩:=i.p zC zy.n λzA=>(zB _ zA).2.1 I;exact zy.N (ch:=ch) zB (λc u zz zD p m x=>i.c c u m x (λzA=>(bW.mp (zy.P c zA)).elim zz zD) p) (λc u _ _ p m x=>i.p m x p) (λc u p m x=>i.a c u m x p) (λc u p m=>i.e c u m p) i.i i.d i.g (λzy x=>by obtain⟨u,m,i,c,p⟩:=x;rw[zC]at c;cases c;exact⟨_,m,i,zz,p⟩) zF zE
def ax.o{t':Nat}{it:Y}(zB:ax X pins σ H s)(zy:∀c o,c≠it->s.heap.get? c=O o->h'.get? c=O o)(p:H it=aa)(zz:it≠X.a.locals)
  (zD:it∈X.o\/X.j.heap.objs.size<=it) (zE:∀x u,X.a.cells.lookup x=O u->u≠it) (zF:∀i∈X.q++pins,i.1≠it):ax X pins σ H {s with heap:=h',toks:=t'}:=by
 have zC:∀c zA,H c=O zA->c≠it:=λc zA i m=>by rw[m,p]at i;cases i
 refine zB.N (g':=s.gens) (d':=s.drawn) (ch:=[it]) (λc zG=>?_) (λc o _ _ p i _=>zy c o (λm=>p (by simp[m])) i) (λc o _ _ p i _=>⟨o.slots,zy c o (λm=>p (by simp[m])) i⟩) (λ_ _ _ _ n=>n)
  (λc o p i=>⟨o,zy c o (λm=>p (by simp[m])) i⟩) (λ_ _ i=>i) (λ_ _ _ i=>i) (λc zH i=>⟨#[],by rw[i];simp⟩) (λzI zH=>?_) (λc zA i=>?_) zB.k
 have i:c=it:=by simpa using zG
 subst i;exact⟨zD,zz,zE,zF⟩;obtain⟨o,zE,zD,zF,zG⟩:=zH;exact⟨o,zE,zD,zy _ o (df zz) zF,zG⟩;refine(zB.a c zA i).b (λu v p zz=>zy u v ?_ zz) (λ_ zz=>zz) λ_ _ zz=>zz;rcases p with m|m;rw[m];exact zC c zA i;exact zC u _ m
def ax.e(c:ax X pins σ H s)(i):ax X pins σ H {s with toks:=i}:=c.D (h':=s.heap) (t':=i) h5.r c.a
def ax.w{t':Nat}(c:ax X pins σ H s)(m:∀i p,s.heap.get? i=O p->h'.get? i=O p):ax X pins σ H {s with heap:=h',toks:=t'}:=c.D (h5.l m) (c.a.c m)
def ax.y{a:Y}{o:cw}{t':Nat}(c:ax X pins σ H s)(k:∀m p,s.heap.get? m=O p->h'.get? m=O p)(i:s.heap.objs.size<=a)(u:d_ X.c X.d (al H a o) h' a o):
  ax X pins σ (al H a o) {s with heap:=h',toks:=t'}:=c.D (h5.q k i (c.a.b i)) (c.a.e k i u)
def ax.E{x e:Y}{m:cw}{t':Nat}(p:ax X pins σ H s)(zA:lm (H x))(u:e=x\/H e=O (.f x))(zz:∀i c,i≠e->s.heap.get? i=O c->h'.get? i=O c)(zy:∃c,h'.get? e=O c)
  (c:d_ X.c X.d (al H x m) h' x m):ax X pins σ (al H x m) {s with heap:=h',toks:=t'}:=p.D (h5.s zA u zz zy) (p.a.a zA u zz zy c)
def ax.zx{p:V (ar ah)}(c:ax X pins σ H s)(zy:p.length=σ.length)(zC:∀(i:Nat) m,p[i]?=O (O m)->σ[i]?=O (O m)):ax X pins p H s:=
 ⟨c.b,c.t,c.k,c.d,let⟨zB,zA,zz⟩:=c.j;⟨zB,zA,λi zD m p u x=>zz i zD m p (zC i m u) x⟩,c.l,c.n,c.q,c.f,c.a,zy.trans c.r⟩
def ax.B{pins':V (Y×aF)}(c:ax X pins σ H s)(m:∀i∈pins',s.heap.get? i.1=O i.2/\H i.1=aa/\i.1≠X.a.locals/\i.1∉X.n/\∀p,i.2.data≠.cell p):ax X pins' σ H s:=
 ⟨c.b,c.t,c.k,c.d,c.j,c.l,c.n,c.q,λi p=>(cU.mp p).elim (λu=>c.f i (g9 _ u)) (m i),c.a,c.r⟩
def q3{a:V ac}(g:a.Nodup){b c:Nat}{d:ac}(e:a[b]?=O d)(f:a[c]?=O d):b=c:=by obtain⟨b,a⟩:=bu.mp e;obtain⟨c,b⟩:=bu.mp f;exact(List.getElem_inj g).mp (a.trans b.symm)
def yh{v:ah}(a:ax X pins σ H s)(T:X.i.Nodup)(w:X.i[x]?=O i)(j:nz X.a.scope i)(ze:br v C)
  (S:∀c,ax X pins (σ.set x (O v)) H c->(∃f,rB f s.heap c.heap/\(f=X.a.locals\/X.a.cells.lookup i=O f))->d () c) (U:X.r i=ab\/X.a.scope.names.lookup i=O .local:=by first|exact .inl rfl|exact .inr rfl|assumption):aC h e (storeName X.a i C) d g s:=by
 obtain⟨zh,J,zb⟩:=id a.j;have m:(X.a.scope.kind==.class||(X.a.scope.kind==.module&&X.a.locals !=X.a.globals))=ae:=by rw[a.b.d];rfl
 have za:x<σ.length:=by rw[a.r];exact(bu.mp w).1
 have E:=a.M;have zf:∀{f:Y}{h':be},(∃k,s.heap.get? f=O k/\H f=aa)->rB f s.heap h'->ek X.c X.d H h':=λ{f h'} h d e n c=>by obtain⟨_,_,g⟩:=h;refine(a.a e n c).b (λf D h l=>(d.2 f ?_).trans l) (λ_ l=>l) λ_ _ l=>l;rintro rfl;rcases h with rfl|h;rw[g]at c;cases c;rw[g]at h;cases h
 rcases j with q|q;refine wpAny_storeName_local q J (λh' o d=>?_) m;obtain⟨z,_,_,t,_⟩:=id J;refine S _ ⟨a.b,a.t,a.k,⟨λe k c m r j=>?_,λe k c m r j=>?_,a.d.a,λe k c j=>?_,a.d.i,a.d.d,a.d.g⟩,⟨_,o,λy n R g p F=>?_⟩,λn f c=>?_,a.n,a.q,λu K=>?_,zf ⟨z,t,a.n⟩ d,by simpa using a.r⟩ ⟨_,d,.inl I⟩;exact(d.2 e (eA (eg (cB c) a.b.f))).trans (a.d.c e k c m r j);obtain⟨P,g⟩:=a.d.f e k c m r j;exact⟨P,(d.2 e (eA (eg (cB c) a.b.f))).trans g⟩;obtain⟨M,g⟩:=a.d.e e k c j;exact⟨M,(d.2 e (eA (eg (cB c) a.b.f))).trans g⟩;by_cases t:y=x;subst t;rw[w]at g;cases g;rw[fK za]at p;cases p;exact⟨C,ze,.inl ⟨q,by simp⟩⟩;rw[un (df t)]at p;obtain⟨Q,N,l⟩:=zb y n R g p F;refine⟨Q,N,?_⟩;rcases l with⟨z,c⟩|⟨z,f,c,o⟩;refine .inl ⟨z,?_⟩;have:n≠i:=λc=>t (q3 T g (c▸w));simp[this,c];exact .inr ⟨z,f,c,o.sameBut d (E n f c)⟩;obtain⟨D,o⟩:=a.l n f c;exact⟨D,o.sameBut d (E n f c)⟩;obtain⟨c,m,B,L,A⟩:=a.f u K;exact⟨(d.2 u.1 B).trans c,m,B,L,A⟩;have G:X.r i=ab:=by rcases U with o|o;exact o;rw[o]at q;cases q
 obtain⟨f,h⟩:=a.b.h i (.inl q);obtain⟨D,o⟩:=a.l i f h;refine wpAny_storeName_cell a.b.d q h o (λh' U d=>?_);obtain⟨zd,zc,zg⟩:=id o;refine S {s with heap:=h'} ⟨a.b,a.t,a.k,⟨λe k c m r j=>?_,λe k c m r j=>?_,a.d.a,λe k c j=>?_,a.d.i,a.d.d,a.d.g⟩,⟨zh,J.sameBut d (df (E i f h)),λy n R g p F=>?_⟩,λn o c=>?_,a.n,a.q,λu K=>?_,zf ⟨zd,zc,a.q i f h⟩ d,by simpa using a.r⟩ ⟨f,d,.inr h⟩;exact(d.2 e (eA (eg (cB c) (a.b.m i f G h)))).trans (a.d.c e k c m r j);obtain⟨P,g⟩:=a.d.f e k c m r j;exact⟨P,(d.2 e (eA (eg (cB c) (a.b.m i f G h)))).trans g⟩;obtain⟨M,g⟩:=a.d.e e k c j;exact⟨M,(d.2 e (eA (eg (cB c) (a.b.m i f G h)))).trans g⟩;by_cases t:y=x;subst t;rw[w]at g;cases g;rw[fK za]at p;cases p;exact⟨C,ze,.inr ⟨.inl q,f,h,U⟩⟩;rw[un (df t)]at p;obtain⟨Q,N,l⟩:=zb y n R g p F;refine⟨Q,N,?_⟩;rcases l with l|⟨z,o,c,e⟩;exact .inl l;refine .inr ⟨z,o,c,e.sameBut d ?_⟩;rintro rfl;exact t (q3 T g (a.b.t _ _ _ c h▸w));by_cases e:o=f;subst e;exact⟨_,U⟩;obtain⟨f,g⟩:=a.l n o c;exact⟨f,g.sameBut d e⟩;obtain⟨c,m,B,L,A⟩:=a.f u K;refine⟨(d.2 u.1 ?_).trans c,m,B,L,A⟩;intro l;rw[l,zc]at c;have a:zd=u.2:=bA c;exact A D (by rw[<-a];exact zg)
def rf{v:ah}(h:ax X pins σ H s)(k:X.i.Nodup)(m:X.i[d]?=O a)(n:nz X.a.scope a)(o:br v e)
  (j:∀b,ax X pins (σ.set d (O v)) H b->c () b) (l:X.r a=ab\/X.a.scope.names.lookup a=O .local:=by first|exact .inl rfl|exact .inr rfl|assumption):aC i f (storeName X.a a e) c g s:=
 yh h k m n o (λb a _=>j b a) l
def ax.ze{c:ao}{ch:V Y}(p:ax X pins σ H s)(zy:c.os=s.os)(zB:h5 (fr X.l) ch H H' s.heap c.heap)(zz:ek X.c X.d H' c.heap)(x:nW c.gens)
  (u:∀i∈ch,(i∈X.o\/X.j.heap.objs.size<=i)/\i≠X.a.locals/\(∀zC m,X.a.cells.lookup zC=O m->m≠i)/\∀zA∈X.q++pins,zA.1≠i):ax X pins σ H' c:=by
 obtain⟨h',g',d',t',i⟩:=c;have c:i=s.os:=zy;subst c;exact p.zk (g':=g') (t':=t') (d':=d') zB zz x u
end
abbrev cf:=ag->ar Y->af->Prop
abbrev aQ:=V (ar ah)
abbrev bj:=ah->af->Prop
abbrev aY:=aQ->af->bj->Prop
abbrev dV:=aQ->af->(Bool->af->Prop)->Prop
abbrev el:=aQ->af->(V ah->af->Prop)->Prop
structure hA where
 a:aQ->af->Prop
 b:bj
 c:aQ->af->Prop:=λ_ _=>False
 d:aQ->af->Prop:=λ_ _=>False
abbrev dv:=hA->aQ->af->Prop
def e5(c:aK)(d:V (Y×aF))(g:aQ)(Q:bj)(f:ag)(e:ao):Prop:=∃b a,ax c d g a e/\br b f/\Q b a
def tI(c:aK)(e:V (Y×aF))(g:aQ)(b:Bool->af->Prop)(d:Bool)(f:ao):Prop:=∃a,ax c e g a f/\b d a
def Gm(d:aK)(e:V (Y×aF))(h:aQ)(c:V ah->af->Prop)(g:V ag)(f:ao):Prop:=∃b a,ax d e h a f/\bR b g/\c b a
def ml(X:aK)(d:V (Y×aF))(c:hA)(a:Flow)(e:ao):Prop:=
 match a with|.next=>∃b a,ax X d b a e/\c.a b a|.brk=>∃b a,ax X d b a e/\c.c b a|.cont=>∃b a,ax X d b a e/\c.d b a|.ret f=>∃v b a,ax X d b a e/\br v f/\c.b v a
def aS(X:aK)(d:aZ)(e:aY):Prop:=
 ∀pins s a b c,ax X pins a b s->e a b c->aC (aT X.c X.d) X.b (bB d X.a) (e5 X pins a c) X.f s
def g4(a:aK)(e:aZ)(h:dV):Prop:=
 ∀f g b c d,ax a f b c g->h b c d->aC (aT a.c a.d) a.b (rW e a.a (bB e a.a)) (tI a f b d) a.f g
def mj(a:aK)(g:aZ)(h:dV):Prop:=
 ∀(i:fw ag) e f b c d,ax a e b c f->h b c d->aC (aT a.c a.d) a.b (rW g a.a i) (tI a e b d) a.f f
def mj.a(e:mj b c d):g4 b c d:=e _
def fR(a:aK)(g:V aZ)(t:el):Prop:=
 ∀h e f b c d,ax a e b c f->t b c d->aC (aT a.c a.d) a.b (AN (d5 h (bX g a.a))) (Gm a e b d) a.f f
def e6(X:aK)(d:bh)(e:dv):Prop:=
 ∀c s σ b a,ax X c σ b s->e a σ b->aC (aT X.c X.d) X.b (exec d X.a) (ml X c a) X.f s
def eG(X:aK)(e:V bh)(f:dv):Prop:=
 ∀c s d b a,ax X c d b s->f a d b->aC (aT X.c X.d) X.b (execs e X.a) (ml X c a) X.f s
def a3{t:fw h}(i:aC d b t e c a)(j:∀g a,e g a->f g a):aC d b t f c a:=fM i j λ_ _ a=>a
section
variable{X:aK}
def tT(b:ar (ar ah))(a:ah->Prop):Prop:=match b with|some (O b)=>a b|_=>False
def xK(b:tT c d):∃a,c=O (O a)/\d a:=by
 match c,b with|some (O a),b=>exact⟨a,I,b⟩
def ph(c:ah)(a:Y->Prop):Prop:=match c with|.b c=>a c|_=>False
def nJ(c:ph d e):∃a,d=.b a/\e a:=by
 match d,c with|.b a,c=>exact⟨a,I,c⟩
def lq(b:ah)(a:Bool->Prop):Prop:=match b with|.d b=>a b|_=>False
def j2(b:lq c e):∃a,c=.d a/\e a:=by
 match c,b with|.d a,b=>exact⟨a,I,b⟩
def j8(c:Nat):aY:=λd a b=>tT d[c]? λv=>b v a
def kG(c:ah):aY:=λ_ a b=>b c a
def x7(i:X.i[c]?=O a)(m:o6 X.a.scope a)(e:(a==("__debug__":ac))=ae:=by decide)(j:(a==("__classdict__":ac))=ae:=by decide):aS X (.Name a b) (j8 c):=by intro o s r f g b d;obtain⟨v,h,d⟩:=xK d;obtain⟨n,l,k⟩:=b.j;obtain⟨q,p,n⟩:=k c a v i h m;have c:e5 X o r g q s:=⟨v,f,b,p,d⟩;rcases n with⟨a,g⟩|⟨a,h,d,f⟩;exact AP (wpAny_loadName_local b.b.d a l g c) e;rcases a with a|a;exact AP (wpAny_loadName_cell b.b.d a d f c) e;exact AP (wpAny_loadName_free b.b.d a d f c j) e
def a5{i j b}:aS X (.Constant (.int i) j b) (kG (.a i)):=λ_ _ _ H _ b c=>wpAny_Constant_int ⟨.a i,H,b.e _,⟨_,I⟩,c⟩
def kE:aS X (.Constant (.bool a) b c) (kG (.d a)):=λ_ _ _ H _ b c=>Constant_bool ⟨.d a,H,b,I,c⟩
def kF{j a}:aS X (.Constant .none j a) (kG .c):=λ_ _ _ a _ b d=>y_ ⟨.c,a,b,I,d⟩
def iN{a j b}:aS X (.Constant (.str a) j b) (kG (.e a)):=λ_ _ _ b _ c d=>Ka ⟨.e a,b,c.e _,⟨_,I⟩,d⟩
def fh(X:aK)(a:ac):Prop:=X.a.kindOf a=O .globalImplicit
def kB{s:ao}{σ:aQ}{Q:ag->ao->Prop}(a:ax X i σ e s)(g:fh X b)(h:X.g b=O c)(f:Q c s)
  (c:(b==("__debug__":ac))=ae:=by decide):aC (aT X.c X.d) X.b (bB (.Name b j) X.a) Q d s:=
 Kb a.b.d g (Calls.loadGlobal_global (by rw[a.b.g];exact a.K.b.keeps a.z) h f) c
def nD(a:ax X l n g c)(i:fh X b)(j:X.g b=aa)(k:rR b=O e)(h:d e c)
  (g:b≠"__name__":=by decide) (e:(b==("__debug__":ac))=ae:=by decide):aC (aT X.c X.d) X.b (bB (.Name b m) X.a) d f c:=by
 obtain⟨f,c,d⟩:=a.K.d;exact Kb a.b.d i (Calls.loadGlobal_builtin (by rw[a.b.g];exact a.K.b.keeps a.z) j (by rw[a.b.q];exact c.keeps a.z) ((d b g).trans k) h) e
def Hx(f:fh X a)(g:X.g a=O c)(h:br b c)(e:(a==("__debug__":ac))=ae:=by decide):aS X (.Name a d) (kG b):=
 λ_ _ _ c _ a d=>kB a f g ⟨b,c,a,h,d⟩ e
variable{a b:aZ}{n tb:aY}{pos:bL}
def mi(X:aK)(h:mP)(a b:aZ)(i:aY):Prop:=
 ∀f g c d e,ax X f c d g->i c d e->
  aC (aT X.c X.d) X.b (bB a X.a) (λk d=>aC (aT X.c X.d) X.b (bB b X.a) (λj i=>aC (aT X.c X.d) X.b (eL h k j) (e5 X f c e) X.f i) X.f d) X.f g
def TG(b)(d:c≠.In)(g:c≠.NotIn):oc c b=ae:=by
 have e:(c==Kd)=ae:=by cases c<;>first|rfl|exact a7 I d
 have f:(c==Ke)=ae:=by cases c<;>first|rfl|exact a7 I g
 cases b with
 |Set g d h=>show((d==0&&(c==.In||c==.NotIn))&&g.all (Vl 8))=ae;rw[e,f];cases(d==0)<;>rfl
 |_=>rfl
def Iu(n:aY):aY:=λg a e=>n g a λf b=>e (.d (aq (f=.c))) b
def Iy(n:aY):aY:=λg a e=>n g a λf b=>e (.d (!aq (f=.c))) b
def br.c(i:br j k):(k==fL)=aq (j=.c):=by
 cases j with
 |c=>cases i;rfl
 |d _=>cases i;rfl
 |a _=>obtain⟨j,rfl⟩:=i;rfl
 |e _=>obtain⟨j,rfl⟩:=i;rfl
 |f _=>obtain⟨j,rfl⟩:=i;rfl
 |g _=>obtain⟨j,rfl⟩:=i;rfl
 |b _=>cases i;rfl
 |h _=>cases i;rfl
def mz(i:aS X a n):mi X .Is a (.Constant .none c e) (Iu n):=by intro j m o c e f h;exact a3 (i j m o c _ f h) λq p ⟨r,e,g,l,k⟩=>y_ (is_none_gen ⟨.d _,e,g,by rw[l.c];rfl,k⟩)
def nF(i:aS X a n):mi X .IsNot a (.Constant .none c e) (Iy n):=by intro j s m c e f h;exact a3 (i j s m c _ f h) λp o ⟨x,e,g,l,k⟩=>y_ (isnot_none_gen ⟨.d _,e,g,by rw[l.c];rfl,k⟩)
def yj(d:aY):dV:=λf a c=>d f a λe b=>lq e λa=>c a b
def eI(g:mi X e a b f)(d:oc e b=ae:=by first|exact TG _ (by decide) (by decide)|rfl):g4 X (.Compare a [e] [b] pos) (yj f):=by intro i s j e k f h;refine Lu (a3 (g i s j e _ f h) λl k d=>a3 d λf e g=>a3 g λc j ⟨x,e,f,i,h⟩=>?_) d;obtain⟨g,rfl,d⟩:=j2 h;cases i;exact kW ⟨e,f,d⟩
def ju{a:aZ}{t:aY}(f:aS X a t)(g:∀c,rW a X.a c=(do let b<-c;oj a.pos;iZ [b] (truthy b)):=by intro _;rfl):g4 X a (yj t):=by intro i s l a c d h;refine isTrue_plain (a3 (f i s l a _ d h) λb m ⟨x,c,e,k,j⟩=>?_) (g _);obtain⟨b,rfl,a⟩:=j2 j;cases k;exact kW ⟨c,e,a⟩
variable{m k:dV}{j:V aZ}
def Ig(f g:dV):dV:=λc d b=>f c d λe a=>if e=ab then g c a b else b ae a
def Iz(f g:dV):dV:=λc d b=>f c d λe a=>if e=ab then b ab a else g c a b
def Ix(e:dV):dV:=λf a c=>e f a λd b=>c (!d) b
def rb(h:g4 X a m):mj X (.BoolOp .And [a] pos) m:=by
 intro b i j k c e d g;refine isTrue_and (a3 (h i j k c e d g) λf l b=>?_);cases f with|true=>exact isTrue_and_nil b|false=>exact b
def pg(h:g4 X a m):mj X (.BoolOp .Or [a] pos) m:=by
 intro b i j k c e d g;refine isTrue_or (a3 (h i j k c e d g) λf l b=>?_);cases f with|false=>exact isTrue_or_nil b|true=>exact b
def ra(p:g4 X a m)(q:mj X (.BoolOp .And (b::j) pos) k):mj X (.BoolOp .And (a::b::j) pos) (Ig m k):=by
 intro t e r g h l i o;refine isTrue_and (a3 (p e r g h _ i o) λn s ⟨c,d,f⟩=>?_);cases n with|true=>exact q t e s g c l d f|false=>exact⟨c,d,f⟩
def nI(p:g4 X a m)(q:mj X (.BoolOp .Or (b::j) pos) k):mj X (.BoolOp .Or (a::b::j) pos) (Iz m k):=by
 intro t e r g h l i o;refine isTrue_or (a3 (p e r g h _ i o) λn s ⟨c,d,f⟩=>?_);cases n with|true=>exact⟨c,d,f⟩|false=>exact q t e s g c l d f
def iP(h:g4 X a m):g4 X (.UnaryOp .Not a pos) (Ix m):=by intro i j k b e d g;exact isTrue_not (h i j k b (λf c=>e (!f) c) d g)
def Ih(n tb:aY):aY:=λc e b=>n c e λf a=>lq f λe=>if e=ab then tb c a b else b (.d ae) a
def IA(n tb:aY):aY:=λc e b=>n c e λf a=>lq f λe=>if e=ab then b (.d ab) a else tb c a b
def t5(f:aS X a c):aS X (.BoolOp d [a] pos) c:=λh i l c e d g=>BoolOp_one (f h i l c e d g)
def x2(o:aS X a n)(p:aS X (.BoolOp .And (b::j) pos) tb):aS X (.BoolOp .And (a::b::j) pos) (Ih n tb):=by
 intro g r h i l k m;refine BoolOp_and (a3 (o g r h i _ k m) λt s ⟨u,e,f,q,c⟩=>?_);obtain⟨i,rfl,c⟩:=j2 c;cases q;refine kW ?_;cases i with|true=>exact p g s h e l f c|false=>exact⟨.d ae,e,f,I,c⟩
def HC(o:aS X a n)(p:aS X (.BoolOp .Or (b::j) pos) tb):aS X (.BoolOp .Or (a::b::j) pos) (IA n tb):=by
 intro g r h i l k m;refine BoolOp_or (a3 (o g r h i _ k m) λt s ⟨u,e,f,q,c⟩=>?_);obtain⟨i,rfl,c⟩:=j2 c;cases q;refine kW ?_;cases i with|false=>exact p g s h e l f c|true=>exact⟨.d ab,e,f,I,c⟩
def It(f:dV)(n tb:aY):aY:=λa d c=>f a d λe b=>if e=ab then n a b c else tb a b c
def x6(u:g4 X c m)(r:aS X a n)(t:aS X b tb):aS X (.IfExp c a b pos) (It m n tb):=by
 intro c s d l g o q;refine wpAny_IfExp (a3 (u c s d l _ o q) λp i ⟨e,f,h⟩=>?_);cases p with|true=>exact r c i d e g f h|false=>exact t c i d e g f h
end
def dU(f:aR)(b:af)(d:Y)(e:V ah):Prop:=
 iI b d (.a e)\/
  ∃(b:aF)(c:Array ag)(g:Nat),f.lookup d=O b/\b.cls=.type "list"/\b.dict=aa/\b.data=.seq c g/\c.size<=aH/\bR e c.toList
def kA(f:aR)(a:af)(c:Y)(e:V ah):Prop:=
 iI a c (.d e)\/
  ∃(b:aF)(a:Array ag)(g:Nat),f.lookup c=O b/\b.cls=.type "tuple"/\b.data=.seq a g/\a.size<=aH/\bR e a.toList
noncomputable def Gw:ag->ar ah
 |.none=>O .c
 |.bool i=>O (.d i)
 |.int j _=>O (.a j)
 |.str j _=>O (.e j)
 |.bytes i _=>O (.f i)
 |.float i _=>O (.g i)
 |.ref i=>O (.b i)
 |.type i=>O (.h i)
 |_=>aa
def br.a(i:br j k):Gw k=O j:=by
 cases j with
 |c=>cases i;rfl
 |d _=>cases i;rfl
 |a _=>obtain⟨j,rfl⟩:=i;rfl
 |e _=>obtain⟨j,rfl⟩:=i;rfl
 |f _=>obtain⟨j,rfl⟩:=i;rfl
 |g _=>obtain⟨j,rfl⟩:=i;rfl
 |b _=>cases i;rfl
 |h _=>cases i;rfl
def br.b(h:br e d)(g:br f d):e=f:=bA (h.a.symm.trans g.a)
theorem bR.j:∀{n o:V ah}{m:V ag},bR n m->bR o m->n=o
 |_,_,_,.nil,.nil=>I
 |_,_,_,.cons m o,.cons n p=>by rw[m.b n,bR.j o p]
section
variable{X:aK}{pins:V (Y×aF)}{σ:aQ}{H:af}{s:ao}{a:Y}{xs ys:V ah}
def dU.b{K:aR}(c:H a=O (.a xs)):dU K H a xs:=.inl (.inl c)
def kA.b{K:aR}(c:H a=O (.d xs)):kA K H a xs:=.inl (.inl c)
def ax.g(u:ax X pins σ H s)(m:dU X.e H a xs):∃c:V ag,bR xs c/\PlainL s.heap a c.toArray/\xs.length<=aH:=by rcases m with m|⟨o,c,p,zz,x,zy,zA,zB,i⟩;obtain⟨zB,c,p,i,e⟩:=m.a u.a;exact⟨c,i,⟨_,p,e,I,I,I⟩,zB⟩;refine⟨c.toList,i,⟨o,p,u.h a o zz,x,zy,by simpa using zA⟩,?_⟩;have e:=i.a;simp only[oQ]at e;omega
def ax.C(p:ax X pins σ H s)(m:kA X.e H a xs):∃c:V ag,bR xs c/\uB s.heap a c.toArray/\xs.length<=aH:=by rcases m with m|⟨u,c,zA,zy,x,zz,zB,i⟩;obtain⟨zC,c,i,zB⟩:=m.a p.a;exact⟨c,i,zB,zC⟩;refine⟨c.toList,i,⟨u,p.h a u zy,x,zA,by simpa using zz⟩,?_⟩;have c:=i.a;simp only[oQ]at c;omega
def ax.zh(c:ax X pins σ H s)(i:dU X.e H a xs)(x:dU X.e H a ys):xs=ys:=by
 obtain⟨zy,zA,⟨zz,m,u,_,_,p⟩,_⟩:=c.g i;obtain⟨zz,zB,⟨zE,zD,m,_,_,i⟩,_⟩:=c.g x;rw[u]at m;cases m;rw[p]at i;injection i with zC _;have:zy=zz:=by simpa using cb Array.toList zC
 subst this;exact zA.j zB
end
abbrev aK.w(y:aK)(x:ag->ao->Prop):aK:={y with f:=x}
abbrev aK.s(X:aK):aK:=X.w λ_ _=>False
def aK.t.A{c:aK}(b:c.t)(o):(c.w o).t:=
 ⟨b.e,b.d,b.g,b.q,b.f,b.t,b.h,b.m,b.a,b.k,b.u,b.r,b.i,b.j,b.p,b.n,b.l,b.s⟩
def aK.t.z{c:aK}{o:ag->ao->Prop}(b:(c.w o).t):c.t:=
 ⟨b.e,b.d,b.g,b.q,b.f,b.t,b.h,b.m,b.a,b.k,b.u,b.r,b.i,b.j,b.p,b.n,b.l,b.s⟩
section
variable{X:aK}{pins:V (Y×aF)}{σ:aQ}{H:af}{s:ao}{E:ag->ao->Prop}
def ax.zj(c:ax X pins σ H s)(E):ax (X.w E) pins σ H s:=⟨c.b.A E,c.t,c.k,c.d,c.j,c.l,c.n,c.q,c.f,c.a,c.r⟩
def ax.L(c:ax (X.w E) pins σ H s):ax X pins σ H s:=⟨c.b.z,c.t,c.k,c.d,c.j,c.l,c.n,c.q,c.f,c.a,c.r⟩
def ml.a(f:ml (X.w E) pins c b d):ml X pins c b d:=by
 cases b with
 |next=>obtain⟨e,b,c,d⟩:=f;exact⟨e,b,c.L,d⟩
 |brk=>obtain⟨e,b,c,d⟩:=f;exact⟨e,b,c.L,d⟩
 |cont=>obtain⟨e,b,c,d⟩:=f;exact⟨e,b,c.L,d⟩
 |ret g=>obtain⟨h,e,b,c,g,d⟩:=f;exact⟨h,e,b,c.L,g,d⟩
def aS.a(f:aS X.s b c):aS X b c:=λpins s σ H e c g=>
 fM (f pins s σ H e (c.zj _) g) (λ_ _ ⟨v,b,d,r,h⟩=>⟨v,b,d.L,r,h⟩) λ_ _ c=>eW c
def eG.a(d:eG X.s b c):eG X b c:=λpins s σ H b c e=>
 fM (d pins s σ H b (c.zj _) e) (λ_ _ f=>f.a) λ_ _ b=>eW b
end
section
variable{X:aK}{n:bh}{m:V bh}{t u:dv}{e:aZ}{k:aY}{pos:bL}
def yo:dv:=λa c b=>a.a c b
def ft(t u:dv):dv:=λb d c=>t {b with a:=u b} d c
def bQ:eG X [] yo:=λ_ _ d a _ b c=>rY ⟨d,a,b,c⟩
def aj(b:e6 X n t)(g:eG X m u):eG X (n::m) (ft t u):=by
 intro c s h H D d e;refine Ln (a3 (b c s h H {D with a:=u D} d e) λf h b=>?_);cases f with
 |next=>obtain⟨i,d,e,b⟩:=b;exact g c h i d D e b
 |ret v=>exact b
 |brk=>exact b
 |cont=>exact b
def au(d:e6 X n t):eG X [n] t:=by
 intro e s g H D b c;refine Ln (a3 (d e s g H D b c) λf h a=>?_);cases f with|next=>exact rY a|ret v=>exact a|brk=>exact a|cont=>exact a
def Ij:dv:=λa c b=>a.c c b
def Ik:dv:=λa c b=>a.d c b
def HI:e6 X (.Break pos) Ij:=λ_ _ d a _ b c=>wpAny_Break ⟨d,a,b,c⟩
def HJ:e6 X (.Continue pos) Ik:=λ_ _ d a _ b c=>wpAny_Continue ⟨d,a,b,c⟩
def ax.zv(i:ax X p x c s):Lb X.a=ae:=by simp[Lb,i.b.d]
def ub(k:aY):dv:=λb a c=>k a c λ_ d=>b.a a d
def a9(h:aS X e k)(i:lO e aa pos.line X.a=cR ae:=by rfl):e6 X (.Expr e pos) (ub k):=by intro j s b c D a g;exact wpAny_Expr_any (a3 (h j s b c _ a g) λv n ⟨x,d,f,m,l⟩=>⟨b,d,f,l⟩) a.zv i
def rk(k:aY):dv:=λa c b=>k c b a.b
def aV(h:aS X e k):e6 X (.Return (O e) pos) (rk k):=by intro i s a b c d g;exact wpAny_Return_some (a3 (h i s a b _ d g) λv n ⟨m,c,f,l,j⟩=>⟨m,a,c,f,l,j⟩)
def ym(f:dV)(t u:dv):dv:=λb a d=>f a d λe c=>if e=ab then t b a c else u b a c
def bD{c:aZ}{a b:V bh}(w:g4 X c d)(q:eG X a t)(r:eG X b u):e6 X (.If c a b pos) (ym d t u):=by
 intro b s d j D l p;refine wpAny_If (a3 (w b s d j _ l p) λo i ⟨f,g,h⟩=>?_);cases o with|true=>exact q b i d f D g h|false=>exact r b i d f D g h
end
abbrev eH:=ah->aQ->af->(aQ->af->Prop)->Prop
abbrev mm:=V ah->aQ->af->(aQ->af->Prop)->Prop
def j0(X:aK)(g:aZ)(f:eH):Prop:=
 ∀pins c e a v d b,ax X pins e a c->br v d->f v e a b->
  aC (aT X.c X.d) X.b (ob g X.a d) (λ_ e=>∃d a,ax X pins d a e/\b d a) X.f c
def qS(a:aK)(j:V aZ)(i:mm):Prop:=
 ∀d e h b g f c,ax a d h b e->bR g f->i g h b c->
  aC (aT a.c a.d) a.b (assignInOrder ((pQ j a.a).map (·.2)) f) (λ_ g=>∃f b,ax a d f b g/\c f b) a.f e
abbrev tJ:=ah->ah->ah->af->(af->Prop)->Prop
def xj(a:aK)(m:tJ):Prop:=
 ∀h i l b f d k g e j c,ax a h l b i->br f g->br d e->br k j->m f d k b c->
  aC (aT a.c a.d) a.b (u8 g e j) (λ_ d=>∃b,ax a h l b d/\c b) a.f i
section
variable{X:aK}{pos:bL}
def mo(c:Nat):eH:=λv d a b=>b (d.set c (O v)) a
def HD(e:X.i.Nodup)(g:X.i[b]?=O a)(h:nz X.a.scope a)(f:X.r a=ab\/X.a.scope.names.lookup a=O .local:=by first|exact .inl rfl|exact .inr rfl|assumption):j0 X (.Name a pos) (mo b):=by intro j k n a m l c b i d;exact Lm (rf b e g h i (λj c=>⟨_,a,c,d⟩) f)
def GR:mm:=λc d a b=>c=[]/\b d a
def GQ(f:eH)(g:mm):mm:=λh i c e=>∃b a,h=b::a/\f b i c λj d=>g a j d e
def HF:qS X [] GR:=by intro g h f b j i d c e a;obtain⟨d,a⟩:=a;subst d;cases e;exact assignInOrder_nil ⟨f,b,c,a⟩
def x8(i:j0 X a c)(j:qS X b d)
  (g:(pQ (a::b) X.a).map (·.2)=ob a X.a::(pQ b X.a).map (·.2):=by rfl):qS X (a::b) (GQ c d):=by
 intro c m o d k e h f b a;obtain⟨v,k,e,a⟩:=a;subst e;cases b with|cons b l=>rw[g];refine assignInOrder_cons (a3 (i c m o d _ _ _ f b a) λ_ n ⟨p,e,g,k⟩=>?_);exact j c n p e _ _ h g l k
def GU(e:aR)(g:Nat)(h:mm):eH:=λi j c f=>∃d a,i=.b d/\kA e c d a/\a.length=g/\h a j c f
def HE(h:X.k=ab)(k:qS X a c)
  (m:(pQ a X.a).length=b:=by rfl) (n:(pQ a X.a).findIdx? (·.1)=aa:=by rfl):j0 X (.Tuple a d pos) (GU X.e b c):=by
 intro d f g c v e i a p b;obtain⟨q,xs,e,j,l,b⟩:=b;subst e;cases p;obtain⟨r,e,p,q⟩:=a.C j;refine assign_Tuple_tuple (a.b.a h) p (by simp[m,<-l,e.a]) n λj q=>?_;have h:ax X d g c {f with heap:=j}:=a.w (t':=f.toks) λj o a=>q j o (eA (cB a)) a;exact k d _ g c xs _ i h (by simpa using e) b
def GS(e h:aY)(g:tJ):eH:=λi a b d=>e a b λf c=>h a c λe b=>g f e i b λc=>d a c
def t6(l:aS X e h)(k:aS X d g)(m:xj X f)
  (i:∀a,ob (.Subscript e d pos) X.a a=(do
   let b<-iZ [a] (bB e X.a)
   let c<-iZ [a,b] (bB d X.a)
   oj pos
   iZ [a,b,c] (u8 b c a)
   release [a,b,c] []):=by intro _;rfl):j0 X (.Subscript e d pos) (GS h g f):=by
 intro e q d f a s g h o j;rw[i];refine aD (iq (a3 (l e q d f _ h j) λb r ⟨t,g,i,p,n⟩=>?_));refine aD (iq (a3 (k e r d g _ i n) λc q ⟨u,f,h,l,j⟩=>?_));refine aD (oq (aD (iq (a3 (m e q d f t u a b c s _ h p l o j) λ_ n ⟨g,i,k⟩=>?_))));exact wpAny_release ⟨d,g,i,k⟩
def pj(f:aY)(e:eH):dv:=λb a c=>f a c λg d=>e g a d b.a
def t7(i:aS X b d)(j:j0 X a c)(k:swapsWithSole [a] b pos.line X.a=cR ae:=by rfl)(l:swappedStores [a] b X.a=cR aa:=by rfl)
  (h:(pQ [a] X.a).map (·.2)=[ob a X.a]:=by rfl):e6 X (.Assign [a] b pos) (pj d c):=by
 intro a o b c d e g;refine wpAny_Assign_stores (a3 (i a o b c _ e g) λq p ⟨r,d,f,n,m⟩=>?_) k l;rw[h];exact a3 (j a p b d r q _ f n m) λ_ e c=>c
def HK(f:X.i.Nodup)(i:X.i[c]?=O a)(k:nz X.a.scope a)(g:aS X b e)(j:lO b (O (.Name a d)) pos.line X.a=cR ae:=by rfl)(h:X.r a=ab\/X.a.scope.names.lookup a=O .local:=by first|exact .inl rfl|exact .inr rfl|assumption):
  e6 X (.Assign [.Name a d] b pos) (pj e (mo c)):=by
 intro l o p a b c e;refine wpAny_Assign_Name (a3 (g l o p a _ c e) λr q ⟨s,b,d,n,m⟩=>?_) j;exact rf d f i k n (λc a=>⟨_,b,a,m⟩) h
end
section
variable{X:aK}{pos:bL}
def yq(i:dV)(n:dv):dv:=λg b e=>∃h:Nat->aQ->af->Prop,(∃f,h f b e)/\∀f b e,h f b e->
 i b e λm j=>if m=ab then∃e:aQ->af->Prop,(∀l i,e l i->∃k,k<f/\h k l i)/\n {g with a:=e,d:=e,c:=g.a} b j else g.a b j
def yb(f:PassesOwn (aT X.c X.d) X.b X.a X.f)(j:g4 X b d)(i:eG X a c):e6 X (.While b a [] pos) (yq d c):=by
 intro b c n e D g a;obtain⟨h,⟨k,m⟩,o⟩:=a;refine wpAny_While (codeAny_whileLoop (λa l=>∃d c,ax X b d c l/\h a d c) ?_ k ⟨n,e,g,m⟩);rintro a m ⟨e,d,g,p⟩;refine oo f (a3 (j b m e d _ g (o a e d p)) λh n ⟨k,l,c⟩=>?_);cases h with
 |true=>
  obtain⟨a,m,c⟩:=c;rw[ay I];refine oo f (a3 (i b n e k _ l c) λa g d=>?_);cases a with
  |next=>obtain⟨b,a,f,i⟩:=d;obtain⟨h,g,j⟩:=m b a i;exact⟨h,g,b,a,f,j⟩
  |cont=>obtain⟨b,a,f,i⟩:=d;obtain⟨h,g,j⟩:=m b a i;exact⟨h,g,b,a,f,j⟩
  |brk=>exact d
  |ret a=>exact d
 |false=>rw[aw ed];exact rY ⟨e,k,l,c⟩
end
structure gE where
 a:Nat->af->Prop
 c:Nat->af->ah->af->Prop
 b:Nat->af->Prop
def gr(X:aK)(pins:V (Y×aF))(b:af)(a:Y):Prop:=
 b a=aa/\a≠X.a.locals/\a∉X.n/\(a∈X.o\/X.j.heap.objs.size<=a)/\(∀x c,X.a.cells.lookup x=O c->c≠a)/\∀d∈X.q++pins,d.1≠a
def ax.F{X:aK}{pins:V (Y×aF)}{s:ao}(c:ax X pins zy u s)(i:s.heap.objs.size<=m)(H:p m=aa):gr X pins p m:=by refine⟨H,mO (eg c.S i),c.zt i,.inr (cu c.A i),λx p u m=>?_,λzy H m=>?_⟩;obtain⟨zA,zz⟩:=c.l x p u;exact a7 (eg zz.lt (by rw[m];exact i)) (fV _);exact a7 (eg (cB (c.f zy H).1) (by rw[m];exact i)) (fV _)
structure j1(P:bd)(w:aO)(K:aR)(tg:aZ)(J:gE)(fp:V Y)(it:Y)(tn:Nat->be->Prop):Prop where
 g:it∈fp
 a:∀i h,tn i h->∀b∈fp,∃o,h.get? b=O o/\∀v,o.data≠.cell v
 c:∀i h h',tn i h->(∀b∈fp,∀o,h.get? b=O o->h'.get? b=O o)->tn i h'
 e:∀(X:aK),X.c=P->X.d=w->X.e=K->X.k=ab->∀(i:Nat)(pins:V (Y×aF))(s:ao)(σ:aQ)(H:af)(E:ag->ao->Prop),ax X pins σ H s->(∀b∈fp,gr X pins H b)->tn i s.heap->J.a i H->
  aC (aT P w) X.b (ip (.ref it)) (λr s1=>∃u,r=O u/\
   aC (aT P w) X.b (u4 tg (.ref it) u) (λ_ s2=>∃x H',ax X pins σ H' s2/\br x u/\J.c i H x H'/\tn (i+1) s2.heap/\∀b∈fp,H' b=aa) E s1) E s
 d:∀(X:aK),X.c=P->X.d=w->X.e=K->X.k=ab->∀(i:Nat)(pins:V (Y×aF))(s:ao)(σ:aQ)(H:af)(E:ag->ao->Prop),ax X pins σ H s->(∀b∈fp,gr X pins H b)->tn i s.heap->J.b i H->
  aC (aT P w) X.b (ip (.ref it)) (λr s1=>r=aa/\ax X pins σ H s1) E s
 f:∀(A:bK)(i:Nat)(s:ao)(Q:ag->ao->Prop)(E:ag->ao->Prop),tn i s.heap->Q (.ref it) s->aC (aT P w) A (pV (.ref it)) Q E s
abbrev hC:=aQ->af->(gE->af->Prop)->Prop
def qT(a:aK)(f:V (Y×aF))(m:aQ)(l:aZ)(i:gE->af->Prop)(k:ag)(g:ao):Prop:=
 ∃e d h c b,k=.ref e/\ax a f m b g/\j1 a.c a.d a.e l c d e h/\h 0 g.heap/\(∀j∈d,gr a f b j)/\i c b
def jp(X:aK)(f e:aZ)(g:hC):Prop:=
 ∀pins d a b c,ax X pins a b d->g a b c->
  aC (aT X.c X.d) X.b (bB e X.a) (λv b=>aC (aT X.c X.d) X.b (pV v) (qT X pins a f c) X.f b) X.f d
def mp{f:jC}{d:bK}{e:ag->ao->Prop}{s:ao}{i:aZ}{h:Y}{j:ag}{c:aF}{n:String}{k:Array ag}{a:Unit->ao->Prop}(p:s.heap.get? h=O c)(l:c.cls=.type n)(m:c.data=.fields k)
  (o:["enumerate","zip","dict_itemiterator","dict_reverseitemiterator","odict_iterator","itertools.zip_longest","itertools.pairwise"].contains n=ae) (b:a () s):aC f d (u4 i (.ref h) j) a e s:=by
 unfold u4
 cases i<;>first
  |exact bF b
  |(cases j<;>first
    |exact bF b
    |(refine aD (wpAny_load p ?_)
      rw[l,m]
      show aC f d (if(["enumerate","zip","dict_itemiterator","dict_reverseitemiterator","odict_iterator","itertools.zip_longest","itertools.pairwise"].contains n&&k[0]?==O (fy _))=ab then _ else _) a e s
      rw[aw (by intro g;rw[o,jk]at g;cases g)]
      exact bF b))
def gt(c:aR)(d:Y):gE:=
 ⟨λb a=>∃xs x,dU c a d xs/\xs[b]?=O x,λb a x e=>e=a/\∀xs,dU c a d xs->xs[b]?=O x,λb a=>∃xs,dU c a d xs/\xs.length<=b⟩
def kz(e:Int)(n:Nat):gE:=⟨λb _=>b<n,λb c f d=>d=c/\f=.a (e+b),λb _=>n<=b⟩
def II(h l):j1 i k b j (gt b h) [l] l (λo n=>n.IsListIter l h o)where
 g:=by simp
 a:=λo n h j k=>by
  have b:j=l:=by simpa using k
  subst b;obtain⟨m,b,L,u⟩:=h;exact⟨m,b,λp i=>by rw[u]at i;cases i⟩
 c:=λo n p h i=>h.at λm b=>i l (by simp) m b
 e:=by intro K D F C M o N s R t S i q h E;subst D F C;obtain⟨zd,x,r,G⟩:=E;obtain⟨za,J,H,X⟩:=i.g r;obtain⟨Q,T,zb⟩:=J.b G;obtain⟨w,y,U,z,A,B⟩:=q l (by simp);refine AT h H.isList (x:=Q) (by simpa using T) λp P zc=>?_;have T:ax K N R t {s with heap:=p}:=i.o (t':=s.toks) (λj m k b=>(zc.2 j k).trans b) w y z A B;obtain⟨m,b,L,u⟩:=id P;exact⟨Q,I,mp (s:={s with heap:=p}) b L u (by decide) ⟨x,t,T,zb,⟨I,λzc Q=>by rw[i.zh Q r];exact G⟩,P,λj k=>(q j k).1⟩⟩
 d:=by intro K D F C M o N s R t S i q h E;subst D F C;obtain⟨zd,r,G⟩:=E;obtain⟨za,J,H,X⟩:=i.g r;obtain⟨w,y,U,z,A,B⟩:=q l (by simp);have l:=J.a;exact LG (i.b.a M) h H.isList (by simp;omega) λp l=>⟨I,i.o (t':=s.toks) (λj m k b=>l j m k b) w y z A B⟩
 f:=λ_ _ _ _ _ h n=>wpAny_pyIter_listiter h n
def IJ{w:aO}(i)(t)(n):j1 j w h k (kz t n) [i] i (λb o=>Ky o i (t+(b:Nat)*1) ((n:Int) -(b:Nat)) 1)where
 g:=by simp
 a:=λb o h j k=>by
  have m:j=i:=by simpa using k
  subst m;exact⟨_,h,λH l=>by have p:Data.fields _=Data.cell H:=l;cases p⟩
 c:=λb o q h l=>l i (by simp) _ h
 e:=by intro p D G C E b J s M u N l r h F;subst D G C;obtain⟨x,y,Q,z,A,B⟩:=r i (by simp);have P:=Walks.range (prog:=p.c) (w:=p.d) (l.b.a E) i t 1 n;refine P.item b s _ _ F h λH q L R K S=>?_;obtain⟨T,rfl⟩:=R;have P:ax p J M u {s with heap:=q,toks:=L}:=l.o (λj H k m=>S j H (by simpa using k) m) x y z A B;refine⟨_,I,mp (s:={s with heap:=q,toks:=L}) (n:="range_iterator") K I I (by decide) ⟨.a (t+b),u,P,⟨T,?_⟩,⟨I,I⟩,K,λj k=>(r j k).1⟩⟩;rw[Int.mul_one]
 d:=by intro p D G C E b J s M u N l r h F;subst D G C;obtain⟨x,y,Q,z,A,B⟩:=r i (by simp);exact wpAny_pyNext_range_end (l.b.a E) h (by have:n<=b:=F;omega) λq b=>⟨I,l.o (t':=s.toks) (λj H k m=>b j H k m) x y z A B⟩
 f:=λ_ _ _ _ _ h o=>wpAny_pyIter_rangeiter h o
section
variable{X:aK}{n:aZ}
def GZ(d:aR)(f:aY):hC:=λh a e=>f h a λg c=>∃a,g=.b a/\(∃f,dU d c a f)/\e (gt d a) c
def bZ{l:aZ}(h:aS X l b):jp X n l (GZ X.e b):=by
 intro i s m b c f g;refine a3 (h i s m b _ f g) λv d ⟨x,e,c,k,j⟩=>?_;obtain⟨a,b,⟨xs,f⟩,h⟩:=j;subst b;cases k;obtain⟨j,k,g,i⟩:=c.g f;refine p0 g.isList ⟨d.heap.objs.size,[d.heap.objs.size],_,_,e,I,c.w (t':=d.toks) λe o b=>dw _ b,II a _,⟨_,eo _ I,I,I⟩,λe f=>?_,h⟩;have b:e=d.heap.objs.size:=by simpa using f
 subst b;exact c.F (bp _) (c.a.b (bp _))
def H5{c:ao}(m:ax X d j h c)(o:-(2^62)<=a)(p:a<2^62)(q:-(2^62)<=b)(r:b<2^62)
  (s:i (kz a (b -a).toNat) h):aC (aT X.c X.d) X.b (pV (.ref c.heap.objs.size)) (qT X d j n i) l {c with heap:=c.heap.push {cls:=.type "range",data:=.fields #[.int a e,.int b f,.int 1 g]},toks:=k}:=by
 refine wpAny_pyIter_range (IsRange.new ..) (small_one o p q r) ?_;have i:ax X d j h {c with heap:=c.heap.push {cls:=.type "range",data:=.fields #[.int a e,.int b f,.int 1 g]},toks:=k}:=m.w λj l d=>dw _ d;refine⟨(c.heap.push {cls:=.type "range",data:=.fields #[.int a e,.int b f,.int 1 g]}).objs.size,[(c.heap.push {cls:=.type "range",data:=.fields #[.int a e,.int b f,.int 1 g]}).objs.size],_,_,h,I,i.w (t':=k) λj l d=>dw _ d,IJ _ a (b -a).toNat,?_,λj l=>?_,s⟩;have h:a+((0:Nat):Int)*1=a:=by simp
 have k:(((b -a).toNat:Nat):Int) -((0:Nat):Int)=TZ a b 1:=by rw[rangeSize_one];split<;>omega
 show Ky _ _ (a+((0:Nat):Int)*1) ((((b -a).toNat:Nat):Int) -((0:Nat):Int)) 1;rw[h,k];exact eo _ I;have d:j=(c.heap.push {cls:=.type "range",data:=.fields #[.int a e,.int b f,.int 1 g]}).objs.size:=by simpa using l
 subst d;exact i.F (bp _) (i.a.b (bp _))
def G1(e:el):hC:=λg b d=>e g b λf c=>∃b:Int,f=[.a b]/\-(2^62)<=b/\b<2^62/\d (kz 0 b.toNat) c
def q9(h:fh X "range")(i:X.g "range"=aa)(g:fR X [a] b)(j:bX [a] X.a=[(ae,bB a X.a)]:=by rfl):jp X n (.Call (.Name "range" d) [a] [] c) (G1 b):=by
 intro k m o d a b f;refine Call_ (nD b h i boot_range (Aa (a3 (g c k m o d _ b f) λr q ⟨s,p,e,l,a⟩=>?_) j I));obtain⟨f,b,a,d,c⟩:=a;subst b;cases l with|cons b f=>cases f;obtain⟨f,rfl⟩:=b;exact call_range_1 (H5 e (by omega) (by omega) a d (by simpa using c))
def Is(g:hC)(q:eH)(r:dv):dv:=λi e b=>g e b λj f=>∃l:Nat->Nat->aQ->af->Prop,(∃h,l 0 h e f)/\∀g h e b,l g h e b->
 (j.b g b/\i.a e b)\/(j.a g b/\∃k:aQ->af->Prop,(∀o f,k o f->∃m,m<h/\l (g+1) m o f)/\∀n f,j.c g b n f->q n e f λs p=>r {i with a:=k,d:=k,c:=i.a} s p)
def pc(b:V Y)(c:be):V (Y×aF):=b.filterMap λa=>(c.get? a).map λb=>(a,b)
def tZ{c:be}(f:a∈b)(e:c.get? a=O d):(a,d)∈pc b c:=uo.mpr ⟨a,f,by rw[e];rfl⟩
def Hp{f:V Y}{c:be}{a:Y×aF}(i:a∈pc f c):a.1∈f/\c.get? a.1=O a.2:=by
 obtain⟨e,h,b⟩:=uo.mp i;cases d:c.get? e with
 |none=>rw[d]at b;cases b
 |some j=>rw[d]at b;have g:(e,j)=a:=bA b;subst g;exact⟨h,d⟩
def ax.zl{pins:V (Y×aF)}{c:ao}(u:ax X pins x i c)(zz:∀m∈p,gr X pins i m)(zA:∀m∈p,∃s,c.heap.get? m=O s/\∀H,s.data≠.cell H):ax X (pins++pc p c.heap) x i c:=
 u.B λc m=>(cU.mp m).elim (λi=>u.f c (gb _ i)) λi=>by obtain⟨p,m⟩:=Hp i;obtain⟨x,H,zy,_⟩:=zz c.1 p;obtain⟨s,i,u⟩:=zA c.1 p;rw[m]at i;cases i;exact⟨m,x,H,zy,u⟩
def ax.zc{pins s:V (Y×aF)}(i:ax X (pins++s) p c m):ax X pins p c m:=i.B λm c=>i.f m (gb _ (g9 _ c))
def dY(b:PassesOwn (aT X.c X.d) X.b X.a X.f)(z:X.k=ab)(k:jp X n c j)(H:j0 X n g)(d:eG X e h)
  (l:∀x,u2 c X.a x=cR x:=by intro _;rfl):e6 X (.For n c e [] m) (Is j g h):=by
 intro h s q c j e g;refine wpAny_For (a3 (k h s q c _ e g) λv m j=>a3 j λe g c=>?_) l;obtain⟨m,l,C,g,t,k,y,j,B,e,w,⟨A,E⟩,D⟩:=c;subst k;have u:∀{c:af},(∀a∈l,c a=aa)->∀a∈l,gr X h c a:=λg a d=>⟨g a d,(e a d).2⟩;refine codeAny_forLoop_any (λp g=>∃i m c,ax X h m c g/\C i g.heap/\(∀a∈l,c a=aa)/\w i p m c) ?_ A ⟨0,q,t,y,B,λa d=>(e a d).1,E⟩;rintro p A ⟨i,e,g,t,B,y,q⟩;rcases D i p e g q with⟨M,J⟩|⟨F,E,G,L⟩;refine oo b (a3 (j.d X I I I z i h A e g X.f t (u y) B M) λr K ⟨q,D⟩=>?_);subst q;exact rY ⟨e,g,D,J⟩;refine oo b (a3 (j.e X I I I z i h A e g X.f t (u y) B F) λr K ⟨J,q,D⟩=>?_);subst q;refine oo b (a3 D λ_ z ⟨x,g,q,F,K,t,A⟩=>?_);have y:=q.zl (u A) (j.a _ _ t);refine oo b (a3 (H _ z e g x J _ y F (L x g K)) λ_ D ⟨M,u,A,B⟩=>?_);refine oo b (a3 (d _ D M u _ A B) λf q g=>?_);have u:∀{e:aQ}{b:af},ax X (h++pc l z.heap) e b q->E e b->∃y,y<p/\∃i m c,ax X h m c q/\C i q.heap/\(∀a∈l,c a=aa)/\w i y m c:=λ{e b} c h=>by obtain⟨m,l,p⟩:=G e b h;refine⟨m,l,i+1,e,b,c.zc,j.c _ _ _ t λa d o k=>(c.f (a,o) (gb _ (gb _ (tZ d k)))).1,λa d=>?_,p⟩;obtain⟨o,k,l⟩:=j.a _ _ t a d;exact(c.f (a,o) (gb _ (gb _ (tZ d k)))).2.1
 cases f with
 |next=>obtain⟨e,b,c,h⟩:=g;exact u c h
 |cont=>obtain⟨e,b,c,h⟩:=g;exact u c h
 |brk=>obtain⟨e,b,c,g⟩:=g;exact⟨e,b,c.zc,g⟩
 |ret v=>obtain⟨d,e,b,c,a,g⟩:=g;exact⟨d,e,b,c.zc,a,g⟩
end
def ev{l:aR}{a:Y}{xs:V ah}{r:eH}{t:dv}{k:hA}{f:aQ}{e:af}(g:Nat->aQ->af->Prop)(u:g 0 f e)(z:∀i f e,i<=xs.length->g i f e->dU l e a xs)
  (A:∀i x f e,xs[i]?=O x->g i f e->r x f e λq m=>t {k with a:=g (i+1),d:=g (i+1),c:=k.a} q m) (w:∀f e,g xs.length f e->k.a f e):
  ∃o:Nat->Nat->aQ->af->Prop,(∃j,o 0 j f e)/\∀i j f e,o i j f e->
   ((gt l a).b i e/\k.a f e)\/((gt l a).a i e/\∃n:aQ->af->Prop,(∀p h,n p h->∃s,s<j/\o (i+1) s p h)/\∀x h,(gt l a).c i e x h->r x f h λq m=>t {k with a:=n,d:=n,c:=k.a} q m):=by
 refine⟨λi j f e=>j=xs.length -i/\i<=xs.length/\g i f e,⟨xs.length,by simp,co _,u⟩,?_⟩;rintro i j f e ⟨rfl,l,k⟩;have j:=z i f e l k;by_cases l:i<xs.length;refine .inr ⟨⟨xs,xs[i],j,by simp[l]⟩,g (i+1),λp h m=>⟨xs.length -(i+1),by omega,I,l,m⟩,λx h y=>?_⟩;obtain⟨g,y⟩:=y;subst g;exact A i x f _ (y xs j) k;have g:i=xs.length:=by omega
 subst g;exact .inl ⟨⟨xs,j,bp _⟩,w f e k⟩
def IP{D:hA}(j:aQ->af->Prop)(k:aQ->af->Nat)(r:j b e)
  (s:∀b e,j b e->l b e λh g=>if h=ab then q {D with a:=λi f=>j i f/\k i f<k b e,d:=λi f=>j i f/\k i f<k b e,c:=D.a} b g else D.a b g)
  (u:∀b e m n,(∀h g,m h g->n h g)->l b e m->l b e n):yq l q D b e:=by
 refine⟨λo b e=>o=k b e/\j b e,⟨_,I,r⟩,?_⟩;rintro o b e ⟨rfl,w⟩;refine u b e _ _ (λh g p=>?_) (s b e w);cases h with|true=>exact⟨_,λi f ⟨x,t⟩=>⟨_,t,I,x⟩,p⟩|false=>exact p
abbrev fq:=ah->ah->af->bj->Prop
def d4(a:aK)(k:ag->ag->fw ag)(l:fq):Prop:=
 ∀d e j b h i g f c,ax a d j b e->br h g->br i f->l h i b c->
  aC (aT a.c a.d) a.b (k g f) (e5 a d j c) a.f e
def tK(a:aK)(i:ag->fw ag)(j:ah->af->bj->Prop):Prop:=
 ∀d e h b g f c,ax a d h b e->br g f->j g b c->
  aC (aT a.c a.d) a.b (i f) (e5 a d h c) a.f e
def g3(a:aK)(f:ag)(j:V ah->af->bj->Prop):Prop:=
 ∀d e i b h g c,ax a d i b e->bR h g->j h b c->
  aC (aT a.c a.d) a.b (e' f g) (e5 a d i c) a.f e
def po(e:fq)(f g:aY):aY:=λa b d=>f a b λh c=>g a c λf b=>e h f b d
def yp(d:ah->af->bj->Prop)(e:aY):aY:=λg a c=>e g a λf b=>d f b c
def rc(d:Int->Int->Prop)(g:Int->Int->ah):fq:=λh i e f=>∃b c,h=.a b/\i=.a c/\d b c/\f (g b c) e
def lv(f:Int->Int->ah):fq:=λg h d e=>∃b c,g=.a b/\h=.a c/\e (f b c) d
def t8(e:Int->ah):ah->af->bj->Prop:=λf c d=>∃b,f=.a b/\d (e b) c
section
variable{X:aK}{a b c:aZ}{n tb m:aY}{pos:bL}
def tL(w:aS X a n)(x:aS X b tb){r:ah->ah->af->Prop}(t:ax X j i l p)
  (u:n i l λg o=>tb i o λh d=>r g h d) {q:ag->ao->Prop} {s:ag->ag->fw ag}
  (y:∀f e k g h d,ax X j i d k->br g f->br h e->r g h d->aC (aT X.c X.d) X.b (s f e) q X.f k):
  aC (aT X.c X.d) X.b (bB a X.a) (λf r=>aC (aT X.c X.d) X.b (bB b X.a) (λe z=>aC (aT X.c X.d) X.b (s f e) q X.f z) X.f r) X.f p:=by
 exact a3 (w j p i l _ t u) λf z ⟨g,o,q,s,r⟩=>a3 (x j z i o _ q r) λe k ⟨h,d,l,t,p⟩=>y f e k g h d l s t p
def ey{r:fq}(k:d4 X (oe d) r)(i:aS X a n)(j:aS X b tb):aS X (.BinOp a d b pos) (po r n tb):=by intro l s y d g e h;exact wpAny_BinOp (tL i j e h λv u t w x d f p q o=>k l t y d w x v u g f p q o)
def q8(o:tK X (unaryOp d) e)(l:aS X a n):aS X (.UnaryOp d a pos) (yp e n):=by intro d r e f j h k;exact UnaryOp_ (a3 (l d r e f _ h k) λt s ⟨u,g,i,q,p⟩=>o d s e g u t j i q p)
def t3{i:ag->ag->fw ag}{h:Int->Int->Prop}{f:Int->Int->Int}
  (l:∀b c g j(d:ao) e k,h b c->e (.int (f b c) d.toks) {d with toks:=d.toks+1}->aC (aT X.c X.d) X.b (i (.int b g) (.int c j)) e k d):
  d4 X i (rc h λb c=>.a (f b c)):=by
 intro o d s h q r p j e i m n k;obtain⟨b,c,rfl,rfl,e,j⟩:=k;obtain⟨g,rfl⟩:=m;obtain⟨k,rfl⟩:=n;exact l b c g k d _ _ e ⟨.a (f b c),h,i.e _,⟨_,I⟩,j⟩
def xZ{h:ag->ag->fw ag}{f:Int->Int->Int}
  (l:∀b c g i(d:ao) e j,e (.int (f b c) d.toks) {d with toks:=d.toks+1}->aC (aT X.c X.d) X.b (h (.int b g) (.int c i)) e j d):
  d4 X h (lv λb c=>.a (f b c)):=by
 intro o d s h q r p i e j m n k;obtain⟨b,c,rfl,rfl,e⟩:=k;obtain⟨g,rfl⟩:=m;obtain⟨i,rfl⟩:=n;exact l b c g i d _ _ ⟨.a (f b c),h,j.e _,⟨_,I⟩,e⟩
def q4{h:ag->ag->fw ag}{f:Int->Int->Bool}
  (l:∀a b g i c e j,e (.bool (f a b)) c->aC (aT X.c X.d) X.b (h (.int a g) (.int b i)) e j c):
  d4 X h (lv λa b=>.d (f a b)):=by
 intro o c s h q r p i e j m n k;obtain⟨a,b,rfl,rfl,e⟩:=k;obtain⟨g,rfl⟩:=m;obtain⟨i,rfl⟩:=n;exact l a b g i c _ _ ⟨.d (f a b),h,j,I,e⟩
def Gn(b a:Int):Prop:=0<a/\a<1073741824
def xe(a b:Int):Prop:=(-(2^64)<a/\a<2^64)\/(-(2^64)<b/\b<2^64)
def xe.d(g:xe e f):IntMulOk e f:=by rcases g with⟨e,f⟩|⟨e,f⟩;exact .of_left (La e f);exact .of_right (La e f)
def mx:d4 X (oe .Add) (lv λi j=>.a (i+j)):=xZ λ_ _ _ _ _ _ _ b=>add_int b
def q7:d4 X (oe .Sub) (lv λb j=>.a (b -j)):=xZ λ_ _ _ _ _ _ _ b=>sub_int b
def Hs:d4 X (oe .Mult) (rc xe λb c=>.a (b*c)):=t3 λ_ _ _ _ _ _ _ b c=>mul_int c b.d
def Hq:d4 X (oe .FloorDiv) (rc Gn λc b=>.a (c/b)):=t3 λc b _ _ _ _ _ d e=>by have f:(0:Int)<b:=d.1;have f:b<1073741824:=d.2;exact floordiv_int (by omega) (by rw[Int.fdiv_eq_ediv_of_nonneg c (by omega)];exact e) (.inl (PyProof.noPylong_small (by omega)))
def x1:d4 X (oe .Mod) (rc (λ_ b=>0<b) λi b=>.a (i%b)):=t3 λi b _ _ _ _ _ c d=>by have e:(0:Int)<b:=c;exact mod_int' (by omega) (by rw[Int.fmod_eq_emod_of_nonneg i (by omega)];exact d)
def IN{g:ag->fw ag}{e:Int->Int}
  (j:∀b f(c:ao) d h,d (.int (e b) c.toks) {c with toks:=c.toks+1}->aC (aT X.c X.d) X.b (g (.int b f)) d h c):
  tK X g (t8 λb=>.a (e b)):=by
 intro l c o g n m d h k i;obtain⟨b,rfl,d⟩:=i;obtain⟨f,rfl⟩:=k;exact j b f c _ _ ⟨.a (e b),g,h.e _,⟨_,I⟩,d⟩
def rm:tK X (unaryOp .USub) (t8 λi=>.a (-i)):=IN λ_ _ _ _ _ b=>neg_int b
end
def t_:ah->ah->Bool
 |.c,.c=>ab|.c,.a _=>ab|.a _,.c=>ab|.c,.d _=>ab|.d _,.c=>ab|.c,.e _=>ab|.e _,.c=>ab
 |.a _,.a _=>ab|.d _,.d _=>ab|.e _,.e _=>ab|.f _,.f _=>ab
 |.a _,.e _=>ab|.e _,.a _=>ab|.d _,.e _=>ab|.e _,.d _=>ab
 |_,_=>ae
def yc:fq:=λa b c e=>t_ a b=ab/\e (.d (aq (a=b))) c
def HW:fq:=λa b c e=>t_ a b=ab/\e (.d (!aq (a=b))) c
def o9{i j:Int}:aq (ah.a i=ah.a j)=(i==j):=by rw[hw];simp
def xD:aq (ah.d a=ah.d b)=(a==b):=by rw[hw];simp
def xF:aq (ah.e a=ah.e b)=(a==b):=by rw[hw];simp
def xE{a b:Array UInt8}:aq (ah.f a=ah.f b)=(a.toList==b.toList):=by rw[hw];cases a;cases b;simp
section
variable{X:aK}{a b c:aZ}{n tb m:aY}{pos:bL}
def ee(l:ax X i k e j)(p:g (.d f) e)(o:f=h):e5 X i k g (.bool h) j:=by subst o;exact⟨.d f,e,l,I,p⟩
def gh:d4 X (eL .Eq) yc:=by
 intro o s q g x m v p l b n h k;obtain⟨l,g⟩:=k;cases x with
 |c=>
  cases n;cases m with
  |c=>cases h;exact Uf (ee b g (by simp))
  |d j=>cases h;exact Ud (ee b g (by simp))
  |a j=>obtain⟨k,rfl⟩:=h;exact Ue (ee b g (by simp))
  |e j=>obtain⟨k,rfl⟩:=h;exact Ug (ee b g (by simp))
  |_=>exact a7 (show ae=ab from l) ed
 |d i=>
  cases n;cases m with
  |c=>cases h;exact Ub (ee b g (by simp))
  |d j=>cases h;exact eq_bool (ee b g xD)
  |e j=>obtain⟨k,rfl⟩:=h;exact T5 (ee b g (by simp))
  |_=>exact a7 (show ae=ab from l) ed
 |a i=>
  obtain⟨t,rfl⟩:=n;cases m with
  |c=>cases h;exact Uc (ee b g (by simp))
  |a j=>obtain⟨k,rfl⟩:=h;exact eq_int (ee b g o9)
  |e j=>obtain⟨k,rfl⟩:=h;exact T6 (ee b g (by simp))
  |_=>exact a7 (show ae=ab from l) ed
 |e i=>
  obtain⟨t,rfl⟩:=n;cases m with
  |c=>cases h;exact Uh (ee b g (by simp))
  |d j=>cases h;exact T7 (ee b g (by simp))
  |a j=>obtain⟨k,rfl⟩:=h;exact T8 (ee b g (by simp))
  |e j=>obtain⟨k,rfl⟩:=h;exact eq_str (ee b g xF)
  |_=>exact a7 (show ae=ab from l) ed
 |f i=>
  obtain⟨t,rfl⟩:=n;cases m with
  |f j=>obtain⟨k,rfl⟩:=h;exact PySem.W.eq_bytes (ee b g xE)
  |_=>exact a7 (show ae=ab from l) ed
 |_=>cases m<;>exact a7 (show ae=ab from l) ed
def j6:d4 X (eL .NotEq) HW:=by
 intro p q s g o m v r l b n h k;obtain⟨l,g⟩:=k;cases o with
 |c=>
  cases n;cases m with
  |c=>cases h;exact Um (ee b g (by simp))
  |d j=>cases h;exact Uk (ee b g (by simp))
  |a j=>obtain⟨k,rfl⟩:=h;exact Ul (ee b g (by simp))
  |e j=>obtain⟨k,rfl⟩:=h;exact Un (ee b g (by simp))
  |_=>exact a7 (show ae=ab from l) ed
 |d i=>
  cases n;cases m with
  |c=>cases h;exact Ui (ee b g (by simp))
  |d j=>cases h;exact ne_bool (ee b g (cb not xD))
  |e j=>obtain⟨k,rfl⟩:=h;exact T9 (ee b g (by simp))
  |_=>exact a7 (show ae=ab from l) ed
 |a i=>
  obtain⟨o,rfl⟩:=n;cases m with
  |c=>cases h;exact Uj (ee b g (by simp))
  |a j=>obtain⟨k,rfl⟩:=h;exact ne_int (ee b g (cb not o9))
  |e j=>obtain⟨k,rfl⟩:=h;exact T_ (ee b g (by simp))
  |_=>exact a7 (show ae=ab from l) ed
 |e i=>
  obtain⟨o,rfl⟩:=n;cases m with
  |c=>cases h;exact Uo (ee b g (by simp))
  |d j=>cases h;exact T' (ee b g (by simp))
  |a j=>obtain⟨k,rfl⟩:=h;exact Ua (ee b g (by simp))
  |e j=>obtain⟨k,rfl⟩:=h;exact ne_str (ee b g (cb not xF))
  |_=>exact a7 (show ae=ab from l) ed
 |f i=>
  obtain⟨o,rfl⟩:=n;cases m with
  |f j=>obtain⟨k,rfl⟩:=h;exact PySem.W.ne_bytes (ee b g (cb not xE))
  |_=>exact a7 (show ae=ab from l) ed
 |_=>cases m<;>exact a7 (show ae=ab from l) ed
def gH:d4 X (eL .Lt) (lv λi j=>.d (aq (i<j))):=q4 λ_ _ _ _ _ _ _ a=>J6 a
def h8:d4 X (eL .LtE) (lv λa j=>.d (aq (a<=j))):=q4 λ_ _ _ _ _ _ _ a=>le_int a
def kD:d4 X (eL .Gt) (lv λi j=>.d (aq (j<i))):=q4 λ_ _ _ _ _ _ _ a=>gt_int a
def q5:d4 X (eL .GtE) (lv λi a=>.d (aq (a<=i))):=q4 λ_ _ _ _ _ _ _ a=>ge_int a
def bS(b)(e:d≠.In:=by decide)(h:d≠.NotIn:=by decide):oc d b=ae:=by
 have f:(d==Kd)=ae:=by cases d<;>first|rfl|exact a7 I e
 have g:(d==Ke)=ae:=by cases d<;>first|rfl|exact a7 I h
 cases b with
 |Set h e i=>show((e==0&&(d==.In||d==.NotIn))&&h.all (Vl 8))=ae;rw[f,g];cases(e==0)<;>rfl
 |_=>rfl
def mB(l:d4 X (eL d) e)(i:aS X a n)(j:aS X b tb)(k:oc d b=ae):aS X (.Compare a [d] [b] pos) (po e n tb):=by intro o f y d g e h;exact wpAny_Compare1 (tL i j e h λu t s w x d f q r p=>l o s y d w x u t g f q r p) k
def uc(d:aY):dV:=λf a c=>d f a λe b=>lq e λa=>c a b
def bV(q:d4 X (eL d) e)(l:aS X a n)(o:aS X b tb)(p:oc d b=ae):g4 X (.Compare a [d] [b] pos) (uc (po e n tb)):=by intro d t f e g h j;refine Lu (a3 (l d t f e _ h j) λy u ⟨z,g,i,s,r⟩=>a3 (o d u f g _ i r) λx w ⟨A,h,j,t,l⟩=>a3 (q d w f h z A y x _ j s t l) λc r ⟨u,g,i,o,e⟩=>?_) p;obtain⟨k,rfl,e⟩:=j2 e;cases o;exact kW ⟨g,i,e⟩
def yl(h i:fq)(n tb m:aY):aY:=λa b c=>n a b λj f=>tb a f λe g=>h j e g λf b=>lq f λg=>
 (if g=ab then m a b λh f=>i e h f c else c (.d ae) b)
def x3(w:d4 X (eL e) g)(x:d4 X (eL f) h)(k:aS X a n)(s:aS X b tb)(t:aS X c m)
  (u:lastMarks [e,f] [b,c]=ae:=by with_unfolding_all rfl):aS X (.Compare a [e,f] [b,c] pos) (yl g h n tb m):=by
 intro e l f g r i j;refine Compare_chain (a3 (k e l f g _ i j) λD B ⟨E,h,p,A,y⟩=>chain_link (a3 (s e B f h _ p y) λk C ⟨l,o,q,j,z⟩=>a3 (w e C f o E l D k _ q A j z) λs y ⟨B,h,i,p,g⟩=>?_)) u;obtain⟨o,rfl,g⟩:=j2 g;cases p;refine kW ?_;cases o with|false=>exact ite_ff ⟨.d ae,h,i,I,g⟩|true=>exact ite_tt (chain_last (a3 (t e y f h _ i g) λw u ⟨z,o,p,s,q⟩=>x e u f o l z k w r p j s q))
def pe(t:d4 X (eL d) f)(u:d4 X (eL e) g)(j:aS X a n)(q:aS X b tb)(r:aS X c m)
  (s:lastMarks [d,e] [b,c]=ae:=by with_unfolding_all rfl):g4 X (.Compare a [d,e] [b,c] pos) (uc (yl f g n tb m)):=by
 intro d k e f g h i;refine isTrue_chain (a3 (j d k e f _ h i) λB z ⟨C,g,o,y,w⟩=>test_link (a3 (q d z e g _ o w) λj A ⟨k,l,p,i,x⟩=>a3 (t d A e l C k B j _ p y i x) λq w ⟨z,g,h,o,f⟩=>?_)) s;obtain⟨l,rfl,f⟩:=j2 f;cases o;refine kW ?_;cases l with
 |false=>obtain⟨p,l,o⟩:=j2 f;cases l;exact ite_ff ⟨g,h,o⟩
 |true=>refine ite_tt (test_last (a3 (r d w e g _ h f) λt s ⟨x,l,o,q,p⟩=>a3 (u d s e l k x j t _ o i q p) λw y ⟨z,g,h,r,f⟩=>?_));obtain⟨d,rfl,f⟩:=j2 f;cases r;exact kW ⟨g,h,f⟩
def q2:(aH:Nat)<2^63:=by rw[bn];decide
def nM(g:bR [f] e):∃d,e=[d]/\br f d:=by
 cases g with|cons d e=>cases e;exact⟨_,I,d⟩
def yw(i:bR [g,h] e):∃d f,e=[d,f]/\br g d/\br h f:=by
 cases i with
 |cons d e=>
  cases e with|cons e f=>cases f;exact⟨_,_,I,d,e⟩
def xv(h:X.k=ab):g3 X (.builtin "max") (λf c e=>∃i b,f=[.a i,.a b]/\e (.a (if b>i then b else i)) c):=by intro k l n c f m e d j g;obtain⟨i,b,rfl,f⟩:=g;obtain⟨k,l,rfl,⟨e,rfl⟩,⟨g,rfl⟩⟩:=yw j;refine max_two_ints (d.b.a h) λg j e=>⟨_,c,d.w e,?_,f⟩;by_cases c:b>i;rw[ay c,ay c];exact⟨_,I⟩;rw[aw c,aw c];exact⟨_,I⟩
def xw(h:X.k=ab):g3 X (.builtin "min") (λxs d f=>∃b c,xs=[.a b,.a c]/\f (.a (if c<b then c else b)) d):=by intro j l n d xs m f e i g;obtain⟨b,c,rfl,f⟩:=g;obtain⟨l,m,rfl,⟨g,rfl⟩,⟨j,rfl⟩⟩:=yw i;refine min_two_ints (e.b.a h) λg i k=>⟨_,d,e.w k,?_,f⟩;by_cases d:c<b;rw[ay d,ay d];exact⟨_,I⟩;rw[aw d,aw d];exact⟨_,I⟩
def qV:g3 X (.builtin "ord") (λxs c d=>∃b,xs=[.e b]/\b.length=1/\d (.a (b.cps.getD 0 0:Nat)) c):=by intro h j l c xs k d f i g;obtain⟨b,rfl,d,h⟩:=g;obtain⟨g,rfl,b,rfl⟩:=nM i;exact ord_of_one d ⟨.a _,c,f.e _,⟨_,I⟩,h⟩
end
structure nA(h:be)(x dx C:Y)(mA:ac->ar ag):Prop where
 c:h.get? x=O (mW C dx)
 b:h.Ns1 dx mA
 a:dx≠x
def xW{f:be}(s:f.Ns1 d g):∃h,f.get? d=O h/\∀b,pP b h=O (g b):=by
 obtain⟨o,e,t,q,l,m,_,p⟩:=s;refine⟨o,q,λb=>?_⟩;have a:=p b;unfold nsFind findBy at a;rw[<-Array.find?_toList]at a;unfold pP;rw[l];dsimp only;split;rename_i i c;rw[c]at a;exact cb O a;rename_i c;rw[c]at a;have j:e.toList.any (·.refKey)=ae:=by rw[pt];intro i r;obtain⟨w,u,n⟩:=m i (Array.mem_toList_iff.mp r);simp[T4,n]
 have k:¬e.toList.any (·.refKey)=ab:=by rw[j];exact ed
 rw[aw k];exact cb O a
def nA.d(g:nA i l h f j):∃e,rF i l (mW f h) f (O e)/\∀k,pP k e=O (j k):=
 let⟨e,h,f⟩:=xW g.b
 ⟨e,⟨g.c,I,I,h⟩,f⟩
section
variable{prog:bd}{w:aO}{A:bK}{E:ag->ao->Prop}{s:ao}{K:aR}{x dx C f:Y}{n:ac->ar ag}{name:ac}{v:ag}
def GV(c:K.In s.heap)(b:nA s.heap x dx C n)(h:rN K C name=ab)(i:rL K C=ab)
  (g:eb K (.ref C) name=O aa) (j:n name=O v) (k:As v=ab) (e:a v {s with toks:=s.toks+1}):
  aC (aT prog w) A (rT (.ref x) name d) a E s:=by
 obtain⟨l,a,d⟩:=b.d;exact PySem.W.get_value c a (Az h).1 (K1 i g I (by rw[d,j])) k e
def GW(d:K.In s.heap)(c:nA s.heap x dx C n)(b:rN K C name=ab)
  (g:eb K (.ref C) name=O (O (.ref f))) (i:lL K (.ref f)=ab) (j:n name=aa) (e:a (.ref f,[.ref x]) s):
  aC (aT prog w) A (oh (.ref x) name h) a E s:=by
 obtain⟨k,a,h⟩:=c.d;exact PySem.W.method_fn d a (Az b).1 (Az b).2 g (beq_iff_eq.mp i) (by show(pP name k).map (·.isSome)=O ae;rw[h,j];rfl) e
def Ia{c:V ac}(d:K.In s.heap)(b:nA s.heap x dx C n)
  (k:eb K (.ref C) "__setattr__"=O (O (.builtin "object.__setattr__"))) (j:AA K C=ab) (l:rO K C name=O aa) (i:rL K C=ab)
  (m:AD n c) (g:c.length<=aH)
  (h:∀c,nA c x dx C (λg=>if g=name then O v else n g)->rB dx s.heap c->e () {s with heap:=c,toks:=s.toks+2}):
  aC (aT prog w) A (AM (.ref x) name v) e E s:=by
 obtain⟨o,e,g⟩:=b.d;refine K6 d e k (PySem.W.osa_open (s:={s with toks:=s.toks+1}) (r:=aa) d e j l λg=>?_);obtain⟨j,e,g⟩:=PySem.W.any_some i;have i:s.heap.get? x=O ⟨.ref C,O dx,.plain,#[]⟩:=b.c;refine aD (bF (aD (aD (Lv i (aD (pN (s:={s with toks:=s.toks+1}) (Au d e) ?_))))));rw[g];refine bF (a:=O dx) (aD (bF (aD ?_)));refine LB (s:={s with toks:=s.toks+1}) b.b λc d e=>?_;obtain⟨l,k,j,i,g,c⟩:=d.count (K8 name v m);refine aD (Lw i (by rw[g];exact Lf (cu c (by rw[cz];omega))) ?_);exact bF (h _ ⟨(e.2 _ (df b.a)).trans b.c,d,b.a⟩ e)
def He(a:K.In s.heap)(i:uV K C=ab)
  (h:eb K (.ref C) "__init__"=O (O (.ref f))) (g:AC K (.ref f)=O (.type "function"))
  (e:iX (aT prog w) (A.under (.builtin "type.__call__" ⟨.ref C::c,b⟩)) (.call (.ref f) ⟨.ref (s.heap.objs.size+1)::c,b⟩) (PySem.W.InitBack (s.heap.objs.size+1) d) {s with heap:=(s.heap.push lK).push (mW C s.heap.objs.size)}):
  iX (aT prog w) A (.call (.ref C) ⟨c,b⟩) d s:=by
 obtain⟨d,c,b,k,j⟩:=s;exact PySem.W.make_core (PySem.W.makes_of a i) (rM a h) (λb=>KY a b g) (.inl I) e
end
def ef(f:ac)(b:ah):V (ac×ah)->V (ac×ah)
 |[]=>[(f,b)]
 |(a,x)::r=>if a=f then(a,b)::r else(a,x)::ef f b r
theorem xX(b a)(g):∀c:V (ac×ah),(ef b g c).lookup a=if a=b then O g else c.lookup a
 |[]=>by show ih a [(b,g)]=_;by_cases c:a=b;have d:(a==b)=ab:=beq_iff_eq.mpr c;simp only[ih,d,ay c];have d:(a==b)=ae:=beq_eq_false_iff_ne.mpr c;simp only[ih,d,aw c]
 |(f,x)::h=>by have i:=xX b a g h;rw[show ef b g ((f,x)::h)=(if f=b then(f,g)::h else(f,x)::ef b g h)from I];by_cases g:f=b;rw[ay g];by_cases c:a=f;have d:(a==f)=ab:=beq_iff_eq.mpr c;simp only[ih,d,ay (c.trans g)];have d:(a==f)=ae:=beq_eq_false_iff_ne.mpr c;simp only[ih,d,aw (λe:a=b=>c (e.trans g.symm))];rw[aw g];by_cases c:a=f;have d:(a==f)=ab:=beq_iff_eq.mpr c;simp only[ih,d,aw (λe:a=b=>g (c.symm.trans e))];have d:(a==f)=ae:=beq_eq_false_iff_ne.mpr c;simp only[ih,d];exact i
theorem tW(a)(d):∀c:V (ac×ah),a∈(ef a d c).map (·.1)/\∀b,b∈c.map (·.1)->b∈(ef a d c).map (·.1)
 |[]=>⟨by simp[ef],λb c=>by simp at c⟩
 |(f,x)::g=>by obtain⟨h,i⟩:=tW a d g;rw[show ef a d ((f,x)::g)=(if f=a then(f,d)::g else(f,x)::ef a d g)from I];by_cases d:f=a;rw[ay d];subst d;exact⟨by simp,λb c=>by simpa using c⟩;rw[aw d];refine⟨?_,λb c=>?_⟩;rw[b1];exact cJ _ h;rw[b1]at c⊢;rcases bW.mp c with e|e;exact bW.mpr (.inl e);exact cJ _ (i b e)
theorem xV(a)(c):∀b:V (ac×ah),(ef a c b).length<=b.length+1
 |[]=>by simp[ef]
 |(b,x)::d=>by have e:=xV a c d;rw[show ef a c ((b,x)::d)=(if b=a then(b,c)::d else(b,x)::ef a c d)from I];by_cases c:b=a;rw[ay c,cz,cz];omega;rw[aw c,cz,cz];omega
def iJ.c{v:ah}{o:ar ag}(f:iJ (O v) o):∃e,o=O e/\br v e:=by
 cases o with|none=>exact(show False from f).elim|some e=>exact⟨e,I,f⟩
def iJ.d(f:iJ aa e):e=aa:=by
 cases e with|none=>rfl|some e=>exact(show False from f).elim
def xL{v:ah}(k:br v j):As j=ab:=by
 cases v with
 |c=>cases(show j=fL from k);rfl
 |d m=>cases(show j=n_ m from k);rfl
 |a n=>obtain⟨i,l⟩:=(show∃i,j=kS n i from k);cases l;rfl
 |e n=>obtain⟨i,l⟩:=(show∃i,j=uR n i from k);cases l;rfl
 |f m=>obtain⟨i,l⟩:=(show∃i,j=KP m i from k);cases l;rfl
 |g m=>obtain⟨i,l⟩:=(show∃i,j=KQ m i from k);cases l;rfl
 |b i=>cases(show j=b9 i from k);rfl
 |h i=>cases(show j=An i from k);rfl
section
variable{P:bd}{w:aO}{H H':af}{h h':be}{a C dx:Y}{n m:V (ac×ah)}
def tU(g:ek P w H h)(e:H a=O (.c C dx n)):∃b,nA h a dx C b/\(∀d,iJ (n.lookup d) (b d))/\AD b (n.map (·.1))/\n.length<=1000/\H dx=O (.f a):=by obtain⟨d,o,j,k,b,i,m,l⟩:=(show d_ P w H h a (.c C dx n)from g a _ e);exact⟨b,⟨k,i,j⟩,m,l,o,d⟩
end
structure fp(K:aR)(C:Y):Prop where
 c:rN K C pK=ab
 b:rL K C=ab
 d:AA K C=ab
 e:eb K (.ref C) "__setattr__"=O (O (.builtin "object.__setattr__"))
def fp.a(h:fp g f)(i):rN g f i=ab:=h.c
def hB(b:aR)(a:Y)(c:ac):Prop:=eb b (.ref a) c=O aa
def hB.a(e:hB c b d):rO c b d=O aa:=by
 unfold rO;rw[show eb c (.ref b) d=O aa from e]
 rfl
structure qQ(K:aR)(C:Y)(m:ac)(f:Y):Prop where
 a:eb K (.ref C) m=O (O (.ref f))
 b:lL K (.ref f)=ab
 c:kg K (.ref f)=ab
section
variable{X:aK}{pins:V (Y×aF)}{σ:aQ}{H:af}{s:ao}{a C dx:Y}{n:V (ac×ah)}{f:ac}{v:ah}{A:bK}{E:ag->ao->Prop}
def xI(d:ax X pins σ H s)(j:H a=O (.c C dx n))(g:fp X.e C)(p:hB X.e C f)(l:n.lookup f=O v)
  (k:∀b h,ax X pins σ H h->br v b->e b h):aC (aT X.c X.d) A (rT (.ref a) f i) e E s:=by
 obtain⟨m,h,q,_,_,_⟩:=tU d.a j;obtain⟨b,i,e⟩:=iJ.c (v:=v) (o:=m f) (by rw[<-l];exact q f);exact GV d.h h (g.a f) g.b p i (xL e) (k b _ (d.e _) e)
def xJ{pl:fw Bool}(d:ax X pins σ H s)(j:H a=O (.c C dx n))(i:fp X.e C)(h:qQ X.e C b g)(l:n.lookup b=aa)
  (k:e (.ref g,[.ref a]) s):aC (aT X.c X.d) A (oh (.ref a) b pl) e E s:=by
 obtain⟨m,e,o,_,_,_⟩:=tU d.a j;have g:m b=aa:=iJ.d (by rw[<-l];exact o b);exact GW d.h e (i.a b) h.a h.b g k
def yg(b:ax X pins σ H s)(e:H a=O (.c C dx n))(d:fp X.e C)(r:hB X.e C f)(j:n.length<1000)(u:br g h)
  (k:∀j,ax X pins σ (al H a (.c C dx (ef f g n))) j->i () j):aC (aT X.c X.d) A (AM (.ref a) f h) i E s:=by
 obtain⟨m,i,t,o,_,l⟩:=tU b.a e;have q:(n.map (·.1)).length<=aH:=by rw[an,bn];omega
 refine Ia b.h i d.e d.d r.a d.b o q λp j w=>k _ ?_;have q:∃d,p.get? dx=O d:=let⟨d,_,_,k,_⟩:=j.b;⟨d,k⟩;refine b.E (x:=a) (e:=dx) (by rw[e];exact ma) (.inr l) (λb d p k=>(w.2 b p).trans k) q ⟨by rw[aL i.a];exact l,?_,i.a,j.c,_,j.b,λb=>?_,λb i=>?_⟩;have:=xV f g n;omega;show iJ ((ef f g n).lookup b) (if b=f then O h else m b);rw[xX];by_cases d:b=f;rw[ay d,ay d];exact u;rw[aw d,aw d];exact t b;by_cases d:b=f;rw[d];exact(tW f g n).1;refine(tW f g n).2 b (o b λk=>i ?_);show(if b=f then O h else m b)=aa;rw[aw d];exact k
def ax.zs(i:ax X pins σ H s):ax X pins σ (al (al H s.heap.objs.size (.f (s.heap.objs.size+1))) (s.heap.objs.size+1) (.c C s.heap.objs.size []))
  {s with heap:=(s.heap.push lK).push (mW C s.heap.objs.size)}:=by
 have m:(s.heap.push lK).get? s.heap.objs.size=O lK:=eo s.heap I;have x:((s.heap.push lK).push (mW C s.heap.objs.size)).get? (s.heap.objs.size+1)=O (mW C s.heap.objs.size):=by have:=eo (s.heap.push lK) (o:=mW C s.heap.objs.size) I;rwa[hI]at this
 have zy:(s.heap.push lK).Ns s.heap.objs.size (λ_=>aa):=⟨lK,#[],_,m,I,(λu p=>a7 p (by simp)),λ_=>I⟩;have p:=i.y (a:=s.heap.objs.size) (o:=.f (s.heap.objs.size+1)) (h':=s.heap.push lK) (t':=s.toks) (λu zz i=>dw _ i) (bp _) ⟨_,m⟩;refine p.y (a:=s.heap.objs.size+1) (o:=.c C s.heap.objs.size []) (t':=s.toks) (λu zz i=>dw _ i) (ry (hI _ _)) ?_;have m:s.heap.objs.size≠s.heap.objs.size+1:=eA (ux _);refine⟨by rw[aL m,az],co _,m,x,λ_=>aa,(Kx zy).at λo i=>dw _ i,λ_=>ma,λm i=>a7 I i⟩
def xo{f:ac}{s:ao}(i:lN b f c (bB b c)=bB b c)
  (h:aC (aT d e) A (bB b c) (λo k=>aC (aT d e) A (rT o f ab) g E k) E s):aC (aT d e) A (bB (.Attribute b f j) c) g E s:=
 Attribute_any_ h (by rw[arm_eval_Attribute,i])
end
structure cG(K:aR)(C:Y)(f:ac):Prop where
 a:fp K C
 b:hB K C f
inductive Gp(K:aR)(H:af)(a:Y)(f:ac)(Q:ah->Prop):Prop
 |a {C dx:Y} {fs:V (ac×ah)} {v:ah} (h:H a=O (.c C dx fs)) (n:cG K C f) (l:fs.lookup f=O v) (q:Q v)
inductive Gq(K:aR)(H:af)(a:Y)(f:ac)(Q:Y->Y->V (ac×ah)->Prop):Prop
 |a {C dx:Y} {fs:V (ac×ah)} (h:H a=O (.c C dx fs)) (n:cG K C f) (l:fs.length<1000) (q:Q C dx fs)
inductive Gr(K:aR)(H:af)(a:Y)(f:ac)(Q:Y->ah->Prop):Prop
 |a {C dx:Y} {fs:V (ac×ah)} {v:ah} (h:H a=O (.c C dx fs)) (n:cG K C f) (l:fs.lookup f=O v) (q:Q C v)
inductive Gu(C:Y)(H:af)(a:Y)(m:ac)(Q:Prop):Prop
 |a {dx:Y} {fs:V (ac×ah)} (h:H a=O (.c C dx fs)) (l:fs.lookup m=aa) (q:Q)
def rh(d:aR)(g:aY)(f:ac):aY:=λi c e=>g i c λh b=>ph h λa=>Gp d b a f λc=>e c b
def H9(h:aR)(f i:aY)(e:ac):dv:=λg a b=>i a b λk d=>f a d λi b=>ph i λd=>Gq h b d e λf i j=>g.a a (al b d (.c f i (ef e k j)))
def tD(a:aK)(k:uP)(l:ah->ah->af->bj->Prop):Prop:=
 ∀d e j b h i f g c,ax a d j b e->br h f->br i g->l h i b c->aC (aT a.c a.d) a.b (inplaceOp k f g) (e5 a d j c) a.f e
def H_(f:aR)(e k:aY)(j:ah->ah->af->bj->Prop)(h:ac):dv:=λi d a=>e d a λg b=>ph g λa=>Gr f b a h λe l=>
 k d b λm g=>j l m g λk f=>∃g b,f a=O (.c e g b)/\b.length<1000/\i.a d (al f a (.c e g (ef h k b)))
section
variable{X:aK}{o e n:aZ}{f:ac}{pos m k:bL}{j i:aY}
def Hw(k:aS X e j)(i:lN e f X.a (bB e X.a)=bB e X.a):aS X (.Attribute e f pos) (rh X.e j f):=by intro l n p b a d h;refine xo i (a3 (k l n p b _ d h) λo q ⟨r,c,g,m,a⟩=>?_);obtain⟨b,rfl,h,⟨d,k⟩,i,a⟩:=nJ a;obtain rfl:o=b9 b:=m;exact xI g h d k i λn m b l=>⟨_,c,b,l,a⟩
def b7(k:aS X o j)(q:aS X n i)(p:lO n (O (.Attribute o f m)) pos.line X.a=cR ae):e6 X (.Assign [.Attribute o f m] n pos) (H9 X.e j i f):=by intro d s c H e b h;refine Lg (a3 (q d s c H _ b h) λt w ⟨y,e,g,u,r⟩=>a3 (k d w c e _ g r) λq A ⟨x,z,h,t,b⟩=>?_) p;obtain⟨a,rfl,g,⟨e,k⟩,l,b⟩:=nJ b;obtain rfl:q=b9 a:=t;exact yg h g e k l u λp d=>⟨c,_,d,b⟩
def pd(r:aS X o j)(u:aS X n i)(t:tD X b c):e6 X (.AugAssign (.Attribute o f k) b n pos) (H_ X.e j i c f):=by intro c s b g d h q;refine wpAny_AugAssign_AttributeAny (a3 (r c s b g _ h q) λy w ⟨x,l,p,z,d⟩=>?_);obtain⟨a,rfl,r,⟨g,h⟩,w,d⟩:=nJ d;obtain rfl:y=b9 a:=z;exact xI p r g h w λC A q y=>a3 (u c A b l _ q d) λD B ⟨E,p,r,z,w⟩=>a3 (t c B b p _ E C D _ r y z w) λK J ⟨L,F,d,A,G,H,l,q,u⟩=>yg d l g h q A λp c=>⟨b,_,c,u⟩
def HL:ah->ah->af->bj->Prop:=λf g d e=>∃b c,f=.a b/\g=.a c/\e (.a (b+c)) d
def mq:tD X .Add HL:=by rintro k s m d x l j v c e g h ⟨i,b,rfl,rfl,f⟩;obtain⟨c,rfl⟩:=(show∃c,j=kS i c from g);obtain⟨c,rfl⟩:=(show∃c,v=kS b c from h);exact TQ ⟨.a (i+b),d,e.e _,⟨_,I⟩,f⟩
end
section
variable{X:aK}{pins:V (Y×aF)}{σ:aQ}{H:af}{s:ao}{A:bK}{E:ag->ao->Prop}{Q:ag->ao->Prop}{c:ag}{b:Bool}
end
structure cK(k:Nat)(A:bK):Prop where
 c:A.handled=aa
 d:A.depth+3*k+5<Lh
 e:A.units+16*k+200<eK
def cK.b{m k:Nat}(j:cK k l)(n:m<=k):cK m l:=⟨j.c,by have:=j.d;omega,by have:=j.e;omega⟩
def cK.f{k:Nat}{j:bK}(l:cK (k+1) j)(m):cK k (j.deeper m):=
 ⟨l.c,by have:=l.d;show j.depth+1+3*k+5<_;omega,by have:=l.e;show j.units+3+16*k+200<_;omega⟩
def cK.h{k:Nat}{j:bK}(l:cK (k+1) j):cK k j.in1:=
 ⟨l.c,by have:=l.d;show j.depth+3*k+5<_;omega,by have:=l.e;show j.units+1+16*k+200<_;omega⟩
def Hc{a:bK}:(a.under (.builtin "type.__call__" ⟨.ref b::d,c⟩)).depth=a.depth+1:=by first|rfl|simp[Around.under,Code.weight,Code.isCreation,Code.isGuard,Code.isCaller,Code.frames,Code.isFrame,guardIds]
def Hf{a:bK}:(a.under (.builtin "type.__call__" ⟨.ref b::d,c⟩)).units=a.units+1:=by first|rfl|simp[Around.under,Code.cUnits,Code.frames,Code.isFrame]
def cK.i{k:bK}(j:cK (l+1) k)(C)(n)(m):cK l (k.under (.builtin "type.__call__" ⟨.ref C::n,m⟩)):=
 ⟨j.c,by have:=j.d;rw[Hc];omega,by have:=j.e;rw[Hf];omega⟩
def cK.g{j:bK}(l:cK k j):j.depth<Lh:=by have:=l.d;omega
def cK.a{k:Nat}{j:bK}(r:cK k j):j.units+64<eK:=by have:=r.e;omega
def j7:el:=λ_ a b=>b [] a
def pk(e:aY)(f:el):el:=λa b d=>e a b λg c=>f a c λe b=>d (g::e) b
section
variable{X:aK}{e:aZ}{n:V aZ}{m:aY}{t:el}{pos:bL}
def ai:fR X [] j7:=λ_ _ _ _ H c a b=>uH ⟨[],H,a,.nil,b⟩
def Z(i:aS X e m)(j:fR X n t)(d:bX (e::n) X.a=(ae,bB e X.a)::bX n X.a:=by rfl):fR X (e::n) (pk m t):=by intro pos a s b c g f h;rw[d];show aC _ _ (AN ((ae,bB e X.a)::d5 pos (bX n X.a))) _ _ s;refine pF (a3 (i a s b c _ f h) λq o ⟨p,d,g,l,k⟩=>?_);exact a3 (j pos a o b d _ g k) λr q ⟨xs,c,f,i,h⟩=>⟨p::xs,c,f,.cons l i,h⟩
def ID(t:el):aY:=λg a f=>t g a λe c=>e.length<=aH/\∀a,c a=aa->f (.b a) (al c a (.d e))
def yn(t:el):aY:=λg c f=>t g c λe d=>e.length<=aH/\∀c,d c=aa->f (.b c) (al d c (.a e))
def js(j:fR X n t):aS X (.Tuple n a pos) (ID t):=by intro l s q h a i k;refine wpAny_Tuple_spliced (a3 (j pos l s q h _ i k) λp a ⟨xs,c,f,r,g,o⟩=>⟨by rw[<-r.a];exact g,?_⟩);have h:c a.heap.objs.size=aa:=f.a.b (bp _);refine⟨.b a.heap.objs.size,al c a.heap.objs.size (.d xs),f.y (t':=a.toks) (λc f e=>dw _ e) (bp _) ?_,I,o _ h⟩;exact⟨g,p,r,⟨_,eo _ I,I,_,I⟩⟩
def bC(i:fR X n t):aS X (.List n pos) (yn t):=by intro k s o H c h j;refine wpAny_List_spliced (a3 (i pos k s o H _ h j) λm c ⟨xs,d,f,r,g,l⟩=>⟨by rw[<-r.a];exact g,?_⟩);have h:d c.heap.objs.size=aa:=f.a.b (bp _);refine⟨.b c.heap.objs.size,al d c.heap.objs.size (.a xs),f.y (t':=c.toks) (λd f e=>dw _ e) (bp _) ?_,I,l _ h⟩;exact⟨g,m,0,r,eo _ I⟩
end
abbrev aB:=V ah->af->bj->cf->Prop
abbrev f8:=V cS->af->ao->cf->ag->ao->Prop
structure lk(P:bd)(w:aO)(K:aR)(mg:ac->ar ag)(base:be)(A:bK)(outer:V cS)(s:ao)(H:af):Prop where
 g:A.frames=O outer
 d:qR K mg base
 c:∀b o,base.get? b=O o->s.heap.get? b=O o/\H b=aa
 f:base.objs.size<=s.heap.objs.size
 i:s.heap.FunFrames base outer
 h:∀b∈fr outer,H b=aa
 a:ek P w H s.heap
 e:nW s.gens
def tC(g:V cS)(e:bd)(h:aO)(d:af)(c:ao)(f:bj)(u:ag)(a:ao):Prop:=
 ∃v b,a.os=c.os/\nW a.gens/\h5 (fr g) [] d b c.heap a.heap/\ek e h b a.heap/\br v u/\f v b
def Go(e:f8)(b:V cS)(g:bd)(j:aO)(a:af)(c:ao)(h:bj)(f:cf)(i:kR)(d:ao):Prop:=
 match i with|.ok (.ret i)=>tC b g j a c h i d|.ok _=>False|.error g=>e b a c f g d
structure fH(P:bd)(w:aO)(K:aR)(mg:ac->ar ag)(base:be)(CX:f8)(k:Nat)(f:Y)(fd:hH)(ps:V ac)(sp:aB):Prop where
 b:∀vs H Q E,sp vs H Q E->vs.length=ps.length
 a:∀(A:bK)(outer:V cS)(s:ao)(H:af)(args:Args)(us:V ag)(vs:V ah)(Q:bj)(E:cf),cK k A->lk P w K mg base A outer s H->BindsTo s fd args (ps.zip us)->bR vs us->sp vs H Q E->
  iX (aT P w) A (.call (.ref f) args) (Go CX outer P w H s Q E) s
def fH.c(i:fH k u j q l h p m n r s)
  (o:∀g e f d,t g e f d->s g e f d):fH k u j q l h p m n r t:=
 ⟨λg e f d r=>i.b g e f d (o _ _ _ _ r),λh q s e j t g f d m l k p n=>i.a h q s e j t g f d m l k p (o _ _ _ _ n)⟩
def lk.j{l:bK}(b:lk o t n q p l r s m)(C)(w)(u):
  lk o t n q p (l.under (.builtin "type.__call__" ⟨.ref C::w,u⟩)) r s m:=⟨by first|exact b.g|(simpa[Around.under,Code.envs,Code.isFrame,pushEnvs]using b.frames),b.d,b.c,b.f,b.i,b.h,b.a,b.e⟩
def lk.k{l:bK}(b:lk o t n q p l r s m):
  lk o t n q p l.in1 r s m:=⟨b.g,b.d,b.c,b.f,b.i,b.h,b.a,b.e⟩
section
variable{X:aK}{pins:V (Y×aF)}{σ:aQ}{H:af}{s n:ao}
def ax.R(c:ax X pins σ H s):lk X.c X.d X.e X.g X.h X.b X.l s H:=
 ⟨c.b.k,c.b.e,c.Q,cu c.b.j c.A,c.U,c.za,c.a,c.k⟩
def ax.zd{Q:bj}{c:ag}(i:ax X pins σ H s)(m:tC X.l X.c X.d H s Q c n):e5 X pins σ Q c n:=by obtain⟨zE,H',zy,c,zD,x,zB,zA⟩:=m;obtain⟨u,p,m,zC,zz⟩:=n;obtain rfl:zz=s.os:=zy;exact⟨zE,H',i.zk (h':=u) (g':=p) (d':=m) (t':=zC) (ch:=[]) zD x c (λm i=>a7 i (by simp)),zB,zA⟩
end
def rg(f:aB)(e:V ah)(a:cf)(g:el):aY:=λi b d=>g i b λh c=>f (h++e) c d a
def mC(e:Y)(j:ac)(k:aB)(i:V ah)(f:cf)(m:aY)(l:el):aY:=λd g h=>m d g λc b=>ph c λa=>Gu e b a j (l d b λvs g=>k (c::(vs++i)) g h f)
def rj(g:Y)(l:aB)(k:V ah)(h:cf)(d:el):aY:=λi a j=>d i a λn e=>∀a d,e a=aa->e d=aa->d≠a->
 l (.b a::(n++k)) (al (al e d (.f a)) a (.c g d [])) (λm i=>m=.c/\j (.b a) i) h
def g2(d:aR)(e:hH)(b:V ac)(a:V ag):Prop:=
 ∀(c:ao) us,d.In c.heap->(us++a).length=b.length->BindsTo c e ⟨us,[]⟩ (b.zip (us++a))
def g2.a{c:V ac}(f:∀b:V ag,b.length=c.length->rQ d ⟨b,[]⟩=cR (c.zip b)):g2 e d c []:=λd b _ c=>by rw[dM]at c⊢;exact .of_eq (f b c)
def fS(d:f8)(X:aK)(e:cf):Prop:=∀f g a s b c,ax X f g a s->d X.l a s e b c->X.f b c
section
variable{X:aK}{n:f8}{k:Nat}{f C:Y}{j:hH}{ps:V ac}{sp:aB}{i:V ah}{h:V ag}{E:cf}{x m:ac}{p pos g:bL}{e o:aZ}{d:V aZ}{c:aY}{t:el}
def pi{us:V ag}{vs:V ah}(y:fH X.c X.d X.e X.g X.h n k f j ps sp)(F:cK k X.b)(B:g2 X.e j ps h)(a:bR i h)(G:fS n X E)
  (q:ax X s w l b) (u:bR vs us) (z:sp (vs++i) l r E):aC (aT X.c X.d) X.b (e' (.ref f) us) (e5 X s w r) X.f b:=by
 have A:bR (vs++i) (us++h):=u.c a;have D:(us++h).length=ps.length:=by rw[<-A.a];exact y.b _ _ _ _ z
 refine ol (og (y.a X.b X.l b l ⟨us,[]⟩ (us++h) (vs++i) r E F q.R (B b us q.h D) A z) λu H a=>?_);cases u with
 |error e=>exact G s w l b e H q a
 |ok b=>
  cases b with|ret b=>exact q.zd a|next=>exact eW a|brk=>exact eW a|cont=>exact eW a
def Hv(c:fH X.c X.d X.e X.g X.h n k f j ps sp)(z:cK k X.b)(s:fh X x)(w:X.g x=O (.ref f))(u:kg X.e (.ref f)=ab)(o:g2 X.e j ps h)(q:bR i h)(A:fS n X E)
  (m:fR X (e::d) t) (b:(x==("__debug__":ac))=ae:=by decide) (r:bX (e::d) X.a=(ae,bB e X.a)::bX d X.a:=by rfl) (y:(d5 pos (bX d X.a)).any (·.1)=ae:=by rfl):
  aS X (.Call (.Name x p) (e::d) [] pos) (rg sp i E t):=by
 intro B C D g F a l;refine pY (kB a s w ?_ b);refine rJ (h₀:=X.h) a.b.e.a u (a3 (m pos B C D g _ a l) λH G ⟨J,F,b,w,s⟩=>⟨b.h,?_⟩) r y;exact pi c z o q A b w s
def HA{pl:fw Bool}(G:aS X o c)(r:fp X.e C)(s:qQ X.e C m f)(y:fH X.c X.d X.e X.g X.h n k f j ps sp)(J:cK k X.b)(D:g2 X.e j ps h)(F:bR i h)(M:fS n X E)(B:fR X (e::d) t)
  (K:bX (e::d) X.a=(ae,bB e X.a)::bX d X.a:=by rfl) (H:(d5 pos (bX d X.a)).any (·.1)=ae:=by rfl)
  (L:bB (.Call (.Attribute o m g) (e::d) [] pos) X.a=(do
   let a<-bB o X.a
   oj g.atName
   let(f,first)<-iZ [a] (oh a m pl)
   kh pos f first (d5 pos (bX (e::d) X.a)) (gM pos (gN [] X.a))):=by rfl):
  aS X (.Call (.Attribute o m g) (e::d) [] pos) (mC C m sp i E c t):=by
 intro u P w a l p A;refine Av (pl:=pl) (a3 (G u P w a _ p A) λR Q ⟨x,z,q,N,l⟩=>?_) L;obtain⟨a,rfl,A,G,l⟩:=nJ l;obtain rfl:R=b9 a:=N;refine xJ q A r s G (rJ (first:=[.ref a]) (h₀:=X.h) p.b.e.a s.c (a3 (B pos u Q w z _ q l) λus N ⟨vs,L,r,G,A⟩=>⟨r.h,?_⟩) K H);exact pi (us:=.ref a::us) (vs:=.b a::vs) y J D F M r (.cons I G) A
def HB{pl:fw Bool}(w:aS X o c)(r:fp X.e C)(l:qQ X.e C m f)(p:fH X.c X.d X.e X.g X.h n k f j ps sp)(y:cK k X.b)(t:g2 X.e j ps h)(u:bR i h)(A:fS n X E)
  (z:bB (.Call (.Attribute o m g) [] [] pos) X.a=(do
   let a<-bB o X.a
   oj g.atName
   let(f,first)<-iZ [a] (oh a m pl)
   kh pos f first (d5 pos (bX [] X.a)) (gM pos (gN [] X.a))):=by rfl):
  aS X (.Call (.Attribute o m g) [] [] pos) (mC C m sp i E c j7):=by
 intro B F H a d q s;refine Av (pl:=pl) (a3 (w B F H a _ q s) λG K ⟨x,J,d,D,e⟩=>?_) z;obtain⟨a,rfl,q,s,e⟩:=nJ e;obtain rfl:G=b9 a:=D;exact xJ d q r l s (Ap (first:=[.ref a]) d.h l.c (pi (us:=[.ref a]) (vs:=[.b a]) p y t u A d (.cons I .nil) e))
structure tF(K:aR)(C f:Y):Prop where
 q:uV K C=ab
 l:eb K (.ref C) "__init__"=O (O (.ref f))
 b:lL K (.ref f)=ab
 a:kg K (.ref C)=ab
def yf{us:V ag}(s:tF X.e C f)(A:fH X.c X.d X.e X.g X.h n k f j ps sp)(K:cK (k+1) X.b)(H:g2 X.e j ps h)(J:bR i h)
  (L:fS n X E) (q:ax X u z l a) (w:bR y us)
  (G:∀x r,l x=aa->l r=aa->r≠x->sp (.b x::(y++i)) (al (al l r (.f x)) x (.c C r [])) (λF D=>F=.c/\B (.b x) D) E):
  aC (aT X.c X.d) X.b (e' (.ref C) us) (e5 X u z B) X.f a:=by
 have B:=G (a.heap.objs.size+1) a.heap.objs.size (q.a.b (mM _)) (q.a.b (bp _)) (eA (ux _));have r:=ax.zs (C:=C) q;have D:bR (ah.b (a.heap.objs.size+1)::(y++i)) (b9 (a.heap.objs.size+1)::(us++h)):=.cons I (w.c J);have y:(b9 (a.heap.objs.size+1)::us++h).length=ps.length:=by have e:=D.a;rw[A.b _ _ _ _ B]at e;exact e.symm
 refine ol (He (f:=f) q.h s.q s.l (beq_iff_eq.mp s.b) (og (A.a _ X.l _ _ ⟨b9 (a.heap.objs.size+1)::us,[]⟩ (b9 (a.heap.objs.size+1)::(us++h)) _ _ E (K.i C us []) (r.R.j C us []) (H _ (b9 (a.heap.objs.size+1)::us) r.h y) D B) λw q l=>?_));cases w with
 |error e=>exact L u z _ _ e q r l
 |ok q=>
  cases q with
  |ret q=>obtain⟨F,q,s,y,u,w⟩:=r.zd l;subst u;exact⟨y,⟨ah.b (a.heap.objs.size+1),q,s,I,w⟩⟩
  |next=>exact eW l
  |brk=>exact eW l
  |cont=>exact eW l
def Hy(c:tF X.e C f)(g:fH X.c X.d X.e X.g X.h n k f j ps sp)(z:cK (k+1) X.b)(u:fh X x)(w:X.g x=O (.ref C))(q:g2 X.e j ps h)(r:bR i h)(A:fS n X E)
  (o:fR X (e::d) t) (b:(x==("__debug__":ac))=ae:=by decide) (s:bX (e::d) X.a=(ae,bB e X.a)::bX d X.a:=by rfl) (y:(d5 pos (bX d X.a)).any (·.1)=ae:=by rfl):
  aS X (.Call (.Name x p) (e::d) [] pos) (rj C sp i E t):=by
 intro B D F l G a m;refine pY (kB a u w ?_ b);refine rJ (h₀:=X.h) a.b.e.a c.a (a3 (o pos B D F l _ a m) λJ H ⟨K,G,b,w,u⟩=>⟨b.h,?_⟩) s y;exact yf c g z q r A b w u
def Hz(b:tF X.e C f)(c:fH X.c X.d X.e X.g X.h n k f j ps sp)(q:cK (k+1) X.b)(m:fh X x)(o:X.g x=O (.ref C))(e:g2 X.e j ps h)(g:bR i h)(r:fS n X E)
  (l:(x==("__debug__":ac))=ae:=by decide):aS X (.Call (.Name x p) [] [] pos) (rj C sp i E j7):=by
 intro u w y s t a d;refine pY (kB a m o ?_ l);exact Ap a.h b.a (yf (us:=[]) b c q e g r a .nil d)
end
section
variable{X:aK}{n:f8}{k:Nat}{f C:Y}{j:hH}{ps i:V ac}{sp:aB}{E:cf}{x m:ac}{p pos h g:bL}{e o:aZ}{d:V aZ}{c:V mT}{b a:aY}{t tk:el}{q:ar ac}
variable{g:V ag->V ag->V ag}{r:V ah->V ah->V ah}
end
structure gq(N P:V ac)(sc:ea):Prop where
 c:sc.kind=.function
 e:sc.isCoroutine=ae
 f:sc.isGenerator=ae
 a:N.Nodup
 b:N.take P.length=P
 d:∀x∈P,sc.names.lookup x=O .local\/sc.names.lookup x=O .cell
 g:∀y∈sc.names,y.2≠.free
theorem xt:∀{d:V (ac×ag)}{b:ac->ar ag},(∀c,(a,c)∉d)->mZ e d b a=b a
 |[],_,_=>I
 |(e,c)::f,b,d=>by
  unfold mZ;rw[xt λf b=>d f (cJ _ b)];split;have:a≠e:=by rintro rfl;exact d c cr
  simp[this]
  rfl
theorem xq:∀{d:V (ac×ag)}{b:ac->ar ag},(∀c,(a,c)∉d)->mY e d b a=b a
 |[],_,_=>I
 |(e,c)::f,b,d=>by
  unfold mY;rw[xq λf b=>d f (cJ _ b)];split
  rfl
  have:a≠e:=by rintro rfl;exact d c cr
  simp[this]
theorem xr:∀{a:V ac}{b:V ag}{i:Nat}{c:ac->ar ag},a.Nodup->a[i]?=O h->b[i]?=O l->f h=O .local->
  mZ f (a.zip b) c h=O l
 |[],_,_,_,_,d,_,_=>by simp at d
 |_::_,[],_,_,_,_,d,_=>by simp at d
 |g::a,m::b,0,c,k,d,e,j=>by simp at d e;subst d;subst e;show mZ f ((g,m)::a.zip b) c g=_;unfold mZ;rw[xt λl n=>(g_.mp k).1 (y1 n).1,ay j];simp
 |g::a,m::b,i+1,c,k,d,e,j=>by show mZ f ((g,m)::a.zip b) c h=_;unfold mZ;exact xr (i:=i) (g_.mp k).2 (by simpa using d) (by simpa using e) j
theorem xp:∀{a:V ac}{b:V ag}{i:Nat}{c:ac->ar ag},a.Nodup->a[i]?=O h->b[i]?=O l->f h≠O .local->
  mY f (a.zip b) c h=O l
 |[],_,_,_,_,d,_,_=>by simp at d
 |_::_,[],_,_,_,_,d,_=>by simp at d
 |g::a,m::b,0,c,k,d,e,j=>by simp at d e;subst d;subst e;show mY f ((g,m)::a.zip b) c g=_;unfold mY;rw[xq λl n=>(g_.mp k).1 (y1 n).1,aw j];simp
 |g::a,m::b,i+1,c,k,d,e,j=>by show mY f ((g,m)::a.zip b) c h=_;unfold mY;exact xp (i:=i) (g_.mp k).2 (by simpa using d) (by simpa using e) j
def hD(b:V ac)(a:V ah):aQ:=a.map O++cA (b.length -a.length) aa
noncomputable def fi(B:f8)(D:bd)(F:aO)(z:aR)(G:ac->ar ag)(base:be)(E:V ac)(t:ac)(w:ea)(n:Y)(m:ag)(A:bK)(x:V cS)(s:ao)(y:af)(C:cf):aK where
 c:=D
 d:=F
 e:=z
 g:=G
 h:=base
 b:=A.deeper (fW t w s.heap.objs.size n m)
 i:=E
 j:=s
 u:=y
 a:=fW t w s.heap.objs.size n m
 p:=x
 l:=fW t w s.heap.objs.size n m::x
 o:=[]
 k:=ab
 r:=λ_=>ab
 q:=[]
 f:=λE G=>aC (aT D F) (A.deeper (fW t w s.heap.objs.size n m)) (u3 (fW t w s.heap.objs.size n m) E) (λ_ z=>B x y s C E z) (λm z=>B x y s C m z) G
def xx{a:ea}{n:Nat}(d:a.names.lookup b=O .cell):∃c,(fX n a.names []).lookup b=O c:=by have b:=KZ a.names n [] (.inl d);exact nV.mp b
def G4{m j:V ac}{g:ea}{a:bK}{f s:ao}{k:V ah}
  (h:gq m j g) (D:a.handled=aa) (c:lk r z q w t a y f b) (l:k.length=j.length) (E:bR k d)
  (l:InCallC f f.heap.objs.size (mZ (fW p g f.heap.objs.size i e).kindOf (j.zip d) λ_=>aa) (fX (f.heap.objs.size+1) g.names []) (mY (fW p g f.heap.objs.size i e).kindOf (j.zip d) λ_=>aa) s):
  ax (fi A r z q w t m p g i e a y f b B) [] (hD m k) b s:=by
 have d:j.length<=m.length:=by have:=cb fu h.b;rw[e7]at this;omega
 obtain⟨s,d,rfl,C⟩:=l.done;have x:∀d,d∉(fi A r z q w t m p g i e a y f b B).o:=λd p=>a7 (show d∈([]:V Y)from p) (by simp);refine⟨⟨c.d,h.c,I,I,bp _,λa p e s b=>?_,λa i=>?_,λa e _ q=>?_,λ_=>D,J8 c.g,.inr ⟨I,I⟩,λd p=>a7 p (x d),c.c,c.f,λd _ _=>x d,λd p=>a7 p (x d),c.i,c.h⟩,I,c.e,h5.l C,⟨_,l.toInCall.ns,λr a v s b d=>?_⟩,λa e q=>⟨_,l.cell a e q⟩,c.a.b (bp _),λa e q=>?_,λd p=>a7 (show d∈([]:V (Y×aF))from p) (by simp),c.a.c C,?_⟩;exact name_of_addr l.apart (hc s) (hc b);have i:g.names.lookup a=O .cell\/g.names.lookup a=O .free:=i;rcases i with i|i;exact xx i;exact a7 I (h.g _ (hc i));exact pB (l.above a e (hc q));have d:r<k.length:=by unfold hD at b;by_cases d:r<k.length;exact d;rw[Jr (by simpa using d)]at b;rw[List.getElem?_replicate]at b;split at b<;>cases b
 have t:k[r]?=O v:=by
  unfold hD at b;rw[List.getElem?_append_left (by simpa using d),bw]at b;cases d:k[r]? with
  |none=>rw[d]at b;cases b
  |some i=>rw[d]at b;cases b;rfl
 obtain⟨u,i,b⟩:=E.b t;have p:j[r]?=O a:=by rw[<-h.b,List.getElem?_take_of_lt (by omega)];exact s
 have k:j.Nodup:=by rw[<-h.b];exact h.a.sublist (y4 _ _)
 refine⟨u,b,?_⟩;rcases h.d a (a1 p)with b|b;exact .inl ⟨b,xr k p i b⟩;obtain⟨e,d⟩:=xx (n:=f.heap.objs.size+1) b;refine .inr ⟨.inl b,e,d,?_⟩;have f:=l.cell a e d;rw[xp k p i (by show g.names.lookup a≠_;rw[b];decide)]at f;exact f;exact c.a.b (pB (l.above a e (hc q)));unfold hD;show _=m.length;rw[bH,an,jy];omega
def tS{y:f8}{t:bd}{x:aO}{l:aR}{B:ac->ar ag}{z:be}{J:Nat}{q:Y}{M o:ac}{N:pE}{w:V bh}{g:ea}{E K H P n D e:ag}{C f:ar Y}
  {h:Array (ar ag)} {m d:V ac} {A:aB} (S:l.lookup q=O ⟨e,f,.func (oa M o N w g E K H P C n D),h⟩) (R:Ar l n o=ab) (r:gq m d g)
  (L:∀i e h j,A i e h j->i.length=d.length)
  (Q:∀(p:bK) s(f:ao) e(i:V ah) h j,cK J (p.deeper (fW o g f.heap.objs.size q n))->A i e h j->∃F,eG (fi y t x l B z m o g q n p s f e j) w F/\F {a:=λ_ k=>h .c k,b:=h} (hD m i) e):
  fH t x l B z y (J+1) q (oa M o N w g E K H P C n D) d A:=by
 refine⟨L,λp s f e A T i h j D w K P J=>?_⟩;have M:=L _ _ _ _ J;have H:l.In f.heap:=w.d.a.keeps λC E A=>(w.c C E A).1;have N:f.heap.NoLimit:=w.d.c.keeps λC E A=>(w.c C E A).1;have L:∀G∈d.zip T,g.names.lookup G.1=O .local\/(g.names.lookup G.1=O .cell/\((fX (f.heap.objs.size+1) g.names []).lookup G.1).isSome=ab):=λ⟨C,v⟩ d=>by rcases r.d C (y1 d).1 with d|d;exact .inl d;exact .inr ⟨d,KZ _ _ _ (.inl d)⟩
 refine codeAny_call_function D.g (H _ _ S) I r.e r.f I (PySem.W.codeRec_of H R) (K _ _ _ _ ?_);refine wpAny_newFunctionEnv_cells r.c L λH G C E=>?_;subst G;refine⟨N.keeps E.toInCall.keep,codeAny_func ?_⟩;obtain⟨F,H,G⟩:=Q p s f e i h j (D.f _) J;have F:ax (fi y t x l B z m o g q n p s f e j) [] (hD m i) e C:=G4 r D.c w M P E;refine fM (H [] C (hD m i) e _ F G) (λD w r=>?_) λA w r=>r;have A:∀{i:aQ}{k:af}{v:ah}{u:ag},ax (fi y t x l B z m o g q n p s f e j) [] i k w->br v u->h v k->tC s t x e f h u w:=
  λ{i k v u} e f d=>⟨v,k,e.t,e.k,e.d,e.a,f,d⟩
 cases D with
 |ret u=>obtain⟨v,i,k,e,f,d⟩:=r;exact A e f d
 |next=>obtain⟨i,k,e,d⟩:=r;exact A (v:=ah.c) (u:=fL) e I d
 |brk=>obtain⟨_,_,_,d⟩:=r;exact eW d
 |cont=>obtain⟨_,_,_,d⟩:=r;exact eW d
section
variable{X:aK}{x:ac}{p pos:bL}{e:aZ}{n:V aZ}{t:el}{id T:String}{r:V ah->af->bj->Prop}
def yk(r:V ah->af->bj->Prop)(t:el):aY:=λe a c=>t e a λd b=>r d b c
def bM(k:g3 X (.builtin id) r)(g:fh X x)(m:X.g x=aa)(s:rR x=O (.builtin id))(j:fR X (e::n) t)(o:x≠"__name__":=by decide)(f:(x==("__debug__":ac))=ae:=by decide)
  (l:bX (e::n) X.a=(ae,bB e X.a)::bX n X.a:=by rfl) (q:(d5 pos (bX n X.a)).any (·.1)=ae:=by rfl):aS X (.Call (.Name x p) (e::n) [] pos) (yk r t):=by
 intro b u c d h a i;refine pY (nD a g m s ?_ o f);exact TP (a3 (j pos b u c d _ a i) λw s ⟨y,f,g,o,m⟩=>k b s c f y w h g o m) l q
def pa(k:g3 X (.type T) r)(g:fh X x)(m:X.g x=aa)(s:rR x=O (.type T))(j:fR X (e::n) t)(o:x≠"__name__":=by decide)(f:(x==("__debug__":ac))=ae:=by decide)
  (l:bX (e::n) X.a=(ae,bB e X.a)::bX n X.a:=by rfl) (q:(d5 pos (bX n X.a)).any (·.1)=ae:=by rfl):aS X (.Call (.Name x p) (e::n) [] pos) (yk r t):=by
 intro b u c d h a i;refine pY (nD a g m s ?_ o f);exact Aa (a3 (j pos b u c d _ a i) λw s ⟨y,f,g,o,m⟩=>k b s c f y w h g o m) l q
end
end L2
namespace HT
open PySem PyProof.Rows
def hZ:V Int->V Int->Bool
 |[],[]=>ae
 |[],_::_=>ab
 |_::_,[]=>ae
 |a::c,b::d=>if a=b then hZ c d else aq (a<b)
def sZ(a b)(c d):hZ (a::c) (b::d)=if a=b then hZ c d else aq (a<b):=I
def wK:hZ [] []=ae:=I
def DU(a)(b):hZ [] (a::b)=ab:=I
def DT(a)(b):hZ (a::b) []=ae:=I
def DS(f)(g)(a)(d)(b)(e):∃c,Al f g (.int a d) (.int b e) c/\(c=ab↔a=b):=
 ⟨(a==b),KD a d b e,by simp⟩
def DW(e)(d)(b)(h)(c)(i)(g)(j)(f)(a)(k:a (.bool (aq (b<c))) d):
  aC (aT g j) e (richCompare .Lt (.int b h) (.int c i)) a f d:=
 (J6 k:aC (aT g j) e (eL .Lt (.int b h) (.int c i)) a f d)
section
open PySem.SeqAt
open PySem.AutoSeq1 (wpAny_loadPart')
open PySem.MeetsSeq PySem.MeetsSeq2 PySem.MeetsSeq3
def DX(e g:Y)(c d:Array ag)(j k)(f i)(l m)(o n:V Int)(C:il c.toList o)(E:il d.toList n):
  Meets (Builtin.«tuple.__lt__» ⟨[.ref e,.ref g],[]⟩)
   (λ_ b a=>a.heap.get? e=O {cls:=.type "tuple",dict:=f,data:=.seq c j,slots:=l}/\a.heap.get? g=O {cls:=.type "tuple",dict:=i,data:=.seq d k,slots:=m}/\b (.ok (.ret (.bool (hZ o n)))) a):=
 .of_wp λF G B b a w=>by
  obtain⟨l,k,j,q,p⟩:=a;obtain⟨f,e,w⟩:=w;have a:=TW;have a:c.size=o.length:=by rw[<-C.length];simp
  have a:d.size=n.length:=by rw[<-E.length];simp
  wp_walk using wpAny_loadPart' f,wpAny_loadPart' e,wpAny_forIn_list _ (λr g z=>g.1=aa/\z=⟨l,k,j,q,p⟩/\∃(s t:V ag)(f e:V Int),r=s.zip t/\il s f/\il t e/\f.length+d.size=e.length+c.size/\b (.ok (.ret (.bool (hZ f e)))) ⟨l,k,j,q,p⟩) _
  case turn=>
   rintro⟨A,u⟩ r g z ⟨x,rfl,s,t,f,e,a,y,m,i,b⟩;cases y with
   |nil=>rw[List.zip_nil_left]at a;cases a
   |cons u A K=>
    cases m with
    |nil=>rw[List.zip_nil_right]at a;cases a
    |cons g r L=>
     rw[JI]at a;injection a with J M;injection J with H D;subst H D;rw[sZ]at b;simp only[cz]at i;obtain⟨H,J,D⟩:=DS B.in1 ⟨l,k,j,q,p⟩ u A g r;refine aD (J F G _ _ ?_);cases H with
     |true=>
      rw[ay (D.mp I)]at b
      wp_walk
      exact⟨I,I,_,_,_,_,M,K,L,by omega,b⟩
     |false=>
      rw[aw (λH=>a7 (D.mpr H) ed)]at b;have D:=DW B.in1 ⟨l,k,j,q,p⟩ u A g r F G
      wp_walk using D
      exact⟨_,I,by simpa using b⟩
  case fin=>
   rintro⟨j,k⟩ z ⟨x,rfl,s,t,f,e,a,y,m,i,b⟩;simp only at x;subst x;have j:hZ f e=aq (c.size<d.size):=by
    cases y with
    |nil=>
     cases m with|nil=>simp only[f']at i;rw[wK];exact(da (by omega)).symm|cons g r e=>simp only[f',cz]at i;rw[DU];exact(dm (by omega)).symm
    |cons u A j=>
     cases m with|nil=>simp only[f',cz]at i;rw[DT];exact(da (by omega)).symm|cons g r e=>rw[JI]at a;cases a
   rw[j]at b
   wp_walk
   exact⟨_,I,by simpa[T3]using b⟩
  case h=>exact⟨I,I,c.toList,d.toList,o,n,I,C,E,by omega,w⟩
end
section
variable{prog:bd}{w:aO}{A:bK}{E:ag->ao->Prop}{s:ao}
def DV{c d:Array ag}{ns ms:V Int}(g:uB s.heap e c)(o:uB s.heap b d)(p:il c.toList ns)(q:il d.toList ms)
  (r:A.units<eK) (n:a (.bool (hZ ns ms)) s):aC (aT prog w) A (eL .Lt (.ref e) (.ref b)) a E s:=by
 obtain⟨⟨i,l,k,y⟩,j,f,t,h⟩:=id g;obtain⟨⟨B,m,C,z⟩,k,g,u,i⟩:=id o;simp only at f h g i;subst f h g i;exact richCompare_meets_room (op:=.Lt) ⟨_,j,I⟩ ⟨_,k,I⟩ PySem.F.slot_tuple_lt PySem.F.entry_tuple_lt (PySem.F.args_tuple_lt_2 _ _) (DX e b c d t u l m y z ns ms p q)
  ⟨j,k,show n_ (hZ ns ms)≠Value.notImplemented/\a (.bool (hZ ns ms)) s from⟨(λx=>nomatch x),n⟩⟩ r
def gp(b a:Nat):ar Int->Nat
 |none=>a
 |some a=>if a<0 then(a+(b:Int)).toNat else iU a.toNat b
def s4(b a):gp b a aa=a:=I
def mc(b c a:Nat):gp b c (O (a:Int))=iU a b:=by show(if(a:Int)<0 then((a:Int)+(b:Int)).toNat else iU (a:Int).toNat b)=iU a b;rw[aw (by omega),eX]
end
end HT
namespace L2
open PySem PySem.Spec PyProof.Rows
abbrev o5:=aQ->af->(ar Int->af->Prop)->Prop
def qU(a:aK)(e:ar aZ)(h:o5):Prop:=
 ∀f g b c d,ax a f b c g->h b c d->
  aC (aT a.c a.d) a.b (evalPart e a.a) (λi h=>∃e c,ax a f b c h/\IsPart i e/\d e c) a.f g
def Iw:o5:=λ_ a b=>b aa a
def IB(e:aY):o5:=λg b d=>e g b λf c=>∃b,f=.a b/\d (O b) c
def xN{ns:V Int}:∀{us:V ag},bR (ns.map ah.a) us->il us ns:=by
 induction ns with
 |nil=>intro us a;rw[nQ]at a;cases a;exact .nil
 |cons c ns b=>
  intro us a;rw[b1]at a;cases a with|cons d e=>obtain⟨f,a⟩:=d;subst a;exact .cons c f (b e)
section
variable{X:aK}{e:aZ}{n:aY}{m k:ar aZ}{j i:o5}{pos h:bL}
def q_:qU X aa Iw:=by intro e f g a d b c;rw[K'];exact bF ⟨aa,a,b,.none,c⟩
def iO(f:aS X e n):qU X (O e) (IB n):=by intro h s l a b c g;rw[evalPart_some];refine a3 (f h s l a _ c g) λo m ⟨x,b,d,k,j⟩=>?_;obtain⟨i,rfl,a⟩:=j;obtain⟨t,rfl⟩:=k;exact⟨O i,b,d,.int i t,a⟩
def xk(X:aK)(l:ah->ar Int->ar Int->af->bj->Prop):Prop:=
 ∀e(a:ao) j c i b g h m k f d,ax X e j c a->br i b->a.heap.IsSliceOf f g h .none->IsPart g m->IsPart h k->l i m k c d->
  ∃c g,AO (.type c) "__getitem__"=cR (O (.builtin g))/\a.TypeIs b c/\aC (aT X.c X.d) X.b (pS b (.ref f)) (e5 X e j d) X.f a
def IC(f:ah->ar Int->ar Int->af->bj->Prop)(n:aY)(j i:o5):aY:=λa b d=>n a b λh c=>j a c λe b=>i a b λg c=>f h e g c d
def lu(t:xk X a)(q:aS X e n)(r:qU X m j)(u:qU X k i):aS X (.Subscript e (.Slice m k aa h) pos) (IC a n j i):=by intro b s c a o d p;refine y' (a3 (q b s c a _ d p) λg B ⟨x,f,l,C,z⟩=>?_);refine wpAny_Slice (a3 (r b B c f _ l z) λd D ⟨w,p,q,y,A⟩=>a3 (u b D c p _ q A) λf a ⟨E,l,r,z,B⟩=>?_);rw[K'];refine bF ?_;have p:ax X b c l {a with heap:=a.heap.push {cls:=.type "slice",data:=.fields #[d,f,.none]}}:=r.w (t':=a.toks) λr u q=>dw _ q;obtain⟨A,D,q,u,r⟩:=t b {a with heap:=a.heap.push {cls:=.type "slice",data:=.fields #[d,f,.none]}} c l x g d f w E a.heap.objs.size o p C (Uq ..) y z B;show aC (aT X.c X.d) X.b (Ab e (.Slice m k aa h) g (.ref a.heap.objs.size)) (e5 X b c o) X.f {a with heap:=a.heap.push {cls:=.type "slice",data:=.fields #[d,f,.none]}};exact tail_any (ops:=[.ref a.heap.objs.size,g]) u q r (by with_unfolding_all rfl)
def f9(a:V ah)(m k:ar Int):V ah:=(a.drop (HT.gp a.length 0 m)).take (HT.gp a.length a.length k -HT.gp a.length 0 m)
def GG(a:V ah)(m k):(f9 a m k).length<=a.length:=by unfold f9;rw[e7,kL];omega
end
def jq(b:Nat)(a:Int):ar Nat:=if 0<=a then(if a<b then O a.toNat else aa)else if-(b:Int)<=a then O (a+b).toNat else aa
def ln{b:Type}(a:V b)(c:Int):ar b:=(jq a.length c).bind λb=>a[b]?
def xQ(a:jq d c=O e):u7 c d=O e/\e<d/\-(d:Int)<=c/\c<d:=by unfold jq at a;by_cases g:0<=c;rw[ay g]at a;by_cases b:c<d;rw[ay b]at a;have f:c.toNat=e:=bA a;exact⟨by rw[AK g b,f],by omega,by omega,b⟩;rw[aw b]at a;cases a;rw[aw g]at a;by_cases b:-(d:Int)<=c;rw[ay b]at a;have f:(c+d).toNat=e:=bA a;exact⟨by rw[AJ (by omega) b,f],by omega,b,by omega⟩;rw[aw b]at a;cases a
def xm{a:V e}(b:ln a c=O d):∃j,u7 c a.length=O j/\a[j]?=O d/\j<a.length/\-(a.length:Int)<=c/\c<a.length:=by
 unfold ln at b;cases d:jq a.length c with
 |none=>rw[d]at b;cases b
 |some j=>rw[d]at b;obtain⟨a,c,e,f⟩:=xQ d;exact⟨j,a,b,c,e,f⟩
def dJ{b:Type}{xs:V b}{j:Nat}{v:b}(a:xs[j]?=O v):ln xs (j:Int)=O v:=by
 have b:j<xs.length:=(bu.mp a).1;have b:jq xs.length (j:Int)=O j:=by unfold jq;rw[ay (by omega),ay (by omega)];simp
 unfold ln;rw[b];exact a
def xn(xs:V b)(a:b):ln (xs++[a]) (-1)=O a:=by
 have c:(xs++[a]).length=xs.length+1:=by simp
 have b:jq (xs++[a]).length (-1)=O xs.length:=by unfold jq;rw[c,aw (by decide),ay (by omega)];congr 1;omega
 unfold ln;rw[b];show(xs++[a])[xs.length]?=O a;simp
def Gv(c:aZ):Prop:=∀b a,u9 c ae b a=AI [b,a] (pS b a)
def tE(a:aK)(j:fq):Prop:=
 ∀k g e f i d x h c b Q,ax a e i d f->br x c->br h b->j x h d Q->
  u9 g ae c b=AI [c,b] (pS c b)->aC (aT a.c a.d) a.b (Ab k g c b) (e5 a e i Q) a.f f
def xi(a:aK)(k:String)(l:ah->V ah->af->bj->Prop):Prop:=
 ∀d e j b h i g f c,ax a d j b e->br h g->bR i f->l h i b c->
  aC (aT a.c a.d) a.b (e' (.builtin k) (g::f)) (e5 a d j c) a.f e
section
variable{X:aK}{a b:aZ}{n tb:aY}{pos:bL}
def dL(j:tE X c)(h:aS X a n)(i:aS X b tb)(k:Gv b):aS X (.Subscript a b pos) (po c n tb):=by intro l s u c f d g;exact y' (tL h i d g λv r q x t c e o p m=>j a b l q u c x t v r f e o p m (k _ _))
def HS(h:aR):fq:=λx i c Q=>∃e g d f,x=.b e/\i=.a d/\dU h c e g/\ln g d=O f/\Q f c
def HU(h:aR):fq:=λx i c Q=>∃e g d f,x=.b e/\i=.a d/\kA h c e g/\ln g d=O f/\Q f c
def ew:tE X (HS X.e):=by
 intro h b l t m i x k f d Q c e g a j;obtain⟨h,k,d,u,rfl,rfl,b,f,r⟩:=a;cases e;obtain⟨a,rfl⟩:=g;obtain⟨q,a,e,g⟩:=c.g b;obtain⟨k,b,h,g,n,o⟩:=xm f;obtain⟨f,g,s⟩:=a.b h;have p:=a.a;have h:=q2;have h:e5 X l m Q f t:=⟨u,i,c,s,r⟩;by_cases i:0<=d;have c:d.toNat=k:=by rw[AK i o]at b;exact bA b
 exact item_listR e.isList i (by omega) (by rw[c];simpa using g) h j;have c:(d+(q.toArray.size:Int)).toNat=k:=by rw[AJ (by omega) n]at b;rw[e8,<-p];exact bA b
 exact J7 (x:=f) e.isList.typeIs Li.lookup
  (wpAny_getItem_list_neg (Q:=λa b=>a=f/\e5 X l m Q a b) e.isList (by omega) (by rw[e8]<;>omega) (by omega) (by rw[c];simpa using g) ⟨I,h⟩) j
def mr:tE X (HU X.e):=by
 intro k b d s f g x l v h Q c e i a m;obtain⟨l,xs,k,p,rfl,rfl,h,b,n⟩:=a;cases e;obtain⟨t,rfl⟩:=i;obtain⟨k,a,e,i⟩:=c.C h;obtain⟨j,k,i,h,l,o⟩:=xm b;obtain⟨b,h,o⟩:=a.b i;have l:=a.a;have i:=q2;have i:e5 X d f Q b s:=⟨p,g,c,o,n⟩;exact J7 (x:=b) e.typeIs slot_tuple_getitem.lookup
  (getItem_tuple (j:=j) (Q:=λa c=>a=b/\e5 X d f Q a c) e (by omega) (by omega) (by rw[e8,<-l];exact k) (by simpa using h) ⟨I,i⟩) m
def Hg(a:V ag)(c b)(d):lI (·.setIfInBounds b d) {cls:=.type "list",data:=.seq a.toArray c}={cls:=.type "list",data:=.seq (a.set b d).toArray c}:=by simp[lI]
def ax.zq{s:ao}{p:V ah}(u:ax X i H c s)(x:c m=O (.a p)):
  ∃(c:V ag)(i:Nat),bR p c/\s.heap.get? m=O {cls:=.type "list",data:=.seq c.toArray i}/\p.length<=aH:=by
 obtain⟨H,c,i,s,p⟩:=u.a m _ x;exact⟨c,i,s,p,H⟩
def ax.zr{i:ao}{zy H:V ah}{zz p:V ag}(zD:ax X zB zC s i)(zE:s c=O (.a zy))
  (zF:i.heap.get? c=O {cls:=.type "list",data:=.seq zz.toArray zA}) (zy:m {cls:=.type "list",data:=.seq zz.toArray zA}={cls:=.type "list",data:=.seq p.toArray u}) (zA:bR H p) (zz:H.length<=aH) (zG):
  ax X zB zC (al s c (.a H)) {i with heap:=i.heap.update c m,toks:=zG}:=by
 have e:(i.heap.update c m).get? c=O {cls:=.type "list",data:=.seq p.toArray u}:=by rw[pI m zF (by rw[zy]<;>rfl),zy]
 exact zD.E (x:=c) (e:=c) (by rw[zE];trivial) (.inl I) (λb m c i=>(mS _ _ (df c)).trans i) ⟨_,e⟩ ⟨zz,p,u,zA,e⟩
def HY:ah->ah->ah->af->(af->Prop)->Prop:=λj i k e h=>∃c d g f,j=.b c/\i=.a g/\e c=O (.a d)/\jq d.length g=O f/\h (al e c (.a (d.set f k)))
def ua:xj X HY:=by
 intro u d z r j e x k g q b h i f w c;obtain⟨n,y,g,b,rfl,rfl,l,e,o⟩:=c;cases i;obtain⟨c,rfl⟩:=f;obtain⟨m,t,p,f,s⟩:=h.zq l;obtain⟨c,i,j,k⟩:=xQ e;have e:=p.a;have i:=q2;have i:ax X u z (al r n (.a (y.set b x))) {d with heap:=d.heap.update n (lI (·.setIfInBounds b q))}:=
  h.zr l f (Hg m t b q) (p.k w b) (by rw[j'];exact s) d.toks
 by_cases h:0<=g;have d:g.toNat=b:=by rw[AK h k]at c;exact bA c
 exact PySem.W.ki_setAt f h (by omega) (by rw[e8,<-e];exact k) (by rw[d];exact⟨_,i,o⟩);have d:(g+(m.toArray.size:Int)).toNat=b:=by rw[AJ (by omega) j]at c;rw[e8,<-e];exact bA c
 exact PySem.W.ki_setBack f (by omega) (by rw[e8,<-e];exact j) (by omega) (by rw[d];exact⟨_,i,o⟩)
def Ic(c b)(a):(oi c b aa a).1=((HT.gp a 0 c:Nat):Int)/\(oi c b aa a).2.1=((HT.gp a a b:Nat):Int)/\(oi c b aa a).2.2=1:=by
 refine⟨?_,?_,I⟩;cases c with|none=>simp[oi,HT.gp]|some c=>simp only[oi,HT.gp,JX,show(1:Int)>0 by decide,if_true];by_cases a:c<0;simp only[a,if_true]<;>omega;simp only[a,if_false]<;>omega
 cases b with|none=>simp[oi,HT.gp]|some c=>simp only[oi,HT.gp,JX,show(1:Int)>0 by decide,if_true];by_cases a:c<0;simp only[a,if_true]<;>omega;simp only[a,if_false]<;>omega
def Ib(a:V ag)(b c):slicePick a.toArray b c aa=((a.drop (HT.gp a.length 0 b)).take (HT.gp a.length a.length c -HT.gp a.length 0 b)).toArray:=by obtain⟨d,e,f⟩:=Ic b c a.toArray.size;unfold slicePick;rw[d,e,f];simp only[sliceRange_one,pick_run,e8]<;>rfl
def HZ(f:aR):ah->ar Int->ar Int->af->bj->Prop:=λj i h c g=>∃a e,j=.b a/\dU f c a e/\∀d,c d=aa->g (.b d) (al c d (.a (f9 e i h)))
def lw:xk X (HZ X.e):=by intro k s u f x q r t c e p i d h j m n g;obtain⟨a,xs,rfl,i,f⟩:=g;cases h;obtain⟨p,h,g,k⟩:=d.g i;have i:=h.a;refine⟨"list",_,Li.lookup,g.isList.typeIs,?_⟩;refine wpAny_getItem_list_slice g.isList j m n .none (by simp) ?_ (by rw[e8]<;>omega);rw[Ib,<-i];refine⟨.b s.heap.objs.size,_,d.y (t':=s.toks) (o:=.a (f9 xs c e)) (λb g f=>dw _ f) (bp _) ?_,I,f _ (d.a.b (bp _))⟩;exact⟨cu (GG xs c e) k,_,0,(h.h (HT.gp xs.length 0 c)).l (HT.gp xs.length xs.length e -HT.gp xs.length 0 c),eo _ I⟩
def h6:ah->Bool
 |.c=>ab
 |.d _=>ab
 |.a _=>ab
 |.e _=>ab
 |_=>ae
noncomputable def gv:ah->ah->Bool
 |.c,.c=>ab
 |.d a,.d b=>a==b
 |.d a,.a b=>(if a then 1 else 0)==b
 |.a a,.d b=>a==(if b then 1 else 0)
 |.a a,.a b=>a==b
 |.e a,.e b=>a==b
 |_,_=>ae
def GP(k:br g h)(f:br i l)(o:h6 g=ab)(j:h6 i=ab):Al m p h l (gv g i):=by
 cases g with
 |c=>
  cases k;cases i with
  |c=>cases f;exact KJ _
  |d b=>cases f;exact UB b
  |a b=>obtain⟨g,rfl⟩:=f;exact KH b g
  |e b=>obtain⟨g,rfl⟩:=f;exact KI b g
  |_=>exact a7 (show ae=ab from j) ed
 |d a=>
  cases k;cases i with
  |c=>cases f;exact Uy a
  |d b=>cases f;exact Uw a b
  |a b=>obtain⟨g,rfl⟩:=f;exact Ux a b g
  |e b=>obtain⟨g,rfl⟩:=f;exact Uz a b g
  |_=>exact a7 (show ae=ab from j) ed
 |a a=>
  obtain⟨h,rfl⟩:=k;cases i with
  |c=>cases f;exact KE a h
  |d b=>cases f;exact UA a h b
  |a b=>obtain⟨g,rfl⟩:=f;exact KD a h b g
  |e b=>obtain⟨g,rfl⟩:=f;exact KG a h b g
  |_=>exact a7 (show ae=ab from j) ed
 |e a=>
  obtain⟨h,rfl⟩:=k;cases i with
  |c=>cases f;exact KN a h
  |d b=>cases f;exact UC a h b
  |a b=>obtain⟨g,rfl⟩:=f;exact KL a h b g
  |e b=>obtain⟨g,rfl⟩:=f;exact UD a h b g
  |_=>exact a7 (show ae=ab from j) ed
 |_=>exact a7 (show ae=ab from o) ed
def gF(f:ah)(g:ag):Bool:=match g with|.none=>gv .c f|.bool b=>gv (.d b) f|.int g _=>gv (.a g) f|.str g _=>gv (.e g) f|_=>ae
def q0(f:br g h)(j:h6 g=ab):gF i h=gv g i:=by
 cases g with
 |c=>cases f;rfl
 |d b=>cases f;rfl
 |a g=>obtain⟨g,rfl⟩:=f;rfl
 |e h=>obtain⟨g,rfl⟩:=f;rfl
 |_=>exact a7 (show ae=ab from j) ed
theorem o7:∀{c:V ah}{e:V ag},bR c e->c.all h6=ab->e.any (gF d)=c.any λf=>gv f d
 |_,_,.nil,_=>I
 |f::c,i::e,.cons g h,d=>by rw[rt,fe]at d;rw[nN,nN,q0 g d.1,o7 h d.2]
theorem nE(j:br c d)(h:h6 c=ab):∀{g:V ah}{f:V ag},bR g f->g.all h6=ab->∀e∈f,Al i k e d (gF c e)
 |_,_,.nil,_=>λe c=>by cases c
 |l::g,e::f,.cons i k,d=>λe c=>by rw[rt,fe]at d;rcases bW.mp c with rfl|c;rw[q0 i d.1];exact GP i j d.1 h;exact nE j h k d.2 e c
def iK(a:ah)(xs:V ah):Bool:=xs.any λb=>gv b a
def rd(g:aR)(i:Bool):fq:=λf j c h=>∃e a,j=.b e/\(dU g c e a\/kA g c e a)/\h6 f=ab/\a.all h6=ab/\h (.d (if i then !iK f a else iK f a)) c
def Hr:d4 X (eL .In) (rd X.e ae):=by intro g h m k a l j i b f n e c;obtain⟨h,i,rfl,b,l,g,m⟩:=c;cases e;rcases b with b|b;obtain⟨c,e,i,o⟩:=f.g b;refine SeqAt.in_listAt (gF a) i.isList (λj h=>nE n l e g j (by simpa using h)) ⟨.d _,k,f,I,?_⟩;rw[show c.toArray.any (gF a)=c.any (gF a) by simp,o7 e g];exact m;obtain⟨c,e,i,o⟩:=f.C b;refine SeqAt.in_tupleAt (gF a) i (λj h=>nE n l e g j (by simpa using h)) ⟨.d _,k,f,I,?_⟩;rw[show c.toArray.any (gF a)=c.any (gF a) by simp,o7 e g];exact m
def Ht:d4 X (eL .NotIn) (rd X.e ab):=by intro g h m k a l j i b f n e c;obtain⟨h,i,rfl,b,l,g,m⟩:=c;cases e;rcases b with b|b;obtain⟨c,e,i,o⟩:=f.g b;refine SeqAt.notIn_listAt (gF a) i.isList (λj h=>nE n l e g j (by simpa using h)) ⟨.d _,k,f,I,?_⟩;rw[show c.toArray.any (gF a)=c.any (gF a) by simp,o7 e g];exact m;obtain⟨c,e,i,o⟩:=f.C b;refine SeqAt.notIn_tupleAt (gF a) i (λj h=>nE n l e g j (by simpa using h)) ⟨.d _,k,f,I,?_⟩;rw[show c.toArray.any (gF a)=c.any (gF a) by simp,o7 e g];exact m
def GA:g3 X (.builtin "len") (λh c e=>∃g d,h=[.b g]/\(dU X.e c g d\/kA X.e c g d)/\e (.a d.length) c):=by intro j k n c h m e f l i;obtain⟨g,d,rfl,e,j⟩:=i;obtain⟨h,rfl,g⟩:=nM l;cases g;have g:=q2;rcases e with e|e;obtain⟨m,i,h,l⟩:=f.g e;have g:=i.a;exact Calls.call_len_list h.isList (by simp only[e8]<;>omega) ⟨.a d.length,c,f.e _,⟨k.toks+1,by rw[e8,g]⟩,j⟩;obtain⟨m,i,h,l⟩:=f.C e;have g:=i.a;exact len_tuple h (by simp only[e8]<;>omega) ⟨.a d.length,c,f.e _,⟨k.toks+1,by rw[e8,g]⟩,j⟩
def tM:g3 X (.type "list") (λxs c f=>∃h g,xs=[.b h]/\(dU X.e c h g\/kA X.e c h g)/\∀d,c d=aa->f (.b d) (al c d (.a g))):=by
 intro l i m c xs j f n e d;obtain⟨h,g,rfl,k,p⟩:=d;obtain⟨d,rfl,c⟩:=nM e;cases c;have r:∀(d:V ag),bR g d->g.length<=aH->∀(c:be) e,(∀b j,i.heap.get? b=O j->c.get? b=O j)->
   c.get? i.heap.objs.size=O {cls:=.type "list",dict:=aa,data:=.seq d.toArray e,slots:=#[]}->e5 X l m f (.ref i.heap.objs.size) {i with heap:=c}:=λd f l c e m j=>
  ⟨.b i.heap.objs.size,_,n.y (t':=i.toks) m (bp _) (show d_ X.c X.d _ c _ (.a g)from⟨l,d,e,f,j⟩),I,p _ (n.a.b (bp _))⟩
 rcases k with k|k;obtain⟨d,f,q,l⟩:=n.g k;have s:=f.a;obtain⟨o,p,g,t,i⟩:=q.isList;exact K9 h (.inl I) p g i (λc e m j=>r d f l c e m j) (by simp only[e8]<;>omega);obtain⟨d,f,q,l⟩:=n.C k;have s:=f.a;obtain⟨o,p,g,t,i⟩:=q;exact K9 h (.inr I) p g i (λc e m j=>r d f l c e m j) (by simp only[e8]<;>omega)
def yt(i:aR)(c:String)(d:ah)(f:af):Prop:=match d with
 |.e _=>c="str"
 |.a _=>c="int"
 |.b d=>(c="list"/\∃j,dU i f d j)\/(c="tuple"/\∃g,i.lookup d=O g/\g.cls=.type "tuple"/\g.dict=aa)\/
   (c="dict"/\((∃g,f d=O (.b g))\/∃g,f d=O (.h g)))\/(c="set"/\∃i j,f d=O (.k i j))
 |_=>False
def IM{g:ao}(h:ax X l m k g)(f:br i c)(j:yt X.e d i k):
  g.TypeIs c d/\∀a,c=.ref a->∃k,g.heap.get? a=O k/\k.dict=aa:=by
 cases i with
 |e l=>obtain⟨i,rfl⟩:=f;cases(show d="str" from j);exact⟨typeIs_str g l i,λ_ c=>nomatch c⟩
 |a k=>obtain⟨i,rfl⟩:=f;cases(show d="int" from j);exact⟨typeIs_int g k i,λ_ c=>nomatch c⟩
 |b i=>
  cases f;rcases j with⟨rfl,r,p⟩|⟨rfl,d,f,o,k⟩|⟨rfl,f⟩|⟨rfl,m,q,f⟩;obtain⟨r,_,m,_⟩:=h.g p;refine⟨m.isList.typeIs,λa c=>?_⟩;cases c;obtain⟨d,q,c,p,k,_⟩:=m;exact⟨d,c,k⟩;refine⟨⟨d,h.h i d f,o⟩,λa c=>?_⟩;cases c;exact⟨d,h.h _ d f,k⟩;have l:∃d,g.heap.get? i=O d/\d.ExactDict:=by rcases f with⟨g,f⟩|⟨g,f⟩;obtain⟨_,_,_,_,d,_,_,c,g,_⟩:=h.a i _ f;exact⟨d,c,g⟩;obtain⟨_,_,_,_,d,_,_,c,g,_⟩:=h.a i _ f;exact⟨d,c,g⟩
  obtain⟨d,c,g⟩:=l;refine⟨⟨d,c,g.1⟩,λa k=>?_⟩;cases k;exact⟨d,c,g.2.1⟩;obtain⟨d,_,_,_,c,g,_⟩:=h.a i _ f;refine⟨⟨d,c,g.1⟩,λa k=>?_⟩;cases k;exact⟨d,c,g.2.1⟩
 |_=>exact eW j
def Ii(e:aR)(g:String)(h:ah->V ah->af->bj->Prop)(j:aY)(i:el):aY:=λc d f=>j c d λb a=>yt e g b a/\i c a λj d=>h b j d f
variable{o e:aZ}{m:V aZ}{k:aY}{t:el}{name:ac}{j i:bL}{T id:String}{r:ah->V ah->af->bj->Prop}
def eY(D:PlainAttrs T)(G:Slot T name id)(C:typeOf (.builtin id)=cR (.type "method_descriptor"))(y:xi X id r)(z:aS X o k)(p:fR X (e::m) t)
  (q:lN o name X.a (bB o X.a)=bB o X.a:=by rfl)
  (u:((d5 i (bX (e::m) X.a)).all (λx=>!x.1)&&(gM i (gN [] X.a)).all (λx=>x.1.isSome)&&aq ((e::m).length+([]:V mT).length+(if([]:V mT).isEmpty then 0 else 1)<30))=ab:=by rfl)
  (w:(j.endLine==i.line)=ab:=by rfl) (B:bX (e::m) X.a=(ae,bB e X.a)::bX m X.a:=by rfl) (A:(d5 i (bX m X.a)).any (·.1)=ae:=by rfl):
  aS X (.Call (.Attribute o name j) (e::m) [] i) (Ii X.e T r k t):=by
 intro a s b d l h n;refine wpAny_Call_method_late q u w I (a3 (z a s b d _ h n) λv F ⟨x,g,c,f,H,E⟩=>?_);obtain⟨d,h⟩:=IM c f H;refine⟨T,id,D,G,C,d,h,?_⟩;have d:=p i a F b g _ c E;rw[B]at d⊢;refine uF (by show(ae||(d5 i (bX m X.a)).any (·.1))=ae;rw[A]<;>rfl) (uG ?_);exact a3 d λq p ⟨u,c,g,n,h⟩=>y a p b c x u v q l g f n h
end
def tG(a:aK)(k:String)(l:ah->V ah->af->bj->Prop):Prop:=
 ∀d e j b h i g f c,ax a d j b e->br h g->bR i f->l h i b c->
  aC (aT a.c a.d) a.b (e' (.builtin k) (g::f)) (e5 a d j c) a.f e
def bR.f:∀{o:ah}{n:V ag},bR [o] n->∃m,n=[m]/\br o m
 |_,_,.cons m .nil=>⟨_,I,m⟩
theorem bR.i:∀{o:V ah}{n:V ag}(m:Nat),bR o n->bR (o.eraseIdx m) (n.eraseIdx m)
 |_,_,_,.nil=>.nil
 |_,_,0,.cons _ n=>n
 |_,_,m+1,.cons o n=>.cons o (bR.i m n)
theorem xU:∀(b:V c) a,(b.eraseIdx a).length<=b.length
 |[],_=>bp _
 |_::_,0=>mM _
 |_::b,a+1=>JS (xU b a)
section
variable{X:aK}{pins:V (Y×aF)}{σ:aQ}{H:af}{s:ao}{l b:Y}{xs ys n:V ah}
def ax.zi{i its':V ag}(m:ax X pins σ H s)(p:H l=O (.a xs))
  (e:s.heap.get? l=O {cls:=.type "list",data:=.seq i.toArray zA}) (u:c i.toArray=its'.toArray) (zy:bR ys its') (zz:ys.length<=aH):
  ax X pins σ (al H l (.a ys)) {s with heap:=s.heap.update l (lI c),toks:=zB}:=by
 have i:=Ur e c;rw[u]at i;exact m.E (x:=l) (e:=l) (by rw[p];exact trivial) (.inl I) (λu zA m p=>(mS s.heap (lI c) (df m)).trans p) ⟨_,i⟩ ⟨zz,its',_,zy,i⟩
def ax.zo{c:V ag}{t':Nat}(i:ax X pins σ H s)(m:bR ys c)(p:ys.length<=aH):
  ax X pins σ (al H s.heap.objs.size (.a ys)) {s with heap:=s.heap.push {cls:=.type "list",data:=.seq c.toArray},toks:=t'}:=
 i.y (λ_ _ u=>dw _ u) (bp _) ⟨p,c,0,m,eo _ I⟩
def ax.zn(c:ax X pins σ H s):H s.heap.objs.size=aa:=c.a.b (bp _)
def ax.J(p:ax X pins σ H s)(x:H l=O (.a xs)):xs.length<=aH/\∃(c:V ag)(i:Nat),bR xs c/\xs.length=c.length/\s.heap.get? l=O {cls:=.type "list",data:=.seq c.toArray i}:=by obtain⟨zy,c,i,m,u⟩:=p.a l _ x;exact⟨zy,c,i,m,m.a,u⟩
def Hn(c:a<=aH):Ad a=ae:=by unfold Ad;exact da (by omega)
end
section
variable{X:aK}
def HN:ah->V ah->af->bj->Prop:=λj i f h=>∃d e g,j=.b d/\i=[g]/\f d=O (.a e)/\e.length<aH/\h .c (al f d (.a (e++[g])))
def gG:tG X "list.append" HN:=by intro h s k d x j v i g b f e a;obtain⟨g,xs,j,rfl,rfl,d,h,i⟩:=a;cases f;obtain⟨f,rfl,j⟩:=e.f;obtain⟨l,e,h,r,k,a⟩:=b.J d;refine uY gL ⟨_,a,I⟩ F.entry_list_append (F.args_list_append_2 _ _) (PySem.list_append g e.toArray h f (by rw[e8];omega)) ⟨a,?_⟩;refine⟨.c,_,b.zi (its':=e++[f]) d a (by simp) (r.c (.cons j .nil)) ?_,I,i⟩;rw[bH,List.length_singleton];omega
def HQ:ah->V ah->af->bj->Prop:=λk j d i=>∃e h f g,k=.b e/\j=[.b h]/\d e=O (.a f)/\d h=O (.a g)/\f.length+g.length<=aH/\i .c (al d e (.a (f++g)))
def mw:tG X "list.extend" HQ:=by
 intro h i n f m l k j g d e b a;obtain⟨k,g,xs,j,rfl,rfl,f,i,h,n⟩:=a;cases e;obtain⟨e,rfl,a⟩:=b.f;cases a;obtain⟨h,a,l,o,b,e⟩:=d.J f;obtain⟨q,b,m,p,j,h⟩:=d.J i;have j:a.toArray.size+b.toArray.size<=aH:=by rw[e8,e8];omega
 have i:¬(!a.toArray.isEmpty&&Ad (a.toArray.size+b.toArray.size))=ab:=by rw[Hn j,ku];exact ed
 refine uY mQ ⟨_,e,I⟩ F.entry_list_extend (F.args_list_extend_2 _ _)
  (TV k a.toArray l g b.toArray m i (by rw[e8];omega) (by omega)) ⟨e,h,?_⟩
 refine⟨.c,_,d.zi (its':=a++b) f e (by simp) (o.c p) ?_,I,n⟩;rw[bH];omega
def HX:ah->V ah->af->bj->Prop:=λk j g i=>∃f d c e h,k=.b f/\j=[.a c]/\g f=O (.a d)/\-(2^63)<=c/\c<2^63/\u7 c d.length=O e/\d[e]?=O h/\i h (al g f (.a (d.eraseIdx e)))
def Hk:tG X "list.pop" HX:=by
 intro g h m a l k j i e d f c b;obtain⟨n,t,m,a,u,rfl,rfl,e,g,h,i,l,p⟩:=b;cases f;obtain⟨f,rfl,b⟩:=c.f;obtain⟨r,rfl⟩:=b;obtain⟨k,b,o,f,j,c⟩:=d.J e;obtain⟨s,k,q⟩:=f.b l;refine uY Ku ⟨_,c,I⟩ F.entry_list_pop (F.args_list_pop_2 _ _)
  (Us n b.toArray o m r a s (fitsIndex_both g h) (by rw[e8,<-j];exact i) (by rw[<-sV];exact k) (by rw[e8];omega)) ⟨c,?_⟩
 refine⟨u,_,d.zi (its':=b.eraseIdx a) e c ?_ (f.i a) ?_,q,p⟩;show b.toArray.eraseIdxIfInBounds a=(b.eraseIdx a).toArray;rw[List.eraseIdxIfInBounds_toArray];have:=xU t a;omega
def HO:fq:=λj k c i=>∃h g e f,j=.b h/\k=.b g/\c h=O (.a e)/\c g=O (.a f)/\e.length+f.length<=aH/\∀d,c d=aa->i (.b d) (al c d (.a (e++f)))
def h7:d4 X (oe .Add) HO:=by
 intro h j o d m n k i g a e f c;obtain⟨l,i,xs,m,rfl,rfl,d,g,k,h⟩:=c;cases e;cases f;obtain⟨z,c,i,r,f,e⟩:=a.J d;obtain⟨n,d,m,i,k,f⟩:=a.J g;refine PySem.P.add_list e f ?_ (by rw[e8,e8];omega);have e:c.toArray++d.toArray=(c++d).toArray:=by simp
 rw[e];exact⟨.b _,_,a.zo (t':=j.toks) (r.c i) (by rw[bH];omega),I,h _ a.zn⟩
end
section
variable{prog:bd}{w:aO}{A:bK}{E:ag->ao->Prop}{s:ao}
end
section
variable{X:aK}
end
theorem bR.d:∀{o:V Int}{n:V ag},bR (o.map ah.a) n->il n o
 |[],n,m=>by rw[nQ]at m;cases m;exact IntsAre.nil
 |p::o,n,m=>by
  rw[b1]at m;cases m with|cons m n=>obtain⟨k,rfl⟩:=m;exact IntsAre.cons p k (bR.d n)
theorem ud:∀{b:V ag}{a:V Int},il b a->bR (a.map ah.a) b
 |_,_,.nil=>by rw[nQ];exact Paired.nil
 |_,_,.cons a b c=>by rw[b1];exact Paired.cons (show br (ah.a a) (kS a b)from⟨b,I⟩) (ud c)
theorem bR.g:∀{o:V Bool}{n:V ag},bR (o.map ah.d) n->n=o.map n_
 |[],n,m=>by
  rw[nQ]at m;cases m
  rfl
 |p::o,n,m=>by
  rw[b1]at m;cases m with|cons m n=>cases m;rw[bR.g n,b1]
def bR.e(m:bR [ah.b n] o):o=[b9 n]:=by
 cases m with
 |cons m n=>
  cases n;cases m
  rfl
section
variable{prog:bd}{w:aO}{A:bK}{E:ag->ao->Prop}{s:ao}{l:Y}{n:V ag}{ns:V Int}{Q:ag->ao->Prop}
def If(i:A.handled=aa)(f:s.heap.IsList l n.toArray)(e:il n ns)
  (h:∀a c b,(∀d g,s.heap.get? d=O g->a.get? d=O g)->Q (.int ns.sum b) {s with heap:=a,toks:=c}):aC (aT prog w) A (e' (.builtin "sum") [.ref l]) Q E s:=by
 obtain⟨j,d⟩:=e.allInts.items;have g:numsOf (intItems j).toList=ns:=by rw[<-d];exact e.numsOf
 rw[Le]at g;rw[d]at f;refine PySem.sum_intListG i f λa c b d=>?_;have:=h a c b d;rw[preSum_eq,mL (by simp),g];exact this
def Hh(j:A.handled=aa)(g:s.heap.IsList l n.toArray)(f:il n ns)(k:0<ns.length)
  (i:∀a d b m,(∀e h,s.heap.get? e=O h->a.get? e=O h)->b∈ns->(∀c,c∈ns->b<=c)->Q (.int b m) {s with heap:=a,toks:=d}):aC (aT prog w) A (e' (.builtin "min") [.ref l]) Q E s:=by
 obtain⟨b,e⟩:=f.allInts.items;have h:numsOf (intItems b).toList=ns:=by rw[<-e];exact f.numsOf
 rw[Le]at h;subst h;rw[e]at g;have e:0<b.size:=by simpa using k
 refine PySem.min_intList j g e λk a d h f=>?_;obtain⟨g,rfl⟩:=intItems_at h;obtain⟨h,e⟩:=argBest_lt (numAt b) (b.size -1);refine i a d _ g f ?_ λc b=>?_;rw[numAt_eq];exact PySem.getD_mem (by rw[an,oQ];omega);obtain⟨c,a,rfl⟩:=mem_getD b;rw[an,oQ]at a;rw[<-numAt_eq];exact e c (by omega)
end
section
variable{X:aK}
def H4(e:aR):V ah->af->bj->Prop:=λg b f=>∃(c:Y)(d:V Int),g=[ah.b c]/\dU e b c (d.map ah.a)/\f (.a d.sum) b
def HV(g:aR):V ah->af->bj->Prop:=λi d h=>∃(e:Y)(b:V Int),i=[ah.b e]/\dU g d e (b.map ah.a)/\0<b.length/\∀c,c∈b->(∀f,f∈b->c<=f)->h (.a c) d
def qY(e:X.k=ab):g3 X (.builtin "sum") (H4 X.e):=by intro g h l c k j f b i d;obtain⟨f,j,rfl,g,h⟩:=d;obtain⟨d,j,f,_⟩:=b.g g;rw[bR.e i];exact If (b.b.a e) f.isList j.d λg k i d=>⟨.a _,c,b.w d,⟨_,I⟩,h⟩
def GD(f:X.k=ab):g3 X (.builtin "min") (HV X.e):=by intro h i l c k j e b g d;obtain⟨h,j,rfl,e,i,k⟩:=d;obtain⟨d,l,h,_⟩:=b.g e;rw[bR.e g];exact Hh (b.b.a f) h.isList l.d i λm o j n g d e=>⟨.a _,c,b.w g,⟨_,I⟩,k j d e⟩
def H3(f:aR):V ah->af->bj->Prop:=λh c g=>∃(e:Y)(d:V Int),h=[ah.b e]/\dU f c e (d.map ah.a)/\d.length<64/\
 ∀(e:V Int) f,e.Perm d->e.Pairwise (·<=·)->c f=aa->g (.b f) (al c f (.a (e.map ah.a)))
def Ie(b:a<64):a<=aH:=by rw[bn];omega
def GF:g3 X (.builtin "sorted") (H3 X.e):=by
 intro g e l i k h f c j d;obtain⟨f,k,rfl,h,g,o⟩:=d;obtain⟨n,k,f,_⟩:=c.g h;rw[bR.e j];have d:=k.d;refine TU f.isList d (by rw[d.length];exact g) λh d k f l=>?_;obtain⟨j,m⟩:=TR e.heap n h;have n:(d.map ah.a).length<=aH:=by rw[an,f.length_eq];exact Ie g
 exact⟨.b _,al i (e.heap.objs.size+1) (.a (d.map ah.a)),c.y (t':=e.toks) (λ_ _=>TS) (mM _) ⟨n,h.toList,j,ud k,m⟩,I,o d _ f l (c.a.b (mM _))⟩
end
section
variable{X:aK}
def HR(h:aR):ah->V ah->af->bj->Prop:=λj k e i=>∃(f:Y)(c:V ah)(b:ah)(d:Nat)(g:ah),j=ah.b f/\k=[b]/\dU h e f c/\h6 b=ab/\c.all h6=ab/\c[d]?=O g/\gv g b=ab/\
 (∀f g,f<d->c[f]?=O g->gv g b=ae)/\i (.a (d:Nat)) e
def xH{b:V ah}(c:b.all h6=ab){e:Nat}{a:ah}(d:b[e]?=O a):h6 a=ab:=hE.mp c a (a1 d)
def Hj:xi X "list.index" (HR X.e):=by
 intro zk zl zs o zp zq zo zm zc j N P s;obtain⟨p,i,zb,d,zr,rfl,rfl,C,r,g,n,G,B,J⟩:=s;cases N;cases P with
 |cons Q K=>
  rename_i za zn;cases K;obtain⟨c,e,⟨⟨zd,q,ze,R⟩,H,m,k,zf,l⟩,zg⟩:=j.g C;simp only at k l;subst k l;obtain⟨S,D,L⟩:=e.b n;obtain⟨w,u⟩:=bu.mp D;have zj:=e.a;have t:d<c.toArray.size:=by simpa using w
  have zi:=bn;refine uY Kt ⟨_,m,I⟩ PySem.F.entry_list_index (PySem.F.args_list_index_2 _ _)
   (SeqAt.list_indexAt p c.toArray H q R za (gF zb) d t (by omega) ?_ ?_) ⟨m,λT E=>nE Q r e g T (by simpa using E),?_⟩
  have f:c.toArray[d]=S:=by simpa using u
  rw[f,q0 L (xH g n)];exact G;intro b x z;have zh:b<c.length:=by simpa using x
  have A:b<i.length:=by omega
  have h:i[b]?=O i[b]:=eM A;obtain⟨U,F,M⟩:=e.b h;obtain⟨_,y⟩:=bu.mp F;have f:c.toArray[b]=U:=by simpa using y
  rw[f,q0 M (xH g h)];exact B b _ z h;exact⟨.a (d:Nat),o,j.e _,⟨_,I⟩,J⟩
end
section
variable{X:aK}
end
def G7{A:bK}{a:ao}(d:a.heap.IsList b f)
  (h:∀c:ao,c={a with heap:=a.heap.push {cls:=.type "list_iterator",data:=.fields #[.ref b,.int 0 0]}}->(c.heap.IsListIter a.heap.objs.size b 0/\c.heap.IsList b f)->b≠a.heap.objs.size->e (.ref a.heap.objs.size) c):aC (aT i j) A (pV (.ref b)) e g a:=by
 have c:b<a.heap.objs.size:=by obtain⟨_,a,_⟩:=d;exact cB a
 exact p0 d (h _ I ⟨⟨_,eo _ I,I,I⟩,d.push _⟩ (eA c))
def IF{A:bK}{b:V Bool}{c:V ag}(g:c=b.map n_):
  TruthOf e f A (λa d=>c.toArray[a]?=O d) (λa=>b.getD a ae):=λa d j f e i h=>by
 have e:c[a]?=O d:=by simpa using i
 rw[g,bw]at e;obtain⟨c,d,rfl⟩:=y8.mp e;have e:b.getD a ae=c:=by rw[pw,d]<;>rfl
 have c:f (b.getD a ae) j:=h;rw[e]at c;exact kW c
theorem xl:∀a:V Bool,(ij a.length).all (λb=>a.getD b ae)=a.all id
 |[]=>I
 |b::a=>by rw[cz,List.range_succ_eq_map,rt,yK,rt,<-xl a];all_goals rfl
section
variable{X:aK}
def HM(e:aR):V ah->af->bj->Prop:=λg a f=>∃(b:Y)(c:V Bool),g=[ah.b b]/\dU e a b (c.map ah.d)/\f (.d (c.all id)) a
def xz(g:X.k=ab):g3 X (.builtin "all") (HM X.e):=by intro f h l e k j b a i c;obtain⟨b,h,rfl,f,k⟩:=c;obtain⟨j,l,h,_⟩:=a.g f;rw[bR.e i];have c:=l.g;refine call_all_walk (G7 h.isList λm f l i=>?_);subst f;refine⟨_,_,_,_,_,_,_,I,Walks.list (A:=X.b.in1) (a.b.a g) _ b i j.toArray,l,IF c,λf m h=>?_⟩;refine⟨.d _,e,a.w λf g b=>h f g (λa=>?_) (dw _ b),?_,k⟩;rcases bW.mp a with e|a;exact a7 (e▸cB b) (fV _);cases a;show n_ _=n_ _;rw[<-xl,c,e8,an]
end
mutual
inductive fG(K:aR)(H:af):ah->jD->Prop
 |f:fG K H .c .none
 |e (b:Bool):fG K H (.d b) (.bool b)
 |b (i:Int):fG K H (.a i) (.int i)
 |h (x:ac):fG K H (.e x) (.str x)
 |c {a:Y} {xs:V ah} {ds:V jD}:dU K H a xs->lj K H xs ds->fG K H (.b a) (.list ds)
 |d {a:Y} {xs:V ah} {ds:V jD}:kA K H a xs->lj K H xs ds->fG K H (.b a) (.tuple ds)
inductive lj(K:aR)(H:af):V ah->V jD->Prop
 |b:lj K H [] []
 |a {v:ah} {vs:V ah} {d:jD} {ds:V jD}:fG K H v d->lj K H vs ds->lj K H (v::vs) (d::ds)
end
section
variable{X:aK}{pins:V (Y×aF)}{σ:aQ}{H:af}{s:ao}
mutual
theorem fG.a(k:ax X pins σ H s):∀i m j,fG X.e H m i->br m j->∃l,Reads s.heap j i l
 |.none,_,_,i,j=>by cases i;cases j;exact⟨_,Reads.none⟩
 |.bool m,_,_,i,j=>by cases i;cases j;exact⟨_,Reads.bool m⟩
 |.int n,_,_,i,j=>by cases i;obtain⟨m,rfl⟩:=j;exact⟨_,Reads.int n m⟩
 |.str n,_,_,i,j=>by cases i;obtain⟨m,rfl⟩:=j;exact⟨_,Reads.str n m⟩
 |.list m,_,_,i,j=>by
  cases i with|c t n=>cases j;obtain⟨u,w,⟨y,x,q,o,_,p⟩,_⟩:=k.g t;obtain⟨l,r⟩:=fG.g k m _ u n w;exact⟨_,Reads.list q o p r⟩
 |.tuple m,_,_,i,j=>by
  cases i with|d t n=>cases j;obtain⟨u,w,⟨y,q,o,x,p⟩,_⟩:=k.C t;obtain⟨l,r⟩:=fG.g k m _ u n w;exact⟨_,Reads.tuple q o p r⟩
 |.dict _,_,_,i,_=>by cases i
theorem fG.g(l:ax X pins σ H s):∀i k j,lj X.e H k i->bR k j->∃m,ReadsAll s.heap j i m
 |[],_,_,j,k=>by cases j;cases k;exact⟨_,Uv⟩
 |n::i,_,_,j,k=>by
  cases j with
  |a j o=>
   cases k with|cons p q=>obtain⟨m,k⟩:=fG.a l n _ _ j p;obtain⟨m,j⟩:=fG.g l i _ _ o q;exact⟨_,Uu k j⟩
end
end
section
variable{X:aK}
def HP(e:aR):fq:=λg h a f=>∃b c,fG e a g b/\fG e a h c/\mV b=ab/\mV c=ab/\f (.d (KC b c)) a
def yd(e:aR):fq:=λg h a f=>∃b c,fG e a g b/\fG e a h c/\mV b=ab/\mV c=ab/\f (.d (!KC b c)) a
def x0(i:X.b.units+64<eK):d4 X (eL .Eq) (HP X.e):=by intro e g h b q r p o c a k l f;obtain⟨c,e,g,h,m,n,j⟩:=f;obtain⟨s,f⟩:=fG.a a c q p g k;obtain⟨g,c⟩:=fG.a a e r o h l;exact SeqAt.compareEq_shaped f c m n i ⟨.d _,b,a,I,j⟩
def q6(i:X.b.units+64<eK):d4 X (eL .NotEq) (yd X.e):=by intro e g h b q r p o c a k l f;obtain⟨c,e,g,h,m,n,j⟩:=f;obtain⟨s,f⟩:=fG.a a c q p g k;obtain⟨g,c⟩:=fG.a a e r o h l;exact SeqAt.compareNe_shaped f c m n i ⟨.d _,b,a,I,j⟩
end
abbrev xf(a:be)(c:Y)(b:ar ag):Prop:=a.IsCell c b
def H6(c b:ea):ea:=
 {c with names:=c.names.map λ(n,a)=>if(a==.free&&b.kind==.function&&b.names.lookup n==O .cell)then(n,.cell)else(n,a)}
def fJ(cells:V (ac×Y)):V (ac×eq)->V (ac×Y)->V (ac×Y)
 |[],acc=>acc
 |(n,b)::a,acc=>if b==.free then fJ cells a ((n,(cells.lookup n).getD 0)::acc)else fJ cells a acc
theorem xy(d:cS)(g)
  (i:∀b e a,g (b,e) a=if e==.free then(do let c<-cellOf d b;cR (.yield ((b,c)::a)))else cR (.yield a)):
  ∀h c,(∀f∈h,f.2=.free->∃a,d.cells.lookup f.1=O a)->forIn h c g=cR (fJ d.cells h c)
 |[],c,_=>by rw[Jq];rfl
 |(b,e)::l,c,h=>by
  rw[List.forIn_cons,i];have j:=λc=>xy d g i l c λf k=>h f (cJ _ k);unfold fJ;by_cases c:(e==mU)=ab;rw[ay c,ay c];obtain⟨a,f⟩:=h (b,e) cr (by simpa using c);have e:cellOf d b=cR a:=by unfold cellOf;rw[f]
  rw[e];have e:(d.cells.lookup b).getD 0=a:=by rw[f];rfl
  rw[e];exact j _;rw[aw c,aw c];exact j _
def GB{b:ea}{a:cS}(e:∀d∈b.names,d.2=.free->∃c,a.cells.lookup d.1=O c):uZ b a=cR (fJ a.cells b.names []):=by
 simp only[uZ];rw[xy a _ (λf d c=>I) b.names [] e]
 rfl
theorem tY:∀{a:V (ac×b)}{n:ac}{c:b},(n,c)∈a->∃d,a.lookup n=O d
 |(b,e)::d,n,c,a=>by
  rw[ii];cases d:n==b with|true=>exact⟨_,I⟩|false=>rcases bW.mp a with b|a;cases b;simp at d;exact tY a
theorem qX{cells:V (ac×Y)}:∀{names:V (ac×eq)}{acc:V (ac×Y)}{n:ac}{c:Y},(n,c)∈fJ cells names acc->(n,c)∈acc\/((n,.free)∈names/\c=(cells.lookup n).getD 0)
 |[],_,_,_,a=>.inl a
 |(h,g)::i,acc,n,c,a=>by
  unfold fJ at a;split at a;rename_i e;have e:g=.free:=by simpa using e
  rcases qX a with a|⟨b,d⟩;rcases bW.mp a with f|a;cases f;exact .inr ⟨e▸cr,I⟩;exact .inl a;exact .inr ⟨cJ _ b,d⟩;rcases qX a with a|⟨b,d⟩;exact .inl a;exact .inr ⟨cJ _ b,d⟩
theorem tP:∀{d:V (ac×eq)}{b:V (ac×Y)}{c:ac×Y},c∈b->c∈fJ a d b
 |[],_,_,a=>a
 |(e,d)::f,b,c,a=>by unfold fJ;split;exact tP (cJ _ a);exact tP a
theorem tQ{cells:V (ac×Y)}:∀{names:V (ac×eq)}{acc:V (ac×Y)}{n:ac},(n,.free)∈names->(n,(cells.lookup n).getD 0)∈fJ cells names acc
 |(c,b)::d,acc,n,a=>by unfold fJ;rcases bW.mp a with b|a;cases b;exact tP cr;split;exact tQ a;exact tQ a
theorem o8:∀{names:V (ac×eq)}{b:be}{acc:V (ac×Y)}{f:ac}{c:Y},(f,c)∈fX b.objs.size names acc->
  (f,c)∈acc\/((f,.cell)∈names/\b.objs.size<=c/\xf (m1 b names) c aa)
 |[],_,_,_,_,b=>.inl b
 |(n,j)::k,b,acc,f,c,a=>by
  unfold fX at a;unfold m1;split at a;rename_i d;rw[ay d];have d:j=.cell:=by simpa using d
  rw[<-hI b {cls:=.type "cell",data:=.cell aa}]at a;rcases o8 a with a|⟨g,e,h⟩;rcases bW.mp a with i|a;cases i;exact .inr ⟨d▸cr,bp _,_,u6 k _ _ _ (eo _ I),I⟩;exact .inl a;rw[hI]at e;exact .inr ⟨cJ _ g,uw e,h⟩;rename_i d;rw[aw d];rcases o8 a with a|⟨g,e,h⟩;exact .inl a;exact .inr ⟨cJ _ g,e,h⟩
theorem qW:∀{names:V (ac×eq)}{n:Nat}{acc:V (ac×Y)}{b:ac×Y},b∈acc->b∈fX n names acc
 |[],_,_,_,a=>a
 |(d,c)::e,n,acc,b,a=>by unfold fX;split;exact qW (cJ _ a);exact qW a
theorem tN:∀{names:V (ac×eq)}{n:Nat}{acc:V (ac×Y)}{b:ac},(b,.cell)∈names->∃c,(b,c)∈fX n names acc
 |(e,d)::f,n,acc,b,a=>by unfold fX;rcases bW.mp a with b|a;cases b;exact⟨n,qW cr⟩;split;exact tN a;exact tN a
theorem tO:∀{names:V (ac×eq)}{h:be}{acc:V (ac×Y)}{d y:ac}{c:Y},(∀l∈acc,l.2<h.objs.size)->(∀d y c,(d,c)∈acc->(y,c)∈acc->d=y)->
  (d,c)∈fX h.objs.size names acc->(y,c)∈fX h.objs.size names acc->d=y
 |[],_,_,_,_,_,_,g,b,a=>g _ _ _ b a
 |(n,p)::q,h,acc,d,y,c,i,g,b,a=>by unfold fX at b a;split at b;rename_i j;rw[ay j]at a;rw[<-hI h {cls:=.type "cell",data:=.cell aa}]at b a;refine tO (h:=h.push _) (λl k=>?_) (λd y c e f=>?_) b a;rw[hI];rcases bW.mp k with rfl|k;exact ux _;exact mN (i l k);rcases bW.mp e with m|e<;>rcases bW.mp f with o|f;cases m;cases o;rfl;cases m;exact a7 (i _ f) (fV _);cases o;exact a7 (i _ e) (fV _);exact g _ _ _ e f;rename_i j;rw[aw j]at a;exact tO i g b a
def Hl{a:ao}{b:ea}
  (n:d (newEnv b a.heap.objs.size i (fX (a.heap.objs.size+1) b.names c) j h g (O e) f) {a with heap:=m1 (a.heap.push {cls:=.type "dict",data:=.dict #[]}) b.names}):
  aC m k (Ld b i c [] j h g (O e) f) d l a:=by
 simp only[Ld,uz,if_true];refine aD (Ll ?_);refine aD (wpAny_layCells _ (λf e d=>I) b.names c _ _ ?_);rw[show({a with heap:=a.heap.push {cls:=.type "dict",data:=.dict #[]}}:ao).heap.objs.size=a.heap.objs.size+1 from hI ..];rw[Jq];exact aD (bF (bF n))
theorem tX{c:ea}:∀{names:V (ac×eq)}{e:ac}{b:eq},
  (names.map λ(n,b)=>if(b==mU&&c.kind==.function&&c.names.lookup n==O .cell)then(n,Aj)else(n,b)).lookup e=O b->
  ∃a,names.lookup e=O a/\(b=a\/(a=.free/\b=.cell))
 |[],_,_,d=>by simp at d
 |(n,f)::h,e,b,d=>by
  have g:=@tX c h e b;have a:ih e ((if(f==mU&&c.kind==.function&&c.names.lookup n==O .cell)=ab then(n,Aj)else(n,f))::(h.map _))=O b:=d;cases d:e==n with
  |true=>simp only[ii,d];by_cases b:(f==mU&&c.kind==.function&&c.names.lookup n==O .cell)=ab;rw[ay b]at a;simp only[ii,d]at a;cases a;simp only[fe,beq_iff_eq]at b;exact⟨f,I,.inr ⟨b.1.1,I⟩⟩;rw[aw b]at a;simp only[ii,d]at a;cases a;exact⟨_,I,.inl I⟩
  |false=>simp only[ii,d];by_cases b:(f==mU&&c.kind==.function&&c.names.lookup n==O .cell)=ab;rw[ay b]at a;simp only[ii,d]at a;exact g a;rw[aw b]at a;simp only[ii,d]at a;exact g a
structure o0(N:V ac)(sc scope:ea)(b:V (ac×Nat)):Prop where
 d:scope.kind=.function
 c:∀y∈scope.names,scope.names.lookup y.1=O y.2
 e:∀p∈b,N[p.2]?=O p.1
 a:∀y∈scope.names,y.2=.free->sc.names.lookup y.1=O .cell\/sc.names.lookup y.1=O .free
 b:∀y∈scope.names,y.2=.local\/y.2=.cell->y.1∈b.map (·.1)\/y.1∉N
def b0(a:aQ):V Nat->aQ
 |[]=>a
 |b::c=>(b0 a c).set b aa
theorem ue(b:aQ):∀a,(b0 b a).length=b.length
 |[]=>I
 |c::a=>by unfold b0;rw[j',ue b a]
theorem uf:∀{c:V Nat},(b0 e c)[b]?=O (O a)->e[b]?=O (O a)/\b∉c
 |[],a=>⟨a,by simp⟩
 |f::c,a=>by unfold b0 at a;by_cases d:f=b;subst d;by_cases b:f<(b0 e c).length;rw[fK b]at a;cases a;rw[px (by simpa using b)]at a;cases a;rw[un d]at a;obtain⟨b,c⟩:=uf a;exact⟨b,by simp only[bW,not_or];exact⟨λa=>d a.symm,c⟩⟩
noncomputable abbrev aK.m(X:aK)(A:ao)(x:af)(B:ea)(y:cS)(z:V Y):aK:={X with j:=A,u:=x,a:=y,p:=X.l,o:=z,r:=λx=>B.names.lookup x==O .cell,q:=[],f:=λ_ _=>False}
section
variable{X:aK}{pins:V (Y×aF)}{σ:aQ}{H:af}{s:ao}
def Gy{f:ea}{a:V (ac×Nat)}(e:ax X pins σ H s)(u:o0 X.i X.a.scope f a)(R:X.i.Nodup)(A:∀h∈p,gr X pins H h/\h<s.heap.objs.size):
  ax (X.m s H f (iY f (fX (s.heap.objs.size+1) f.names (fJ X.a.cells f.names [])) s.heap.objs.size X.a) p) [] (b0 σ (a.map (·.2))) H {s with heap:=m1 (s.heap.push {cls:=.type "dict",data:=.dict #[]}) f.names}:=by
 have b:∀y∈f.names,y.2=.free->∃c,X.a.cells.lookup y.1=O c:=λy m a=>by rcases u.a y m a with g|g;exact e.b.h _ (.inl g);exact e.b.h _ (.inr g)
 generalize o:iY f (fX (s.heap.objs.size+1) f.names (fJ X.a.cells f.names [])) s.heap.objs.size X.a=d;have K:∀h D,s.heap.get? h=O D->(m1 (s.heap.push {cls:=.type "dict",data:=.dict #[]}) f.names).get? h=O D:=λh D a=>u6 _ _ _ _ (dw _ a);have G:d.locals=s.heap.objs.size:=by rw[<-o];rfl
 have x:d.cells=fX (s.heap.objs.size+1) f.names (fJ X.a.cells f.names []):=by rw[<-o];rfl
 have N:d.scope=H6 f X.a.scope:=by rw[<-o];rfl
 rw[<-hI s.heap {cls:=.type "dict",data:=.dict #[]}]at x;have r:∀{y c},(y,c)∈fJ X.a.cells f.names []->X.a.cells.lookup y=O c/\c<s.heap.objs.size:=λ{y c} k=>by rcases qX k with k|⟨i,rfl⟩;cases k;obtain⟨c,j⟩:=b _ i I;rw[j];obtain⟨L,b⟩:=e.l _ _ j;exact⟨I,b.lt⟩
 have P:∀{y c},d.cells.lookup y=O c->(X.a.cells.lookup y=O c/\c<s.heap.objs.size)\/(s.heap.objs.size+1<=c/\xf (m1 (s.heap.push {cls:=.type "dict",data:=.dict #[]}) f.names) c aa):=λ{y c} a=>by rw[x]at a;rcases o8 (hc a)with k|⟨_,l,j⟩;exact .inl (r k);rw[hI]at l;exact .inr ⟨l,j⟩
 have Q:∀{y},f.names.lookup y=O .free->∃c,d.cells.lookup y=O c/\X.a.cells.lookup y=O c:=λ{y} J=>by have m:(y,mU)∈f.names:=hc J;obtain⟨F,j⟩:=tY (qW (names:=f.names) (n:=(s.heap.push {cls:=.type "dict",data:=.dict #[]}).objs.size) (tQ (cells:=X.a.cells) (acc:=[]) m));rw[<-x]at j;refine⟨F,j,?_⟩;rw[x]at j;rcases o8 (hc j)with k|⟨i,_,_⟩;exact(r k).1;have:=u.c _ i;rw[J]at this;cases this
 have S:(X.m s H f d p).t:=by
  refine⟨e.b.e,by show d.scope.kind=_;rw[N];exact u.d,by show d.globals=_;rw[<-o];exact e.b.g,by show d.builtins=_;rw[<-o];exact e.b.q,by show s.heap.objs.size<=d.locals;rw[G];exact bp _,
   λy b c o p=>?_,λy m=>?_,λy c b a=>?_,e.b.a,e.b.k,.inl I,λh q=>⟨?_,λy c a b=>?_⟩,e.Q,cu e.b.j e.A,λh D a q=>?_,λh q b=>?_,e.U,e.za⟩
  have o:d.cells.lookup y=O c:=o;have p:d.cells.lookup b=O c:=p;rw[x]at o p;refine tO (λw B=>?_) (λy b c z h=>e.b.t y b c (r z).1 (r h).1) (hc o) (hc p);rw[hI];exact mN (r (y:=w.1) (c:=w.2) B).2;show∃c,d.cells.lookup y=O c;have C:∀g,d.kindOf y=O g->(g=.cell\/g=.free)->∃c,d.cells.lookup y=O c:=λg z M=>by
   unfold Env.kindOf at z;rw[N]at z;obtain⟨r,a,E⟩:=tX z;have:r=.cell\/r=.free:=by rcases E with rfl|⟨rfl,_⟩;exact M;exact .inr I
   rcases this with rfl|rfl;obtain⟨c,k⟩:=tN (n:=(s.heap.push {cls:=.type "dict",data:=.dict #[]}).objs.size) (acc:=fJ X.a.cells f.names []) (hc a);obtain⟨F,j⟩:=tY k;exact⟨F,by rw[x];exact j⟩;obtain⟨c,i,_⟩:=Q a;exact⟨c,i⟩
  rcases m with m|m;exact C _ m (.inl I);exact C _ m (.inr I);have b:(f.names.lookup y==O Aj)=ab:=b;have b:f.names.lookup y=O .cell:=by simpa using b
  have a:d.cells.lookup y=O c:=a;rw[x]at a;rcases o8 (hc a)with k|⟨_,l,_⟩;rcases qX k with k|⟨i,_⟩;cases k;have m:=u.c _ i;rw[b]at m;cases m;rw[hI]at l;exact uw l;show h≠d.locals;rw[G];exact eA (A h q).2;have a:d.cells.lookup y=O c:=a;rcases P a with⟨i,_⟩|⟨i,_⟩;exact(A h q).1.2.2.2.2.1 y c i b;have l:s.heap.objs.size+1<=h:=by rw[<-b];exact i
  exact a7 (eg (A h q).2 (uw l)) (fV _);rcases(A h q).1.2.2.2.1 with b|b;exact e.b.p h D a b;exact a7 (eg (cB a) (cu e.b.j b)) (fV _);rcases bW.mp (e.P h b)with b|b;exact(A h q).1.2.1 b;exact(A h q).1.2.2.1 b
 refine⟨S,I,e.k,h5.l K,⟨λ_=>aa,?_,λS y x o p k=>?_⟩,λy c a=>?_,?_,λy c a=>?_,λw B=>?_,e.a.c K,by rw[ue];exact e.r⟩;show Heap.Ns _ d.locals _;rw[G];exact Heap.Ns.keeps (Heap.Ns.new ..) λh D a=>u6 _ _ _ _ a;obtain⟨p,A⟩:=uf p;have h:f.names.lookup y=O .free/\(d.kindOf y=O .cell\/d.kindOf y=O .free):=by
  have C:∀g,d.scope.names.lookup y=O g->g=.local\/g=.cell\/g=.free->f.names.lookup y=O .free/\(d.kindOf y=O .cell\/d.kindOf y=O .free):=λg z M=>by
   have f:=z;rw[N]at z;obtain⟨r,a,E⟩:=tX z;have q:¬(r=.local\/r=.cell):=λz=>by rcases u.b _ (hc a) z with j|j;obtain⟨w,B,z⟩:=bm.mp j;have k:=u.e w B;have:w.1=y:=z;rw[this]at k;exact A (bm.mpr ⟨w,B,q3 R k o⟩);exact j (a1 o)
   rcases E with rfl|⟨rfl,rfl⟩;rcases M with rfl|rfl|rfl;exact a7 (.inl I) q;exact a7 (.inr I) q;exact⟨a,.inr f⟩;exact⟨a,.inl f⟩
  have k:o6 d.scope y:=k;rcases k with k|k|k;exact C _ k (.inl I);exact C _ k (.inr (.inl I));exact C _ k (.inr (.inr I))
 obtain⟨k,f,J⟩:=e.j;have f:o6 X.a.scope y:=(u.a _ (hc h.1) I).elim (λg=>.inr (.inl g)) (λg=>.inr (.inr g));obtain⟨L,E,m⟩:=J S y x o p f;refine⟨L,E,.inr ⟨h.2,?_⟩⟩;obtain⟨c,i,l⟩:=Q h.1;rcases m with⟨g,_⟩|⟨_,F,j,b⟩;have g:X.a.scope.names.lookup y=O .local:=g;rcases u.a _ (hc h.1) I with r|r<;>rw[show X.a.scope.names.lookup y=_ from r]at g<;>cases g;rw[l]at j;cases j;exact⟨c,i,b.keeps K⟩;have a:d.cells.lookup y=O c:=a;rcases P a with⟨i,_⟩|⟨_,b⟩;obtain⟨L,b⟩:=e.l y c i;exact⟨L,b.keeps K⟩;exact⟨_,b⟩;show H d.locals=aa;rw[G];exact e.a.b (bp _);have a:d.cells.lookup y=O c:=a;rcases P a with⟨i,_⟩|⟨i,_⟩;exact e.q y c i;exact e.a.b (uw i);exact a7 (show w∈([]:V (Y×aF))++[]from B) (by simp)
def Gx{d:V ah}(e:ax X pins σ H s)(g:H b=O (.a d))(l:d.length<aH)(m:br i c)
  (k:∀h,ax X pins σ (al H b (.a (d++[i]))) h->f .none h):aC (aT X.c X.d) X.b (e' (.builtin "list.append") [.ref b,c]) f j s:=by
 obtain⟨h,i,j,d,f⟩:=e.a b _ g;have b:=d.a;refine append_at (hsz:=by rw[e8];omega) f λh n b=>k {s with heap:=h} (e.E (t':=s.toks) (by rw[g];trivial) (.inl I) (λe h f g=>(n.2 e f).trans g) ⟨_,b⟩ ⟨by rw[bH];exact l,i++[c],j+1,d.c (.cons m .nil),?_⟩);rw[b];simp
def o4(X:aK)(d:V aZ)(b:dV):Prop:=
 ∀pins s σ H a,ax X pins σ H s->b σ H a->
  aC (aT X.c X.d) X.b (forIn d ab λb c=>if c=ab then do let d<-rW b X.a (bB b X.a);cR (sY d)else cR (sY c)) (tI X pins σ a) X.f s
def IE:dV:=λ_ H a=>a ab H
def f_:o4 X [] IE:=λ_ _ _ H _ a b=>wpAny_tests_nil ⟨H,a,b⟩
def fU(c:g4 X a b):o4 X [a] b:=λpins s σ H b a d=>wpAny_tests_one (c pins s σ H b a d)
end
def nL(i:aC c b g d (λ_ _=>False) a)(j:∀f a,d f a->e f a):aC c b g e h a:=fM i j λ_ _ a=>eW a
def GC(k:Nat->ao->Prop)
  (E:∀h i,k h i->aC (aT c d) a (ip o) (λj t=>match j with
   |none=>g (.ok .next) t
   |some w=>aC (aT c d) a (u4 p o w) (λ_ A=>aC (aT c d) a (ob p b w) (λ_ B=>
     aC (aT c d) a (forIn s ab λe j=>if j=ab then do let m<-rW e b (bB e b);cR (sY m)else cR (sY j)) (λm u=>
      if m=ab then aC (aT c d) a (bB r b) (λn C=>
       aC (aT c d) a (e' (.builtin "list.append") [q,n]) (λ_ D=>∃l,l<h/\k l D) (pU (aT c d) a b λe f=>g (.error e) f) C) (pU (aT c d) a b λe f=>g (.error e) f) u
      else∃l,l<h/\k l u) (pU (aT c d) a b λe f=>g (.error e) f) B) (pU (aT c d) a b λe f=>g (.error e) f) A) (pU (aT c d) a b λe f=>g (.error e) f) t) (pU (aT c d) a b λe f=>g (.error e) f) i)
  (h:Nat) (e:k h i):
  iX (aT c d) a (.compLoop (.ListComp r [⟨p,x,s,0⟩] z y) 0 o q b) g i:=by
 refine codeAny_loop I k (λh i c=>?_) h e;show aC _ a ((compTurn (.ListComp r [⟨p,x,s,0⟩] z y) 0 o q b).onRaise (λn=>do pT n b;Lk n)) _ _ i;refine LA ?_;rw[compTurn_list];refine aD (oq (aD (fM (E h i c) (λj t b=>?_) λ_ _ a=>a)));cases j with
 |none=>exact bF b
 |some w=>
  refine aD (fM b (λ_ A c=>?_) λ_ _ a=>a);refine aD (fM c (λ_ B d=>aD (fM d (λm u b=>?_) λ_ _ a=>a)) λ_ _ a=>a);cases m with|false=>exact bF ⟨I,b⟩|true=>exact aD (aD (fM b (λn C c=>aD (fM c (λ_ D b=>bF (bF ⟨I,b⟩)) λ_ _ a=>a)) λ_ _ a=>a))
section
variable{X:aK}
def ri(d:hC)(r:eH)(t:dV)(s:aY)(k:V Nat):aY:=λl c q=>d l c λh e=>∀d,e d=aa->∃j:Nat->Nat->af->Prop,(∃g,j 0 g (al e d (.a [])))/\∀f g c,j f g c->
 (h.b f c/\q (.b d) c)\/(h.a f c/\∃i:af->Prop,(∀e,i e->∃n,n<g/\j (f+1) n e)/\∀o e,h.c f c o e->r o (b0 l k) e λm p=>b0 m k=b0 l k/\t m p λc e=>if c=ab then s m e λg f=>∃c,f d=O (.a c)/\c.length<aH/\i (al f d (.a (c++[g])))else i e)
def xS{pins:V (Y×aF)}{z:V (ac×Nat)}{use:ar (ag->fw Unit)}{Qf:ag->ao->Prop}
  (P:X.k=ab) (J:X.i.Nodup) (m:ax X pins q d g) (w:jp X x r p) (o:o0 X.i X.a.scope e z)
  (K:∀g d c h f,j0 (X.m g d e (iY e h c X.a) f) x i) (N:∀g d c h f,o4 (X.m g d e (iY e h c X.a) f) D k)
  (L:∀g d c h f,aS (X.m g d e (iY e h c X.a) f) C j) (y:∀u,u2 r X.a u=cR u)
  (s:ri p i k j (z.map (·.2)) q d n)
  (zd:∀j c k t i,ax X pins q i k->n (.b j) i->k.heap.Ns c t->gr X pins i c->AG (aT X.c X.d) X.b X.f use Qf (.ref j) c (.ok .next) k):
  aC (aT X.c X.d) X.b (K_ (.ListComp C [⟨x,r,D,0⟩] e G) e X.a A (newList []) ae (bB r X.a) use) Qf X.f g:=by
 have p:∀l∈e.names,l.2=.free->∃E,X.a.cells.lookup l.1=O E:=λl c h=>by rcases o.a l c h with n|n;exact m.b.h _ (.inl n);exact m.b.h _ (.inr n)
 refine wpAny_comprehension_free (use:=use) I y (GB p) o.d (λl c h=>by rw[o.c l c,h])
  (a3 (w pins g q d _ m s) λn l c=>a3 c λl g d=>?_)
 obtain⟨Q,f,F,l,n,h,c,p,H,w,m⟩:=d;subst h;refine r0 (Hl ?_) (by show 0<=aH;decide);generalize l:g.heap.objs.size=j;have d:n j=aa:=c.a.b (ry l);obtain⟨M,⟨za,U⟩,zc⟩:=m j d;generalize s:({g with heap:=g.heap.push {cls:=.type "list",data:=.seq ([]:V ag).toArray}}:ao)=d;have A:ax X pins q (al n j (.a [])) d:=by rw[<-s];refine c.y (t':=g.toks) (λc m h=>dw _ h) (ry l) ⟨co _,[],0,.nil,?_⟩;rw[<-l];exact eo _ I
 have y:d.heap=g.heap.push {cls:=.type "list",data:=.seq ([]:V ag).toArray}:=by rw[<-s]
 have R:∀c∈f,c<g.heap.objs.size:=λc g=>by obtain⟨m,h,_⟩:=p.a _ _ H c g;exact cB h
 have s:∀c∈f,gr X pins (al n j (.a [])) c/\c<d.heap.objs.size:=λc g=>by have B:=R c g;refine⟨⟨?_,(w c g).2⟩,by rw[y,hI];exact mN B⟩;rw[aL (by rw[<-l];exact eA B)];exact(w c g).1
 have R:F 0 d.heap:=p.c _ _ _ H λc _ m h=>by rw[y];exact dw _ h
 have B:=Gy A o J s;have J:=K d (al n j (.a [])) d.heap.objs.size (fX (d.heap.objs.size+1) e.names (fJ X.a.cells e.names [])) f;have K:=N d (al n j (.a [])) d.heap.objs.size (fX (d.heap.objs.size+1) e.names (fJ X.a.cells e.names [])) f;have H:=L d (al n j (.a [])) d.heap.objs.size (fX (d.heap.objs.size+1) e.names (fJ X.a.cells e.names [])) f;show iX _ _ (.compStart (.ListComp C [⟨x,r,D,0⟩] e G) 0 (.ref Q) (.ref j) (iY e (fX (d.heap.objs.size+1) e.names (fJ X.a.cells e.names [])) d.heap.objs.size X.a)) (AG (aT X.c X.d) X.b X.f use Qf (.ref j) d.heap.objs.size) {d with heap:=m1 (d.heap.push {cls:=.type "dict",data:=.dict #[]}) e.names};have S:∀c∈f,(al n j (.a [])) c=aa:=λc g=>(s c g).1.1;generalize o:iY e (fX (d.heap.objs.size+1) e.names (fJ X.a.cells e.names [])) d.heap.objs.size X.a=l at B J K H⊢;have N:l.locals=d.heap.objs.size:=by subst o;rfl
 generalize w:al n j (.a [])=o at A B J K H U S s;generalize w:({d with heap:=m1 (d.heap.push {cls:=.type "dict",data:=.dict #[]}) e.names}:ao)=n at B⊢;have T:F 0 n.heap:=p.c _ _ _ R λc _ m h=>by rw[<-w];exact u6 _ _ _ _ (dw _ h)
 have L:∀{R:aQ}{i:af}{k:ao},ax (X.m d o e l f) [] R i k->(∀c∈f,i c=aa)->∀c∈f,gr (X.m d o e l f) [] i c:=λ{R i k} w y c g=>
  ⟨y c g,(w.b.r c g).1,w.b.n c g,.inl g,λu E h=>(w.b.r c g).2 u E h,λzb R=>a7 (show zb∈([]:V (Y×aF))++[]from R) (by simp)⟩
 have R:iX (aT X.c X.d) X.b (.compLoop (.ListComp C [⟨x,r,D,0⟩] e G) 0 (.ref Q) (.ref j) l) (AG (aT X.c X.d) X.b X.f use Qf (.ref j) d.heap.objs.size) n:=by
  refine GC (λD k=>∃n i,ax (X.m d o e l f) [] (b0 q (z.map (·.2))) i k/\F n k.heap/\(∀c∈f,i c=aa)/\M n D i) ?_ za ⟨0,o,B,T,S,U⟩;rintro D S ⟨n,r,B,U,Q,x⟩;rcases zc n D r x with⟨x,zf⟩|⟨zb,za,zc,zh⟩;have C:=p.d (X.m d o e l f) I I I P n [] S _ r (λ_ _=>False) B (L B Q) U x;refine nL C λzg E ⟨G,x⟩=>?_;subst G;have C:ax X pins q r E:=A.ze (ch:=f) x.t x.d x.a x.k λc g=>⟨(s c g).1.2.2.2.1,(s c g).1.2.1,(s c g).1.2.2.2.2.1,(s c g).1.2.2.2.2.2⟩;have ze:r d.heap.objs.size=aa:=by have s:r l.locals=aa:=x.n;rw[N]at s;exact s
  obtain⟨t,y,_⟩:=x.j;have y:E.heap.Ns l.locals t:=y;rw[N]at y;exact zd j d.heap.objs.size E t r C zf y (A.F (bp _) ze);have j:=p.e (X.m d o e l f) I I I P n [] S _ r (λ_ _=>False) B (L B Q) U zb;refine nL j λzg E ⟨P,G,r⟩=>?_;subst G;refine nL r λ_ x ⟨u,j,C,N,Q,y,A⟩=>?_;have E:=C.zl (L C A) (p.a _ _ y);refine nL (J _ x _ j u P _ E N (zh u j Q)) λ_ L ⟨r,A,C,B,G⟩=>nL (K _ L r A _ C G) λc J ⟨E,u,j⟩=>?_;have A:∀{k:ao}{i:af},ax (X.m d o e l f) ([]++pc f x.heap) r i k->za i->∃t,t<D/\∃n i,ax (X.m d o e l f) [] (b0 q (z.map (·.2))) i k/\F n k.heap/\(∀c∈f,i c=aa)/\M n t i:=λ{k i} w t=>by
   obtain⟨F,D,G⟩:=zc i t;have C:∀c∈f,∀m,x.heap.get? c=O m->k.heap.get? c=O m/\i c=aa:=λc g m h=>
    let s:=w.f (c,m) (gb _ (gb _ (tZ g h)))
    ⟨s.1,s.2.1⟩
   have k:(b0 q (z.map (·.2))).length=r.length:=by rw[<-B,ue]
   refine⟨F,D,n+1,i,(w.zc (pins:=[])).zx k (λi v h=>?_),p.c _ _ _ y λc g m h=>(C c g m h).1,λc g=>?_,G⟩;rw[<-B]at h;exact(uf h).1;obtain⟨m,h,_⟩:=p.a _ _ y c g;exact(C c g m h).2
  cases c with|false=>simp only[jl,if_false]at j⊢;exact A u j|true=>simp only[if_true]at j⊢;exact nL (H _ J r E _ u j) λs n ⟨q,g,c,k,m,h,i,t⟩=>Gx (X:=X.m d o e l f) c h i k λj g=>A g t
 exact codeAny_compStart_list R (p.f X.b 0 _ _ _ T R)
def dX{own:V (ac×Nat)}{g:eH}(r:X.k=ab)(q:X.i.Nodup)(w:jp X i h n)(z:o0 X.i X.a.scope a own)
  (u:∀s c C d e,j0 (X.m s c a (iY a d C X.a) e) i g) (y:∀s c C d e,o4 (X.m s c a (iY a d C X.a) e) k m)
  (t:∀s c C d e,aS (X.m s c a (iY a d C X.a) e) j l) (x:∀p,u2 h X.a p=cR p:=by intro _;rfl):
  aS X (.ListComp j [⟨i,h,k,0⟩] a A) (ri n g m l (own.map (·.2))):=by
 intro e s i c a d h;rw[eval_ListComp];refine xS r q d w z u y t x h λa C m j c e l i f=>⟨j,i,λd n=>?_⟩;obtain⟨d,h,p,i,j,k⟩:=f;exact⟨.b a,c,e.o (t':=m.toks) (λa o e c=>(n.2 a e).trans c) d h i j k,I,l⟩
def nH{i:Nat}{own:V (ac×Nat)}{m x:bL}(z:X.k=ab)(u:X.i.Nodup)(H:X.i[i]?=O e)(w:X.a.scope.names.lookup e=O .local)
  (F:lO (.ListComp l [⟨g,c,k,0⟩] a m) (O (.Name e n)) x.line X.a=cR ab) (D:jp X g c t) (J:o0 X.i X.a.scope a own)
  (B:∀d b C h j,j0 (X.m d b a (iY a h C X.a) j) g q) (G:∀d b C h j,o4 (X.m d b a (iY a h C X.a) j) k s)
  (A:∀d b C h j,aS (X.m d b a (iY a h C X.a) j) l r) (E:∀p,u2 c X.a p=cR p:=by intro _;rfl):
  e6 X (.Assign [.Name e n] (.ListComp l [⟨g,c,k,0⟩] a m) x) (pj (ri t q s r (own.map (·.2))) (mo i)):=by
 intro K d x b j y h;rw[exec_Assign_Name_used _ _ _ _ F];refine aD (oq (aD ?_));show aC _ X.b (do let _<-K_ (.ListComp l [⟨g,c,k,0⟩] a m) a X.a (firstIterPos [⟨g,c,k,0⟩] m) (newList []) ae (bB c X.a) (O (ob (.Name e n) X.a))) _ _ d;have h:ri t q s r (own.map (·.2)) x b (λp a=>mo i p x a j.a):=h;refine aD (a3 (xS (Qf:=λ_ a=>ml X K j .next a) z u y D J B G A E h λb C a q k d r p f=>?_) λ_ a c=>bF (bF c));show aC _ _ (ob (.Name e n) X.a (.ref b)) _ _ _;refine Lm (yh (v:=ah.b b) d u H (.inl w) I (λs h ⟨c,t,a⟩=>?_) (.inr w));obtain⟨j,d,b,l,g,m⟩:=f;have n:C≠c:=by rcases a with b|b;rw[b];exact d;exactλa=>g e c b a.symm
 refine⟨q,p.sameBut t n,λb e=>?_⟩;exact⟨_,k,h.o (t':=s.toks) (λb o c a=>(e.2 b c).trans a) j d l g m,r⟩
def nK{e:ea}{c d:bL}{a:cS}(j:a.scope.kind=.function)(i:a.scope.names.lookup b=O .local)(l:(d.line==c.line)=ab)
  (h:(e.names.any λ(n,k)=>n==b&&(k==.local||k==.cell))=ae):lO (.ListComp f g e c) (O (.Name b d)) m a=cR ab:=by
 have m:a.kindOf b=O .local:=i;have i:a.blockKind=.function:=by unfold Env.blockKind;rw[j];rfl
 unfold lO;have a:(Expr.ListComp f g e c).pos=c:=I;have c:(Expr.Name b d).pos=d:=I;simp only[i,m,h,a,c,l]
 rfl
end
def xT{q:Int}{f:Nat}{z:eH}{C:dV}{B:aY}{n:V Nat}{r:aQ}{g:af}{m:Y}{y:af->Prop}(h:Nat->af->Prop)(D:h 0 (al g m (.a [])))
  (F:∀d e,d<f->h d e->z (.a (q+d)) (b0 r n) e λl s=>b0 l n=b0 r n/\C l s λw o=>if w=ab then B l o λk p=>∃i,p m=O (.a i)/\i.length<aH/\h (d+1) (al p m (.a (i++[k])))else h (d+1) o) (E:∀e,h f e->y e):
  ∃u:Nat->Nat->af->Prop,(∃j,u 0 j (al g m (.a [])))/\∀d j e,u d j e->
   ((kz q f).b d e/\y e)\/((kz q f).a d e/\∃t:af->Prop,(∀g,t g->∃A,A<j/\u (d+1) A g)/\∀x g,(kz q f).c d e x g->z x (b0 r n) g λl s=>b0 l n=b0 r n/\C l s λw o=>if w=ab then B l o λk p=>∃i,p m=O (.a i)/\i.length<aH/\t (al p m (.a (i++[k])))else t o):=by
 refine⟨λd j e=>j=f -d/\d<=f/\h d e,⟨f,by simp,co _,D⟩,?_⟩;rintro d j e ⟨rfl,i,l⟩;by_cases i:d<f;refine .inr ⟨i,h (d+1),λg j=>⟨f -(d+1),by omega,I,i,j⟩,λx g k=>?_⟩;obtain⟨g,k⟩:=k;subst g k;exact F d _ i l;have g:d=f:=by omega
 subst g;exact .inl ⟨bp _,E e l⟩
def o_{p:aR}{q:Y}{xs:V ah}{z:eH}{C:dV}{B:aY}{m:V Nat}{r:aQ}{g:af}{l:Y}{x:af->Prop}(f:Nat->af->Prop)(D:f 0 (al g l (.a [])))(F:∀d e,d<=xs.length->f d e->dU p e q xs)
  (G:∀d j e,xs[d]?=O j->f d e->z j (b0 r m) e λk s=>b0 k m=b0 r m/\C k s λw n=>if w=ab then B k n λy o=>∃h,o l=O (.a h)/\h.length<aH/\f (d+1) (al o l (.a (h++[y])))else f (d+1) n) (E:∀e,f xs.length e->x e):
  ∃u:Nat->Nat->af->Prop,(∃i,u 0 i (al g l (.a [])))/\∀d i e,u d i e->
   ((gt p q).b d e/\x e)\/((gt p q).a d e/\∃t:af->Prop,(∀g,t g->∃A,A<i/\u (d+1) A g)/\∀j g,(gt p q).c d e j g->z j (b0 r m) g λk s=>b0 k m=b0 r m/\C k s λw n=>if w=ab then B k n λy o=>∃h,o l=O (.a h)/\h.length<aH/\t (al o l (.a (h++[y])))else t n):=by
 refine⟨λd i e=>i=xs.length -d/\d<=xs.length/\f d e,⟨xs.length,by simp,co _,D⟩,?_⟩;rintro d i e ⟨rfl,k,h⟩;have i:=F d e k h;by_cases k:d<xs.length;refine .inr ⟨⟨xs,xs[d],i,by simp[k]⟩,f (d+1),λg l=>⟨xs.length -(d+1),by omega,I,k,l⟩,λj g y=>?_⟩;obtain⟨f,y⟩:=y;subst f;exact G d j _ (y xs i) h;have f:d=xs.length:=by omega
 subst f;exact .inl ⟨⟨xs,i,bp _⟩,E e h⟩
def xu(c:V ac)(f b:ea)(d:V (ac×Nat)):Bool:=
 (match b.kind with|.function=>ab|_=>ae)&&(b.names.all λa=>aq (b.names.lookup a.1=O a.2))&&(d.all λe=>aq (c[e.2]?=O e.1))&&
  (b.names.all λa=>match a.2 with
   |.free=>(match f.names.lookup a.1 with|some .cell=>ab|some .free=>ab|_=>ae)
   |.local=>aq (a.1∈d.map (·.1))||aq (a.1∉c)
   |.cell=>aq (a.1∈d.map (·.1))||aq (a.1∉c)
   |_=>ab)
def dn{own:V (ac×Nat)}(a:xu b c d own=ab):o0 b c d own:=by
 unfold xu at a;simp only[fe,hE,decide_eq_true_eq]at a;obtain⟨⟨⟨b,e⟩,f⟩,d⟩:=a;refine⟨?_,e,f,λy c a=>?_,λy c a=>?_⟩;split at b;assumption;cases b;have b:=d y c;simp only[a]at b;split at b<;>first|exact .inl (by assumption)|exact .inr (by assumption)|cases b
 have b:=d y c;rcases a with a|a<;>(simp only[a,wH,decide_eq_true_eq]at b;exact b)
section
variable{prog:bd}{w:aO}{A:bK}{R:kR->ao->Prop}{s:ao}{n m k j i:aZ}{h g:V aZ}{f:ea}{pos:bL}{it acc:ag}{e:cS}
end
section
variable{X:aK}
end
section
variable{κ:Type}[DecidableEq κ]
def bx(b:V (κ×ah))(k:κ):ar ah:=(b.find? λa=>aq (a.1=k)).map (·.2)
def cH(b:V (κ×ah))(k:κ)(v:ah):V (κ×ah):=
 if(b.any λa=>aq (a.1=k))=ab then b.map (λa=>if a.1=k then(a.1,v)else a)else b++[(k,v)]
def g7{p:κ×ah}{a:κ}(b:p.1=a):bx (p::c) a=O p.2:=by simp[bx,hF,b]
def g6{p:κ×ah}{a:κ}(c:¬p.1=a):bx (p::b) a=bx b a:=by simp[bx,hF,c]
theorem pp(b:κ):∀a:V (κ×ah),(a.any λc=>aq (c.1=b))=(bx a b).isSome
 |[]=>I
 |c::d=>by rw[nN];by_cases a:c.1=b;simp only[g7 a,dm a,Bool.true_or,uz];rw[g6 a,da a,sW];exact pp b d
theorem yu(a b:κ)(c):∀e:V (κ×ah),bx (e.map λd=>if d.1=a then(d.1,c)else d) b=(bx e b).map λf=>if b=a then c else f
 |[]=>I
 |p::d=>by have e:=yu a b c d;rw[b1];by_cases d:p.1=a;rw[ay d];by_cases a:p.1=b;rw[g7 (p:=(p.1,c)) a,g7 a,lF,ay (a.symm.trans d)];rw[g6 (p:=(p.1,c)) a,g6 a,e];rw[aw d];by_cases a:p.1=b;rw[g7 (p:=p) a,g7 a,lF,aw (λb=>d (a.trans b))];rw[g6 (p:=p) a,g6 a,e]
theorem yv(b c:κ)(d):∀a,bx a b=aa->bx (a++[(b,d)]) c=if c=b then O d else bx a c
 |[],_=>by by_cases a:b=c;rw[ay a.symm];exact g7 (p:=(b,d)) a;rw[aw (λe=>a e.symm)];exact g6 (p:=(b,d)) a
 |p::i,f=>by
  rw[gJ];have g:¬p.1=b:=λe=>by rw[g7 e]at f;cases f
  rw[g6 g]at f;have h:=yv b c d i f;by_cases a:p.1=c;rw[g7 a,g7 a,aw (λe=>g (a.trans e))];rw[g6 a,g6 a,h]
def rn(d:V (κ×ah))(c b:κ)(f):bx (cH d c f) b=if b=c then O f else bx d b:=by
 unfold cH;by_cases a:(d.any λe=>aq (e.1=c))=ab;rw[ay a,yu];rw[pp]at a;by_cases e:b=c;obtain⟨g,h⟩:=nV.mp a;rw[ay e,e,h,lF,ay I];rw[aw e];cases bx d b with|none=>rfl|some g=>rw[lF,aw e]
 rw[aw a];refine yv c b f d ?_;rw[pp]at a;cases b:bx d c with|none=>rfl|some g=>rw[b]at a;exact(a I).elim
def j5(a:V (κ×ah))(k:κ)(v):(cH a k v).length<=a.length+1:=by unfold cH;split;rw[an];omega;rw[bH,cz,f'];omega
def pf{a:V (κ×ah)}{k:κ}(b)(c:bx a k=aa):cH a k b=a++[(k,b)]:=by unfold cH;rw[pp,c];exact aw (by decide)
def iJ.a{f:ar ah}{e:ar ag}(g:iJ f e):f.isSome=e.isSome:=by
 cases f with
 |none=>cases e with|none=>rfl|some _=>exact(show False from g).elim
 |some _=>cases e with|none=>exact(show False from g).elim|some _=>rfl
def iJ.b{f:ar ah}{e:ar ag}(g:iJ f e)(j:br h i):br (f.getD h) (e.getD i):=by
 cases f with
 |none=>cases e with|none=>exact j|some _=>exact(show False from g).elim
 |some _=>cases e with|none=>exact(show False from g).elim|some _=>exact g
def gu.b(h:gu g i)(f:κ):iJ (bx g f) (kU i f):=by
 unfold gu at h;induction h with
 |nil=>exact ma
 |@cons i g j k h l o=>
  obtain⟨l,m⟩:=h;by_cases h:i.1=f;have j:g.1=f:=l.symm.trans h;have i:kU (g::k) f=O g.2:=by simp[kU,hF,j]
  rw[g7 h,i];exact m;have j:¬g.1=f:=λm=>h (l.trans m);have i:kU (g::k) f=kU k f:=by simp[kU,hF,j]
  rw[g6 h,i];exact o
def gu.d{h:V (κ×ah)}{j:V (κ×ag)}(i:gu h j)(g:κ):(h.any λf=>aq (f.1=g))=j.any λf=>aq (f.1=g):=by
 unfold gu at i;induction i with|nil=>rfl|cons f h g=>rw[nN,nN,g,f.1]
def gu.e{g:V (κ×ah)}{k:V (κ×ag)}(i:gu g k)(h:κ)(m:br l j):
  gu (g.map λf=>if f.1=h then(f.1,l)else f) (k.map λf=>if f.1=h then(f.1,j)else f):=by
 unfold gu at i⊢;induction i with|nil=>exact .nil|@cons j k i l f o g=>rw[b1,b1];refine .cons ?_ g;obtain⟨g,i⟩:=f;by_cases f:j.1=h;rw[ay f,ay (g.symm.trans f)];exact⟨g,m⟩;rw[aw f,aw (λh=>f (g.trans h))];exact⟨g,i⟩
def gu.c(h:gu g i)(f:κ)(j:br l k):gu (cH g f l) (stored i f k):=by unfold cH stored;rw[h.d f];by_cases g:(i.any λk=>aq (k.1=f))=ab;rw[ay g,ay g];exact h.e f j;rw[aw g,aw g];exact KA h ⟨I,j⟩
def gu.a{kvs:V (κ×ah)}{f:V (κ×ag)}(g:gu kvs f):kvs.length=f.length:=lJ g
end
def j4{k:aU}(g:br (dC k) b):(dW c e).is k b=ab:=by
 cases k with
 |inl f=>obtain⟨a,d⟩:=(show∃a,b=kS f a from g);subst d;exact t2 c e f a
 |inr f=>obtain⟨a,d⟩:=(show∃a,b=uR f a from g);subst d;exact Hi c e f a
theorem xO:∀{b:V aU}{a:V ag},bR (b.map dC) a->ItemsAre (dW c d) b a
 |[],_,a=>by rw[nQ]at a;cases a;exact .nil
 |c::b,_,a=>by
  rw[b1]at a;cases a with|cons a b=>exact .cons (j4 a) (xO b)
abbrev jZ(c:af):V (V aU×ah)->V (V aU×Y×ag)->Prop:=kd λa b=>a.1=b.1/\c b.2.1=O (.d (a.1.map dC))/\br a.2 b.2.2
def jZ.a(i:jZ h f g)(e):iJ (bx f e) ((lM g e).map (·.2)):=by
 induction i with
 |nil=>exact ma
 |@cons h f i j g k m=>
  obtain⟨k,_,l⟩:=g;by_cases g:h.1=e;have i:f.1=e:=k.symm.trans g;have h:lM (f::j) e=O f.2:=by simp[lM,hF,i]
  rw[g7 g,h];exact l;have i:¬f.1=e:=λl=>g (k.trans l);have h:lM (f::j) e=lM j e:=by simp[lM,hF,i]
  rw[g6 g,h];exact m
def jZ.d{h:V (V aU×ah)}{j:V (V aU×Y×ag)}(l:jZ f h j)(g)(m:br k i):
  jZ f (h.map λe=>if e.1=g then(e.1,k)else e) (j.map (putAt g i)):=by
 induction l with|nil=>exact .nil|@cons j i h k e l f=>rw[b1,b1];refine .cons ?_ f;obtain⟨f,h,i⟩:=e;unfold putAt;by_cases e:j.1=g;rw[ay e,ay (f.symm.trans e)];exact⟨f,h,m⟩;rw[aw e,aw (λg=>e (f.trans g))];exact⟨f,h,i⟩
def jZ.c(i:jZ f h g)(e:V aU)(n:f j=O (.d (e.map dC)))(k:br m l):
  jZ f (cH h e m) (storedH g e j l):=by
 have f:(h.any λj=>aq (j.1=e))=(lM g e).isSome:=by rw[pp,(i.a e).a,lE]
 unfold cH storedH;rw[f];by_cases f:(lM g e).isSome=ab;rw[ay f,ay f];exact i.d e k;rw[aw f,aw f];exact KA i ⟨I,n,k⟩
def jZ.b(l:jZ e h i)(k:∀g j,e g=O (.d j)->f g=O (.d j)):jZ f h i:=
 Paired.b l λ_ _ e=>⟨e.1,k _ _ e.2.1,e.2.2⟩
section
variable{P:bd}{w:aO}{H:af}{h:be}{a:Y}
def ye(d:ek P w H h)(c:iI H a b):d_ P w H h a b:=c.a d
def j3{c:V (aU×ah)}(f:ek P w H h)(e:iI H a (.b c)):c.length<=aH/\(a==hd)=ae/\∃d,gu c d/\h.DictOf (dW P w) a d:=
 show d_ P w H h a (.b c)from ye f e
def qZ{kvs:V (aU×ah)}(e:ek P w H h)(d:H a=O (.b kvs)):kvs.length<=aH/\(a==hd)=ae/\∃c,gu kvs c/\h.DictOf (dW P w) a c:=j3 e (.inl d)
def mu{b:V aU}(k:ek P w H h)(c:H a=O (.d (b.map dC))):(ok (dW P w)).is h b a:=by obtain⟨_,i,l,o,e,f,j,g⟩:=(show d_ P w H h a (.d (b.map dC))from k a _ c);exact⟨o,i.toArray,j,e,f,g,by simpa using xO l⟩
def lr{b:V (V aU×ah)}(g:ek P w H h)(e:iI H a (.h b)):b.length<=aH/\(a==hd)=ae/\
  ∃d,jZ H b d/\h.DictOfH (ok (dW P w)) a d:=by
 obtain⟨r,q,d,j,o,i,f,k,l,m,n,p⟩:=(show d_ P w H h a (.h b)from ye g e);refine⟨r,q,d,j,o,i,f,k,l,m,n,λc b=>?_,p⟩;have k:∀{f:V (V aU×ah)}{d:V (V aU×Y×ag)},jZ H f d->∀c∈d,(ok (dW P w)).is h c.1 c.2.1:=by
  intro f d i;induction i with|nil=>intro c b;exact nomatch b|@cons l i m n d p f=>intro c b;rcases bW.mp b with e|b;subst e;exact mu g (by rw[<-d.1];exact d.2.1);exact f c b
 exact k j c b
def GO{b:V (V aU×ah)}(e:ek P w H h)(d:H a=O (.h b)):b.length<=aH/\(a==hd)=ae/\
  ∃c,jZ H b c/\h.DictOfH (ok (dW P w)) a c:=lr e (.inl d)
end
def fg(c:af)(e:Y)(i:ah)(g:ar ah):Prop:=
 (∃a k,iI c e (.b a)/\i=dC k/\g=bx a k)\/∃a k f,iI c e (.h a)/\i=.b f/\c f=O (.d (k.map dC))/\g=bx a k
def qO(c:af)(f:Y)(k j:ah)(g:af):Prop:=
 (∃a e,c f=O (.b a)/\k=dC e/\a.length<aH/\g=al c f (.b (cH a e j)))\/
 ∃a e i,c f=O (.h a)/\k=.b i/\c i=O (.d (e.map dC))/\a.length<aH/\g=al c f (.h (cH a e j))
def fg.a{d:af}{a:Y}{c:V (aU×ah)}{k:aU}(e:d a=O (.b c)):fg d a (dC k) (bx c k):=.inl ⟨c,k,.inl e,I,I⟩
def qO.a{d:af}{a:Y}{c:V (aU×ah)}{k:aU}{v:ah}(e:d a=O (.b c))(f:c.length<aH):qO d a (dC k) v (al d a (.b (cH c k v))):=.inl ⟨c,k,e,I,f,I⟩
section
variable{X:aK}{pins:V (Y×aF)}{σ:aQ}{H:af}{s:ao}{a:Y}{y v:ah}{u r:ag}{o:ar ah}{A:bK}{E:ag->ao->Prop}
def ax.zm(c:ax X pins σ H s):hd<s.heap.objs.size:=by have i:kT<s.heap.objs.size:=(c.K.b.keeps c.z).lt;exact JN (by decide) i
def xA(t:A.units+1<eK)(c:ax X pins σ H s)(f:fg H a y (O v))(m:br y u)(l:∀b e,ax X pins σ H e->br v b->d b e):
  aC (aT X.c X.d) A (pS (.ref a) u) d E s:=by
 rcases f with⟨e,d,f,g,i⟩|⟨e,d,n,f,g,p,i⟩;subst g;obtain⟨x,q,w,j,e⟩:=j3 c.a f;obtain⟨b,h,k⟩:=iJ.c (v:=v) (o:=kU w d) (by rw[i];exact j.b d);exact Lp (j4 m) e.mapOf h (l b _ (c.e _) k);subst g;cases(show u=b9 n from m);obtain⟨x,q,g,j,e⟩:=lr c.a f;obtain⟨b,h,k⟩:=iJ.c (v:=v) (o:=(lM g d).map (·.2)) (by rw[i];exact j.a d);obtain⟨g,d,f⟩:=y8.mp h;refine wpAny_getItem_heap (pX t) (mu c.a p) e d ?_;rw[f];exact l b _ (c.e _) k
def GJ(n:A.units+1<eK)(b:ax X pins σ H s)(e:fg H a y o)(k:br y u)(j:∀d,ax X pins σ H d->c (.bool o.isSome) d):
  aC (aT X.c X.d) A (eL .In u (.ref a)) c E s:=by
 rcases e with⟨c,g,d,e,h⟩|⟨c,g,l,d,e,m,h⟩;subst e;obtain⟨p,f,q,i,c⟩:=j3 b.a d;refine Lr (j4 k) f c.mapOf ?_;rw[<-(i.b g).a,<-h];exact j _ (b.e _);subst e;cases(show u=b9 l from k);obtain⟨p,f,e,i,c⟩:=lr b.a d;refine wpAny_in_heap (pX n) (mu b.a m) f c ?_;have c:=(i.a g).a;rw[lE]at c;rw[<-c,<-h];exact j _ (b.e _)
def xB(n:A.units+1<eK)(b:ax X pins σ H s)(e:fg H a y o)(j:br y u)(i:∀d,ax X pins σ H d->c (.bool (!o.isSome)) d):
  aC (aT X.c X.d) A (eL .NotIn u (.ref a)) c E s:=by
 rcases e with⟨c,k,d,e,g⟩|⟨c,k,l,d,e,m,g⟩;subst e;obtain⟨p,f,q,h,c⟩:=j3 b.a d;refine Lz (j4 j) f c.mapOf ?_;rw[<-(h.b k).a,<-g];exact i _ (b.e _);subst e;cases(show u=b9 l from j);obtain⟨p,f,e,h,c⟩:=lr b.a d;refine wpAny_notIn_heap (pX n) (mu b.a m) f c ?_;have c:=(h.a k).a;rw[lE]at c;rw[<-c,<-g];exact i _ (b.e _)
def tR{b:be}(f:ax X pins σ H s)(i:lm (H a))(h:rB a s.heap b)(g:∃d,b.get? a=O d)(j:d_ X.c X.d (al H a c) b a c):
  ax X pins σ (al H a c) {s with heap:=b,toks:=k}:=
 f.E (x:=a) (e:=a) i (.inl I) (λb d c f=>(h.2 b c).trans f) g j
def xG{f:be}{c:V (aU×ah)}(l:c.length<=aH)(j:(a==hd)=ae)(k:gu c d)(i:f.DictOf (dW e g) a d):
  d_ e g h f a (.b c):=⟨l,j,d,k,i⟩
def xC(J:A.units+1<eK)(f:ax X pins σ H s)(g:qO H a y v c)(D:br y u)(C:br v r)(z:∀e,ax X pins σ c e->d () e):
  aC (aT X.c X.d) A (u8 (.ref a) u r) d E s:=by
 rcases g with⟨g,c,d,n,e,m⟩|⟨g,c,F,d,n,x,e,m⟩;subst n m;obtain⟨i,p,e,h,l⟩:=qZ f.a d;have w:e.length<=aH:=by rw[<-h.a];exact i
 have q:(cH g c v).length<=aH:=by have:=j5 g c v;omega
 refine wpAny_setItem_pairs (hsz:=w) (j4 D) l λB j t=>z _ ?_;have G:∃e,B.get? a=O e:=let⟨e,_,_,k,_⟩:=j;⟨e,k⟩;exact tR f (by rw[d];exact ma) t G (xG q p (h.c c C) j);subst n m;cases(show u=b9 F from D);obtain⟨i,p,m,h,l⟩:=GO f.a d;have w:m.length<=aH:=by rw[<-lJ h];exact i
 have q:(cH g c v).length<=aH:=by have:=j5 g c v;omega
 refine wpAny_setItem_heap (hsz:=w) (pX J) (mu f.a x) l λB j t=>z _ ?_;obtain⟨e,l,g,k,m,n,w,_,z⟩:=j;refine tR f (by rw[d];exact ma) t ⟨e,k⟩ ⟨q,p,_,(h.c c x C).b λj B f=>?_,e,l,g,k,m,n,w,z⟩;rw[aL (kC f d (λi=>nomatch i))];exact f
end
section
variable{X:aK}{pins:V (Y×aF)}{σ:aQ}{H:af}{s:ao}{a:Y}{kvs:V (aU×ah)}{k:aU}{u:ag}{A:bK}{E:ag->ao->Prop}
def GK(c:ax X pins σ H s)(f:iI H a (.b kvs))(g:∀h e,ax X pins σ H e->d (.int kvs.length h) e):aC (aT X.c X.d) A (e' (.builtin "len") [.ref a]) d E s:=by obtain⟨i,h,j,d,e⟩:=j3 c.a f;refine call_len_dict h e (by rw[<-d.a];rw[bn]at i;omega) ?_;rw[<-d.a];exact g _ _ (c.e _)
end
def tH(c:aZ):Prop:=∀b a,u9 c ae b a=AI [b,a] (pS b a)
def yi
  (p:AO (.type k) "__getitem__"=cR (O (.builtin c))) (q:tH h)
  (o:aC (aT d e) a (bB m f) (λc n=>aC (aT d e) a (bB h f) (λg i=>i.TypeIs c k/\aC (aT d e) a (pS c g) j b i) b n) b l):
  aC (aT d e) a (bB (.Subscript m h r) f) j b l:=by
 refine y' (fM o (λc n f=>fM f (λg i k=>?_) λ_ _ f=>f) λ_ _ f=>f);obtain⟨l,k⟩:=k;unfold Ab;refine aD ?_;rw[getitemInPython_of_ne l.not_modules];refine aD (AV l p ?_);have o:aC (aT d e) a (u9 h ae c g) (λl n=>aC (aT d e) a (letTemporaryGo m c l>>=λ_=>cR l) j b n) b i:=by rw[q c g];exact wpAny_operating (fM k (λl n a=>aD (wpAny_letTemporaryGo (bF a))) λ_ _ f=>f)
 first
  |exact bF (aD o)
  |exact wpAny_bind (wpAny_pure (wpAny_bind o))
  |exact wpAny_bind o
def GL{d:ao}(c:ax e h j a d)(f:fg a b i g):d.TypeIs (.ref b) "dict":=by rcases f with⟨d,a,b,_,_⟩|⟨d,a,e,b,_,_,_⟩;obtain⟨_,_,d,_,a⟩:=j3 c.a b;exact a.typeIs;obtain⟨_,_,d,_,a⟩:=lr c.a b;exact a.typeIs
def Il(f g:aY):aY:=λc a e=>f c a λh d=>g c d λf a=>∃c d,h=.b c/\fg a c f (O d)/\e d a
def Ip(h g:aY):aY:=λc a f=>h c a λi e=>g c e λh a=>∃c e,h=.b c/\fg a c i e/\f (.d e.isSome) a
def Ir(h g:aY):aY:=λc a f=>h c a λi e=>g c e λh a=>∃c e,h=.b c/\fg a c i e/\f (.d (!e.isSome)) a
def H8(f h g:aY):dv:=λe a c=>g a c λi d=>f a d λg c=>h a c λj f=>∃d c,g=.b d/\qO f d j i c/\e.a a c
def H7(d h i:aY)(j:ah->ah->af->bj->Prop):dv:=λg a c=>d a c λk e=>h a e λf d=>∃c e,k=.b c/\fg d c f (O e)/\
 i a d λk h=>j e k h λl i=>∃d,qO i c f l d/\g.a a d
section
variable{X:aK}{o i e n:aZ}{pos m k:bL}{j h g:aY}
def g5(p:X.b.units+1<eK)(l:aS X o j)(m:aS X i h)(n:tH i):aS X (.Subscript o i pos) (Il j h):=by intro d s e b f c g;refine yi Ko.lookup n (a3 (l d s e b _ c g) λw u ⟨x,f,k,r,q⟩=>a3 (m d u e f _ k q) λz A ⟨y,g,b,t,a,v,l,c,n⟩=>?_);subst l;obtain rfl:w=b9 a:=r;exact⟨GL b c,xA p b c t λk f d e=>⟨v,g,d,e,n⟩⟩
def t4(p:X.b.units+1<eK)(l:aS X i h)(n:aS X o j):mi X .In i o (Ip h j):=by intro a m b c e f k;refine a3 (l a m b c _ f k) λq w ⟨s,e,g,u,r⟩=>a3 (n a w b e _ g r) λx y ⟨z,c,f,t,k,q,l,m,s⟩=>?_;subst l;obtain rfl:x=b9 k:=t;exact GJ p f m u λb a=>⟨.d q.isSome,c,a,I,s⟩
def my(p:X.b.units+1<eK)(l:aS X i h)(n:aS X o j):mi X .NotIn i o (Ir h j):=by intro a s b c e f k;refine a3 (l a s b c _ f k) λm y ⟨q,e,g,w,r⟩=>a3 (n a y b e _ g r) λz A ⟨x,c,f,u,k,q,l,m,t⟩=>?_;subst l;obtain rfl:z=b9 k:=u;exact xB p f m w λb a=>⟨.d (!q.isSome),c,a,I,t⟩
def jt(u:X.b.units+1<eK)(p:aS X o j)(q:aS X i h)(w:aS X n g)(t:lO n (O (.Subscript o i m)) pos.line X.a=cR ae):
  e6 X (.Assign [.Subscript o i m] n pos) (H8 j h g):=by
 intro c s b d e f l;refine wpAny_Assign_Subscript (a3 (w c s b d _ f l) λr B ⟨v,e,k,z,y⟩=>a3 (p c B b e _ k y) λD C ⟨x,d,f,A,w⟩=>a3 (q c C b d _ f w) λF G ⟨H,E,k,B,a,e,l,p,y⟩=>?_) t;subst l;obtain rfl:D=b9 a:=A;exact xC u k p B z λd c=>⟨b,e,c,y⟩
def ya(f:X.b.units+1<eK)(t:aS X o j)(x:aS X i h)(z:aS X n g)(y:tD X l p)
  (w:∀d b c,augStore i d b c=(do iZ [c,d,b] (u8 d b c);release [c,d,b] [];cR .next)):e6 X (.AugAssign (.Subscript o i k) l n pos) (H7 j h g p):=by
 intro d u c l p q s;refine wpAny_AugAssign_SubscriptAny (a3 (t d u c l _ q s) λE D ⟨B,p,r,C,A⟩=>a3 (x d D c p _ r A) λb G ⟨H,q,s,l,a,F,t,u,B⟩=>?_) w;subst t;obtain rfl:E=b9 a:=C;exact xA f s u l λD A p w=>a3 (z d A c q _ p B) λE C ⟨G,b,r,x,t⟩=>a3 (y d C c b F G D E _ r w x t) λH B ⟨J,A,q,z,p,s,u⟩=>xC f q s l z λd b=>⟨c,p,b,u⟩
end
def GN(a:be)(e:hd<a.objs.size):d_ d f c (a.push {cls:=.type "dict",data:=.dict #[]}) a.objs.size (.b []):=
 ⟨co _,beq_eq_false_iff_ne.mpr (df (eA e)),[],.nil,Up a⟩
def Iq:aY:=λ_ c d=>∀a,c a=aa->d (.b a) (al c a (.b []))
section
variable{X:aK}{pos:bL}
def jr:aS X (.Dict [] [] pos) Iq:=λg c h H f d e=>
 wpAny_Dict_empty ⟨.b c.heap.objs.size,_,d.y (a:=c.heap.objs.size) (o:=.b []) (t':=c.toks) (λ_ _ f=>dw _ f) (bp _) (GN c.heap d.zm),I,e _ (d.a.b (bp _))⟩
end
structure Gt(X:aK)(o:aZ)(m:ac)(apos:bL)(e:aZ)(cpos:bL):Prop where
 a:lN o m X.a (bB o X.a)=bB o X.a
 b:((d5 cpos (bX [e] X.a)).all (λx=>!x.1)&&(gM cpos (gN [] X.a)).all (λx=>x.1.isSome)
  &&aq (([e]:V aZ).length+([]:V mT).length+(if([]:V mT).isEmpty then 0 else 1)<30))=ab
 c:(apos.endLine==cpos.line)=ab
 d:d5 cpos (bX [e] X.a)=[(ae,bB e X.a)]
structure xh(X:aK)(o:aZ)(m:ac)(apos:bL)(e f:aZ)(cpos:bL):Prop where
 a:lN o m X.a (bB o X.a)=bB o X.a
 b:((d5 cpos (bX [e,f] X.a)).all (λx=>!x.1)&&(gM cpos (gN [] X.a)).all (λx=>x.1.isSome)
  &&aq (([e,f]:V aZ).length+([]:V mT).length+(if([]:V mT).isEmpty then 0 else 1)<30))=ab
 c:(apos.endLine==cpos.line)=ab
 d:d5 cpos (bX [e,f] X.a)=[(ae,bB e X.a),(ae,bB f X.a)]
def qP(c:af)(d:Y):Prop:=(∃a,iI c d (.b a))\/∃a,iI c d (.h a)
def tV{d:ao}(i:ax c f g a d)(e:qP a b):
  d.TypeIs (.ref b) "dict"/\(∀c,b9 b=.ref c->∃a,d.heap.get? c=O a/\a.dict=aa)/\(b==hd)=ae:=by
 rcases e with⟨b,d⟩|⟨b,d⟩;obtain⟨_,g,e,_,b⟩:=j3 i.a d;refine⟨b.typeIs,λc h=>?_,g⟩;cases h;obtain⟨a,_,_,e,f,_⟩:=b;exact⟨a,e,f.2.1⟩;obtain⟨_,g,j,_,b⟩:=lr i.a d;refine⟨b.typeIs,λc h=>?_,g⟩;cases h;obtain⟨a,_,_,e,f,_⟩:=b;exact⟨a,e,f.2.1⟩
section
variable{X:aK}{pins:V (Y×aF)}{σ:aQ}{H:af}{s:ao}{a:Y}{y d:ah}{u r:ag}{o:ar ah}{A:bK}{E:ag->ao->Prop}
def GH(t:A.units+1<eK)(e:ax X pins σ H s)(i:fg H a y o)(p:br y u)(n:∀h g,ax X pins σ H g->br (o.getD .c) h->f h g):
  aC (aT X.c X.d) A (e' (.builtin "dict.get") [.ref a,u]) f E s:=by
 rcases i with⟨f,g,h,i,k⟩|⟨f,g,m,h,i,q,k⟩;subst i;obtain⟨w,j,x,l,f⟩:=j3 e.a h;refine rS pG f.typeIs uK (Kh _ _) (meets_dict_get (dW X.c X.d) a (j4 p) j) ⟨_,f.mapOf,n _ _ (e.e _) ?_⟩;rw[k];exact(l.b g).b I;subst i;cases(show u=b9 m from p);obtain⟨w,j,i,l,f⟩:=lr e.a h;refine rS pG f.typeIs uK (Kh _ _) (meetsH_dict_get (ok (dW X.c X.d)) a m j) ⟨pX t,g,i,mu e.a q,f,n _ _ (e.e _) ?_⟩;rw[k];exact(l.a g).b I
def GI(t:A.units+1<eK)(c:ax X pins σ H s)(h:fg H a y o)(p:br y u)(n:br d r)(m:∀g f,ax X pins σ H f->br (o.getD d) g->e g f):
  aC (aT X.c X.d) A (e' (.builtin "dict.get") [.ref a,u,r]) e E s:=by
 rcases h with⟨e,f,g,h,j⟩|⟨e,f,l,g,h,q,j⟩;subst h;obtain⟨w,i,x,k,e⟩:=j3 c.a g;refine rS pG e.typeIs uK (Ki _ _ _) (meets_dict_get_default (dW X.c X.d) a (j4 p) i r) ⟨_,e.mapOf,m _ _ (c.e _) ?_⟩;rw[j];exact(k.b f).b n;subst h;cases(show u=b9 l from p);obtain⟨w,i,h,k,e⟩:=lr c.a g;refine rS pG e.typeIs uK (Ki _ _ _) (meetsH_dict_get_default (ok (dW X.c X.d)) a l i r) ⟨pX t,f,h,mu c.a q,e,m _ _ (c.e _) ?_⟩;rw[j];exact(k.a f).b n
end
def Im(e h:aY):aY:=λf a g=>e f a λi d=>∃a,i=.b a/\qP d a/\h f d λj e=>∃d,fg e a j d/\g (d.getD .c) e
def Io(e h g:aY):aY:=λc a f=>e c a λi d=>∃a,i=.b a/\qP d a/\h c d λj e=>g c e λh d=>∃c,fg d a j c/\f (c.getD h) d
section
variable{X:aK}{o e f:aZ}{n m:bL}{k j i:aY}
def x4(t:X.b.units+1<eK)(s:aS X o k)(r:aS X e j)(a:Gt X o "get" n e m):aS X (.Call (.Attribute o "get" n) [e] [] m) (Im k j):=by intro c x d f b h q;refine u_ a.a a.b a.c uL pG Kv (a3 (s c x d f _ h q) λz y ⟨A,g,b,w,i,p,l,u⟩=>?_);subst p;obtain rfl:z=b9 i:=w;obtain⟨f,h,_⟩:=tV b l;refine⟨f,h,?_⟩;rw[a.d];refine uF I (uG (pF (a3 (r c y d g _ b u) λp s ⟨w,a,f,l,q,h,i⟩=>uH ?_)));exact GH t f h l λg d b c=>⟨_,a,b,c,i⟩
def x5(x:X.b.units+1<eK)(w:aS X o k)(t:aS X e j)(u:aS X f i)(a:xh X o "get" n e f m):aS X (.Call (.Attribute o "get" n) [e,f] [] m) (Io k j i):=by intro b A c g d l s;refine u_ a.a a.b a.c uL pG Kv (a3 (w b A c g _ l s) λC B ⟨D,h,d,z,p,r,q,y⟩=>?_);subst r;obtain rfl:C=b9 p:=z;obtain⟨g,l,_⟩:=tV d q;refine⟨g,l,?_⟩;rw[a.d];refine uF I (uG (pF (a3 (t b B c h _ d y) λl w ⟨q,a,g,r,p⟩=>pF (a3 (u b w c a _ g p) λt z ⟨A,d,h,s,y,l,q⟩=>uH ?_))));exact GI x h l r s λg c a b=>⟨_,d,a,b,q⟩
end
section
variable{X:aK}{pins:V (Y×aF)}{σ:aQ}{H:af}{s:ao}{a:Y}{kvs:V (aU×ah)}{A:bK}{E:ag->ao->Prop}
end
section
variable{X:aK}{pins:V (Y×aF)}{σ:aQ}{H:af}{s:ao}{a:Y}{y:ah}{u:ag}{A:bK}{E:ag->ao->Prop}
end
section
variable{prog:bd}{w:aO}{A:bK}{E:ag->ao->Prop}
end
section
variable{X:aK}
end
def Gz:rR "reversed"=O (.type "reversed"):=by decide+kernel
section
variable{X:aK}{pins:V (Y×aF)}{σ:aQ}{H:af}{s:ao}{h':be}
def ax.zw{t':Nat}{ch:V Y}{zz:Y}{i:cw}(zE:ax X pins σ H s)(zD:∀c m,c∉ch->s.heap.get? c=O m->h'.get? c=O m)(zA:∀c∈ch,gr X pins H c)(zF:s.heap.objs.size<=zz)
  (zK:d_ X.c X.d (al H zz i) h' zz i):ax X pins σ (al H zz i) {s with heap:=h',toks:=t'}:=by
 have zC:H zz=aa:=zE.a.b zF;have zG:∀c zB,H c=O zB->c∉ch:=λc zB i zy=>by have p:=(zA c zy).1;rw[p]at i;cases i
 refine zE.N (g':=s.gens) (d':=s.drawn) (ch:=ch) (λc u=>⟨(zA c u).2.2.2.1,(zA c u).2.1,(zA c u).2.2.2.2.1,(zA c u).2.2.2.2.2⟩) (λc m _ _ x i _=>zD c m x i) (λc m _ _ x i _=>⟨m.slots,zD c m x i⟩)
  (λc m _ i zH=>?_) (λc m x i=>⟨m,zD c m x i⟩) (λc zM i=>?_) (λc m zB i=>?_) (λc zI i=>⟨#[],?_⟩) (λzJ zI=>?_) (λc zB i=>?_) zE.k
 rw[aL (eA (eg (cB i) zF))];exact zH;rw[aL (cX i zC)];exact i;rw[aL (cX i zC)];exact i;rw[aL (cX i zC),i];simp;obtain⟨m,zH,zF,zJ,zL⟩:=zI;exact⟨m,zH,zF,zD _ m (λzy=>(zA _ zy).2.1 I) zJ,zL⟩;by_cases u:c=zz;subst u;rw[az]at i;cases i;exact zK;rw[aL u]at i;refine(zE.a c zB i).b (λm u x p=>zD m u ?_ p) (λm p=>by rw[aL (cX p zC)];exact p) λm zM p=>by rw[aL (cX p zC)];exact p
 rcases x with zy|zy;rw[zy];exact zG c zB i;exact zG m _ zy
def ax.zp(zB:ax X pins σ H s)(zy:H m=O i)(zz:lm (O i)):∃p,ax X pins σ (al H m (.e p i)) s:=by
 have x:=zB.a m i zy;have zA:∃p,s.heap.get? m=O p:=by
  cases i with
  |a zE=>obtain⟨_,_,_,_,e⟩:=x;exact⟨_,e⟩
  |b zC=>obtain⟨_,_,_,_,u,_,_,e,_⟩:=x;exact⟨u,e⟩
  |h zC=>obtain⟨_,_,_,_,u,_,_,e,_⟩:=x;exact⟨u,e⟩
  |k zC zD=>obtain⟨u,_,_,_,e,_⟩:=x;exact⟨u,e⟩
  |c u zC zD=>obtain⟨_,_,_,e,_⟩:=x;exact⟨_,e⟩
  |j u=>obtain⟨_,⟨_,e⟩,_⟩:=x;exact⟨_,e⟩
  |_=>exact eW zz
 obtain⟨p,e⟩:=zA;have zC:d_ X.c X.d (al H m (.e p i)) s.heap m (.e p i):=by refine⟨e,x.b (λu zD _ i=>i) (λu i=>?_) λu zE i=>?_⟩;rw[aL (λzA=>by rw[zA,zy]at i;cases i;exact zz)];exact i;rw[aL (λzA=>by rw[zA,zy]at i;cases i;exact zz)];exact i
 exact⟨p,zB.E (x:=m) (e:=m) (t':=s.toks) (h':=s.heap) (by rw[zy];exact zz) (.inl I) (λu zD _ i=>i) ⟨p,e⟩ zC⟩
def ax.T(u:ax X pins σ H s)(zy:H c=O p)(zz:lm (O p)):∀i m,X.u c≠O (.e i m):=λi m x=>by have p:=u.d.d c i m x;rw[zy]at p;cases p;exact zz
def ax.zb(p:ax X pins σ H s)(zE:H zz=O (.e u m))(zG:∀c i,X.u zz≠O (.e c i)):ax X pins σ (al H zz m) s:=by
 have zA:∀m zy,H m=O zy->(∀c i,zy≠.e c i)->m≠zz:=λm zy c i u=>by rw[u,zE]at c;cases c;exact i _ _ I
 have zD:∀m,H m=aa->m≠zz:=λm c u=>by rw[u,zE]at c;cases c
 refine⟨p.b,p.t,p.k,⟨p.d.c,p.d.f,λm zy c zC i=>?_,p.d.e,λm zF c=>?_,λm zy zB c=>?_,λm zJ c=>?_⟩,p.j,p.l,?_,λzB x c=>?_,λzI zH=>?_,λm zy c=>?_,p.r⟩;rw[aL (zD m (p.d.a m zy c zC i))];exact p.d.a m zy c zC i;have i:=p.d.i m zF c;rw[aL (zA m _ i (λ_ _ u=>nomatch u))];exact i;have i:=p.d.d m zy zB c;rw[aL (λu=>by rw[u]at c;exact zG _ _ c)];exact i;obtain⟨zG,i⟩:=p.d.g m zJ c;exact⟨zG,by rw[aL (zA m _ i (λ_ _ u=>nomatch u))];exact i⟩;rw[aL (zD _ p.n)];exact p.n;rw[aL (zD x (p.q zB x c))];exact p.q zB x c;obtain⟨c,zC,zG⟩:=p.f zI zH;exact⟨c,by rw[aL (zD _ zC)];exact zC,zG⟩;by_cases zC:m=zz;rw[zC,az]at c;cases c;rw[zC];obtain⟨_,zB⟩:=p.a zz _ zE;exact zB.b (λx zz _ i=>i) (λx i=>by rw[aL (zA x _ i (λ_ _ u=>nomatch u))];exact i) λx zF i=>by rw[aL (zA x _ i (λ_ _ u=>nomatch u))];exact i
 rw[aL zC]at c;exact(p.a m zy c).b (λx zz _ i=>i) (λx i=>by rw[aL (zA x _ i (λ_ _ u=>nomatch u))];exact i) λx zF i=>by rw[aL (zA x _ i (λ_ _ u=>nomatch u))];exact i
end
def Iv(i:dv):dv:=λg j h=>∃c b,h c=O b/\lm (O b)/\∀d,i ⟨λf a=>a c=O (.e d b)/\g.a f (al a c b),λi a=>a c=O (.e d b)/\g.b i (al a c b),λf a=>a c=O (.e d b)/\g.c f (al a c b),λf a=>a c=O (.e d b)/\g.d f (al a c b)⟩ j (al h c (.e d b))
section
variable{X:aK}
def q'(d:e6 X a b):e6 X a (Iv b):=by
 intro i j k c a e b;obtain⟨a,c,g,h,b⟩:=b;obtain⟨od,c⟩:=e.zp g h;refine a3 (d i j k _ _ c (b od)) λf l a=>?_;cases f with
 |next=>obtain⟨d,i,b,c,a⟩:=a;exact⟨d,_,b.zb c (e.T g h),a⟩
 |brk=>obtain⟨d,i,b,c,a⟩:=a;exact⟨d,_,b.zb c (e.T g h),a⟩
 |cont=>obtain⟨d,i,b,c,a⟩:=a;exact⟨d,_,b.zb c (e.T g h),a⟩
 |ret j=>obtain⟨k,d,i,b,j,c,a⟩:=a;exact⟨k,d,_,b.zb c (e.T g h),j,a⟩
def nG{a:ao}{tk:Nat}(c:ax X h j b a)(g)
  (T:j1 X.c X.d X.e i d [a.heap.objs.size] a.heap.objs.size f) (l:f 0 (a.heap.push g)) (k:e d b):qT X h j i e (.ref a.heap.objs.size) {a with heap:=a.heap.push g,toks:=tk}:=by
 refine⟨a.heap.objs.size,[a.heap.objs.size],f,d,b,I,c.w λg h e=>dw _ e,T,l,λg b=>?_,k⟩;have e:g=a.heap.objs.size:=by simpa using b
 subst e;exact c.F (bp _) (c.a.b (bp _))
end
section
variable{X:aK}{n:aZ}
end
def o3(e:aR)(f:Y)(d:Nat):gE:=
 ⟨λa c=>a<d/\∃(b:V ah)(x:ah),dU e c f b/\b[d -1 -a]?=O x,λa c x g=>g=c/\∀b,dU e c f b->b[d -1 -a]?=O x,λa _=>d<=a⟩
def IK(h m)(j):j1 k n b l (o3 b h j) [m] m (λi p=>i<=j/\p.IsRevIter m h ((j:Int) -1 -(i:Nat)))where
 g:=by simp
 a:=λi p h k l=>by
  have b:k=m:=by simpa using l
  subst b;obtain⟨_,n,b,M,w⟩:=h;exact⟨n,b,λq o=>by rw[w]at o;cases o⟩
 c:=λi p r h o=>⟨h.1,h.2.at λn b=>o m (by simp) n b⟩
 e:=by
  intro L F H E N i S s U u K o t h G;subst F H E;obtain⟨P,q,x,Q,R⟩:=G;obtain⟨z,q,J,y⟩:=o.g Q;obtain⟨T,X,zb⟩:=q.b R;obtain⟨z,A,za,B,C,D⟩:=t m (by simp);obtain⟨_,q⟩:=h;have y:(j:Int) -1 -((i:Nat):Int)=((j -1 -i:Nat):Int):=by omega
  rw[y]at q;refine wpAny_pyNext_rev_item q J.isList (x:=T) (by simpa using X) λr J zc=>?_;have X:((j -1 -i:Nat):Int) -1=(j:Int) -1 -((i+1:Nat):Int):=by omega
  rw[X]at J;have X:ax L S U u {s with heap:=r}:=o.o (t':=s.toks) (λk n l b=>(zc.2 k l).trans b) z A B C D;obtain⟨n,b,M,w⟩:=id J;exact⟨T,I,mp (s:={s with heap:=r}) b M w (by decide) ⟨x,u,X,zb,⟨I,λzc T=>by rw[o.zh T Q];exact R⟩,⟨P,J⟩,λk l=>(t k l).1⟩⟩
 d:=by
  intro L F H E N i S s U u K o t h G;subst F H E;obtain⟨z,A,za,B,C,D⟩:=t m (by simp);obtain⟨P,q⟩:=h;have m:j<=i:=G;have y:(j:Int) -1 -((i:Nat):Int)=-1:=by omega
  rw[y]at q;exact wpAny_pyNext_rev_end (o.b.a N) q λr j=>⟨I,o.o (t':=s.toks) (λk n l b=>j k n l b) z A B C D⟩
 f:=λb i s j K h p=>LD h.2 p
def G0(d:aR)(e:el):hC:=λh a f=>e h a λg c=>∃(a:Y)(e:V ah),g=[.b a]/\dU d c a e/\f (o3 d a e.length) c
section
variable{X:aK}{n:aZ}
def HG(h:fh X "reversed")(j:X.g "reversed"=aa)(g:fR X [a] b)(k:bX [a] X.a=[(ae,bB a X.a)]:=by rfl):jp X n (.Call (.Name "reversed" c) [a] [] d) (G0 X.e b):=by
 intro m q s e c b f;refine Call_ (nD b h j Gz (Aa (a3 (g d m q s e _ b f) λu r ⟨w,t,c,p,o⟩=>?_) k I));obtain⟨b,xs,a,d,f⟩:=o;subst a;cases p with
 |cons a e=>
  cases e;cases a;obtain⟨a,g,e,h⟩:=c.g d;have d:=g.a;have d:((a.toArray.size:Nat):Int) -1=(xs.length:Int) -1 -((0:Nat):Int):=by simp only[e8];omega
  refine call_reversed_list e.isList (LD (l:=b) (i:=((a.toArray.size:Nat):Int) -1) ⟨_,eo _ I,I,I⟩ ?_);refine nG (tk:=r.toks) c _ (IK b _ xs.length) ⟨co _,?_⟩ f;rw[<-d];exact⟨_,eo _ I,I,I⟩
end
def o2(b:ac):gE:=⟨λa _=>a<b.cps.size,λa d g f=>f=d/\∃c,b.cps[a]?=O c/\g=.e ⟨#[c]⟩,λa _=>b.cps.size<=a⟩
def yr(i)(p:ac)(D)(u)(C:u="str_ascii_iterator"\/u="str_iterator"):
  j1 h l b k (o2 p) [i] i (λj o=>o.IsStrIter i u p D j)where
 g:=by simp
 a:=λj o h l m=>by
  have b:l=i:=by simpa using m
  subst b;obtain⟨k,b,F,q⟩:=h;exact⟨k,b,λS n=>by rw[q]at n;cases n⟩
 c:=λj o r h q=>let⟨k,n,t⟩:=h;⟨k,q i (by simp) k n,t⟩
 e:=by
  intro q H K G t j M s N E L n B h J;subst H K G;obtain⟨w,x,R,y,z,A⟩:=B i (by simp);have P:Walks q.c q.d q.b i [i] [i] p.cps.size (SignAt p) (λj o=>o.IsStrIter i u p D j):=by rcases C with b|b;rw[b];exact Walks.strAscii (n.b.a t) i p D;rw[b];exact Walks.strWide (n.b.a t) i p D
  have T:["enumerate","zip","dict_itemiterator","dict_reverseitemiterator","odict_iterator","itertools.zip_longest","itertools.pairwise"].contains u=ae:=by rcases C with b|b;rw[b];decide;rw[b];decide
  refine P.item j s _ _ J h λS r tk D u Q=>?_;obtain⟨F,U,S,rfl⟩:=D;have D:ax q M N E {s with heap:=r,toks:=tk}:=n.o (λl k m b=>Q l k (by simpa using m) b) w x y z A;obtain⟨X,b,P,Q⟩:=id u;exact⟨_,I,mp (s:={s with heap:=r,toks:=tk}) b P Q T ⟨.e ⟨#[F]⟩,E,D,⟨U,I⟩,⟨I,F,S,I⟩,u,λl m=>(B l m).1⟩⟩
 d:=by intro q H K G t j M s N E L n B h J;subst H K G;obtain⟨w,x,R,y,z,A⟩:=B i (by simp);have q:p.cps[j]?=aa:=DH J;rcases C with b|b;rw[b]at h;exact wpAny_pyNext_ascii_end (n.b.a t) h q λr i=>⟨I,n.o (t':=s.toks) (λl k m b=>i l k m b) w x y z A⟩;rw[b]at h;exact wpAny_pyNext_wide_end (n.b.a t) h q λr i=>⟨I,n.o (t':=s.toks) (λl k m b=>i l k m b) w x y z A⟩
 f:=λi j s k L h o=>by rcases C with b|b;rw[b]at h;exact wpAny_pyIter_striter_ascii h o;rw[b]at h;exact wpAny_pyIter_striter_wide h o
def G2(d:aY):hC:=λg a c=>d g a λf b=>∃a,f=.e a/\c (o2 a) b
def HH(i:aS a b c):jp a d b (G2 c):=by intro j l m c a f h;refine a3 (i j l m c _ f h) λo e ⟨p,n,b,k,a,g,d⟩=>?_;subst g;obtain⟨f,rfl⟩:=k;cases c:a.cps.all (·<128);exact wpAny_pyIter_wide c (nG (tk:=e.toks) b _ (yr _ a f "str_iterator" (.inr I)) ⟨_,eo _ I,I,I⟩ d);exact wpAny_pyIter_ascii c (nG (tk:=e.toks) b _ (yr _ a f "str_ascii_iterator" (.inl I)) ⟨_,eo _ I,I,I⟩ d)
section
variable{prog:bd}{w:aO}{A:bK}{E:ag->ao->Prop}{s:ao}
def xP{b:aF}{f:Array gi}(j:(a==hd)=ae)(d:s.heap.get? a=O b)(i:b.ExactDict)(g:b.data=.dict f e)
  (h:c (.ref s.heap.objs.size) {s with heap:=s.heap.push {cls:=.type "dict_keyiterator",data:=.fields #[.ref a,.int 0 0,.int f.size 0,.int e 0]}}):
  aC (aT prog w) A (pV (.ref a)) c E s:=by
 have c:s.TypeIs (.ref a) "dict":=⟨b,d,i.1⟩;refine LF c Kp (m2 Kp c F.entry_dict_iter ?_ (F.args_dict_iter_1 _));unfold Builtin.«dict.__iter__»;refine aD ?_;unfold TY;refine aD (wpAny_notOrdered_dict c ?_);show aC _ _ (cR (b9 a)) _ _ s;refine bF ?_;show aC _ _ (J_ a>>=_) _ _ s;unfold J_;rw[aw (by rw[j];exact ed)];refine aD (bF ?_);refine aD (AQ d g ?_);refine aD (AR d g ?_);refine aD (r0 (bF ⟨_,I,"dict_keyiterator",_,⟨_,eo _ I,I⟩,pH.lookup,?_⟩));simpa[fy]using h
def Hm{g:aF}{f:Array gi}{j:gi}(d:s.heap.IsKeyIter b c a h e)(l:s.heap.get? c=O g)(k:g.data=.dict f e)
  (o:f.size=h) (p:f[a]?=O j) (m:∀g,g.IsKeyIter b c (a+1) h e->rB b s.heap g->i (O j.key) {s with heap:=g}):aC (aT prog w) A (ip (.ref b)) i E s:=by
 obtain⟨n,i,j,g⟩:=id d;unfold ip;refine aD (pZ (u' (name:=dg "__next__") d.typeIs pH (m2 pH d.typeIs Km ?_ (Kj _))));refine aD (bF ?_);refine aD (aD ?_);first|refine aD (vb d.typeIs (bF ?_))|refine wpAny_bind (wpAny_typeNameOf_keyiter d.typeIs (wpAny_pure ?_))
 refine aD (Lo i g ?_);have n:J' "dict_keyiterator"=ae:=by decide
 simp only[n,jl,if_false];show aC _ _ (if(b9 c==fL)=ab then _ else _) _ _ s;rw[aw (show¬((b9 c==fL)=ab)from ed)];refine aD (bF ?_);refine aD (AQ l k ?_);rw[aw (by rw[o];simp)];refine aD (bF ?_);refine aD (AR l k ?_);rw[aw (by simp)];refine bF ?_;obtain⟨l,k⟩:=qu.mp p;simp only[show¬((a:Int)<0)from by omega,if_false,eX,Array.getElem?_eq_getElem l];refine aD ?_;first|refine aD (vb d.typeIs (bF ?_))|refine wpAny_bind (wpAny_typeNameOf_keyiter d.typeIs (wpAny_pure ?_))
 refine aD (Lt d.typeIs ?_);show aC _ _ (pW (.ref b) 1 (fy ((a:Int)+1))>>=_) _ _ s;refine aD (r1 i g (by simp) ?_);have d:(s.heap.update b (kP (·.setIfInBounds 1 (fy ((a:Int)+1))))).IsKeyIter b c (a+1) h e:=
  ⟨_,pI _ i (Ak (rD g _)),(Obj.cls_mapFields ..).trans j,by rw[rD g];simp[fy]⟩
 refine aD (iq ?_);refine aD (Lt (s:={s with heap:=s.heap.update b (kP (·.setIfInBounds 1 (fy ((a:Int)+1))))}) d.typeIs ?_);show aC _ _ (cR f[a].key) _ _ _;rw[k];exact bF (bF ⟨_,I,bF (m _ d (rC ..))⟩)
def xY{n:aF}{g:Array gi}(q:A.handled=aa)(c:s.heap.IsKeyIter f d e h j)(l:s.heap.get? d=O n)(k:n.data=.dict g j)
  (n:g.size=h) (p:h<=e) (o:∀j,Kw f s.heap j->i aa {s with heap:=j}):aC (aT prog w) A (ip (.ref f)) i E s:=by
 obtain⟨r,i,j,h⟩:=id c;unfold ip;refine aD (pZ (u' (name:=dg "__next__") c.typeIs pH (m2 pH c.typeIs Km ?_ (Kj _))));refine aD (bF ?_);refine aD (aD ?_);first|refine aD (vb c.typeIs (bF ?_))|refine wpAny_bind (wpAny_typeNameOf_keyiter c.typeIs (wpAny_pure ?_))
 refine aD (Lo i h ?_);have j:J' "dict_keyiterator"=ae:=by decide
 simp only[j,jl,if_false];show aC _ _ (if(b9 d==fL)=ab then _ else _) _ _ s;rw[aw (show¬((b9 d==fL)=ab)from ed)];refine aD (bF ?_);refine aD (AQ l k ?_);rw[aw (by rw[n];simp)];refine aD (bF ?_);refine aD (AR l k ?_);rw[aw (by simp)];refine bF ?_;have d:g.size<=e:=by rw[n];exact p
 simp only[show¬((e:Int)<0)from by omega,if_false,eX,DH d];refine aD ?_;first|refine aD (vb c.typeIs (bF ?_))|refine wpAny_bind (wpAny_typeNameOf_keyiter c.typeIs (wpAny_pure ?_))
 show aC _ _ (pW (.ref f) 0 .none>>=_) _ _ s;refine aD (r1 i h (by simp) ?_);show aC _ _ (newExc (.type "StopIteration") []>>=_) _ _ _;refine aD ?_;simp only[newExc,newTuple];refine aD (r0 ?_ (by size_fits));refine aD (m:=firstArgMember _ _) (AS (a:=fL) (by first|rfl|(simp only[firstArgMember];rfl)) ?_);refine r0 ?_ (by size_fits);simp only[raiseNew];refine aD (wpAny_handled ?_);rw[show A.in1.handled=aa from q];refine aD (bF (wpAny_throw ?_));refine aD (Ls (T:="StopIteration") (b:=ab) ⟨_,eo _ I,I⟩ Lc ?_);exact bF (o _ (((rC ..).extBut.push _).push _))
end
def q1{a:Type}{kvs:V (a×ah)}{e:V (a×ag)}(c:gu kvs e):∀{b:Nat}{k:a}{v:ah},kvs[b]?=O (k,v)->∃d,e[b]?=O (k,d)/\br v d:=by
 unfold gu at c;induction c with
 |nil=>intro b k v a;simp at a
 |@cons f d g h c i e=>
  intro b k v a;cases b with|zero=>simp only[yV,kO]at a;subst a;refine⟨d.2,?_,c.2⟩;simp only[yV];exact cb O (Prod.ext c.1.symm I)|succ b=>simp only[yU]at a⊢;exact e a
def Hu{a h:Type}{g:a->h->Prop}{e:V a}{f:V h}(i:kd g e f):∀{b:Nat}{c:a},e[b]?=O c->∃d,f[b]?=O d/\g c d:=by
 induction i with
 |nil=>intro b c a;simp at a
 |@cons c d e f h i g=>
  intro b c a;cases b with|zero=>simp only[yV,kO]at a;subst a;exact⟨d,I,h⟩|succ b=>simp only[yU]at a⊢;exact g a
def t9{k:aU}(b:iL k a=ab):br (dC k) a:=by rcases iM b with⟨b,a,rfl,rfl⟩|⟨c,a,rfl,rfl⟩;exact⟨a,I⟩;exact⟨a,I⟩
section
variable{X:aK}{pins:V (Y×aF)}{σ:aQ}{H:af}{s:ao}{d:Y}{o:aF}
def ax.G{p:V (aU×ah)}(zC:ax X pins σ H s)(zD:H d=O (.e o (.b p))):
  (d==hd)=ae/\s.heap.get? d=O o/\o.ExactDict/\∃(c:Array gi)(m:Nat)(i:V (aU×ag)),o.data=.dict c m/\c.size=p.length/\gu p i/\s.heap.DictAt (dW X.c X.d) d i m:=by
 obtain⟨u,zG,zE,i,zA,zF,c,m,zy,zz,x,zB⟩:=zC.a d _ zD;rw[u]at zy;cases zy;refine⟨zE,u,zz,c,m,i,x,?_,zA,o,c,u,zz,x,zB⟩;have c:=zB.2.1.length;have m:p.length=i.length:=lJ zA;rw[oQ]at c;omega
def ax.zf{p:V (V aU×ah)}(zE:ax X pins σ H s)(zF:H d=O (.e o (.h p))):
  (d==hd)=ae/\s.heap.get? d=O o/\o.ExactDict/\∃(c:Array gi)(u:Nat),o.data=.dict c u/\c.size=p.length/\
   ∀(m:Nat)(x:V aU)(zC:ah),p[m]?=O (x,zC)->∃(zy:gi)(i:Y),c[m]?=O zy/\zy.key=.ref i/\H i=O (.d (x.map dC)):=by
 obtain⟨zy,zK,zH,zD,zB,zJ,c,u,zA,zI,zG,zz,_⟩:=zE.a d _ zF;rw[zy]at zA;cases zA;refine⟨zH,zy,zI,c,u,zG,?_,λm x zC zA=>?_⟩;have u:c.size=zD.length:=size_of_entries zz;have c:p.length=zD.length:=lJ zB;omega;obtain⟨c,u,x,p,_⟩:=Hu zB zA;have i:=entry_at zz m;rw[u]at i;exact⟨_,c.2.1,i,I,p⟩
end
def ll(f:Y)(h:aF)(d:V (aU×ah)):gE:=
 ⟨λc a=>a f=O (.e h (.b d))/\c<d.length,λc a k i=>i=a/\∃g j,d[c]?=O (g,j)/\k=dC g,λc a=>a f=O (.e h (.b d))/\d.length<=c⟩
def xg(g:Y)(j:aF)(f:V (V aU×ah)):gE:=
 ⟨λc a=>a g=O (.e j (.h f))/\c<f.length,λc a n l=>l=a/\∃(i:V aU)(m:ah)(k:Y),f[c]?=O (i,m)/\n=.b k/\a k=O (.d (i.map dC)),λc a=>a g=O (.e j (.h f))/\f.length<=c⟩
def o1(f:Y)(g:aF)(d:V (aU×ah)):gE:=
 ⟨λc a=>a f=O (.e g (.b d))/\c<d.length,λc a j h=>h=a/\∃i,d[c]?=O (i,j),λc a=>a f=O (.e g (.b d))/\d.length<=c⟩
def nC{f:aF}(g:f.data=.dict c a)(e:f.data=.dict d b):d=c/\b=a:=by rw[g]at e;cases e;exact⟨I,I⟩
section
variable{P:bd}{w:aO}{K:aR}{n:aZ}{d:Y}{o:aF}{m:Array gi}{ep:Nat}
def IG{q:V (aU×ah)}(j)(ze:o.data=.dict m ep):j1 P w K n (ll d o q) [j] j (λi r=>r.IsKeyIter j d i q.length ep)where
 g:=by simp
 a:=λi r h k l=>by
  have b:k=j:=by simpa using l
  subst b;obtain⟨z,b,U,B⟩:=h;exact⟨z,b,λzk p=>by rw[B]at p;cases p⟩
 c:=λi r t h u=>h.at λz b=>u j (by simp) z b
 e:=by intro T J Q H X i zi s zm A S p y h M;subst J Q H;obtain⟨L,N⟩:=M;obtain⟨C,D,zq,E,F,G⟩:=y j (by simp);obtain⟨zs,za,zt,zp,zo,zl,x,zf,R,zd⟩:=p.G L;obtain⟨rfl,rfl⟩:=nC ze x;obtain⟨⟨u,zk⟩,zb⟩:∃zc,q[i]?=O zc:=⟨q[i],eM N⟩;obtain⟨zg,zh,zc⟩:=q1 R zb;have zc:q.length=zl.length:=lJ R;rw[zc]at h;refine wpAny_pyNext_dict_item h zd zh λzg t zr zj zu=>?_;have zn:ax T zi zm A {s with heap:=t}:=p.o (t':=s.toks) (λk zh l b=>(zu.2 k l).trans b) C D E F G;obtain⟨z,b,U,B⟩:=id zj;refine⟨zg,I,mp (s:={s with heap:=t}) b U B (by decide) ⟨dC u,A,zn,t9 (show iL u zg=ab from zr),⟨I,u,zk,zb,I⟩,?_,λk l=>(y k l).1⟩⟩;show t.IsKeyIter j d (i+1) q.length _;rw[zc];exact zj
 d:=by intro T J Q H X i zi s zm A S p y h M;subst J Q H;obtain⟨L,N⟩:=M;obtain⟨C,D,zq,E,F,G⟩:=y j (by simp);obtain⟨zs,za,zt,zp,zo,zl,x,zf,R,zd⟩:=p.G L;obtain⟨rfl,rfl⟩:=nC ze x;exact xY (p.b.a X) h za x zf N λt j=>⟨I,p.o (t':=s.toks) (λk zh l b=>j k zh l b) C D E F G⟩
 f:=λb i s j S h r=>wpAny_pyIter_keyiter h r
def IH{z:V (V aU×ah)}(k)(zg:o.data=.dict m ep):j1 P w K n (xg d o z) [k] k (λj r=>r.IsKeyIter k d j z.length ep)where
 g:=by simp
 a:=λj r i l p=>by
  have h:l=k:=by simpa using p
  subst h;obtain⟨A,h,zc,C⟩:=i;exact⟨A,h,λX q=>by rw[C]at q;cases q⟩
 c:=λj r u i y=>i.at λA h=>y k (by simp) A h
 e:=by intro zb M U L ze j zh s zk B za q x i Q;subst M U L;obtain⟨N,S⟩:=Q;obtain⟨D,E,zp,G,H,J⟩:=x k (by simp);obtain⟨zs,R,zt,zo,zn,t,T,zd⟩:=q.zf N;obtain⟨rfl,rfl⟩:=nC zg t;obtain⟨⟨y,X⟩,zf⟩:∃zi,z[j]?=O zi:=⟨z[j],eM S⟩;obtain⟨zm,zi,z,zq,zr⟩:=zd j y X zf;refine Hm i R t T z λu zj zu=>?_;have zl:ax zb zh zk B {s with heap:=u}:=q.o (t':=s.toks) (λl z p h=>(zu.2 l p).trans h) D E G H J;obtain⟨A,h,zc,C⟩:=id zj;exact⟨zm.key,I,mp (s:={s with heap:=u}) h zc C (by decide) ⟨.b zi,B,zl,zq,⟨I,y,X,zi,zf,I,zr⟩,zj,λl p=>(x l p).1⟩⟩
 d:=by intro zb M U L ze j zh s zk B za q x i Q;subst M U L;obtain⟨N,S⟩:=Q;obtain⟨D,E,zp,G,H,J⟩:=x k (by simp);obtain⟨zs,R,zt,zo,zn,t,T,zd⟩:=q.zf N;obtain⟨rfl,rfl⟩:=nC zg t;exact xY (q.b.a ze) i R t T S λu x=>⟨I,q.o (t':=s.toks) (λl z p h=>x l z p h) D E G H J⟩
 f:=λh j s l za i r=>by refine LF i.typeIs Kq (m2 Kq i.typeIs F.entry_dict_keyiterator_iter ?_ (F.args_dict_keyiterator_iter_1 _));show aC _ _ (ret (.ref k)) _ _ s;exact bF ⟨_,I,"dict_keyiterator",_,i.typeIs,pH.lookup,r⟩
def IL{p:V (aU×ah)}(j)(ze:o.data=.dict m ep):j1 P w K n (o1 d o p) [j] j (λi r=>r.IsValIter j d i p.length ep)where
 g:=by simp
 a:=λi r h k l=>by
  have b:k=j:=by simpa using l
  subst b;obtain⟨z,b,za,B⟩:=h;exact⟨z,b,λzi q=>by rw[B]at q;cases q⟩
 c:=λi r t h S=>h.at λz b=>S j (by simp) z b
 e:=by intro X J R H zb i zg s zj A U q u h N;subst J R H;obtain⟨L,zc⟩:=N;obtain⟨C,D,zn,E,F,G⟩:=u j (by simp);obtain⟨zp,zo,zr,zm,zl,T,M,zq,y,Q⟩:=q.G L;obtain⟨rfl,rfl⟩:=nC ze M;obtain⟨⟨S,zi⟩,zd⟩:∃x,p[i]?=O x:=⟨p[i],eM zc⟩;obtain⟨zu,zf,zs⟩:=q1 y zd;have x:p.length=T.length:=lJ y;rw[x]at h;refine wpAny_pyNext_values_item h Q zf λt zh zt=>?_;have zk:ax X zg zj A {s with heap:=t}:=q.o (t':=s.toks) (λk zf l b=>(zt.2 k l).trans b) C D E F G;obtain⟨z,b,za,B⟩:=id zh;refine⟨zu,I,mp (s:={s with heap:=t}) b za B (by decide) ⟨zi,A,zk,zs,⟨I,S,zd⟩,?_,λk l=>(u k l).1⟩⟩;show t.IsValIter j d (i+1) p.length _;rw[x];exact zh
 d:=by intro X J R H zb i zg s zj A U q u h N;subst J R H;obtain⟨L,zc⟩:=N;obtain⟨C,D,zn,E,F,G⟩:=u j (by simp);obtain⟨zp,zo,zr,zm,zl,T,M,zq,y,Q⟩:=q.G L;obtain⟨rfl,rfl⟩:=nC ze M;have x:p.length=T.length:=lJ y;rw[x]at h;exact wpAny_pyNext_values_end (q.b.a zb) h Q (px (by omega)) λt j=>⟨I,q.o (t':=s.toks) (λk zf l b=>j k zf l b) C D E F G⟩
 f:=λb i s j U h r=>wpAny_pyIter_valiter h r
end
def GY(c:aY):hC:=λf a g=>c f a λi d=>∃a f,i=.b a/\((∃c,d a=O (.e f (.b c))/\g (ll a f c) d)\/∃c,d a=O (.e f (.h c))/\g (xg a f c) d)
def G3(f:aY):hC:=λi c g=>f i c λh a=>∃d f c,h=.b d/\a d=O (.e f (.b c))/\g (o1 d f c) a
section
variable{X:aK}{n e:aZ}{m:aY}{k j:bL}
def x9(i:aS X e m):jp X n e (GY m):=by intro k o q a b d h;refine a3 (i k o q a _ d h) λp j ⟨t,r,c,l,f,s,g,b⟩=>?_;subst g;obtain rfl:p=b9 f:=l;rcases b with⟨a,d,b⟩|⟨a,d,b⟩;obtain⟨g,f,i,l,k,q,a,h,p,o⟩:=c.G d;refine xP g f i a (nG (tk:=j.toks) c _ (IG _ a) ⟨_,eo _ I,I,?_⟩ b);rw[h]<;>rfl;obtain⟨g,f,i,l,k,a,h,o⟩:=c.zf d;refine xP g f i a (nG (tk:=j.toks) c _ (IH _ a) ⟨_,eo _ I,I,?_⟩ b);rw[h]<;>rfl
def x_(t:aS X e m)(r:lN e "values" X.a (bB e X.a)=bB e X.a:=by rfl)(u:(k.endLine==j.line)=ab:=by rfl):jp X n (.Call (.Attribute e "values" k) [] [] j) (G3 m):=by
 intro c y g b p i q;refine u_ (T:="dict") (id:="dict.values") r I u uL Ks F.type_dict_values (a3 (t c y g b _ i q) λz a ⟨B,l,h,x,d,A,w,o,s,f⟩=>?_);subst o;obtain rfl:z=b9 d:=x;obtain⟨t,x,z,u,r,i,q,y,o,b⟩:=h.G s;have r:w.length=i.length:=lJ o;refine⟨b.dictOf.typeIs,b.dictOf.mapOf.noDict,?_⟩;have o:ax X c g l {a with heap:=a.heap.push {cls:=.type "dict_values",data:=.fields #[.ref d]}}:=h.w (t':=a.toks) λh l f=>dw _ f;have h:aC (aT X.c X.d) X.b (pV (.ref a.heap.objs.size)) (qT X c g n p) X.f {a with heap:=a.heap.push {cls:=.type "dict_values",data:=.fields #[.ref d]}}:=by refine wpAny_pyIter_values (d:=d) (knd:=dW X.c X.d) ⟨_,eo _ I,I,I⟩ (b.push _) (nG (tk:=a.toks) o _ (IL _ q) ⟨_,eo _ I,I,?_⟩ f);rw[r]<;>rfl
 show aC _ _ (kh j (.builtin "dict.values") [.ref d] [] []) _ X.f a;exact method_meetsIn Ks F.entry_dict_values I (PySem.evalArgs_none ⟨I,b.dictOf.typeIs,F.args_dict_values_1 _,_,meets_dict_values (dW X.c X.d) d t,⟨i,b.dictOf⟩,h⟩)
end
end L2
section
namespace Bits
open PySem PyProof.Rows
end Bits
end
section
namespace TL
open PySem PySem.Builtin PySem.Builtin.Str PySem.StrLaws
end TL
end
namespace L2
open PySem PySem.Spec PyProof.Rows
section
variable{X:aK}{pins:V (Y×aF)}{σ:aQ}{H:af}{s:ao}{Q:bj}
end
section
variable{X:aK}
end
section
variable{X:aK}{o e:aZ}{n m:aY}
end
end L2
namespace L2
open PySem PySem.Spec PyProof.Rows
section
variable{X:aK}
end
end L2
namespace Att
open PySem PySem.W PySem.Calls PyProof.Rows
def DJ:∀(a:V Int) b,WellAll c d b (a.map uT)->il b a:=by
 intro a;induction a with
 |nil=>intro b w;rw[nQ]at w;cases w;exact .nil
 |cons n a c=>
  intro b w;rw[b1]at w;cases w with|cons a b=>cases a;exact .cons _ _ (c _ b)
section
variable{prog:bd}{w:aO}{A:bK}{E:ag->ao->Prop}{s:ao}{K:aR}
end
end Att
namespace L2
open PySem PySem.Spec PyProof.Rows
theorem yx:∀{b:V ag}{a:V Int},il b a->bR (a.map ah.a) b
 |_,_,.nil=>.nil
 |_,_,.cons n t a=>.cons ⟨t,I⟩ (yx a)
end L2
namespace L2
open PySem PySem.Spec PyProof.Rows
end L2
namespace L2
open PySem PySem.Spec PyProof.Rows
def ck(a:bh)(b:Nat):bh:=match a with|.ClassDef _ _ _ a _ _ _ _ _ _ _=>a.getD b (.Pass ⟨0,0,0,0⟩)|_=>.Pass ⟨0,0,0,0⟩
def mn(a:bh):pE:=match a with|.FunctionDef _ a _ _ _ _ _ _ _ _=>a|_=>{posonlyargs:=[],args:=[],vararg:=aa,kwonlyargs:=[],kw_defaults:=[],kwarg:=aa,defaults:=[]}
def fT(a:bh):V bh:=match a with|.FunctionDef _ _ a _ _ _ _ _ _ _=>a|_=>[]
def de(a:bh):ea:=match a with|.FunctionDef _ _ _ _ _ _ a _ _ _=>a|_=>{kind:=.function,names:=[],isGenerator:=ae,isCoroutine:=ae}
abbrev fo:f8:=λ_ _ _ _ _ _=>False
abbrev mh:cf:=λ_ _ _=>False
def bc:fS fo a mh:=λ_ _ _ _ _ _ _ a=>a.elim
structure jo(K:aR)(x qual:ac)(st:bh)(f:Y)(fd:hH):Prop where
 c:∃(oc:ag)(od:ar Y)(kV doc pm:ag)(an:ar Y)(cdv ct:ag)(osl:Array (ar ag)),
  fd=oa x qual (mn st) (fT st) (de st) .none kV doc pm an cdv ct/\K.lookup f=O ⟨oc,od,.func fd,osl⟩/\Ar K cdv qual=ab
 b:kg K (.ref f)=ab
section
variable{P:bd}{w:aO}{K:aR}{n:ac->ar ag}{base:be}
def jo.d{p r:V ac}(z:jo K j t i l x)(A:gq p r (de i))(C:∀g e f h,u g e f h->g.length=r.length)
  (B:∀k(j:bK) q(m:ao) e(g:V ah) f h,cK y (j.deeper (fW t (de i) m.heap.objs.size l k))->u g e f h->∃o,eG (fi fo P w K n base p t (de i) l k j q m e h).s (fT i) o/\o {a:=λ_ i=>f .c i,b:=f} (hD p g) e):fH P w K n base fo (y+1) l x r u:=by
 obtain⟨x,y,u,t,E,l,k,p,D,rfl,r,i⟩:=z.c;refine tS r i A C λj q m e g f h l p=>?_;obtain⟨o,i,r⟩:=B k j q m e g f h l p;exact⟨o,i.a,r⟩
def jo.a{l:V ac}(r:jo K q p e f o)
  (s:∀j i k f g h(m:V ag),m.length=l.length->rQ (oa q p (mn e) (fT e) (de e) .none j i k f g h) ⟨m,[]⟩=cR (l.zip m)):g2 K o l []:=by
 obtain⟨m,o,j,i,k,f,g,h,p,rfl,l,e⟩:=r.c;exact .a (s j i k f g h)
end
def cN{a:bK}{k:Nat}(b:cK k a):a.units+1<eK:=lD (JJ (by decide:1<=64) _) b.a
section
variable{X:aK}
def W(i){x:ac}(a:X.i[i]?=O x:=by rfl)(d:o6 X.a.scope x:=by first|exact Or.inl rfl|exact Or.inr (Or.inl rfl)|exact Or.inr (Or.inr rfl))(c:(x==("__debug__":ac))=ae:=by decide)
  (b:(x==("__classdict__":ac))=ae:=by decide):aS X (.Name x e) (j8 i):=x7 a d c b
def nB:g3 X (.builtin "len") (λxs c f=>∃e d,xs=[ah.b e]/\c e=O (.b d)/\f (.a d.length) c):=by intro i k m c xs l f g j h;obtain⟨e,d,rfl,f,i⟩:=h;obtain⟨h,rfl,e⟩:=nM j;cases e;exact GK g (.inl f) λh j e=>⟨.a d.length,c,e,⟨h,I⟩,i⟩
end
def G5{b a:Prop}(c:a):if ae=ab then b else a:=by rw[aw ed];exact c
def G6{a b:Prop}(c:a):if ab=ab then a else b:=by rw[ay I];exact c
section
variable{κ:Type}[DecidableEq κ]
end
end L2
namespace L3
open PySem PySem.Spec PyProof.Rows L2
section
variable{prog:bd}{w:aO}{M:jC}{A:bK}{n:ag->ao->Prop}{m:be}{gs:Array uO}{k:Drawn}{tk:Nat}{j:im}
variable{cn cq:ac}{C ns:Y}{bases up:V ag}{hasD:Bool}{sls:V ac}{subs:V ag}{abst:Bool}{coll:ar Bool}{cdd:ar Y}{s0 s1 s2 s3 s5:ar ag}{B nid i:String}{h:V ag}
def I3(a:uJ B nid i h)(e:up.contains (.type B)=ab)
  (b:m.get? C=O (m0 cn cq C ns bases up hasD sls subs abst coll cdd s0 s1 s2 s3 s5 nid)) (f:c () ⟨m,gs,k,tk,j⟩):
  aC M A (AE nid ⟨.ref C::d,[]⟩) c n ⟨m,gs,k,tk,j⟩:=by
 have c:(b9 C::up).contains (.type B)=ab:=by rw[nO,e,sX]
 have d:=a.noStar;simp only[AE,a.newKind,a.newSplit,a.newRow];repeat(first
  |refine om b ?_
  |(refine va b ?_;rw[c])
  |refine wpAny_staticBase_exc b ?_
  |refine Lx b ?_
  |simp only[bne_self_eq_false,jl,if_false]
  |wp_step)
 exact f
def I6(a:uJ B nid i h)(e:up.contains (.type B)=ab)(f:up.contains (.type "AttributeError")=ae)(g:up.contains (.type "NameError")=ae){c:V ag}
  (d:m.get? C=O (m0 cn cq C ns bases up hasD sls subs abst coll cdd s0 s1 s2 s3 s5 nid)) (l:c.length<=aH)
  (l:b (.ok (.ret (.ref (m.objs.size+1)))) ⟨(m.push {cls:=.type "tuple",data:=.seq c.toArray}).push {cls:=.ref C,data:=.fields #[.ref m.objs.size,.none,.none,.none,.bool ae,.none]},gs,k,tk,j⟩):
  iX (aT prog w) A (.builtin nid ⟨.ref C::c,[]⟩) b ⟨m,gs,k,tk,j⟩:=by
 have c:=a.ends;have c:(b9 C::up).contains (.type B)=ab:=by rw[nO,e,sX]
 have e:(b9 C::up).contains (.type "AttributeError")=ae:=by rw[nO,f];rfl
 have f:(b9 C::up).contains (.type "NameError")=ae:=by rw[nO,g];rfl
 refine codeAny_builtinAt a.entry ?_;unfold Builtin.«BaseException.__new__»;refine LH ?_;show PySem.wpAt _ _ _ (stack>>=_) _ _ _;refine LH (PySem.wpAt_stack λo g=>LI ?_)
 wp_walk
 refine LI ?_;rw[a.owner];repeat(first
  |with_reducible refine wpAny_madeHere_exc a.canon d ?_
  |with_reducible refine om d ?_
  |(with_reducible refine va d ?_;first|rw[c]|rw[e]|rw[f])
  |wp_step)
 show b _ _;rw[hI];exact l
def I_{b:aR}{a:V ag}(d:uJ B nid i h)(g:up.contains (.type B)=ab)(q:up.contains (.type "AttributeError")=ae)(r:up.contains (.type "NameError")=ae)
  (e:b.In m) (l:b.lookup C=O (m0 cn cq C ns bases up hasD sls subs abst coll cdd s0 s1 s2 s3 s5 nid)) (t:eb b (.ref C) "__init__"=O (O (.ref c))) (s:AC b (.ref c)=O (.type "function")) (u:a.length<=aH)
  (x:aC (aT prog w) A (e' (.ref c) (.ref (m.objs.size+1)::a)) (λo p=>o=.none/\f (.done (.ret (.ref (m.objs.size+1)))) p) n ⟨(m.push {cls:=.type "tuple",data:=.seq a.toArray}).push {cls:=.ref C,data:=.fields #[.ref m.objs.size,.none,.none,.none,.bool ae,.none]},gs,k,tk,j⟩):
  aC (aT prog w) A (Builtin.«type.__call__» ⟨.ref C::a,[]⟩) f n ⟨m,gs,k,tk,j⟩:=by
 have c:=e _ _ l;repeat(first|with_reducible refine om c ?_|with_reducible refine Lx c ?_|wp_step)
 refine codeAny_call_builtin_code (Ae _ d.quiet) (I3 d g c ?_);refine I6 d g q r c u ?_;show aC _ _ _ _ _ _;have c:b.In ((m.push {cls:=.type "tuple",data:=.seq a.toArray}).push {cls:=.ref C,data:=.fields #[.ref m.objs.size,.none,.none,.none,.bool ae,.none]}):=
  e.keeps λd f b=>dw _ (dw _ b)
 have b:=c _ _ l;have d:((m.push {cls:=.type "tuple",data:=.seq a.toArray}).push {cls:=.ref C,data:=.fields #[.ref m.objs.size,.none,.none,.none,.bool ae,.none]}).get? (m.objs.size+1)
   =O {cls:=.ref C,data:=.fields #[.ref m.objs.size,.none,.none,.none,.bool ae,.none]}:=by heap_get
 have a:(b9 C::up).contains (.ref C)=ab:=by simp
 unfold AH;repeat(first|with_reducible refine om d ?_|(with_reducible refine va b ?_;rw[a])|wp_step)
 show aC _ _ (AO (.ref C) _) _ _ _;refine(rM c t).here (iq (aD ?_));refine(KY c _ s).here (aD (fM x (λo p b=>?_) λ_ _ a=>a));obtain⟨rfl,a⟩:=b
 wp_walk
 exact a
def I2{b:aR}{a:V ag}{Q:ag->ao->Prop}(f:uJ B nid i h)(l:up.contains (.type B)=ab)(g:up.contains (.type "AttributeError")=ae)(o:up.contains (.type "NameError")=ae)
  (d:b.In m) (e:b.lookup C=O (m0 cn cq C ns bases up hasD sls subs abst coll cdd s0 s1 s2 s3 s5 nid)) (q:eb b (.ref C) "__init__"=O (O (.ref c))) (p:AC b (.ref c)=O (.type "function")) (r:a.length<=aH)
  (b:aC (aT prog w) (A.under (.builtin "type.__call__" ⟨.ref C::a,[]⟩)) (e' (.ref c) (.ref (m.objs.size+1)::a)) (λs t=>s=.none/\Q (.ref (m.objs.size+1)) t) n ⟨(m.push {cls:=.type "tuple",data:=.seq a.toArray}).push {cls:=.ref C,data:=.fields #[.ref m.objs.size,.none,.none,.none,.bool ae,.none]},gs,k,tk,j⟩):
  aC (aT prog w) A (e' (.ref C) a) Q n ⟨m,gs,k,tk,j⟩:=by
 have a:=d _ _ e;have c:=tc_lookup;have c:=tc_bind (.ref C);have c:(⟨m,gs,k,tk,j⟩:ao).TypeIs (.ref C) "type":=⟨_,a,I⟩;refine ol (AF ?_);show aC _ _ (callAny (.ref C) _) _ _ _;repeat(any_goals(first|assumption|with_reducible refine om a ?_|wp_step))
 exact⟨I,codeAny_call_builtin_at (Ae _ (by decide+kernel)) entry_typeCall (wpAny_check_type_call_sub a (I_ f l g o d e q p r b))⟩
end
open PySem PySem.Spec PyProof.Rows L2 PySem.W
open PySem.Builtin PySem.Builtin.ObjectAttr
abbrev rq:V ag:=[.type "Exception",.type "BaseException",.type "object"]
inductive h9:V ag->Prop where
 |b:h9 rq
 |a {a:Y} {l:V ag}:h9 l->h9 (.ref a::l)
def IX(a):refuseLoop a "__setattr__" rq=cR ():=by kernel_rfl
def h9.f(h)(i:h9 g):refuseLoop h "__setattr__" g=cR ():=by
 induction i with|b=>exact IX h|a _ g=>rw[refuseLoop_ref];exact g
def h9.c{g:V ag}(j:h9 g)(i:rq.contains (.type h)=ab):g.contains (.type h)=ab:=by
 induction j with|b=>exact i|a _ g=>rw[nO,g,sX]
def h9.d{g:V ag}(j:h9 g)(i:rq.contains (.type h)=ae):g.contains (.type h)=ae:=by
 induction j with|b=>exact i|a _ g=>rw[nO,g];rfl
def h9.e{g:V ag}(h:h9 g):g.isEmpty=ae:=by cases h<;>rfl
section
variable{prog:bd}{w:aO}{A:bK}{E:ag->ao->Prop}{s:ao}{K:aR}{x C:Y}{name:ac}{v:ag}
def I7{h:uI}(c:K.In s.heap)(f:rF s.heap x g C d)(k:pO K C=O h)(i:h9 h.mro)(m:rO K C name=O aa)
  (n:∀g,aC (aT prog w) A.in1 (storeInOwnDict (.ref x) (.ref C) (.str name e) name v g) (λj d=>match j with|.done l=>b (.ok l) d|.again j=>j.quiet=ab/\iX (aT prog w) A j b d) (λl d=>b (.error l) d) s):
  iX (aT prog w) A (.call (.builtin "object.__setattr__") ⟨[.ref x,.str name e,v],[]⟩) b s:=by
 have b:=PySem.F.store_object;have d:rG (aT prog w) s.heap (AH (.ref x) (.type "object")) ab:=by refine f.type.andThen (K4 c ?_);unfold mroIn;rw[k,JW,aw (by rw[i.e];decide),i.c (by decide)]
 refine u1 b.slot.plain b.entry (@check_slot (aT prog w) _ _ s "object.__setattr__" "object" "__setattr__" (.ref x) [.str name e,v] [] _ b.kind b.split d (b.args (.ref x) (.str name e) v) ?_);obtain⟨b,e,l⟩:=Option.bind_eq_some_iff.mp m;have j:rG (aT prog w) s.heap (mroOf (.ref C)) h.mro:=(Au c k).andThen .now;have d:rG (aT prog w) s.heap (storeTaker? b) aa:=by
  cases b with
  |none=>exact .now
  |some a=>
   obtain⟨g,h,b⟩:=y8.mp l;refine(looks_takesIn c h).andThen ?_;cases g with|false=>exact .now|true=>cases b
 rw[osa_eq,refuse_eq];refine aD (aD (f.type.here (aD (j.here ?_))));rw[i.f];exact bF (aD (f.type.here (aD ((rM c e).here (aD (d.here (n _)))))))
def I9{b:uI}(h:K.In s.heap)(g:s.heap.get? x=O ⟨.ref C,aa,.fields f,e⟩)
  (m:eb K (.ref C) "__setattr__"=O (O (.builtin "object.__setattr__"))) (n:rO K C name=O aa) (j:pO K C=O b) (p:h9 b.mro) (l:b.hasDict=ab)
  (o:∀d:be,d.get? x=O ⟨.ref C,O s.heap.objs.size,.fields f,e⟩->d.Ns1 s.heap.objs.size (λk=>if k=name then O v else aa)->(∀c b,c≠x->s.heap.get? c=O b->d.get? c=O b)->i () {s with heap:=d,toks:=s.toks+2}):
  aC (aT prog w) A (AM (.ref x) name v) i E s:=by
 have i:rF s.heap x ⟨.ref C,aa,.fields f,e⟩ C aa:=⟨g,I,I,ma⟩;refine K6 h i m (I7 (s:={s with toks:=s.toks+1}) h i j p n λc=>?_);refine aD (bF (aD (aD (Lv g (aD (pN (s:={s with toks:=s.toks+1}) (Au h j) ?_))))));rw[l];show aC (aT prog w) A.in1 (alloc {cls:=.type "dict",data:=.dict #[]}>>=λh=>update x (λb=>{b with dict:=O h})>>=λ_=>dictMade (.ref C) x h) _ _ _;refine aD (Ll ?_);have i:x<s.heap.objs.size:=cB g;have h:(s.heap.push ({cls:=.type "dict",data:=.dict #[]}:aF)).get? x=O ⟨.ref C,aa,.fields f,e⟩:=dw _ g;refine aD (wpAny_update h ?_);refine bF (a:=O s.heap.objs.size) ?_;have j:((s.heap.push ({cls:=.type "dict",data:=.dict #[]}:aF)).update x λb=>{b with dict:=O s.heap.objs.size}).get? x=O ⟨.ref C,O s.heap.objs.size,.fields f,e⟩:=
  pI _ h I
 have f:((s.heap.push ({cls:=.type "dict",data:=.dict #[]}:aF)).update x λb=>{b with dict:=O s.heap.objs.size}).get? s.heap.objs.size=O {cls:=.type "dict",data:=.dict #[]}:=by rw[mS _ _ (eA i)];exact eo _ I
 have h:((s.heap.push ({cls:=.type "dict",data:=.dict #[]}:aF)).update x λb=>{b with dict:=O s.heap.objs.size}).Ns1 s.heap.objs.size (λ_=>aa):=
  Kx ⟨_,#[],_,f,I,(λe g=>a7 g (by simp)),λ_=>I⟩
 refine aD (bF (aD ?_));refine LB (s:={s with heap:=(s.heap.push ({cls:=.type "dict",data:=.dict #[]}:aF)).update x λb=>{b with dict:=O s.heap.objs.size},toks:=s.toks+1}) h λd f g=>?_;obtain⟨q,p,n,m,l,h⟩:=f.count (ns:=[name]) (K8 name v (ns:=[]) (λk n=>a7 I n));refine aD (Lw m (by rw[l];exact Lf (cu h (by show 1<=aH+1;decide))) ?_);refine bF (o d ?_ f λc b h e=>?_);exact(g.2 x (eA i)).trans j;rw[g.2 c (eA (cB e)),mS _ _ (df h)];exact dw _ e
end
section
variable{prog:bd}{w:aO}{A:bK}{E:ag->ao->Prop}{s:ao}{K:aR}{x C:Y}{name:ac}{v:ag}
def I4{b:uI}(e:K.In s.heap)(a:rF s.heap x j C (O c))(g:pO K C=O b)(h:h9 b.mro)(i:b.hasDict=ab)
  (b:eb K (.ref C) name=O aa) (j:pP name c=O (O v)) (k:f (.ok (.ret v)) s):
  iX (aT prog w) A (.call (.builtin "BaseException.__getattribute__") ⟨[.ref x,.str name d],[]⟩) f s:=by
 have l:rG (aT prog w) s.heap (AH (.ref x) (.type "BaseException")) ab:=by refine a.type.andThen (K4 e ?_);unfold mroIn;rw[g,JW,aw (by rw[h.e];decide),h.c (by decide)]
 have f:findObj K C (O c) name=O (.value v):=K1 (by unfold rL;rw[g];simpa using i) b I j;refine u1 Kl.ga.plain PySem.F.entry_bexc_ga (@check_slot (aT prog w) _ _ s "BaseException.__getattribute__" "BaseException" "__getattribute__" (.ref x) [.str name d] [] _ (by decide+kernel) (by decide+kernel) l (PySem.F.args_bexc_ga (.ref x) (.str name d)) ?_);refine aD (bF (aD (bF (aD (a.type.here (aD ((looks_find e a f).here ?_)))))));exact bF k
def I5{b:uI}(a:K.In s.heap)(d:rF s.heap x i C (O f))(g:pO K C=O b)(n:h9 b.mro)(h:b.hasDict=ab)
  (i:eb K (.ref C) "__getattribute__"=O (O (.builtin "BaseException.__getattribute__"))) (j:eb K (.ref C) "__getattr__"=O aa)
  (b:eb K (.ref C) name=O aa) (l:pP name f=O (O v)) (k:As v=ab) (m:e v {s with toks:=s.toks+1}):aC (aT prog w) A (rT (.ref x) name c) e E s:=by
 unfold rT getAttrBy;refine aD (wpAny_mkText (iq (aD (pN (s:={s with toks:=s.toks+1}) d.type (aD (pN (s:={s with toks:=s.toks+1}) (rM a i) ?_))))));dsimp only;rw[aw (show¬((onTheHeap (b9 C)&&pL "BaseException.__getattribute__"==pL "object.__getattribute__")=ab) by rw[show(pL "BaseException.__getattribute__"==pL "object.__getattribute__")=ae by decide+kernel,ku];exact ed)];unfold getAttrByItsOwn;refine aD (pN (s:={s with toks:=s.toks+1}) (rM a j) ?_);refine aD (pZ (iq ?_));unfold callGetattribute;rw[aw (show¬((c&&onTheHeap (pL "BaseException.__getattribute__"))=ab) by cases c<;>decide)];unfold boundAndCalled;rw[Kl.ga.bind];refine aD (bF (ol ?_));refine I4 (s:={s with toks:=s.toks+1}) a d g n h b l ?_;show aC _ _ (handedOut v) _ _ _;rw[handedOut_of k];exact bF m
end
def IR(f:be)(g:Y)(d:Array ag):ar Y->ag->Prop
 |none,_=>d[1]?=O .none
 |some a,e=>d[1]?=O (.ref a)/\a≠g/\∃b c,f.get? a=O b/\b.data=.fields c/\c[3]?=O e
def mD(h:be)(b c d:Y)(g:ar Y)(e:ag):Prop:=∃a f,h.get? b=O ⟨.ref c,O d,.fields a,f⟩/\IR h b a g e
structure yy(x:Y)(tb:ar Y)(fs:V Y)(h h':be):Prop where
 a:∀b o,b≠x->tb≠O b->b∉fs->h.get? b=O o->h'.get? b=O o
 c:∀b o,b≠x->tb≠O b->h.get? b=O o->∃sl,h'.get? b=O {o with slots:=sl}
 d:∀b o,h.get? b=O o->∃o',h'.get? b=O o'
section
variable{M:jC}{A:bK}{E:ag->ao->Prop}{s:ao}{base:be}{n:cS}{m:V cS}{L x C dx:Y}
def yD{e:Array ag}(p:A.frames=O (n::m))(f:s.heap.FunFrames base (n::m))(i:n.frame=O L)
  (l:s.heap.get? x=O ⟨.ref C,O dx,.fields e,j⟩) (o:1<e.size)
  (t:∀a c,mD a x C dx (O c) (fy L)->c=s.heap.objs.size->yy x aa (fr (n::m)) s.heap a->b () {s with heap:=a}):
  aC M A (do let c<-frameOf n;let d<-entryPlaceOf L g;let a<-Kg k c .none (fy L) .none d;pW (.ref x) 1 a) b E s:=by
 have u:x∉fr (n::m):=λg=>by obtain⟨_,c,b,q⟩:=f.mem g;rw[l]at b;cases b;exact q e I
 refine aD (wpAny_frameOf_fun p f i λb g=>?_);refine aD (wpAny_entryPlaceOf λd r=>?_);unfold Kg newFields;refine aD (r0 ?_ (r.sizeOk5 _ _ _ _ _));have q:b.get? x=O ⟨.ref C,O dx,.fields e,j⟩:=(g.2.1 x u).trans l;generalize l:({cls:=.type "traceback",dict:=aa,data:=.fields ([k,.ref L,.none,fy L,.none]++(if d.isEmpty then cA 6 fL else d)).toArray}:aF)=f;have d:=dw (h:=b) f q;refine r1 d I o ?_;have p:b.objs.size≠x:=mO (cB q);have q:=pI (kP (·.setIfInBounds 1 (b9 b.objs.size))) d I;have u:((b.push f).update x (kP (·.setIfInBounds 1 (b9 b.objs.size)))).get? b.objs.size=O f:=by rw[mS _ _ (df p)];exact eo b (by subst l;rfl)
 have k:∀a c,a≠x->b.get? a=O c->((b.push f).update x (kP (·.setIfInBounds 1 (b9 b.objs.size)))).get? a=O c:=λa c e d=>by rw[mS _ _ (df e)];exact dw _ d
 refine t _ b.objs.size ⟨_,j,q,?_,p,f,_,u,by subst l;rfl,?_⟩ ?_ ⟨λa c e _ i d=>?_,λa c e _ d=>?_,λa c d=>?_⟩;simp[o];first|(simp;done)|(rcases r with rfl|⟨_,_,_,_,_,_,_,rfl⟩<;>simp)
 exact g.1;exact k a c e ((g.2.1 a i).trans d);obtain⟨f,b⟩:=g.2.2 a c d;exact⟨f,k a _ e b⟩;by_cases e:a=x;subst e;exact⟨_,q⟩;obtain⟨f,b⟩:=g.2.2 a c d;exact⟨_,k a _ e b⟩
def yE(e:A.frames=O (n::m))(o:s.heap.FunFrames base (n::m))(g:n.frame=O L)(h:mD s.heap x C dx c .none)
  (p:∀f b,mD f x C dx (O b) (fy L)->b=s.heap.objs.size->yy x c (fr (n::m)) s.heap f->a () {s with heap:=f}):aC M A (pT (.ref x) n) a E s:=by
 obtain⟨i,j,d,a⟩:=h;unfold pT;simp only[g];cases c with|none=>have a:i[1]?=O .none:=a;refine aD (kV d I a ?_);rw[aw (by decide)];exact yD e o g d (qu.mp a).1 p|some b=>obtain⟨l,u,k,t,i,j,c⟩:=a;refine aD (kV d I l ?_);rw[ay (show(b9 b !=fL)=ab from by simp)];refine aD (kV i j c ?_);rw[aw (show¬((fL==fy L)=ab)from by simp[fy])];refine aD (r1 i j (qu.mp c).1 ?_);have h:∀a,a≠b->(s.heap.update b (kP (·.setIfInBounds 3 fL))).get? a=s.heap.get? a:=λa c=>mS _ _ (df c);have r:(s.heap.update b (kP (·.setIfInBounds 3 fL))).get? b=O (k.mapFields (·.setIfInBounds 3 fL)):=pI _ i (Ak (rD j _));refine yD (base:=base) (s:={s with heap:=s.heap.update b (kP (·.setIfInBounds 3 fL))}) e ?_ g ((h x (df u)).trans d) (qu.mp l).1 λf q w y k=>p f q w ?_ ⟨λa d c l g e=>?_,λa d c l e=>?_,λa d e=>?_⟩;refine o.of_keeps λa d c f=>⟨d,(h a λe=>?_).trans c,I⟩;rw[e,i]at c;cases c;exact f t j;exact y.trans (Heap.size_after_update ..);exact k.a a d c (by simp) g ((h a λf=>l (by rw[f])).trans e);exact k.c a d c (by simp) ((h a λf=>l (by rw[f])).trans e);by_cases f:a=b;exact k.d a _ (by rw[f];exact r);exact k.d a d ((h a f).trans e)
def ui(g:mD s.heap x C dx (O b) a)
  (p:∀d:be,mD d x C dx (O b) .none->(∀a c,a≠b->s.heap.get? a=O c->d.get? a=O c)->(∀a c,s.heap.get? a=O c->∃f,d.get? a=O f)->e () {s with heap:=d}):aC M A (rX (.ref x) aa) e E s:=by
 obtain⟨r,q,h,k,l,j,e,i,f,d⟩:=g;have o:3<e.size:=(qu.mp d).1;unfold rX;refine aD (kV h I k ?_);rw[ay (show(b9 b !=fL)=ab from by simp)];have g:∀a,a≠b->(s.heap.update b (kP (·.setIfInBounds 3 ((aa:ar Y).elim fL λd=>fy d)))).get? a=s.heap.get? a:=λa e=>mS _ _ (df e);have j:=pI (kP (·.setIfInBounds 3 ((aa:ar Y).elim fL λd=>fy d))) i (Ak (rD f _));refine r1 i f o (p _ ⟨r,q,(g x (df l)).trans h,k,l,_,_,j,rD f _,by simp[o]⟩ (λa c e d=>(g a e).trans d) λa c d=>?_);by_cases e:a=b;exact⟨_,by rw[e];exact j⟩;exact⟨c,(g a e).trans d⟩
end
def eJ(i:bd)(k:aO):f8:=λj h s g v b=>∃c e f d a,v=.ref c/\b.os=s.os/\nW b.gens/\h5 (fr j) [] h a s.heap b.heap/\ek i k a b.heap/\a c=aa/\a d=aa/\
 s.heap.objs.size<=c/\s.heap.objs.size<=d/\mD b.heap c e f (O d) .none/\g (.ref e) (O f) a
structure iR(X:aK)(E:cf)(x:Y)(s':ao)(σ:L2.aQ)(H':af)(C dx:Y)(tb:ar Y):Prop where
 b:ax X [] σ H' s'
 c:H' x=aa
 f:X.j.heap.objs.size<=x
 e:∀T,tb=O T->H' T=aa/\X.j.heap.objs.size<=T
 d:∀p∈X.q,p.1≠x/\tb≠O p.1
 a:mD s'.heap x C dx tb .none
 i:E (.ref C) (O dx) H'
def iR.j{base:be}{s:ao}
  (K:iR (fi (eJ m n) m n z H base F B C A w u x s E p) p D y t G P Q J):(fi (eJ m n) m n z H base F B C A w u x s E p).f (.ref D) y:=by
 obtain⟨t,U,T,R,M,L,zd⟩:=K;have M:(fW B C s.heap.objs.size A w).frame=O (fi (eJ m n) m n z H base F B C A w u x s E p).a.locals:=I;show aC (aT m n) (u.deeper (fW B C s.heap.objs.size A w)) (u3 (fW B C s.heap.objs.size A w) (.ref D)) (λ_ z=>eJ m n x E s p (.ref D) z) (λF z=>eJ m n x E s p F z) y;unfold u3;refine aD (yE (base:=base) t.b.k t.U M L λm K n N zb=>?_);refine ui (s:={y with heap:=m}) n λz ze zc p=>?_;have H:y.heap.get? K=aa:=Ah (by rw[N];exact bp _);have S:∀m n,y.heap.get? m=O n->m≠K:=λm n p u=>by rw[u,H]at p;cases p
 have X:∀m n,y.heap.get? m=O n->m≠D->J≠O m->m∉fr (fW B C s.heap.objs.size A w::x)->z.get? m=O n:=λm n p L M H=>zc m n (S m n p) (zb.a m n L M H p);have za:∀m n,y.heap.get? m=O n->m≠D->J≠O m->∃H,z.get? m=O {n with slots:=H}:=λm n p L M=>by obtain⟨H,z⟩:=zb.c m n L M p;exact⟨H,zc m _ (S m n p) z⟩
 have M:∀m n,s.heap.get? m=O n->m≠D:=λm n p=>eA (eg (cB p) T);have L:∀m n,s.heap.get? m=O n->J≠O m:=λm n p u=>a7 (eg (cB p) (R m u).2) (fV _);have J:∀m n,s.heap.get? m=O n->m∉fr x->m∉fr (fW B C s.heap.objs.size A w::x):=λm n p B w=>by
  rcases bW.mp (t.P m w)with u|u;have:s.heap.objs.size<=m:=by rw[u];exact t.b.f
  exact a7 (eg (cB p) this) (fV _);exact B u
 have A:h5 (fr x) [] E G s.heap y.heap:=t.d;refine⟨D,P,Q,K,G,I,t.t,t.k,⟨λm n p B w _=>?_,λm n p B w _=>?_,A.a,λm n p w=>?_,A.i,A.d,A.g⟩,λm C z=>?_,U,?_,T,?_,ze,zd⟩;exact X m n (A.c m n p B w (by simp)) (M m n p) (L m n p) (J m n p w);obtain⟨x,z⟩:=A.f m n p B w (by simp);obtain⟨x,F⟩:=za m _ z (M m n p) (L m n p);exact⟨x,F⟩;obtain⟨x,z⟩:=A.e m n p w;obtain⟨H,F⟩:=za m x z (M m n p) (L m n p);exact⟨_,F⟩;refine(t.a m C z).b (λx B y p=>?_) (λ_ p=>p) λ_ _ p=>p;have A:∃n,G x=O n:=by rcases y with rfl|y;exact⟨C,z⟩;exact⟨_,y⟩
 obtain⟨n,m⟩:=A;refine X x B p (λu=>?_) (λu=>?_) λw=>?_;rw[u,U]at m;cases m;rw[(R x u).1]at m;cases m;rw[t.za x w]at m;cases m;exact t.a.b (by rw[N];exact bp _);rw[N];exact t.A
def iR.l{X:aK}{s:ao}{v:ag}(n:ax X B y m s)(C:eJ X.c X.d X.l m s z v x):
  ∃p t w u m,v=.ref p/\iR X z p x y m t w (O u):=by
 obtain⟨p,t,w,u,m,rfl,J,D,K,F,H,G,A,z,E,L⟩:=C;have C:ax X B y m x:=n.ze J K F D λy x=>nomatch x;refine⟨p,t,w,u,m,I,⟨C.B (pins':=[]) (λt m=>nomatch m),H,cu n.A A,λu p=>?_,λt m=>?_,E,L⟩⟩;cases p;exact⟨G,cu n.A z⟩;have p:=cB (n.f t (g9 _ m)).1;exact⟨eA (eg p A),λx=>by cases x;exact a7 (eg p z) (fV _)⟩
section
variable{P:bd}{w:aO}{K:aR}{n:ac->ar ag}{base:be}
def IS:
  fS (eJ P w) (fi (eJ P w) P w K n base d h j f e b g i c a) a:=λd h b f g e a c=>by
 obtain⟨h,d,g,f,e,rfl,b⟩:=iR.l a c;exact b.j
def aX:fS fo a mh:=λ_ _ _ _ _ _ _ a=>a.elim
def yA{m p:V ac}(x:jo K i q h k s)(y:gq m p (de h))(A:∀f d e g,r f d e g->f.length=p.length)
  (z:∀j(i:bK) o(l:ao) d(f:V ah) e g,cK t (i.deeper (fW q (de h) l.heap.objs.size k j))->r f d e g->∃u,eG (fi (eJ P w) P w K n base m q (de h) k j i o l d g) (fT h) u/\u {a:=λ_ h=>e .c h,b:=e} (hD m f) d):fH P w K n base (eJ P w) (t+1) k s p r:=by
 obtain⟨s,t,r,q,B,k,j,m,u,rfl,p,h⟩:=x.c;exact tS p h y A λi o l d f e g k m=>z j i o l d f e g k m
end
structure ug(K:aR)(R:Y)(m:ac)(f:Y):Prop where
 b:K7 K (.ref R) "__getattribute__"=O (O (.builtin "type.__getattribute__"))
 d:K5 K R (.type "type")=ab
 a:K0 K (.ref R) (.type "type") m=O (.val (.ref f))
 c:kg K (.ref f)=ab
section
variable{X:aK}{n:f8}{k:Nat}{f R C:Y}{j:hH}{ps:V ac}{sp:aB}{i:V ah}{h:V ag}{E:cf}{r m:ac}{g pos d:bL}{e:aZ}{c:V aZ}{t:el}
def TH{pl:fw Bool}(b:ug X.e R m f)(o:fH X.c X.d X.e X.g X.h n k f j ps sp)(A:cK k X.b)(q:fh X r)(y:X.g r=O (.ref R))(w:g2 X.e j ps h)(x:bR i h)(D:fS n X E)(u:fR X (e::c) t)
  (l:(r==("__debug__":ac))=ae:=by decide)
  (B:bX (e::c) X.a=(ae,bB e X.a)::bX c X.a:=by rfl) (z:(d5 pos (bX c X.a)).any (·.1)=ae:=by rfl)
  (C:bB (.Call (.Attribute (.Name r g) m d) (e::c) [] pos) X.a=(do
   let a<-bB (.Name r g) X.a
   oj d.atName
   let(f,first)<-iZ [a] (oh a m pl)
   kh pos f first (d5 pos (bX (e::c) X.a)) (gM pos (gN [] X.a))):=by rfl):
  aS X (.Call (.Attribute (.Name r g) m d) (e::c) [] pos) (rg sp i E t):=by
 intro F G H p J a s;refine Av (pl:=pl) (kB a q y ?_ l) C;refine PySem.W.method_cls a.h b.b (PySem.W.cls_value a.h b.d b.a I ?_);have q:=a.e (G.toks+1);refine rJ (first:=[]) (h₀:=X.h) a.b.e.a b.c (a3 (u pos F _ H p _ q s) λK J ⟨L,G,l,C,y⟩=>⟨l.h,?_⟩) B z;exact pi o A w x D l C y
def iS(c C:Y)(a:ar Y):cw:=.j λb=>∃t,b.get? c=O ⟨.ref C,a,.fields #[.ref t,.none,.none,.none,.bool ae,.none],#[]⟩
def yG{l:be}{a C t:Y}(e:l.get? a=O ⟨.ref C,b,.fields #[.ref t,.none,.none,.none,.bool ae,.none],#[]⟩):d_ p q o l a (iS a C b):=
 ⟨⟨t,e⟩,⟨_,e⟩,λ_ _ ⟨t',a⟩ k=>⟨t',k _ a⟩⟩
def yF{o:be}{a C:Y}(q:ek p s b o)(e:b a=O (iS a C l)):∃t,o.get? a=O ⟨.ref C,l,.fields #[.ref t,.none,.none,.none,.bool ae,.none],#[]⟩:=(q a _ e).1
structure iQ(K:aR)(C:Y):Prop where
 b:∃cn cq ns bases up sls subs abst coll cdd s0 s1 s2 s3 s5,K.lookup C=O (m0 cn cq C ns bases up ab sls subs abst coll cdd s0 s1 s2 s3 s5 "Exception.__new__")/\h9 up
 q:eb K (.ref C) "__setattr__"=O (O (.builtin "object.__setattr__"))
 l:eb K (.ref C) "__getattribute__"=O (O (.builtin "BaseException.__getattribute__"))
 o:eb K (.ref C) "__getattr__"=O aa
 p:kg K (.ref C)=ab
def iQ.a(w:iQ u C):∃s,pO u C=O s/\h9 s.mro/\s.hasDict=ab:=by obtain⟨A,D,F,y,P,M,N,x,B,z,G,H,J,K,L,s,u⟩:=w.b;refine⟨_,by unfold pO;rw[s],.a u,I⟩
def IY(c:aR)(j d:aY)(f:ac):dv:=λg e a=>d e a λl h=>j e h λk d=>∃a C,k=.b a/\d a=O (iS a C aa)/\iQ c C/\hB c C f/\
 ∀c,d c=aa->c≠a->g.a e (al (al d a (iS a C (O c))) c (.i [(f,l)]))
def IW(G:aS X q l)(x:aS X a p)(J:lO a (O (.Attribute q z o)) pos.line X.a=cR ae):e6 X (.Assign [.Attribute q z o] a pos) (IY X.e l p z):=by
 intro o y l s a u w;refine Lg (a3 (x o y l s _ u w) λp Q ⟨K,A,D,P,a⟩=>a3 (G o Q l A _ D a) λL x ⟨S,y,B,M,u,C,F,H,s,w,N⟩=>?_) J;subst F;obtain rfl:L=b9 u:=M;obtain⟨t,o⟩:=yF B.a H;obtain⟨G,F,D,A⟩:=s.a;refine I9 B.h o s.q w.a F D A λJ L M G=>?_;have A:y x.heap.objs.size=aa:=B.a.b (bp _);have D:x.heap.objs.size≠u:=mO (cB o);refine⟨l,_,?_,N x.heap.objs.size A D⟩;have J:∀l,y l=aa->l≠u:=λl a o=>by rw[o,H]at a;cases a
 have N:∀l p,y l=O p->l≠x.heap.objs.size:=λl p a o=>by rw[o,A]at a;cases a
 have D:∀l p,l≠u->y l=O p->al (al y u (iS u C (O x.heap.objs.size))) x.heap.objs.size (.i [(z,K)]) l=O p:=λl p A a=>by rw[aL (N l p a),aL A];exact a
 have A:∀l p,y l=O p->(∀N,p≠.j N)->l≠u:=λl p a y o=>by rw[o,H]at a;cases a;exact y _ I
 refine B.D (t':=x.toks+2) ⟨λl q a w _ _=>G l q (J l w) a,λl q a w _ _=>⟨q.slots,G l q (J l w) a⟩,λl q a w _=>?_,λl q a _=>?_,λl H a=>D l _ (A l _ a (by intro _ o;cases o)) a,λl q p a=>D l _ (A l _ a (by intro _ o;cases o)) a,λl y a=>⟨#[],by rw[D l _ (A l _ a (by intro _ o;cases o)) a];simp⟩⟩ λl y e=>?_;rw[aL (eA (cB a)),aL (J l w)];exact w;by_cases o:l=u;exact⟨_,by rw[o];exact L⟩;exact⟨q,G l q o a⟩;by_cases o:l=x.heap.objs.size;subst o;rw[az]at e;cases e;refine⟨_,M,λq=>?_⟩;by_cases a:q=z;subst a;rw[ay I];show iJ (ih q [(q,K)]) (O p);rw[List.lookup_cons_self];exact P;rw[aw a];show iJ (ih q [(z,K)]) aa;rw[ii,beq_eq_false_iff_ne.mpr a];exact ma;rw[aL o]at e;by_cases p:l=u;subst p;rw[az]at e;cases e;exact yG L;rw[aL p]at e;refine(B.a l y e).b (λs q F a=>G s q ?_ a) (λs a=>D s _ (A s _ a (by intro _ o;cases o)) a) λs H a=>D s _ (A s _ a (by intro _ o;cases o)) a;rcases F with rfl|F;exact p;exact A s _ F (by intro _ o;cases o)
end
def kH(b:af)(c:Y):af:=λa=>if a=c then aa else b a
def yz:kH b a a=aa:=by unfold kH;rw[ay I]
def lx(d:a≠c):kH b c a=b a:=by unfold kH;rw[aw d]
def ro(c:a b=aa):kH a d b=aa:=by unfold kH;split<;>first|rfl|exact c
section
variable{X:aK}{pins:V (Y×aF)}{σ:L2.aQ}{H:af}{s:ao}{x:Y}{φ:be->Prop}
def I1(c:ax X pins σ H s)(f:H x=O (.j φ)):ax X pins σ (kH H x) s:=by
 have k:∀d g,H d=O g->(∀a,g≠.j a)->d≠x:=λd g a h e=>by rw[e,f]at a;cases a;exact h _ I
 refine⟨c.b,c.t,c.k,⟨c.d.c,c.d.f,λd n a m l=>ro (c.d.a d n a m l),c.d.e,λd o a=>?_,λd n g a=>?_,λd r a=>?_⟩,c.j,c.l,ro c.n,λf i a=>ro (c.q f i a),λq p=>?_,λd g h=>?_,c.r⟩;have f:=c.d.i d o a;rw[lx (k d _ f (by intro _ e;cases e))];exact f;have f:=c.d.d d n g a;rw[lx (k d _ f (by intro _ e;cases e))];exact f;obtain⟨l,f⟩:=c.d.g d r a;exact⟨l,by rw[lx (k d _ f (by intro _ e;cases e))];exact f⟩;obtain⟨h,m,f⟩:=c.f q p;exact⟨h,ro m,f⟩;have f:d≠x:=λe=>by rw[e,yz]at h;cases h
 rw[lx f]at h;exact(c.a d g h).b (λ_ _ _ a=>a) (λi a=>by rw[lx (k i _ a (by intro _ e;cases e))];exact a) λi o a=>by rw[lx (k i _ a (by intro _ e;cases e))];exact a
end
section
variable{M:jC}{A:bK}{n:ag->ao->Prop}{m:cS}{cn cq:ac}{C ns:Y}{bases up:V ag}{hasD:Bool}{sls:V ac}{subs:V ag}{abst:Bool}{coll:ar Bool}{cdd:ar Y}{s0 s1 s2 s3 s5:ar ag}{nid:String}
def I8{Q:Flow->ao->Prop}(i:up.contains (.type "BaseException")=ab)(j:A.handled=aa)
  (h:aC M A f (λg a=>∃b e c,g=.ref b/\a.heap.get? C=O (m0 cn cq C ns bases up hasD sls subs abst coll cdd s0 s1 s2 s3 s5 nid)/\a.heap.get? b=O ⟨.ref C,e,.fields #[.ref c,.none,.none,.none,.bool ae,.none],#[]⟩/\n (.ref b) a) n d):
  aC M A (raiseStmt m (O f) aa) Q n d:=by
 have f:(b9 C::up).contains (.type "BaseException")=ab:=by rw[nO,i,sX]
 unfold raiseStmt;refine aD (fM h (λg a i=>?_) λ_ _ d=>d);obtain⟨b,e,c,rfl,d,h,g⟩:=i;obtain⟨e,c,b,k,i⟩:=a;repeat(first
  |with_reducible refine om h ?_
  |with_reducible refine om d ?_
  |(with_reducible refine va d ?_;rw[f])
  |wp_step)
 exact wpAny_raiseNew_none j g
end
section
variable{X:aK}{k:Nat}{n C:Y}{m:hH}{sp:aB}{E:cf}{c:ac}{j i pos:bL}
def yB(C:Y)(sp:aB)(E:cf):dv:=λ_ _ d=>∀a,d a=aa->sp [.b a] (al d a (iS a C aa)) (λf e=>f=.c/\∃dx,e a=O (iS a C (O dx))/\E (.ref C) (O dx) (kH e a)) mh
def IU(g:iQ X.e C)(D:eb X.e (.ref C) "__init__"=O (O (.ref n)))(A:lL X.e (.ref n)=ab)(y:fH X.c X.d X.e X.g X.h fo k n m ["self"] sp)(t:cK (k+1) X.b)(w:fh X c)(z:X.g c=O (.ref C))
  (G:g2 X.e m ["self"] []) (H:∀{a p σ H' C dx tb},iR X E a p σ H' C dx tb->X.f (.ref a) p) (s:(c==("__debug__":ac))=ae:=by decide):
  e6 X (.Raise (O (.Call (.Name c j) [] [] i)) aa pos) (yB C sp E):=by
 intro x J σ l e d F;obtain⟨cn,cq,ns,bases,up,sls,subs,abst,coll,cdd,s0,s1,s2,s3,s5,u,h⟩:=g.b;rw[arm_exec_Raise];refine aD (oq (I8 (C:=C) (cn:=cn) (cq:=cq) (ns:=ns) (bases:=bases) (up:=up) (hasD:=ab) (sls:=sls) (subs:=subs) (abst:=abst) (coll:=coll) (cdd:=cdd) (s0:=s0) (s1:=s1) (s2:=s2) (s3:=s3) (s5:=s5) (nid:="Exception.__new__") (h.c (by decide)) t.c (aD (fM (Q:=λq f=>∃a r o,q=.ref a/\f.heap.get? C=O (m0 cn cq C ns bases up ab sls subs abst coll cdd s0 s1 s2 s3 s5 "Exception.__new__")/\f.heap.get? a=O ⟨.ref C,r,.fields #[.ref o,.none,.none,.none,.bool ae,.none],#[]⟩/\X.f (.ref a) f) ?_ (λq f e=>aD (oq (bF e))) λ_ _ f=>f))));refine pY (kB d w z ?_ s);refine Ap d.h g.p ?_;obtain⟨a,s,r,g,w⟩:=J;have z:=PySem.F.excBase_Exception;refine I2 z (h.c (by decide)) (h.d (by decide)) (h.d (by decide)) d.h u D (beq_iff_eq.mp A) (co _) ?_;have D:l (a.objs.size+1)=aa:=d.a.b (mM _);have z:ax X x σ l ⟨a.push {cls:=.type "tuple",data:=.seq ([]:V ag).toArray},s,r,g,w⟩:=d.w (t':=g) λA K e=>dw _ e;have J:((a.push {cls:=.type "tuple",data:=.seq ([]:V ag).toArray}).push {cls:=.ref C,data:=.fields #[.ref a.objs.size,.none,.none,.none,.bool ae,.none]}).get? (a.objs.size+1)
   =O ⟨.ref C,aa,.fields #[.ref a.objs.size,.none,.none,.none,.bool ae,.none],#[]⟩:=by heap_get
 have h:ax X x σ (al l (a.objs.size+1) (iS (a.objs.size+1) C aa)) ⟨(a.push {cls:=.type "tuple",data:=.seq ([]:V ag).toArray}).push {cls:=.ref C,data:=.fields #[.ref a.objs.size,.none,.none,.none,.bool ae,.none]},s,r,g,w⟩:=
  z.y (t':=g) (λA K e=>dw _ e) (ry (hI _ _)) (yG J)
 have r:X.j.heap.objs.size<=a.objs.size+1:=eZ d.A;refine ol (og (y.a _ X.l _ _ ⟨[.ref (a.objs.size+1)],[]⟩ [.ref (a.objs.size+1)] [.b (a.objs.size+1)] _ mh (t.i C [] []) (h.R.j C [] []) ?_ (.cons I .nil) (F _ D)) λg p e=>?_);exact G _ [.ref (a.objs.size+1)] h.h I;cases g with
 |error g=>exact eW e
 |ok g=>
  cases g with|next=>exact eW e|brk=>exact eW e|cont=>exact eW e|ret q=>obtain⟨t,H',g,q,p,dx,l,s⟩:=h.zd e;subst p;obtain⟨o,e⟩:=yF g.a l;refine⟨q,_,_,o,I,g.h _ _ u,e,H (σ:=σ) (H':=kH H' (a.objs.size+1)) (C:=C) (dx:=dx) (tb:=aa) ⟨?_,yz,r,λh f=>(nomatch f),λh a=>⟨?_,λf=>nomatch f⟩,⟨_,_,e,I⟩,s⟩⟩;exact(I1 g l).B (pins':=[]) λh a=>nomatch a;exact eA (mN (cB (d.f h (g9 _ a)).1))
end
def h_(f a b:Y):cw:=.j λc=>∃e d,c.get? f=O ⟨.ref a,O b,.fields e,d⟩
def I'{e:be}(d:e.get? a=O ⟨.ref b,O c,.fields g,f⟩):d_ i j h e a (h_ a b c):=
 ⟨⟨g,f,d⟩,⟨_,d⟩,λ_ _ ⟨e,c,a⟩ b=>⟨e,c,b _ a⟩⟩
section
variable{X:aK}{E:cf}{x C dx:Y}{n:ao}{σ:L2.aQ}{H':af}{tb:ar Y}{M:jC}{m:ag->ao->Prop}
def iR.g(m:iR X E x n σ H' C dx tb):x≠X.a.locals:=λw=>by obtain⟨u,t,p,_⟩:=m.a;obtain⟨A,⟨B,z,y,u,t,_⟩,_⟩:=m.b.j;rw[w,u]at p;cases p;cases t
def iR.k(t:iR X E x n σ H' C dx tb):∀p m,X.a.cells.lookup p=O m->m≠x:=λp m z A=>by obtain⟨y,u,w,_⟩:=t.a;obtain⟨D,B,u,y⟩:=t.b.l p m z;rw[A,w]at u;cases u;cases y
def iR.h(t:iR X E x n σ H' C dx tb)(w:tb=O p):p≠X.a.locals:=λz=>by obtain⟨A,y,p,u⟩:=t.a;subst w;obtain⟨_,_,y,A,p,w,_⟩:=u;obtain⟨D,⟨F,B,A,y,u,_⟩,_⟩:=t.b.j;rw[z,y]at p;cases p;rw[w]at u;cases u
def iR.o(w:iR X E x n σ H' C dx tb)(y:tb=O u):∀t p,X.a.cells.lookup t=O p->p≠u:=λt p B D=>by obtain⟨F,A,z,u⟩:=w.a;subst y;obtain⟨_,_,y,F,z,A,_⟩:=u;obtain⟨G,F,y,u⟩:=w.b.l t p B;rw[D,z]at y;cases y;rw[A]at u;cases u
def iR.q{zd:Unit->ao->Prop}(y:iR X E x n σ H' C dx tb)(R:X.l=X.a::X.p)(zp:X.a.frame=O X.a.locals)
  (zs:∀H ze,iR X E x {n with heap:=H} σ H' C dx (O ze)->zd () {n with heap:=H}):
  aC M X.b (pT (.ref x) X.a) (λ_ zw=>aC M X.b (rX (.ref x) aa) zd m zw) m n:=by
 have z:=y.b;refine yE (base:=X.h) (by rw[z.b.k,R]) (by rw[<-R];exact z.U) zp y.a λzo T zy zc zj=>ui (s:={n with heap:=zo}) zy λH zz zk zC=>zs H T ?_;have zl:n.heap.get? T=aa:=Ah (by rw[zc];exact bp _);have zg:∀p u,n.heap.get? p=O u->p≠T:=λp u t w=>by rw[w,zl]at t;cases t
 have L:∀{p:Y},p∉(x::tb.toList)->p≠x/\tb≠O p:=λ{p} B=>⟨λw=>B (by rw[w];exact cr),λw=>B (by rw[w];simp)⟩;have zh:∀p u,n.heap.get? p=O u->p≠x->tb≠O p->p∉fr (X.a::X.p)->H.get? p=O u:=λp u t F G A=>zk p u (zg p u t) (zj.a p u F G A t);have zb:∀p u,n.heap.get? p=O u->p≠x->tb≠O p->∃P,H.get? p=O {u with slots:=P}:=λp u t F G=>by obtain⟨P,D⟩:=zj.c p u F G t;exact⟨P,zk p _ (zg p u t) D⟩
 have zu:∀{p:Y},p≠X.a.locals->p∉X.n->p∉fr (X.a::X.p):=λ{p} F G B=>by rw[<-R]at B;rcases bW.mp (z.P p B)with w|w;exact F w;exact G w
 refine⟨?_,y.c,y.f,λze w=>?_,λN K=>⟨(y.d N K).1,λw=>?_⟩,zz,y.i⟩;refine z.N (g':=n.gens) (d':=n.drawn) (t':=n.toks) (ch:=x::tb.toList) (λp U=>?_) (λp u F G A t _=>zh p u t (L A).1 (L A).2 (zu F G)) (λp u _ _ A t _=>zb p u t (L A).1 (L A).2) (λ_ _ _ _ zt=>zt)
  (λp u A t=>?_) (λ_ _ t=>t) (λ_ _ _ t=>t) (λp zB t=>⟨#[],by rw[t];simp⟩) (λB zq=>?_) (λp zi D=>?_) z.k
 rcases bW.mp U with rfl|U;exact⟨.inr y.f,y.g,y.k,λN K=>(y.d N (by simpa using K)).1⟩;have S:tb=O p:=by simpa using U
 exact⟨.inr (y.e p S).2,y.h S,y.o S,λN K w=>(y.d N (by simpa using K)).2 (by rw[w];exact S)⟩;obtain⟨P,D⟩:=zb p u t (L A).1 (L A).2;exact⟨_,D⟩;obtain⟨u,zn,zm,zr,zv⟩:=zq;obtain⟨P,D⟩:=zb _ u zr (df y.g) (λw=>y.h w I);exact⟨_,zn,zm,D,zv⟩;refine(z.a p zi D).b (λQ v za t=>?_) (λ_ t=>t) λ_ _ t=>t;have zx:∃u,H' Q=O u:=by rcases za with rfl|za;exact⟨zi,D⟩;exact⟨_,za⟩
 obtain⟨zA,J⟩:=zx;refine zh Q v t (λw=>?_) (λw=>?_) λB=>?_;rw[w,y.c]at J;cases J;rw[(y.e Q w).1]at J;cases J;rw[<-R]at B;rw[z.za Q B]at J;cases J;cases w;rw[zc];exact⟨z.a.b (bp _),z.A⟩;cases w;have zf:=cB (z.f N (g9 _ K)).1;rw[zc]at zf;exact a7 zf (fV _)
def iR.r(p:iR X E x n σ H' C dx (O t))(z:∀u,iR X E x {n with heap:=u} σ H' C dx (O t)->w () {n with heap:=u}):aC M y (rX (.ref x) aa) w m n:=by refine ui p.a λu w A _=>z u ⟨?_,p.c,p.f,p.e,p.d,w,p.i⟩;exact p.b.o (t':=n.toks) A (p.e t I).1 (p.h I) (.inr (p.e t I).2) (p.o I) λw u y=>(p.d w (by simpa using u)).2 (by rw[y])
def iR.s(w:iR X E x n σ H' C dx tb):ax X [] σ (al H' x (h_ x C dx)) n:=by
 obtain⟨p,m,L,_⟩:=w.a;have t:=w.b;have y:∀p u,H' p=O u->p≠x:=λp u m B=>by rw[B,w.c]at m;cases m
 have z:∀p u,H' p=O u->al H' x (h_ x C dx) p=O u:=λp u m=>by rw[aL (y p u m)];exact m
 have A:∀p,p≠x->H' p=aa->al H' x (h_ x C dx) p=aa:=λp y m=>by rw[aL y];exact m
 refine⟨t.b,t.t,t.k,⟨t.d.c,t.d.f,λp y m F D=>A p (eA (eg (cB m) w.f)) (t.d.a p y m F D),t.d.e,λp J m=>z p _ (t.d.i p J m),λp y u m=>z p _ (t.d.d p y u m),λp M m=>?_⟩,t.j,t.l,A _ (df w.g) t.n,λK y m=>A y (w.k K y m) (t.q K y m),λH G=>?_,λp u m=>?_,t.r⟩;obtain⟨D,K⟩:=t.d.g p M m;exact⟨D,z p _ K⟩;obtain⟨D,F,K⟩:=t.f H G;exact⟨D,A _ (w.d H (by simpa using G)).1 F,K⟩;by_cases B:p=x;subst B;rw[az]at m;cases m;exact I' L;rw[aL B]at m;exact(t.a p u m).b (λ_ _ _ m=>m) (λy m=>z y _ m) λy J m=>z y _ m
end
def yC(e:aR)(d:aY)(g:ac):aY:=λf a j=>d f a λk c=>∃d a f h v,k=.b d/\c d=O (h_ d a f)/\c f=O (.i h)/\iQ e a/\hB e a g/\h.lookup g=O v/\j v c
def IT{X:aK}(t:aS X a c)(r:lN a b X.a (bB a X.a)=bB a X.a):aS X (.Attribute a b d) (yC X.e c b):=by intro x s B j a k q;refine xo r (a3 (t x s B j _ k q) λA g ⟨C,d,a,z,c,h,f,p,v,n,l,m,e,w,u,y⟩=>?_);subst n;obtain rfl:A=b9 c:=z;obtain⟨⟨k,j,n⟩,_⟩:=(show d_ X.c X.d d g.heap c (h_ c h f)from a.a c _ l);obtain⟨j,h,l⟩:=(show d_ X.c X.d d g.heap f (.i p)from a.a f _ m);obtain⟨f,k,c⟩:=iJ.c (v:=v) (o:=j b) (by rw[<-u];exact l b);obtain⟨b,j,g⟩:=xW h;obtain⟨l,b,h,f⟩:=e.a;exact I5 a.h ⟨n,I,I,j⟩ b h f e.l e.o w (by rw[g,k]) (xL c) ⟨v,d,a.e _,c,y⟩
def uh{v:ah}(c:b=O (O v))(d:a v):tT b a:=by rw[c];exact d
section
variable{X:aK}{pins:V (Y×aF)}{σ:L2.aQ}{H:af}{s:ao}{i:Nat}{n:ac}
def I0{v:ah}(c:ax X pins σ H s)(A:X.i.Nodup)(u:X.i[i]?=O n)(d:X.a.scope.names.lookup n=O .local)(j:σ[i]?=O (O v))
  (k:∀e,ax X pins (σ.set i aa) H e->a () e):aC h f (unbindName X.a n) a g s:=by
 obtain⟨f,e,w⟩:=id c.j;obtain⟨g,h,a⟩:=w i n v u j (.inl d);have h:f n=O g:=by rcases a with⟨_,a⟩|⟨a,_⟩;exact a;have a:X.a.scope.names.lookup n=O .cell\/X.a.scope.names.lookup n=O .free:=a;rw[d]at a;rcases a with a|a<;>cases a
 have f:(X.a.scope.kind==.class||(X.a.scope.kind==.module&&X.a.locals !=X.a.globals))=ae:=by rw[c.b.d];rfl
 obtain⟨j,_,_,g,_⟩:=id e;refine wpAny_unbindName_local d e h f λg j y m=>k _ ?_;have k:∀d f,d≠X.a.locals->s.heap.get? d=O f->g.get? d=O f:=λd f g e=>(m.2 d g).trans e;have o:∀d f,X.j.heap.get? d=O f->d≠X.a.locals:=λd f e=>eA (eg (cB e) c.b.f);refine⟨c.b,c.t,c.k,⟨λd f e q p l=>k d f (o d f e) (c.d.c d f e q p l),λd f e q p l=>?_,c.d.a,λd f e l=>?_,c.d.i,c.d.d,c.d.g⟩,⟨_,y,λx j r t h z=>?_⟩,λj g a=>?_,c.n,c.q,λy B=>?_,λd r a=>?_,by simpa using c.r⟩;obtain⟨C,a⟩:=c.d.f d f e q p l;exact⟨C,k d _ (o d f e) a⟩;obtain⟨p,a⟩:=c.d.e d f e l;exact⟨p,k d _ (o d f e) a⟩;by_cases l:x=i;subst l;rw[py]at h;rw[ay I]at h;split at h<;>cases h;rw[un (df l)]at h;obtain⟨o,f,e⟩:=w x j r t h z;refine⟨o,f,?_⟩;rcases e with⟨h,a⟩|⟨h,g,a,f⟩;refine .inl ⟨h,?_⟩;have p:j≠n:=λf=>l (q3 A t (f▸u));simp[p,a];exact .inr ⟨h,g,a,f.sameBut m (c.M j g a)⟩;obtain⟨o,f⟩:=c.l j g a;exact⟨o,f.sameBut m (c.M j g a)⟩;obtain⟨a,l,f,j,h⟩:=c.f y B;exact⟨k y.1 _ f a,l,f,j,h⟩;refine(c.a d r a).b (λg h f e=>k g h ?_ e) (λ_ e=>e) λ_ _ e=>e;rintro rfl;rcases f with rfl|f;rw[c.n]at a;cases a;rw[c.n]at f;cases f
end
abbrev mE(X:aK)(a:Y):aK:={X with b:=X.b.mark (O (.ref a)),k:=ae}
def Inv.b{X:aK}{s:ao}(f:ax X g h e s):ax (mE X i) g h e s:=by have e:=f.b;exact⟨⟨e.e,e.d,e.g,e.q,e.f,e.t,e.h,e.m,λg=>(by cases g),e.k,e.u,e.r,e.i,e.j,e.p,e.n,e.l,e.s⟩,f.t,f.k,f.d,f.j,f.l,f.n,f.q,f.f,f.a,f.r⟩
def Inv.d{X:aK}{s:ao}(i:X.t)(e:ax (mE X j) g h f s):ax X g h f s:=
 ⟨i,e.t,e.k,e.d,e.j,e.l,e.n,e.q,e.f,e.a,e.r⟩
abbrev kI(X:aK)(b:V (Y×aF))(a:ag->ao->Prop):aK:={X with q:=X.q++b,f:=a}
def Inv.c{X:aK}{s:ao}(i)(f:ax X g h e s):ax (L3.kI X g i) [] h e s:=by have e:=f.b;exact⟨⟨e.e,e.d,e.g,e.q,e.f,e.t,e.h,e.m,e.a,e.k,e.u,e.r,e.i,e.j,e.p,e.n,e.l,e.s⟩,f.t,f.k,f.d,f.j,f.l,f.n,f.q,λh g=>f.f h (by simpa using g),f.a,f.r⟩
def Inv.a{X:aK}{s:ao}(j:X.t)(e:ax (L3.kI X g i) [] h f s):ax X g h f s:=
 ⟨j,e.t,e.k,e.d,e.j,e.l,e.n,e.q,λg f=>e.f g (by simpa using f),e.a,e.r⟩
section
variable{X:aK}{E:cf}{m:aZ}{k:aY}{r n j:ac}{i:Nat}{R:Y}{h g f e d c b pos:bL}
def IZ(e:aR)(R:Y)(k:aY)(E:cf)(j:ac):dv:=λh l f=>k l f h.b/\∀c g d,E (.ref c) (O g) d->iQ e c/\n' e (.ref c) (.ref R)=O ab/\hB e c j/\
 ∃l v,d g=O (.i l)/\l.lookup j=O v/\∀f e,d f=aa->d e=aa->e≠f->h.b (.b e) (al (al d f (h_ f c g)) e (.a [v]))
def pr(X:aK)(d:V (Y×aF))(b:hA)(c:V ExceptHandler)(a:ag)(e:ao):Prop:=
 aC (aT X.c X.d) X.b (pT a X.a) (λ_ f=>aC (aT X.c X.d) X.b (rX a aa) (λ_ g=>aC (aT X.c X.d) X.b (handleBy a X.a c) (ml X d b) X.f g) X.f f) X.f e
def IV(zb:∀o l,fS (eJ X.c X.d) (L3.kI X o l) E->aS (L3.kI X o l) m k)(J:X.l=X.a::X.p)(H:X.a.frame=O X.a.locals)(K:X.i.Nodup)(y:X.i[i]?=O n)
  (z:X.a.scope.names.lookup n=O .local) (ze:fh X r) (zf:X.g r=O (.ref R)) (za:lN (.Name n d) j X.a (bB (.Name n d) X.a)=bB (.Name n d) X.a)
  (zi:bX [.Attribute (.Name n d) j e] X.a=(ae,bB (.Attribute (.Name n d) j e) X.a)::bX [] X.a)
  (M:(r==("__debug__":ac))=ae:=by decide) (zc:(n==("__debug__":ac))=ae:=by decide) (zd:(n==("__classdict__":ac))=ae:=by decide):
  e6 X (.Try [.Return (O m) h] [.ExceptHandler (O (.Name r g)) (O n) [.Return (O (.List [.Attribute (.Name n d) j e] c)) b] f] [] [] pos) (IZ X.e R k E j):=by
 intro o s zn N t L l;obtain⟨zh,zk⟩:=l;have A:=L.b;have zg:fS (eJ X.c X.d) (L3.kI X o (pr X o t [.ExceptHandler (O (.Name r g)) (O n) [.Return (O (.List [.Attribute (.Name n d) j e] c)) b] f])) E:=by
  intro l D u zm w G q p;obtain⟨l,w,x,F,C,rfl,B⟩:=iR.l q p;show aC _ _ _ _ _ _;refine B.q J H λp P F=>?_;obtain⟨Q,P,zl,U,v,J,S,T⟩:=zk w x C F.i;refine wpAny_handleBy_cons ?_ (by intro B;cases B);refine codeAny_handlers_test ?_;have H:ax (mE (L3.kI X o (pr X o t [.ExceptHandler (O (.Name r g)) (O n) [.Return (O (.List [.Attribute (.Name n d) j e] c)) b] f])) l) [] D C {G with heap:=p}:=Inv.b F.b;refine kB (X:=mE (L3.kI X o (pr X o t [.ExceptHandler (O (.Name r g)) (O n) [.Return (O (.List [.Attribute (.Name n d) j e] c)) b] f])) l) H ze zf ?_ M;obtain⟨ze,M,hx,_⟩:=F.a;have M:rG (aT X.c X.d) p (typeOf (.ref l)) (.ref w):=(UT hx).andThen .now;refine pN (s:={G with heap:=p}) (PySem.W.exm_one H.h M P) ?_;show iX _ _ _ _ _;refine AF ?_;show aC _ _ (do return Fin.done (<-(handleWith (.ref l) X.a [.ExceptHandler aa (O n) [.Return (O (.List [.Attribute (.Name n d) j e] c)) b] f]).onRaise (λp=>do pT p X.a;Lk p))) _ _ _;refine aD (LA ?_);unfold handleWith;refine aD (oq (aD (F.r λM H=>?_)));have P:ax (L3.kI X o (pr X o t [.ExceptHandler (O (.Name r g)) (O n) [.Return (O (.List [.Attribute (.Name n d) j e] c)) b] f])) [] D (al C l (h_ l w x)) {G with heap:=M}:=H.s;have F:ax (mE X l).s o D (al C l (h_ l w x)) {G with heap:=M}:=(Inv.b (Inv.a A P)).zj _;refine aD (bindName_ ?_);refine rf (X:=(mE X l).s) (v:=.b l) F K y (.inl z) I (λze G=>?_) (.inr z);refine aD (pZ ?_);have P:i<D.length:=by rw[F.r];exact(bu.mp y).1
  have F:eG (mE X l).s [.Return (O (.List [.Attribute (.Name n d) j e] c)) b] _:=au (aV (bC (Z (IT (x7 y (.inl z) zc zd) za) ai zi)));have za:x≠l:=λp=>by rw[p,H.c]at J;cases J
  have M:(rk (yn (pk (yC X.e (j8 i) j) j7))) {a:=λ_ _=>False,b:=t.b} (D.set i (O (.b l))) (al C l (h_ l w x)):=by
   refine uh (fK P) ⟨l,w,x,U,v,I,az,by rw[aL za];exact J,Q,zl,S,by show 1<=aH;decide,λC w=>?_⟩;have x:C≠l:=λp=>by rw[p,az]at w;cases w
   rw[aL x]at w;exact T l C H.c w x
  refine fM (F o ze _ _ _ G M) (λw J l=>?_) (λ_ _ p=>eW p);cases w with
  |next=>obtain⟨_,_,_,p⟩:=l;exact eW p
  |brk=>obtain⟨_,_,_,p⟩:=l;exact eW p
  |cont=>obtain⟨_,_,_,p⟩:=l;exact eW p
  |ret D=>
   obtain⟨P,G,x,H,M,l⟩:=l;have C:ax X o G x J:=Inv.d A H.L;refine bF (bF ?_);show aC _ _ _ _ _ _;refine aD (bindName_ (rf (v:=.c) C K y (.inl z) I (λJ H=>?_) (.inr z)));have J:i<G.length:=by rw[C.r];exact(bu.mp y).1
   exact wpAny_onRaise (I0 H K y z (fK J) (λG C=>(show ml X o t (.ret D) G from⟨P,_,x,C,M,l⟩)))
 have F:eG (L3.kI X o (pr X o t [.ExceptHandler (O (.Name r g)) (O n) [.Return (O (.List [.Attribute (.Name n d) j e] c)) b] f])) [.Return (O m) h] (rk k):=au (aV (zb o _ zg));refine wpAny_Try_except (fM (F [] s zn N t (Inv.c _ L) zh) (λw zm B=>?_) λ_ _ p=>p);cases w with
 |next=>obtain⟨o,u,q,l⟩:=B;exact rY ⟨o,u,Inv.a A q,l⟩
 |brk=>obtain⟨o,u,q,l⟩:=B;exact⟨o,u,Inv.a A q,l⟩
 |cont=>obtain⟨o,u,q,l⟩:=B;exact⟨o,u,Inv.a A q,l⟩
 |ret D=>obtain⟨t,o,u,q,p,l⟩:=B;exact⟨t,o,u,Inv.a A q,p,l⟩
end
abbrev IQ:=Y×cw
abbrev aE:=V IQ
structure am(H:af)(Bs:V aE):Prop where
 s:∀c∈Bs.flatten,H c.1=O c.2
 u:(Bs.flatten.map (·.1)).Nodup
def pq{Bs:V aE}{i:Nat}{B:aE}(b:Bs[i]?=O B):Bs.flatten.Perm (B++(Bs.eraseIdx i).flatten):=by
 induction Bs generalizing i with
 |nil=>simp at b
 |cons a c e=>
  cases i with|zero=>have d:a=B:=bA b;subst d;exact .refl _|succ i=>have d:=e (i:=i) (by simpa using b);show(a++c.flatten).Perm (B++(a++(c.eraseIdx i).flatten));refine(ia a d).trans ?_;rw[<-b8,<-b8];exact ly _ nU
def am.k{H:af}{Bs Cs:V aE}(Q:am H Bs)(R:Bs.flatten.Perm Cs.flatten):am H Cs:=
 ⟨λc S=>Q.s c (R.mem_iff.mpr S),(R.map _).nodup_iff.mp Q.u⟩
def am.a{H:af}{Bs:V aE}{B:aE}(c:am H Bs)(i)(Q:Bs[i]?=O B):am H (B::Bs.eraseIdx i):=c.k (pq Q)
def am.r{Bs:V aE}(Q:am H (R::Bs)):am H Bs:=by refine⟨λc H=>Q.s c (gb _ H),?_⟩;have H:=Q.u;rw[fj,a6]at H;exact(jA.mp H).2.1
def am.g{Bs:V aE}(H:am c Bs)(i){B:aE}(Q:Bs[i]?=O B):am c (Bs.eraseIdx i):=(H.a i Q).r
def am.y{A B:aE}(Q:am H (A::B::c)):am H ((A++B)::c):=Q.k (by simp)
def am.A{H:af}{A B:aE}{c:V aE}(Q:am H ((A++B)::c)):am H (A::B::c):=Q.k (by simp)
def am.C{A c:aE}(R:am Q (A::H))(S:A.Perm c):am Q (c::H):=R.k (by rw[fj,fj];exact ly _ S)
def am.K{Bs:V aE}(H:am c Bs):am c ([]::Bs):=H.k (by simp)
def am.e{c:af}{Bs:V aE}{a:Y}{o:cw}(H:am c Bs)(i:Nat)(Q:Bs[i]?=O [(a,o)]):c a=O o:=
 H.s (a,o) ((pq Q).mem_iff.mpr (g9 _ (by simp)))
def am.B{Q:af}{H:V aE}{a:Y}{o:cw}{c:aE}(R:am Q H)(T:Nat)(S:H[T]?=O c)(U:(a,o)∈c):Q a=O o:=
 R.s (a,o) ((pq S).mem_iff.mpr (g9 _ U))
def am.z{H:af}{Bs:V aE}{a:Y}{o:cw}(o')(Q:am H ([(a,o)]::Bs)):am (al H a o') ([(a,o')]::Bs):=by have R:(a::Bs.flatten.map (·.1)).Nodup:=Q.u;have S:=(g_.mp R).1;refine⟨λc H=>?_,R⟩;have H:c∈(a,o')::Bs.flatten:=H;rcases bW.mp H with rfl|H;exact az;have R:c.1≠a:=λT=>S (by rw[<-T];exact bm.mpr ⟨c,H,I⟩);rw[aL R];exact Q.r.s c H
def mF{Bs:V aE}{i:Nat}{B a:aE}(b:Bs[i]?=O B):(Bs.set i a).flatten.Perm (a++(Bs.eraseIdx i).flatten):=by have c:i<Bs.length:=(bu.mp b).1;have b:=pq (Bs:=Bs.set i a) (i:=i) (B:=a) (fK c);rwa[List.eraseIdx_set_eq]at b
def am.p{c:af}{Bs:V aE}{a:Y}{o:cw}(Q:am c Bs)(i)(H:Bs[i]?=O [(a,o)])(o'):am (al c a o') (Bs.set i [(a,o')]):=
 ((Q.a i H).z o').k (mF H).symm
def am.f{H:af}{Bs:V aE}{a:Y}(R:am H Bs)(T:H a=aa)(o):am (al H a o) ([(a,o)]::Bs):=by
 have S:∀c∈Bs.flatten,c.1≠a:=λc Q U=>by have:=R.s c Q;rw[U,T]at this;cases this
 refine⟨λc Q=>?_,?_⟩;have Q:c∈(a,o)::Bs.flatten:=Q;rcases bW.mp Q with rfl|Q;exact az;rw[aL (S c Q)];exact R.s c Q;show(a::Bs.flatten.map (·.1)).Nodup;refine g_.mpr ⟨λT=>?_,R.u⟩;obtain⟨c,Q,R⟩:=bm.mp T;exact S c Q R
def am.o(S:am Q H)(k:∀a o,Q a=O o->R a=O o):am R H:=⟨λc H=>k _ _ (S.s c H),S.u⟩
def a0(a C b:Y)(d:V (ac×ah)):aE:=[(a,.c C b d),(b,.f a)]
def am.b{H:af}{Bs:V aE}{a C Q:Y}{R:V (ac×ah)}(S:am H Bs)(i:Nat)(T:Bs[i]?=O (L3.a0 a C Q R)):H a=O (.c C Q R):=S.B i T (by simp[L3.a0])
def am.n{S:af}{R:V aE}{H C Q:Y}{T:V (ac×ah)}(U)(X:am S (L3.a0 H C Q T::R)):am (al S H (.c C Q U)) (L3.a0 H C Q U::R):=by have za:am S ([(H,.c C Q T)]::[(Q,.f H)]::R):=am.A (A:=[(H,.c C Q T)]) (B:=[(Q,.f H)]) X;exact am.y (A:=[(H,.c C Q U)]) (B:=[(Q,.f H)]) (za.z _)
def am.j{H:af}{Q:V aE}{a C R:Y}{U:V (ac×ah)}(X:am H Q)(i)(T:Q[i]?=O (L3.a0 a C R U))(S):am (al H a (.c C R S)) (Q.set i (L3.a0 a C R S)):=
 ((X.a i T).n S).k (mF T).symm
def am.t{Q:af}{R:V aE}{x H C:Y}(S:am Q R)(U:Q x=aa)(T:Q H=aa)(X:H≠x):am (al (al Q H (.f x)) x (.c C H [])) (L3.a0 x C H []::R):=by have Q:=S.f T (.f x);have R:=Q.f (a:=x) (by rw[aL (df X)];exact U) (.c C H []);exact am.y (A:=[(x,.c C H [])]) (B:=[(H,.f x)]) R
end L3
namespace Rb
open PySem PySem.Spec PyProof.Rows L2 L3
def aI(i:Nat):bh:=jB.main.body.getD i (.Pass ⟨0,0,0,0⟩)
def bG{b B:Prop}(c:a=ab->b)(d:a=ae->B):if a=ab then b else B:=by
 cases a with|true=>exact G6 (c I)|false=>exact G5 (d I)
def lR(c:aR)(e:ac->ar ag)(a:ac)(f:bh):Prop:=∃b d,e a=O (.ref b)/\jo c a a f b d
def ou(a:aR)(d:Y)(c f:ac)(g:bh):Prop:=∃b e,eb a (.ref d) c=O (O (.ref b))/\lL a (.ref b)=ab/\jo a c f g b e
def hL(g:bd)(k:aO)(a:aR)(d:ac->ar ag)(h:be)(f:f8)(i:Nat)(l:ac)(e:V ac)(j:aB):Prop:=∃b c,d l=O (.ref b)/\kg a (.ref b)=ab/\g2 a c e []/\fH g k a d h f i b c e j
def lS(g:bd)(m:aO)(a:aR)(k:ac->ar ag)(h:be)(f:f8)(i:Nat)(e:Y)(j:ac)(d:V ac)(l:aB):Prop:=∃b c,qQ a e j b/\g2 a c d []/\fH g m a k h f i b c d l
structure hJ(K:aR)(mg:ac->ar ag)(c:ac)(C:Y):Prop where
 d:mg c=O (.ref C)
 b:uV K C=ab
 a:kg K (.ref C)=ab
section
variable{P:bd}{w:aO}{K:aR}{n:ac->ar ag}{base:be}
abbrev ir(k j:ac)(a:bh)(c:V ac):Prop:=∀h g i d e f(b:V ag),b.length=c.length->rQ (oa k j (mn a) (fT a) (de a) .none h g i d e f) ⟨b,[]⟩=cR (c.zip b)
def lR.a{m l:V ac}(f:lR K n e d)(x:gq m l (de d))(y:ir e e d l)(A:∀j g h k,o j g h k->j.length=l.length)
  (z:∀i q(p:bK) B(t:ao) g(j:V ah) h k,cK r (p.deeper (fW e (de d) t.heap.objs.size i q))->o j g h k->∃u,eG (fi fo P w K n base m e (de d) i q p B t g k).s (fT d) u/\u {a:=λ_ d=>h .c d,b:=h} (hD m j) g):hL P w K n base fo (r+1) e l o:=by
 obtain⟨i,d,e,f⟩:=f;exact⟨i,d,e,f.b,f.a y,f.d x A (z i)⟩
def ou.a{m k:V ac}(e:ou K r p l d)(z:gq m k (de d))(A:ir p l d k)(C:∀i f g j,o i f g j->i.length=k.length)
  (B:∀h t(q:bK) D(x:ao) f(i:V ah) g j,cK u (q.deeper (fW l (de d) x.heap.objs.size h t))->o i f g j->∃y,eG (fi fo P w K n base m l (de d) h t q D x f j).s (fT d) y/\y {a:=λ_ d=>g .c d,b:=g} (hD m i) f):lS P w K n base fo (u+1) r p k o:=by
 obtain⟨h,d,f,g,e⟩:=e;exact⟨h,d,⟨f,g,e.b⟩,e.a A,e.d z C (B h)⟩
def lR.b{m l:V ac}(f:lR K n e d)(u:gq m l (de d))(x:ir e e d l)(z:∀j g h k,o j g h k->j.length=l.length)
  (y:∀i q(p:bK) A(s:ao) g(j:V ah) h k,cK r (p.deeper (fW e (de d) s.heap.objs.size i q))->o j g h k->∃t,eG (fi (eJ P w) P w K n base m e (de d) i q p A s g k) (fT d) t/\t {a:=λ_ d=>h .c d,b:=h} (hD m j) g):hL P w K n base (eJ P w) (r+1) e l o:=by
 obtain⟨i,d,e,f⟩:=f;exact⟨i,d,e,f.b,f.a x,L3.yA f u z (y i)⟩
def ou.b{m k:V ac}(e:ou K r p l d)(y:gq m k (de d))(z:ir p l d k)(B:∀i f g j,o i f g j->i.length=k.length)
  (A:∀h s(q:bK) C(u:ao) f(i:V ah) g j,cK t (q.deeper (fW l (de d) u.heap.objs.size h s))->o i f g j->∃x,eG (fi (eJ P w) P w K n base m l (de d) h s q C u f j) (fT d) x/\x {a:=λ_ d=>g .c d,b:=g} (hD m i) f):lS P w K n base (eJ P w) (t+1) r p k o:=by
 obtain⟨h,d,f,g,e⟩:=e;exact⟨h,d,⟨f,g,e.b⟩,e.a z,L3.yA e y B (A h)⟩
end
section
variable{X:aK}{n:f8}{j k:Nat}{ps:V ac}{sp:aB}{E:cf}{x m:ac}{p pos i:bL}{o e:aZ}{h:V aZ}{g:aY}{t:el}{C:Y}
def aP(b:hL X.c X.d X.e X.g X.h n j x ps sp)(d:fR X (e::h) t)(r:cK k X.b:=by assumption)(hx:fS n X E:=by walk_at"p")(m:j<=k:=by decide)(l:fh X x:=by rfl)
  (g:(x==("__debug__":ac))=ae:=by decide) (i:bX (e::h) X.a=(ae,bB e X.a)::bX h X.a:=by rfl) (q:(d5 pos (bX h X.a)).any (·.1)=ae:=by rfl):
  aS X (.Call (.Name x p) (e::h) [] pos) (rg sp [] E t):=by
 obtain⟨f,u,o,s,c,a⟩:=b;exact Hv a (r.b m) l o s c .nil hx d g i q
def bT(b:lS X.c X.d X.e X.g X.h n j C m ps sp/\fp X.e C)(s:aS X o g)(l:fR X (e::h) t)(w:cK k X.b:=by assumption)(A:fS n X E:=by walk_at"p")(q:j<=k:=by decide)
  (y:bX (e::h) X.a=(ae,bB e X.a)::bX h X.a:=by rfl) (u:(d5 pos (bX h X.a)).any (·.1)=ae:=by rfl)
  (z:bB (.Call (.Attribute o m i) (e::h) [] pos) X.a=(do
   let a<-bB o X.a
   oj i.atName
   let(f,c)<-iZ [a] (oh a m d)
   kh pos f c (d5 pos (bX (e::h) X.a)) (gM pos (gN [] X.a))):=by rfl):
  aS X (.Call (.Attribute o m i) (e::h) [] pos) (mC C m sp [] E g t):=by
 obtain⟨⟨f,B,r,c,a⟩,d⟩:=b;exact HA s d r a (w.b q) c .nil A l y u z
def a'(b:lS X.c X.d X.e X.g X.h n j C m ps sp/\fp X.e C)(r:aS X o g)(s:cK k X.b:=by assumption)(w:fS n X E:=by walk_at"p")(l:j<=k:=by decide)
  (u:bB (.Call (.Attribute o m i) [] [] pos) X.a=(do
   let a<-bB o X.a
   oj i.atName
   let(f,c)<-iZ [a] (oh a m d)
   kh pos f c (d5 pos (bX [] X.a)) (gM pos (gN [] X.a))):=by rfl):
  aS X (.Call (.Attribute o m i) [] [] pos) (mC C m sp [] E g j7):=by
 obtain⟨⟨f,y,q,c,a⟩,d⟩:=b;exact HB r d q a (s.b l) c .nil w u
def hQ(a:hJ X.e X.g x C)(d:lS X.c X.d X.e X.g X.h n j C "__init__" ps sp/\fp X.e C)(i:fR X (e::h) t)(s:cK k X.b:=by assumption)(u:fS n X E:=by walk_at"p")(q:j+1<=k:=by decide)(o:fh X x:=by rfl)
  (l:(x==("__debug__":ac))=ae:=by decide) (m:bX (e::h) X.a=(ae,bB e X.a)::bX h X.a:=by rfl) (r:(d5 pos (bX h X.a)).any (·.1)=ae:=by rfl):
  aS X (.Call (.Name x p) (e::h) [] pos) (rj C sp [] E t):=by
 obtain⟨⟨f,w,b,g,c⟩,_⟩:=d;exact Hy ⟨a.b,b.a,b.b,a.a⟩ c (s.b q) o a.d g .nil u i l m r
def BR(a:hJ X.e X.g x C)(d:lS X.c X.d X.e X.g X.h n j C "__init__" ps sp/\fp X.e C)(i:cK k X.b:=by assumption)(l:fS n X E:=by walk_at"p")(h:j+1<=k:=by decide)(g:fh X x:=by rfl)
  (f:(x==("__debug__":ac))=ae:=by decide):aS X (.Call (.Name x p) [] [] pos) (rj C sp [] E j7):=by
 obtain⟨⟨m,o,b,e,c⟩,_⟩:=d;exact Hz ⟨a.b,b.a,b.b,a.a⟩ c (i.b h) g a.d e .nil l f
end
def dO(d:aR)(k:Y)(j:cf)(f:af)(l:Int):Prop:=∀b e c,iQ d b->n' d (.ref b) (.ref k)=O ab->hB d b "answer"->(∀g h,f g=O h->c g=O h)->f e=aa->c e=O (.i [("answer",.a l)])->j (.ref b) (O e) c
inductive wn(K:aR)(n:Int)(vs:V ah)(H:af)(Q:bj)(E:cf):Prop
 |a (x C:Y):vs=[.b x]->iQ K C->hB K C "answer"->H x=O (iS x C aa)->(∀dx,H dx=aa->dx≠x->Q .c (al (al H x (iS x C (O dx))) dx (.i [("answer",.a n)])))->wn K n vs H Q E
def gO(f:bd)(k:aO)(a:aR)(e:ac->ar ag)(h:be)(g:Y)(i:ac)(j:Int):Prop:=
 ∃b c d,e i=O (.ref b)/\iQ a b/\n' a (.ref b) (.ref g)=O ab/\hB a b "answer"/\eb a (.ref b) "__init__"=O (O (.ref c))/\lL a (.ref c)=ab/\L2.g2 a d ["self"] []/\fH f k a e h fo 2 c d ["self"] (wn a j)
def Df(c:aR)(d:Y)(a:cf)(e:Int):dv:=λ_ _ b=>dO c d a b e
def S9(f:iQ b a)(k:n' b (.ref a) (.ref e)=O ab)(g:hB b a "answer")(j:dO b e d c h):yB a (wn b h) d i l c:=by
 intro i l;refine⟨i,a,I,f,g,az,λb e d=>⟨I,b,?_,?_⟩⟩;rw[aL (df d),az];have h:c b=aa:=by rw[aL d]at e;exact e
 refine j a b _ f k g (λe m c=>?_) h ?_;have a:e≠i:=cX c l;rw[lx a,aL (cX c h),aL a,aL a];exact c;rw[lx d,az]
def Ny
  (z:gO a c d g f s k r) (G:cK t (fi (eJ a c) a c d g f j o q m l h n p i e).b) (F:3<=t:=by decide) (E:fh (fi (eJ a c) a c d g f j o q m l h n p i e) k:=by rfl) (D:(k==("__debug__":ac))=ae:=by decide):
  e6 (fi (eJ a c) a c d g f j o q m l h n p i e) (.Raise (O (.Call (.Name k w) [] [] u)) aa x) (Df d s e r):=by
 obtain⟨w,k,s,J,t,M,K,H,B,A,y⟩:=z;intro L s u k x z C;exact IU (X:=fi (eJ a c) a c d g f j o q m l h n p i e) (sp:=wn d r) t H B y (G.b F) E J A (λ{f s u k w c e} a=>iR.j a) D L s u k x z (S9 t M K C)
def fb(a:ac->ar ag)(d:ac)(b:Int):Prop:=∃c,a d=O (.int b c)
def di{b:aK}{x:ac}(c:fb b.g x d)(f:fh b x:=by rfl)(e:(x==("__debug__":ac))=ae:=by decide):aS b (.Name x g) (kG (.a d)):=by obtain⟨t,c⟩:=c;exact Hx f c ⟨_,I⟩ e
structure LS(K:aR)(C:Y):Prop where
 a:cG K C "place"
 g:cG K C "time"
 b:cG K C "key"
 e:cG K C "value"
 d:cG K C "sender"
 f:cG K C "number"
 c:cG K C "kind"
structure LU(K:aR)(C:Y):Prop where
 b:cG K C "first"
 a:cG K C "records"
structure LQ(K:aR)(C:Y):Prop where
 g:cG K C "segment_size"
 f:cG K C "keep"
 c:cG K C "full_segments"
 d:cG K C "open_segment"
 a:cG K C "next_place"
 b:cG K C "on_disk"
 e:cG K C "told_places"
structure LM(K:aR)(C:Y):Prop where
 d:cG K C "name"
 e:cG K C "segment_size"
 c:cG K C "is_tight"
 b:cG K C "keep"
 a:cG K C "parts"
structure LW(K:aR)(C:Y):Prop where
 a:cG K C "books"
 b:cG K C "senders"
 c:cG K C "groups"
structure LV(K:aR)(C:Y):Prop where
 c:cG K C "number"
 b:cG K C "epoch"
 a:cG K C "transaction"
structure LX(K:aR)(C:Y):Prop where
 a:cG K C "parts"
 b:cG K C "moves"
 c:cG K C "is_decided"
 d:cG K C "marked"
structure LP(K:aR)(C:Y):Prop where
 a:cG K C "group"
 b:cG K C "generation"
 c:cG K C "part"
 d:cG K C "place"
structure LO(K:aR)(C:Y):Prop where
 b:cG K C "book"
 c:cG K C "generation"
 d:cG K C "members"
 e:cG K C "owners"
 a:cG K C "kept"
 f:cG K C "read_up_to"
structure LR(K:aR)(C:Y):Prop where
 b:cG K C "records"
 a:cG K C "goes_on"
structure LN(K:aR)(C:Y):Prop where
 b:cG K C "calls"
 a:cG K C "position"
@[irreducible] def cc (a:Nat):Y:=([(1,31),(36,354),(64,521),(65,615),(67,651),(163,1365),(118,1087),(117,1059),(116,1031),(109,972),(111,993),(103,861)].lookup a).getD (13+19*a)
abbrev cE:Y:=cc 1
abbrev d8:Y:=cc 36
abbrev fC:Y:=cc 64
abbrev bN:Y:=cc 65
abbrev ec:Y:=cc 67
abbrev dA:Y:=cc 163
abbrev dD:Y:=cc 118
abbrev e0:Y:=cc 117
abbrev kk:Y:=cc 116
abbrev ei:Y:=cc 109
abbrev jF:Y:=cc 111
abbrev hN:Y:=cc 103
structure L1(K:aR)(mg:ac->ar ag):Prop where
 zV:fp K d8
 c:LS K d8
 R:hJ K mg "Record" d8
 zW:fp K fC
 p:LU K fC
 zp:hJ K mg "Segment" fC
 m:fp K bN
 d:LQ K bN
 zy:hJ K mg "Part" bN
 x:fp K ec
 n:LM K ec
 zv:hJ K mg "Book" ec
 g:fp K dA
 l:LW K dA
 zA:hJ K mg "Store" dA
 zq:fp K dD
 k:LV K dD
 zz:hJ K mg "Sender" dD
 zC:fp K e0
 o:LX K e0
 zB:hJ K mg "Transaction" e0
 zT:fp K kk
 s:LP K kk
 zn:hJ K mg "Move" kk
 r:fp K ei
 h:LO K ei
 zx:hJ K mg "Group" ei
 zU:fp K jF
 u:LR K jF
 zo:hJ K mg "Reading" jF
 b:fp K hN
 t:LN K hN
 zw:hJ K mg "CallReader" hN
 S:fb mg "BILLION" (1000000000)
 zJ:fb mg "MOST_IN_TEXT" (400)
 zK:fb mg "MOST_IN_VALUE" (5)
 zL:fb mg "MOST_KEY" (99)
 zs:fb mg "MOST_MARKS" (100)
 zP:fb mg "MOST_TO_READ" (20)
 z:fb mg "NO_KEY" (-1)
 D:fb mg "BY_ITSELF" (0)
 E:fb mg "WITHIN" (1)
 T:fb mg "MARK_DONE" (2)
 U:fb mg "MARK_GIVEN_UP" (3)
 zF:fb mg "LINE_END" (10)
 zE:fb mg "BLANK" (32)
 zH:fb mg "MOST_BOOKS" (4)
 zR:fb mg "NO_NUMBER" (-1)
 zG:fb mg "LOSING_POWER" (-1)
 zr:fb mg "GIVING_UP" (-2)
 zI:fb mg "MOST_GROUP" (3)
 zM:fb mg "MOST_MEMBER" (5)
 zQ:fb mg "NOBODY" (-1)
 zO:fb mg "MOST_SENDERS" (8)
 zN:fb mg "MOST_NUMBER" (1000000)
 e:mg "len"=aa
 F:mg "min"=aa
 zt:mg "max"=aa
 J:mg "sum"=aa
 zm:mg "all"=aa
 zu:mg "sorted"=aa
 y:mg "list"=aa
 G:mg "ord"=aa
 H:mg "range"=aa
 zS:mg "reversed"=aa
 zD:mg "enumerate"=aa
section
variable{X:aK}{e:aZ}{f:ac}{pos:bL}{n:aY}
def av(a)(d:aS X e n)(c:lN e f X.a (bB e X.a)=bB e X.a:=by rfl)(b:X.e=a:=by rfl):aS X (.Attribute e f pos) (rh a n f):=by subst b;exact Hw d c
def wb(a)(b:X.e=a:=by rfl):d4 X (eL .In) (rd a ae):=by subst b;exact Hr
def PH(a)(b:X.e=a:=by rfl):d4 X (eL .NotIn) (rd a ab):=by subst b;exact Ht
def cO(d)(h:X.e=d:=by rfl):g3 X (.builtin "len") (λi c g=>∃e f,i=[.b e]/\(dU d c e f\/kA d c e f)/\g (.a f.length) c):=by subst h;exact GA
end
abbrev aW(b c:af):Prop:=∀a o,b a=O o->c a=O o
def aW.d:aW g g:=λ_ _ g=>g
def aW.b(a:aW g h)(j:aW h i):aW g i:=λx o g=>j x o (a x o g)
def aW.a{H:af}{a:Y}{o:cw}(h:H a=aa):aW H (al H a o):=λi j g=>by rw[aL (cX g h)];exact g
def aW.e(k:aW h i)(j:i g=aa):h g=aa:=by
 cases i:h g with|none=>rfl|some o=>rw[k g o i]at j;cases j
def aW.f{o:cw}(k:aW g h)(j:g i=.none):aW g (al h i o):=λh i g=>by rw[aL (cX g j)];exact k h i g
def aM(a c:af):Prop:=∀b xs,a b=O (.d xs)->c b=O (.d xs)
def aM.c:aM d d:=λ_ _ d=>d
def aM.a{H d e:af}(a:aM H d)(f:aM d e):aM H e:=λx o d=>f x o (a x o d)
def aW.c{H g:af}(l:aW H g):aM H g:=λg xs h=>l g _ h
def aM.b{H e:af}{a:Y}{o o':cw}(l:aM H e)(h:e a=O o)(i:∀xs,o≠.d xs):aM H (al e a o'):=λf xs g=>by have e:=l f xs g;rw[aL (kC e h (λf=>i xs f.symm))];exact e
def cD(b:af)(B:aE):Prop:=∀a∈B,b a.1=O a.2
def cD.c{B:aE}(h:cD f B)(i:aW f g):cD g B:=λf g=>i _ _ (h f g)
def cD.b:cD f (g++h)↔cD f g/\cD f h:=
 ⟨λg=>⟨λf h=>g f (g9 _ h),λf h=>g f (gb _ h)⟩,λg f h=>(cU.mp h).elim (g.1 f) (g.2 f)⟩
def cD.a:cD f ((h,j)::g)↔f h=O j/\cD f g:=
 ⟨λf=>⟨f (h,j) cr,λi g=>f i (cJ _ g)⟩,λf i g=>by rcases bW.mp g with rfl|g;exact f.1;exact f.2 i g⟩
def cD.d{α:Type}{f:af}{h:α->aE}{i:V α}:cD f (i.flatMap h)↔∀g∈i,cD f (h g):=
 ⟨λi g j h f=>i h (kM.mpr ⟨g,j,f⟩),λi h f=>by obtain⟨g,j,f⟩:=kM.mp f;exact i g j h f⟩
def _root_.L3.am.d{Bs:V aE}{B:aE}(H:am c Bs)(i:Nat)(R:Bs[i]?=O B):cD c B:=λc Q=>H.s c ((pq R).mem_iff.mpr (g9 _ Q))
def _root_.L3.am.i{L R:V aE}(H:am c (L.flatten::R)):am c (L++R):=H.k (by simp)
def _root_.L3.am.h{H:af}{L R:V aE}(c:am H (L++R)):am H (L.flatten::R):=c.k (by simp)
def _root_.L3.am.F{c:V aE}{D B:aE}(S:am Q c)(H)(R:c[H]?=O (D++B)):am Q (c.set H B):=
 ((am.A (S.a H R)).r).k (mF R).symm
def _root_.L3.am.w{Bs:V aE}{H B:aE}(R:am c (H::Bs))(i)(Q:Bs[i]?=O B):am c (Bs.set i (B++H)):=by have S:am c (B::H::Bs.eraseIdx i):=R.a (i+1) Q;exact(am.y S).k (mF Q).symm
def _root_.L3.am.E{c:V aE}{B B':aE}(S:am Q c)(H)(R:c[H]?=O B)(T:B.Perm B'):am Q (c.set H B'):=
 ((S.a H R).C T).k (mF R).symm
def _root_.L3.am.L{c:V aE}{B1 B2:aE}{a:Y}{o:cw}(S:am Q c)(H)(R:c[H]?=O (B1++(a,o)::B2))(o'):am (al Q a o') (c.set H (B1++(a,o')::B2)):=by have T:am Q (((a,o)::(B1++B2))::c.eraseIdx H):=(S.a H R).C y2;have S:am Q ([(a,o)]::(B1++B2)::c.eraseIdx H):=am.A (A:=[(a,o)]) T;have T:am (al Q a o') (((a,o')::(B1++B2))::c.eraseIdx H):=am.y (A:=[(a,o')]) (S.z o');exact(T.C y2.symm).k (mF R).symm
def _root_.L3.am.x{B:aE}{L:V aE}(Q:am c (B::L))(H):am c (L.take H++B::L.drop H):=Q.k (by rw[lA,fj,fj,<-b8];refine rs ?_ (ly _ nU);rw[b8,<-lA,gK])
def _root_.L3.am.q{Bs:V aE}{a:Y}{o:cw}(R:am H Bs)(U:aW H Q)(T:H a=aa)(S:Q a=O o):am Q ([(a,o)]::Bs):=by have Q:=R.f T o;refine⟨λc H=>?_,Q.u⟩;have H:c∈(a,o)::Bs.flatten:=H;rcases bW.mp H with rfl|H;exact S;exact U _ _ (R.s c H)
theorem vB{α:Type}(a:α->aE)(c:α->Bool):∀d:V α,(d.flatMap a).Perm ((d.filter λb=>!c b).flatMap a++(d.filter c).flatMap a)
 |[]=>.refl _
 |b::d=>by
  have e:=vB a c d;rw[ez];cases d:c b with|true=>simp only[ig,d,DO,if_true,ez];refine(ia (a b) e).trans ?_;rw[<-b8,<-b8];exact ly _ nU|false=>simp only[ig,d,DN,if_true,ez];rw[b8];exact ia (a b) e
def cD.e(k:cD h (a0 f g i j)):h f=O (.c g i j):=k (f,_) (by simp[L3.a0])
abbrev bg(l:V Int):V ah:=l.map ah.a
abbrev a4(l:V Nat):V ah:=l.map λa:Nat=>ah.a (a:Int)
def dj:ar Nat->ah
 |none=>.c
 |some b=>.a (b:Int)
structure ba where
 e:Y
 g:Y
 c:Y
 a:aG
abbrev ba.b(j:ba):ah:=.b j.e
def qm(a:Y):ar (V Int)->ah
 |none=>.c
 |some _=>.b a
def gZ(b:Y):ar (V Int)->aE
 |none=>[]
 |some v=>[(b,.a (bg v))]
noncomputable def et(c:ah)(b:aG)(d:Y):V (ac×ah):=[("place",c),("time",.a b.time),("key",.a (c_ b.key)),("value",qm d b.value),("sender",.a b.sender),("number",.a b.seq),("kind",.a b.kind)]
def ba.h(j:ba):aE:=[a0 j.e d8 j.g (et .c j.a j.c),gZ j.c j.a.value].flatten
def ba.f(j:ba):aE:=[a0 j.e d8 j.g (et (.a j.a.place) j.a j.c),gZ j.c j.a.value].flatten
structure he where
 e:Y
 f:Y
 g:Y
 a:Nat
 b:V ba
noncomputable def he.c(j:he):aE:=[a0 j.e fC j.f [("first",.a j.a),("records",.b j.g)],[(j.g,.a (j.b.map ba.b))],j.b.flatMap (ba.f)].flatten
structure aN where
 c:Y
 k:Y
 q:Y
 t:Y
 m:Nat
 s:ar Nat
 d:V he
 b:he
 f:Nat
 h:Nat
 e:V (Nat×Y×V Nat)
abbrev he.d(j:he):ah:=.b j.e
abbrev aN.i(l:aN):ah:=.b l.c
def dc(c:V (Nat×Y×V Nat)):V (aU×ah):=c.map λa=>(.inl (a.1:Int),.b a.2.1)
def dk(c:V (Nat×Y×V Nat)):aE:=c.map λb=>(b.2.1,.a (a4 b.2.2))
noncomputable def cx(c:aN):V (ac×ah):=[("segment_size",.a c.m),("keep",dj c.s),("full_segments",.b c.q),("open_segment",.b c.b.e),("next_place",.a c.f),("on_disk",.a c.h),("told_places",.b c.t)]
def aN.n(y:aN):V aE:=[a0 y.c bN y.k (cx y),[(y.q,.a (y.d.map he.d))],y.d.flatMap (he.c),y.b.c,[(y.t,.b (dc y.e))],dk y.e]
def aN.l(y:aN):aE:=(y.n).flatten
def aN.g(y:aN):V ba:=y.d.flatMap (·.b)++y.b.b
structure bq where
 e:Y
 i:Y
 k:Y
 h:Y
 f:V Nat
 g:Nat
 l:Bool
 j:ar Nat
 a:V aN
abbrev bq.d(l:bq):ah:=.b l.e
noncomputable def hM(c:bq):V (ac×ah):=[("name",.b c.k),("segment_size",.a c.g),("is_tight",.d c.l),("keep",dj c.j),("parts",.b c.h)]
def bq.c(r:bq):aE:=[a0 r.e ec r.i (hM r),[(r.k,.a (a4 r.f))],[(r.h,.a (r.a.map aN.i))],r.a.flatMap (aN.l)].flatten
def nk(c:Y)(b:ac):cw:=.j λa=>a.CodeRec (.ref c) b
def PT{a:be}{c:Y}(g:a.CodeRec (.ref c) b):d_ e f d a c (nk c b):=by obtain⟨h,o,f,e,a,b,d⟩:=id g;cases a;refine⟨g,⟨o,b⟩,λk l j i=>?_⟩;obtain⟨h,o,f,e,a,b,d⟩:=j;cases a;exact⟨_,o,f,e,I,i o b,d⟩
inductive eB(tp:Y)(pos:bL)(q:ac):aE->Prop
 |b (ps:Array ag) (ht:Am ps.toList) (hn:codeAmong pos ps.toList=aa):eB tp pos q [(tp,.g ps)]
 |a (ps:Array ag) (c:Y) (ht:Am ps.toList) (hf:codeAmong pos ps.toList=O (.ref c)):eB tp pos q [(c,nk c q),(tp,.g ps)]
def ve(b:be)(c:ac->ar ag):Prop:=∃a o,c "__builtins__"=O (.ref a)/\a≠uX/\a≠kT/\b.get? a=O o/\o.cls=.type "module"/\o.dict=O uX/\o.data=.plain
abbrev sm(g:ac)(e:pE)(a:aZ)(h:ea)(b:V (ac×Y))(f:ag)(c:Y)(d:ag):aF:=PySem.W.kla_obj "<lambda>" g e a h b f c d
section
variable{X:aK}{pins:V (Y×aF)}{σ:L2.aQ}{H:af}{s:ao}{E:ag->ao->Prop}{n:pE}{m:aZ}{k:ea}{j:bL}{i:V (ac×Y)}{c h:Y}{g:aE}{R:V aE}{qual:ac}
def BW{a:be}{o:aF}(l:L2.ax X pins σ d {s with heap:=a,toks:=b})(u:X.a.locals<a.objs.size)(q:∀e,e∈X.n->e<a.objs.size)(t:d a.objs.size=aa)(p:∀f,o.data≠.cell f)(r:o.isFreed=ae):
  L2.ax X ((a.objs.size,o)::pins) σ d {s with heap:=a.push o,toks:=b}:=by
 have f:L2.ax X pins σ d {s with heap:=a.push o,toks:=b}:=l.w (s:={s with heap:=a,toks:=b}) (t':=b) λe d a=>dw _ a;refine f.B λb a=>?_;rcases bW.mp a with rfl|a;exact⟨eo _ r,t,mO u,λd=>fV _ (q _ d),p⟩;exact f.f b (gb _ a)
def BH(b:L2.ax X pins σ H s):∀a,a∈X.n->a<s.heap.objs.size:=λa c=>by obtain⟨_,o,a,_⟩:=b.zg.mem c;exact cB a
def NE(q:L2.ax X pins σ H s)(Q:X.a.code=.ref c)(u:pM X.h c h)(F:ve X.h X.g)(D:am H (g::R))(x:eB h j qual g)(y:X.a.qual++"<lambda>"=qual)
  (T:uZ k X.a=cR i) (w:defaultsOf n X.a=([],[]))
  (S:∀p l z B t d e,L2.ax X ((p,sm qual n m k i z l B)::pins) σ d t->(l,nk l qual)∈e->am d (e::R)->eB h j qual e->aM H d->r (.ref p) t):
  aC (aT X.c X.d) X.b (bB (.Lambda n m k j) X.a) r E s:=by
 refine PySem.W.kla_eval w ?_;rw[y];have A:pM s.heap c h:=u.keeps q.z;have U:s.heap.Ns kT X.g:=q.K.b.keeps q.z;have e:∃r,H h=O (.g r)/\Am r.toList:=by
  cases x with|b r d u=>exact⟨r,D.e 0 I,d⟩|a r c d p=>exact⟨r,D.B 0 I (by simp),d⟩
 obtain⟨r,t,K⟩:=e;have C:s.heap.get? h=O (AB r):=q.a h _ t;have y:∀e o,X.h.get? e=O o->e≠h:=λe o d p=>by have:=(q.Q e o d).2;rw[p,t]at this;cases this
 obtain⟨M,P,z,G,J,w,L⟩:=F;have N:s.heap.BuiltinsAt X.g h:=⟨M,P,z,G,J,y _ _ w,q.z _ _ w,L⟩;have zd:kT≠h:=by obtain⟨o,_,_,d,_⟩:=q.K.b;exact y _ _ d
 cases x with
 |a x l t' w=>
  have d:x=r:=by have:=D.B (a:=h) (o:=.g x) 0 I (by simp);rw[t]at this;injection this with this;injection this with this;exact this.symm
  subst d;refine PySem.W.kla_makeFunctionHit T q.b.g U Q A C K w N λB y J G z=>?_;have L:L2.ax X pins σ H {s with heap:=y,toks:=J}:=q.w (t':=J) G;have M:=BW (o:=sm qual n m k i ((X.g "__name__").getD .none) l B) L (eg q.S z) (λe F=>eg (BH q e F) z) (q.a.b z) (λP p=>nomatch p) I;exact S _ l _ B _ H _ M (by simp) D (.a x l t' w) aM.c
 |b x t' zc=>
  have d:x=r:=by have:=D.e (a:=h) (o:=.g x) 0 I;rw[t]at this;injection this with this;injection this with this;exact this.symm
  subst d;refine PySem.W.kla_makeFunction T q.b.g U Q A C K zc zd N λl B y J G r za ze zb=>?_;have z:s.heap.objs.size<=y.objs.size:=pB (lD r za);have w:H l=aa:=q.a.b r;have zd:l≠h:=λp=>by rw[p,t]at w;cases w
  let A:Array ag:=x++#[fy j.line,fy j.col,.ref l]
  let C:af:=al (al H h (.g A)) l (nk l qual)
  have Q:∀e N,s.heap.get? e=O N->e≠l:=λe N d=>eA (eg (cB d) r);have r:∀e,H e=aa->e≠h:=λe d p=>by rw[p,t]at d;cases d
  have zg:h5 X.n [] H C s.heap y:=by refine⟨λe o d u _ _=>G e o (r e u) d,λe o d u _ _=>⟨o.slots,G e o (r e u) d⟩,λe o d u _=>?_,λe o d _=>?_,λe U d=>?_,λe o N d=>?_,λe N d=>?_⟩;show al (al H h _) l _ e=aa;rw[aL (Q e o d),aL (r e u)];exact u;by_cases p:e=h;rw[p];exact⟨_,zb⟩;exact⟨o,G e o p d⟩;show al (al H h _) l _ e=_;rw[aL (cX d w),aL (kC d t (by intro p;cases p))];exact d;show al (al H h _) l _ e=_;rw[aL (cX d w),aL (kC d t (by intro p;cases p))];exact d;show∃r,al (al H h _) l _ e=_;rw[aL (cX d w)];by_cases p:e=h;subst p;rw[t]at d;injection d with d;injection d with d;subst d;exact⟨_,az⟩;exact⟨#[],by rw[aL p,d];simp⟩
  have zf:ek X.c X.d C y:=λe o d=>by have d:al (al H h (.g A)) l (nk l qual) e=O o:=d;by_cases p:e=l;subst p;rw[az]at d;cases d;exact PT ze;rw[aL p]at d;by_cases Q:e=h;subst Q;rw[az]at d;cases d;exact zb;rw[aL Q]at d;have T:∀u,H u=O (.f e)->u≠h:=λu r=>kC r t (by intro p;cases p);refine(q.a e o d).b (λu P N r=>G u P ?_ r) (λu r=>?_) λu U r=>?_;rcases N with rfl|N;exact Q;exact T u N;show al (al H h _) l _ u=_;rw[aL (cX r w),aL (T u r)];exact r;show al (al H h _) l _ u=_;rw[aL (cX r w),aL (kC r t (by intro p;cases p))];exact r
  have L:L2.ax X pins σ C {s with heap:=y,toks:=J}:=q.D zg zf;have d:C y.objs.size=aa:=by show al (al H h _) l _ y.objs.size=aa;rw[aL (mO za),aL (mO (eg (q.a.d t) z))];exact q.a.b z
  have M:=BW (o:=sm qual n m k i ((X.g "__name__").getD .none) l B) L (eg q.S z) (λe F=>eg (BH q e F) z) d (λP p=>nomatch p) I;have d:al H h (.g A) l=aa:=by rw[aL zd];exact w
  have q:am C ([(l,nk l qual)]::[(h,.g A)]::R):=(D.z (.g A)).f d _;refine S _ l _ B _ C _ M (by simp) q.y (.a A l ?_ ?_) λe U r=>?_;have:=TriplesOk_snoc j.line j.col (.ref l) x.toList K;simpa[A]using this;have:=codeAmong_snoc (pos:=j) (c:=.ref l) x.toList K zc;simpa[A]using this;show al (al H h _) l _ e=_;rw[aL (cX r w),aL (kC r t (by intro p;cases p))];exact r
end
noncomputable def sl(m:aK)(A:V ac)(x:ac)(y:ea)(w s:Y)(t:V (ac×Y))(n:ao)(z:af):aK where
 c:=m.c
 d:=m.d
 e:=m.e
 g:=m.g
 h:=m.h
 b:=m.b.in1.deeper (rK x y n.heap.objs.size w (.ref s) t)
 i:=A
 j:=n
 u:=z
 a:=rK x y n.heap.objs.size w (.ref s) t
 p:=m.l
 l:=rK x y n.heap.objs.size w (.ref s) t::m.l
 o:=[]
 k:=ab
 r:=λ_=>ae
 q:=[]
 f:=λz A=>aC (aT m.c m.d) (m.b.in1.deeper (rK x y n.heap.objs.size w (.ref s) t)) (u3 (rK x y n.heap.objs.size w (.ref s) t) z) (λ_ _=>False) (λ_ _=>False) A
section
variable{X:aK}{pins:V (Y×aF)}{σ:L2.aQ}{H:af}{s:ao}{n:pE}{m:aZ}{i:ea}{qual x y:ac}{f c cy:Y}{h g u:ag}{v e:ah}{t:aY}{Q:bj}{j k:Nat}
def ND(w:L2.ax X pins σ H s)(zi:X.k=ab)(zs:cK (k+1) X.b)(zk:(f,sm qual n m i [(y,cy)] h c g)∈X.q++pins)(zu:H c=O (nk c qual))
  (zm:X.i[j]?=O y) (zn:σ[j]?=O (O e)) (S:X.a.scope.names.lookup y=O .cell) (R:X.a.cells.lookup y=O cy)
  (za:i.kind=.function) (zC:i.isCoroutine=ae) (zD:i.isGenerator=ae) (zb:∀a∈i.names,a.2≠.cell) (U:i.names.lookup x=O .local) (zw:i.names.lookup y=O .free) (zl:∀a,i.names.lookup a=O .free->a=y)
  (zh:rQ (K3 "<lambda>" qual n m i [(y,cy)] h (.ref c) g) ⟨[u],[]⟩=cR [(x,u)])
  (zv:aS (sl X [x,y] qual i f c [(y,cy)] s H) m t) (zA:br v u) (zf:t [O v,O e] H Q):
  aC (aT X.c X.d) X.b.in1 (e' (.ref f) [u]) (e5 X pins σ Q) (λ_ _=>False) s:=by
 have zt:s.heap.CodeRec (.ref c) qual:=(w.a c _ zu).1;refine ol (PySem.W.kla_callFunE zs.h.g (w.f _ zk).1 I zC zD I zt ?_);rw[zh];refine bF (wpAny_newFunctionEnv zb (λa r=>?_) (λF zp T=>⟨?_,?_⟩) za);rw[dZ.mp r];exact U;exact w.zu.fresh _ T;have G:∀b z,s.heap.get? b=O z->F.get? b=O z:=λb z p=>T.extBut b z (eA (cB p)) (dw _ p);have q:=w.R;have C:∃A,br e A/\s.heap.IsCell cy (O A):=by obtain⟨zG,_,zo⟩:=w.j;obtain⟨A,M,zx⟩:=zo j y e zm zn (.inr (.inl S));refine⟨A,M,?_⟩;rcases zx with⟨a,_⟩|⟨_,zF,P,d⟩;have a:X.a.scope.names.lookup y=O .local:=a;rw[S]at a;cases a;rw[R]at P;cases P;exact d
 obtain⟨A,M,C⟩:=C;have N:∀v,s.heap.IsCell cy v->F.IsCell cy v:=λv ⟨z,zq,zj⟩=>⟨z,G _ _ zq,zj⟩;have D:∀a l,([(y,cy)]:V (ac×Y)).lookup a=O l->a=y/\l=cy:=λa l p=>by simp only[ih]at p;split at p;rename_i d;injection p with p;exact⟨by simpa using d,p.symm⟩;cases p
 have ze:L2.ax (sl X [x,y] qual i f c [(y,cy)] s H) [] [O v,O e] H {s with heap:=F,toks:=s.toks+1}:=by have K:∀b,b∉(sl X [x,y] qual i f c [(y,cy)] s H).o:=λb a=>a7 (show b∈([]:V Y)from a) (by simp);refine⟨⟨q.d,za,I,I,bp _,λa zE l d zz=>?_,λa r=>?_,λa l d=>(ed d).elim,λ_=>w.b.a zi,J8 q.k.g,.inr ⟨I,I⟩,λb a=>a7 a (K b),q.c,q.f,λb _ _=>K b,λb a=>a7 a (K b),q.i,q.h⟩,I,q.e,h5.l G,⟨_,zp,λJ a zc E L zH=>?_⟩,λa l d=>?_,q.a.b (bp _),λa l d=>?_,λzy zr=>a7 (show zy∈([]:V (Y×aF))from zr) (by simp),q.a.c G,I⟩;exact(D a l d).1.trans (D zE l zz).1.symm;have r:i.names.lookup a=O .cell\/i.names.lookup a=O .free:=r;rcases r with r|r;exact a7 I (zb _ (hc r));rw[zl a r];exact⟨cy,by show([(y,cy)]:V (ac×Y)).lookup y=O cy;simp[ih]⟩;have E:([x,y]:V ac)[J]?=O a:=E;rcases J with _|_|J;cases E;cases L;exact⟨u,zA,.inl ⟨U,by simp[ih]⟩⟩;cases E;cases L;exact⟨A,M,.inr ⟨.inr zw,cy,by show([(y,cy)]:V (ac×Y)).lookup y=O cy;simp[ih],N _ C⟩⟩;simp at L;obtain⟨_,rfl⟩:=D a l d;exact⟨_,N _ C⟩;obtain⟨_,rfl⟩:=D a l d;exact w.q y l R
 refine PySem.W.kla_codeExpr (fM (zv [] _ _ H Q ze zf) (λzJ zI zg=>?_) λ_ _ p=>p);obtain⟨zc,zd,B,zB,d⟩:=zg;exact⟨zc,zd,w.ze (ch:=[]) B.t B.d B.a B.k (λb a=>a7 a (by simp)),zB,d⟩
end
def km(a b:Int×Int):Bool:=HT.hZ [a.1,a.2] [b.1,b.2]
def CT(a b:Int×Int):km a b=ab↔a.1<b.1\/(a.1=b.1/\a.2<b.2):=by unfold km;rw[HT.sZ,HT.sZ,HT.wK];by_cases c:a.1=b.1;rw[ay c];by_cases d:a.2=b.2;rw[ay d];simp only[jl,false_iff];omega;rw[aw d];simp only[decide_eq_true_eq];omega;rw[aw c];simp only[decide_eq_true_eq];omega
def sB(a b:Int×Int):km a b=ae↔¬(a.1<b.1\/(a.1=b.1/\a.2<b.2)):=by rw[<-CT];simp
abbrev gY(b:Int×Int):cw:=.d [.a b.1,.a b.2]
section
variable{X:aK}{pins:V (Y×aF)}{σ:L2.aQ}{ns:V Int}{l f it S:Y}{BB:V aE}{kf:Int->Int×Int}{R:kR->ao->Prop}{H0:af}{s:ao}{H:af}
def vR{d:be}{x:ah}(h:d_ X.c X.d H d S (.a [x,.b e])):∃g c,br x g/\d.get? S=O {cls:=.type "list",data:=.seq #[g,.ref e] c}:=by
 obtain⟨_,g,c,e,d⟩:=h;cases e with
 |cons e g=>
  cases g with|cons g h=>cases h;cases g;exact⟨_,c,e,d⟩
def CR{b:aF}(c:L2.ax X pins σ H s)(a:gr X pins H it)(e:s.heap.get? it=O b)(d:∀f,b.data≠.cell f):L2.ax X ((it,b)::pins) σ H s:=
 c.B λf b=>by rcases bW.mp b with rfl|b;exact⟨e,a.1,a.2.1,a.2.2.1,d⟩;exact c.f f (gb _ b)
def wt(a:L2.ax X (b::pins) σ H s):L2.ax X pins σ H s:=a.B λc b=>a.f c (gb _ (cJ _ b))
def sc{o:cw}(a:gr X pins H it)(c:b≠it):gr X pins (al H b o) it:=⟨by rw[aL (df c)];exact a.1,a.2⟩
def wy{h ys:V ah}{us vs:V ag}(c:L2.ax X pins σ H s)(d:H S=O (.a h))(g:s.heap.get? S=O {cls:=.type "list",data:=.seq us.toArray b})(i:bR ys vs)(h:ys.length<=aH):
  L2.ax X pins σ (al H S (.a ys)) {s with heap:=s.heap.update S (lI λ_=>vs.toArray)}:=by
 have j:=rC s.heap S (lI λ_=>vs.toArray);have b:=get?_update_seq g λ_=>vs.toArray;exact c.E (t':=s.toks) (x:=S) (e:=S) (by rw[d];trivial) (.inl I) (λc k d g=>(j.2 c d).trans g) ⟨_,b⟩ ⟨h,vs,_,i,b⟩
abbrev A4(X:aK)(pins:V (Y×aF))(σ:L2.aQ)(ns:V Int)(f:Y)(BB:V aE)(kf:Int->Int×Int):Prop:=
 ∀d∈ns,∀c e s H,br (.a d) e->L2.ax X (c::pins) σ H s->am H BB->
  aC (aT X.c X.d) X.b.in1 (e' (.ref f) [e]) (e5 X (c::pins) σ λh g=>∃c,h=.b c/\H c=aa/\g=al H c (gY (kf d))) (λ_ _=>False) s
def NV(n:X.k=ab)(zk:X.b.in1.units<eK)(zb:∀H,am H BB->H l=O (.a (ns.map ah.a)))(zm:A4 X pins σ ns f BB kf)
  (D:∀z c s H,z∈ns->(∀p∈ns,km (kf p) (kf z)=ae)->br (.a z) c->L2.ax X pins σ H s->am H BB->aM H0 H->R (.ok (.ret c)) s):
  ∀(F j:Nat)(d:Int)(m:Y)(s:ao)(H:af),ns.length -(j+1)=F->j+1<=ns.length->L2.ax X pins σ H s->gr X pins H it->s.heap.IsListIter it l (j+1)->
   am H ([(S,.a [.a d,.b m])]::[(m,gY (kf d))]::BB)->aM H0 H->d∈ns->(∀i p,i<=j->ns[i]?=O p->km (kf p) (kf d)=ae)->
   iX (aT X.c X.d) X.b (.builtin "min.loop" ⟨[.ref it,.ref f,.ref S],[]⟩) R s:=by
 have zf:(kr "min"++kr ".loop":String)="min.loop":=by decide
 intro F;induction F with
 |zero=>intro j d m s H zi zg e h M u N zc K;have c:=u.e (a:=S) (o:=.a [.a d,.b m]) 0 I;obtain⟨J,z,ze,G⟩:=vR (X:=X) (e.a S _ c);obtain⟨zl,zd,U,zj⟩:=e.g (dU.b (zb H u.r.r));have q:=zd.a;rw[an]at q;have L:S≠it:=cX c h.1;refine u0 Ag (?_:aC _ _ _ _ _ s);rw[Ac nX _];show aC _ X.b.in1 (AL (.ref S)>>=_) _ _ s;refine aD (AU (a:=S) G I ?_);show aC _ X.b.in1 (pA (ip (.ref it)) _>>=_) _ _ s;refine aD (p1 (LG (e.b.a n) M U.isList (by simp;omega) λC y=>?_));have Q:L2.ax X pins σ H {s with heap:=C}:=e.o (t':=s.toks) (λB o n q=>y B o n q) h.1 h.2.1 h.2.2.2.1 h.2.2.2.2.1 h.2.2.2.2.2;have t:C.get? S=O {cls:=.type "list",data:=.seq #[J,.ref m] z}:=y S _ L G;show aC _ X.b.in1 (updateSeq S (λ_=>#[])>>=_) _ _ {s with heap:=C};refine aD (AW t I (aD (rZ (bF ?_))));have T:=wy (ys:=[]) (vs:=[]) (us:=[J,.ref m]) Q c t .nil (co _);refine D d J _ _ zc (λp t=>?_) ze T (u.z (.a [])).r.r (N.b c (λP y=>nomatch y));obtain⟨i,za,D⟩:=Jv t;exact K i p (by omega) (by rw[eM za,D])
 |succ F zh=>
  intro j d m s H zi zg e h M u N zc K;have c:=u.e (a:=S) (o:=.a [.a d,.b m]) 0 I;obtain⟨J,z,ze,G⟩:=vR (X:=X) (e.a S _ c);obtain⟨zl,zd,U,zj⟩:=e.g (dU.b (zb H u.r.r));have L:S≠it:=cX c h.1;have zb:j+1<ns.length:=by omega
  have F:ns[j+1]?=O ns[j+1]:=eM zb;generalize ns[j+1]=c at F;have ze:c∈ns:=a1 F;obtain⟨z,zg,zi⟩:=zd.b (i:=j+1) (x:=.a c) (by rw[bw,F];rfl);refine u0 Ag (?_:aC _ _ _ _ _ s);rw[Ac nX _];show aC _ X.b.in1 (AL (.ref S)>>=_) _ _ s;refine aD (AU (a:=S) G I ?_);show aC _ X.b.in1 (pA (ip (.ref it)) _>>=_) _ _ s;refine aD (p1 (AT M U.isList (x:=z) (by simpa using zg) λC G J=>?_));have Q:L2.ax X pins σ H {s with heap:=C}:=e.o (t':=s.toks) (λB o n q=>J.extBut B o n q) h.1 h.2.1 h.2.2.2.1 h.2.2.2.2.1 h.2.2.2.2.2;obtain⟨M,e,zd,U⟩:=id G;have T:=CR Q h e (λC y=>by rw[U]at y;cases y);show aC _ X.b.in1 (pA (iZ [z] (e' (.ref f) [z])) _>>=_) _ _ _;refine aD (p1 (iq (fM (zm c ze _ z _ H zi T u.r.r) (λx G zj=>?_) λ_ _ q=>q.elim)));obtain⟨zm,zl,Q,T,e,C,zg,J⟩:=zj;subst C J;cases T;have T:=(Q.f (it,M) (gb _ (.head _))).1;have C:=wt Q;have J:=u.f zg (gY (kf c));have zj:e≠it:=λy=>by have u:=(Q.f (it,M) (gb _ (.head _))).2.1;rw[y,az]at u;cases u
  have u:gr X pins (al H e (gY (kf c))) it:=sc h zj;have Q:aM H0 (al H e (gY (kf c))):=λB P q=>by rw[aL (cX (N B P q) zg)];exact N B P q
  obtain⟨_,h,zj,N⟩:=C.a e _ az;obtain⟨_,h,zl,zg⟩:=C.a m _ (J.e (a:=m) (o:=gY (kf d)) 2 I);have B:=λ(h:ag->ao->Prop)(E:ag->ao->Prop)(q:h (.bool (km (kf c) (kf d))) G)=>HT.DV (prog:=X.c) (w:=X.d) (A:=X.b.in1) (E:=E) (s:=G) N zg (ns:=[(kf c).1,(kf c).2]) (ms:=[(kf d).1,(kf d).2]) (xN zj) (xN zl) zk q;show aC _ X.b.in1 (pA (iZ [z,.ref e] (eL .Lt (.ref e) (.ref m)>>=_)) _>>=_) _ _ G;refine aD (p1 (iq (aD (B _ _ ?_))));refine aD (iq (kW (aD (rZ (bF ?_)))));have h:al H e (gY (kf c)) S=O (.a [.a d,.b m]):=J.e (a:=S) 1 I;obtain⟨zg,B,N,q⟩:=vR (X:=X) (C.a S _ h);by_cases n:km (kf c) (kf d)=ab;simp only[n,if_true];refine aD (AW q I (aD (rZ ?_)));rw[zf];have N:bR [.a c,.b e] [z,.ref e]:=.cons zi (.cons I .nil);have B:=wy (us:=[zg,.ref m]) C h q N (by show 2<=aH;decide);have q:=(J.p (a:=S) 1 I (.a [.a c,.b e]));have N:am (al (al H e (gY (kf c))) S (.a [.a c,.b e])) ([(S,.a [.a c,.b e])]::[(e,gY (kf c))]::BB):=(q.a 1 I).k (Bs:=[(S,.a [.a c,.b e])]::[(e,gY (kf c))]::[(m,gY (kf d))]::BB) (.refl _)|>.g 2 I;refine bF ⟨u5 nX _,zh (j+1) c e _ _ (by omega) zb B (sc u L) ?_ N (Q.b h (λP y=>nomatch y)) ze λi p za t=>?_⟩;exact⟨M,((rC G.heap S (lI λ_=>([z,.ref e]:V ag).toArray)).2 it (df L)).trans T,zd,U⟩;rw[CT]at n;by_cases D:i=j+1;subst D;rw[F]at t;cases t;rw[sB];omega;have:=K i p (by omega) t;rw[sB]at this⊢;omega;have n:km (kf c) (kf d)=ae:=by simpa using n
  simp only[n,jl,if_false];refine aD (rZ ?_);rw[zf];refine bF ⟨u5 nX _,zh (j+1) d m G _ (by omega) zb C u ⟨M,T,zd,U⟩ J.r Q zc λi p za t=>?_⟩;by_cases D:i=j+1;subst D;rw[F]at t;cases t;exact n;exact K i p (by omega) t
def NU(zd:X.k=ab)(ze:X.b.in1.units<eK)(A:∀H,am H BB->H l=O (.a (ns.map ah.a)))(Q:A4 X pins σ ns f BB kf)(G:0<ns.length)
  (e:L2.ax X pins σ H s) (g:am H BB) (zc:∀t p w q,t∈ns->(∀L∈ns,km (kf L) (kf t)=ae)->br (.a t) p->L2.ax X pins σ q w->am q BB->aM H q->c p w):
  aC (aT X.c X.d) X.b (e' (.builtin "min") [.ref l] [(dg "key",.ref f)]) c h s:=by
 have J:(kr "min"++kr ".loop":String)="min.loop":=by decide
 obtain⟨E,C,n,u⟩:=e.g (dU.b (A H g));refine kmk_tree F.kind_min F.plain_min F.entry_min (kmk_min_key _ _) ?_;show aC _ X.b.in1 (TX "min" ["key","default"] 0 ⟨[],[(dg "key",.ref f)]⟩>>=_) _ _ s;refine aD (AS (show _=cR [O (.ref f),aa]from I) (aD (bF (aD (p0 n.isList (aD (Ly ?_ (co _))))))));rw[J];let c:be:=s.heap.push {cls:=.type "list_iterator",data:=.fields #[.ref l,.int 0 0]}
 have k:c.objs.size=s.heap.objs.size+1:=size_push' ..;have m:L2.ax X pins σ H {s with heap:=c}:=e.w (t':=s.toks) λh p j=>dw _ j;have M:H c.objs.size=aa:=e.a.b (by rw[k];exact mM _);have z:(c.push {cls:=.type "list",data:=.seq #[]}).get? c.objs.size=O {cls:=.type "list",data:=.seq #[]}:=eo _ I;have y:L2.ax X pins σ (al H c.objs.size (.a [])) {s with heap:=c.push {cls:=.type "list",data:=.seq #[]}}:=
  m.y (s:={s with heap:=c}) (t':=s.toks) (λh p j=>dw _ j) (bp _) ⟨co _,[],0,.nil,z⟩
 have B:c.objs.size≠s.heap.objs.size:=by rw[k];exact JT _
 have k:gr X pins (al H c.objs.size (.a [])) s.heap.objs.size:=e.F (bp _) (by rw[aL (df B)];exact e.a.b (bp _));have r:=g.f M (.a []);have D:(c.push {cls:=.type "list",data:=.seq #[]}).get? s.heap.objs.size=O {cls:=.type "list_iterator",data:=.fields #[.ref l,.int 0 0]}:=dw _ (eo _ I);refine bF ⟨u5 nX _,?_⟩;show iX _ X.b (.builtin "min.loop" ⟨[.ref s.heap.objs.size,.ref f,.ref c.objs.size],[]⟩) _ {s with heap:=c.push {cls:=.type "list",data:=.seq #[]}};generalize c.objs.size=S at*;generalize c.push {cls:=.type "list",data:=.seq #[]}=g at*;have r:am (al H S (.a [])) ([(S,.a [])]::BB):=r;obtain⟨E,C,n,u⟩:=y.g (dU.b (A _ r.r));have u:ns[0]?=O ns[0]:=eM G;generalize ns[0]=e at u;have E:e∈ns:=a1 u;obtain⟨m,K,N⟩:=C.b (i:=0) (x:=.a e) (by rw[bw,u];rfl);have C:g.IsListIter s.heap.objs.size l 0:=⟨_,D,I,I⟩;refine u0 Ag (?_:aC _ _ _ _ _ {s with heap:=g});rw[Ac nX _];show aC _ X.b.in1 (AL (.ref S)>>=_) _ _ {s with heap:=g};refine aD (AU (a:=S) z I ?_);show aC _ X.b.in1 (pA (ip (.ref s.heap.objs.size)) _>>=_) _ _ {s with heap:=g};refine aD (p1 (AT (s:={s with heap:=g}) C n.isList (x:=m) (by simpa using K) λz T C=>?_));have K:L2.ax X pins σ (al H S (.a [])) {s with heap:=z}:=y.o (s:={s with heap:=g}) (t':=s.toks) (λh o g n=>C.extBut h o g n) k.1 k.2.1 k.2.2.2.1 k.2.2.2.2.1 k.2.2.2.2.2;obtain⟨C,P,za,D⟩:=id T;have g:=CR K k P (λT y=>by rw[D]at y;cases y);show aC _ X.b.in1 (pA (iZ [m] (e' (.ref f) [m])) _>>=_) _ _ {s with heap:=z};refine aD (p1 (iq (fM (Q e E _ m _ _ N g r.r) (λx P zb=>?_) λ_ _ n=>n.elim)));obtain⟨zh,zg,z,zf,g,T,K,U⟩:=zb;subst T U;cases zf;have U:=(z.f (s.heap.objs.size,C) (gb _ (.head _))).1;have zb:g≠s.heap.objs.size:=λy=>by have c:=(z.f (s.heap.objs.size,C) (gb _ (.head _))).2.1;rw[y,az]at c;cases c
 have c:=wt z;have y:=r.f K (gY (kf e));have T:=sc (o:=gY (kf e)) k zb;have r:al (al H S (.a [])) g (gY (kf e)) S=O (.a []):=y.e (a:=S) 1 I;obtain⟨_,zb,zf,z,k⟩:=c.a S _ r;cases z;show aC _ X.b.in1 (updateSeq S (λ_=>#[m,.ref g])>>=_) _ _ P;refine aD (AW k I ?_);rw[J];have J:bR [.a e,.b g] [m,.ref g]:=.cons N (.cons I .nil);have z:=wy (us:=[]) c r k J (by show 2<=aH;decide);have r:=((y.p (a:=S) 1 I (.a [.a e,.b g])).a 1 I);have y:aM H (al (al (al H S (.a [])) g (gY (kf e))) S (.a [.a e,.b g])):=λh J n=>by have c:h≠S:=cX n M;have k:al H S (.a []) h=O (.d J):=(aL c).trans n;rw[aL c,aL (cX k K)];exact k
 refine bF ⟨u5 nX _,NV (S:=S) (it:=s.heap.objs.size) (H0:=H) zd ze A Q (λt p w q a h k n j f=>zc t p w q a h k n j f) _ 0 e g _ _ I G z (sc T B) ?_ r y E λi L A c=>?_⟩;exact⟨C,((rC P.heap S (lI λ_=>([m,.ref g]:V ag).toArray)).2 s.heap.objs.size (df B)).trans U,za,D⟩;have j:i=0:=by omega
 subst j;rw[u]at c;cases c;rw[sB];omega
def S8(j:Y)(h:bL)(i:ac)(k:Nat)(o:aY)(c:el):aY:=λσ H m=>c σ H λp g=>∃(l:Y)(ns:V Int)(c:aE)(R:V aE)(kf:Int->Int×Int)(e:ah),p=[.b l]/\0<ns.length/\am g (c::[(l,.a (ns.map ah.a))]::R)/\eB j h i c/\σ[k]?=O (O e)/\
 (∀d∈ns,∀c,am c R->o [O (.a d),O e] c (λp k=>∃e,p=.b e/\c e=aa/\k=al c e (gY (kf d))))/\
 ∀d c e,d∈ns->(∀n∈ns,km (kf n) (kf d)=ae)->eB j h i e->am c (e::R)->aM g c->m (.a d) c
def PL{b:ea}{qual x y:ac}{c A cy:Y}{j k:Nat}(C:fR X [d] z)(P:X.g "min"=aa)(q:X.k=ab)(r:cK (k+1) X.b)(F:X.a.code=.ref c)(B:pM X.h c A)(D:ve X.h X.g)
  (za:∀f c s H,aS (sl X [x,y] qual b f c [(y,cy)] s H) h w) (G:uZ b X.a=cR [(y,cy)]) (J:X.a.cells.lookup y=O cy)
  (E:∀g c p n,rQ (K3 "<lambda>" qual i h b [(y,cy)] p (.ref c) n) ⟨[g],[]⟩=cR [(x,g)])
  (zh:∀m∈b.names,m.2≠.cell) (L:∀m,b.names.lookup m=O .free->m=y)
  (N:X.i[j]?=O y:=by rfl) (Q:X.a.scope.names.lookup y=O .cell:=by rfl) (U:X.a.qual++"<lambda>"=qual:=by rfl) (K:defaultsOf i X.a=([],[]):=by rfl)
  (zg:b.kind=.function:=by rfl) (ze:b.isCoroutine=ae:=by rfl) (zf:b.isGenerator=ae:=by rfl) (zb:b.names.lookup x=O .local:=by rfl) (zc:b.names.lookup y=O .free:=by rfl)
  (M:fh X "min":=by rfl) (m:bX [d] X.a=[(ae,bB d X.a)]:=by rfl):
  aS X (.Call (.Name "min" u) [d] [⟨O "key",.Lambda i h b o,t⟩] e) (S8 A o qual j w z):=by
 intro pins s σ H z c w;show aC _ _ (do kh e (<-bB (.Name "min" u) X.a) [] (d5 e (bX [d] X.a)) (gM e (gN [⟨O "key",.Lambda i h b o,t⟩] X.a))) _ _ _;refine aD (nD c M P uC (callWith_kw (a3 (C e pins s σ H _ c w) λt o ⟨u,d,b,i,h⟩=>?_) (by rw[m];rfl) (by rw[m];rfl) I I));obtain⟨l,ns,e,R,kf,o,c,T,d,m,M,P,zd⟩:=h;subst c;cases i with|cons c e=>cases e;cases c;refine kws_cons (NE b F B D d m U G K λf o p n e c i u C A zi zj=>kws_nil ?_);refine NU (BB:=i::[(l,.a (ns.map ah.a))]::R) (kf:=kf) q (show X.b.units+1<eK from cN r) (λc t=>t.e 1 I) (λb d z g D h e w m=>?_) T u A λb g G c d B e t z F=>?_;exact ND w q r (gb _ (.tail _ (.head _))) (m.B 0 I C) N M Q J zg ze zf zh zb zc L (E g o p n) (za f o D h) e (P b d h m.r.r);exact⟨.a b,c,wt t,e,zd b c i d B zi (z.g 1 I) (zj.a F)⟩
end
abbrev fD:bL:=⟨514,33,514,72⟩
abbrev fl:ac:="poorest.<locals>.<lambda>"
@[irreducible] def eT:Y:=879
def vg(e:aR)(g:ac->ar ag)(f:be)(a:ac)(h:bh):Prop:=∃c d b,g a=O (.ref c)/\jo e a a h c d/\d.code=.ref b/\pM f b eT
def m4(i:bd)(j:aO)(h:aR)(e:ac->ar ag)(k:ac)(d:V (Int×ac)):Prop:=
 ∃(a:Y)(f:aF)(b:V (Int×Y)),e k=O (.ref a)/\(a==hd)=ae/\h.lookup a=O f/\(∀c:be,c.get? a=O f->c.DictOf (dW i j) a (b.map λg=>((bb g.1:aU),b9 g.2)))/\
  b.map (·.1)=d.map (·.1)/\kd (λ(a:Int×Y)(c:Int×ac)=>a.1=c.1/\e c.2=O (.ref a.2)) b d
noncomputable def r5:V (Int×ac):=[(0,"answer_clear"),(1,"answer_books"),(2,"answer_show"),(3,"answer_put"),(4,"answer_remove"),(5,"answer_flush"),(6,"answer_cut"),(20,"answer_tighten"),(24,"answer_map"),(27,"answer_counts")]
noncomputable def sE:V (Int×ac):=[(7,"answer_sender"),(8,"answer_send"),(9,"answer_begin"),(10,"answer_place"),(11,"answer_done"),(12,"answer_giveup"),(26,"answer_senderat")]
noncomputable def sf:V (Int×ac):=[(13,"answer_group"),(14,"answer_join"),(15,"answer_leave"),(16,"answer_fetch"),(17,"answer_keep"),(18,"answer_groupat"),(19,"answer_work")]
noncomputable def we:V (Int×ac):=[(21,"answer_find"),(22,"answer_findtime"),(23,"answer_read"),(25,"answer_part")]
inductive qj(vs:V ah)(H:af)(Q:bj)(E:cf):Prop
 |a (ca:Y) (o:aF) (l:V Int) (TB:aE) (R:V aE):vs=[.b ca]->am H ([(ca,.e o (.a (bg l)))]::TB::R)->eB eT fD fl TB->r3 l=ab->l.length<=16000->(∀ta H',H' ta=O (.a (bg (kX l)))->Q (.b ta) H')->qj vs H Q E
def cP:bh->ac
 |.FunctionDef n _ _ _ _ _ _ _ _ _=>n
 |_=>""
def dR(a:bh):V ac:=(mn a).args.map (·.arg)
def f1(b:bh):V ac:=(de b).names.filterMap λa=>match a.2 with|.local=>O a.1|.cell=>O a.1|_=>aa
noncomputable def vw:V Nat:=[22,23,24,25,26,27,28,29,37,39,40,41,43,44,45,46,47,49,50,51,52,53,54,56,57,58,59,60,61,62,73,74,75,76,77,78,79,80,81,82,83,84,85,86,87,89,90,91,92,93,94,95,96,97,98,99,100,105,106,107,108,112,113,114,122,123,124,125,130,131,132,133,134,135,136,137,138,141,142,143,144,145,146,147,152,153,154,155,156,157,158,159,160,165,166,167,168]
noncomputable def vS:V (Nat×Nat):=[(36,0),(64,0),(65,0),(65,1),(65,2),(65,3),(65,4),(65,5),(65,6),(65,7),(65,8),(65,9),(65,10),(65,11),(67,0),(67,1),(67,2),(67,3),(103,0),(103,1),(103,2),(103,3),(109,0),(109,1),(109,2),(109,3),(109,4),(109,5),(109,6),(109,7),(109,8),(109,9),(109,10),(111,0),(116,0),(117,0),(117,1),(118,0),(118,1),(163,0),(163,1),(163,2),(163,3),(163,4),(163,5),(163,6),(163,7),(163,8),(163,9)]
class r4 (P:bd) (w:aO) (K:aR) (mg:ac->ar ag) (base:be):Prop extends L1 K mg where
 a:∀i,vw.contains i=ab->lR K mg (cP (aI i)) (aI i)
 f:∀i j,vS.contains (i,j)=ab->∃q,ou K (cc i) (cP (ck (aI i) j)) q (ck (aI i) j)
 za:vg K mg base (cP (aI 107)) (aI 107)
 zc:ve base mg
 zb:mg "Refusal"=O (.ref cE)
 L:m4 P w K mg "BOOK_CALLS" r5
 N:m4 P w K mg "SENDER_CALLS" sE
 M:m4 P w K mg "GROUP_CALLS" sf
 X:m4 P w K mg "PART_CALLS" we
 B:gO P w K mg base cE "OutOfRange" (-1)
 A:gO P w K mg base cE "NoSuchBook" (-2)
 C:gO P w K mg base cE "ThereAlready" (-3)
 zd:gO P w K mg base cE "NoSuchGroup" (-4)
 ze:gO P w K mg base cE "NoSuchSender" (-5)
 zk:gO P w K mg base cE "NumberTooFar" (-6)
 zj:gO P w K mg base cE "NotTight" (-6)
 zg:gO P w K mg base cE "NoneFound" (-6)
 zl:gO P w K mg base cE "TransactionOpen" (-7)
 zf:gO P w K mg base cE "NoTransaction" (-7)
 Q:gO P w K mg base cE "Outdated" (-8)
 zi:gO P w K mg base cE "NotTheOwner" (-9)
 zh:gO P w K mg base cE "NotAMember" (-9)
structure vh where
 b:bd
 e:aO
 a:aR
 d:ac->ar ag
 c:be
instance:Nonempty vh:=⟨⟨xc,⟨λ_ _=>0,{strHash:=λ_=>0,shareClass:=λ_=>0,mergeTok:=id,idOf:=λ_=>0,idOfShared:=λ_ _=>0,followText:=λ_=>ae,idOfImm:=λ_=>0}⟩,[],λ_=>aa,xc⟩⟩
def vf(a:vh):Prop:=r4 a.b a.e a.a a.d a.c/\¬hL a.b a.e a.a a.d a.c fo 15 (cP (aI 168)) (dR (aI 168)) qj
def p8:vh:=TC vf
def hf:bd:=p8.b
def hs:aO:=p8.e
def ak:aR:=p8.a
def hk:ac->ar ag:=p8.d
def i5:be:=p8.c
abbrev aJ:Prop:=r4 hf hs ak hk i5
def b'(k i:Nat)(a:aB):Prop:=hL hf hs ak hk i5 fo k (cP (aI i)) (dR (aI i)) a
def cL(k i:Nat)(a:aB):Prop:=hL hf hs ak hk i5 (eJ hf hs) k (cP (aI i)) (dR (aI i)) a
def dz(k i j:Nat)(a:aB):Prop:=lS hf hs ak hk i5 fo k (cc i) (cP (ck (aI i) j)) (dR (ck (aI i) j)) a/\fp ak (cc i)
def hK(k a j:Nat)(b:aB):Prop:=lS hf hs ak hk i5 (eJ hf hs) k (cc a) (cP (ck (aI a) j)) (dR (ck (aI a) j)) b/\fp ak (cc a)
def L8(h:aJ->b' 15 168 qj)(f:r4 b e a d c):hL b e a d c fo 15 (cP (aI 168)) (dR (aI 168)) qj:=
 kv λg=>(DQ (p:=vf) ⟨⟨b,e,a,d,c⟩,f,g⟩).2 (h (DQ (p:=vf) ⟨⟨b,e,a,d,c⟩,f,g⟩).1)
structure ki where
 e:ac
 c:Y
 b:ag
 a:bK
 d:V cS
 f:ao
def oM(d:V ac)(e:bh)(a:ki)(c:af)(b:cf):aK:=(fi fo hf hs ak hk i5 d a.e (de e) a.c a.b a.a a.d a.f c b).s
def kq(d:V ac)(e:bh)(a:ki)(c:af)(b:cf):aK:=fi (eJ hf hs) hf hs ak hk i5 d a.e (de e) a.c a.b a.a a.d a.f c b
def l6(a:Nat)(b:V ah):L2.aQ:=b.map O++cA a aa
def qk{b:V ac}{a:V ah}(f:a.length=d)(e:b.length=d+c):hD b a=l6 c a:=by
 show _++cA (b.length -a.length) aa=_;rw[f,e,JL]
 rfl
section
variable{α:Type}{f:V α->Prop}
def L'(d:∀a,f [a])(b:V α)(c:b.length=1):f b:=by obtain⟨a,rfl⟩:=List.length_eq_one_iff.mp c;exact d a
def Ma(e:∀a b,f [a,b]):∀c:V α,c.length=2->f c
 |[],c=>by cases c
 |a::d,c=>L' (f:=λd=>f (a::d)) (λb=>e a b) d (pD c)
def Mb(g:∀a b c,f [a,b,c]):∀d:V α,d.length=3->f d
 |[],d=>by cases d
 |a::e,d=>Ma (f:=λe=>f (a::e)) (λb c=>g a b c) e (pD d)
def Mc(h:∀a b c d,f [a,b,c,d]):∀e:V α,e.length=4->f e
 |[],e=>by cases e
 |a::g,e=>Mb (f:=λg=>f (a::g)) (λb c d=>h a b c d) g (pD e)
def Md(i:∀a b c d h,f [a,b,c,d,h]):∀e:V α,e.length=5->f e
 |[],e=>by cases e
 |a::g,e=>Mc (f:=λg=>f (a::g)) (λb c d h=>i a b c d h) g (pD e)
def Me(j:∀a b c d h i,f [a,b,c,d,h,i]):∀e:V α,e.length=6->f e
 |[],e=>by cases e
 |a::g,e=>Md (f:=λg=>f (a::g)) (λb c d h i=>j a b c d h i) g (pD e)
def Vd(k:∀a b c d h i j,f [a,b,c,d,h,i,j]):∀e:V α,e.length=7->f e
 |[],e=>by cases e
 |a::g,e=>Me (f:=λg=>f (a::g)) (λb c d h i j=>k a b c d h i j) g (pD e)
end
local macro_rules|`(tactic|walk_at "b")=>`(tactic|(intro _ _ _ _ _ _;first|exact L' (λ_=>rfl)|exact Ma (λ_ _=>rfl)|exact Mb (λ_ _ _=>rfl)|exact Mc (λ_ _ _ _=>rfl)|exact Md (λ_ _ _ _ _=>rfl)|exact Me (λ_ _ _ _ _ _=>rfl)|exact Vd (λ_ _ _ _ _ _ _=>rfl)|exact bi8 (λ_ _ _ _ _ _ _ _=>rfl)))
local macro_rules|`(tactic|walk_at "l")=>`(tactic|(intro _ _ _ _ h;repeat (first|(cases h;subst_vars;rfl;done)|(obtain ⟨_,h⟩:=h))))
section
variable{i j k:Nat}{sp:aB}{N:V ac}
structure pb where
 d:ki
 c:af
 a:bj
 b:cf
def n7(i:V ac->bh->ki->af->cf->aK)(N:V ac)(e:bh)(k j:Nat)(sp:aB)(d:pb):Prop:=∀f h,cK k (i N e d.d d.c d.b).b->N.Nodup->sp h f d.a d.b->∃g,eG (i N e d.d d.c d.b) (fT e) g/\g {a:=λ_ e=>d.a .c e,b:=d.a} (l6 j h) f
@[irreducible] def n3 (c:V ac->bh->ki->af->cf->aK) (N:V ac) (b:bh) (k a:Nat) (sp:aB):pb:=
 have:Nonempty pb:=⟨⟨⟨"",0,.none,{},[],{}⟩,λ_=>aa,λ_ _=>False,λ_ _ _=>False⟩⟩
 TC λd=>¬n7 c N b k a sp d
def T0(e:n7 d N c k b sp (n3 d N c k b sp))(a):n7 d N c k b sp a:=kv λg=>by have:Nonempty pb:=⟨a⟩;have f:=DQ (p:=λa=>¬n7 d N c k b sp a) ⟨a,g⟩;rw[n3]at e;exact f e
def Vi[a:aJ](c:vS.contains (i,j)=ab):fp ak (cc i):=by
 have d:(vS.all λb=>[36,64,65,67,103,109,111,116,117,118,163].contains b.1)=ab:=by decide
 have b:=hE.mp d _ (mG.mp c);simp only[Vj,bW,Vk,or_false,decide_eq_true_eq]at b;obtain rfl|rfl|rfl|rfl|rfl|rfl|rfl|rfl|rfl|rfl|rfl:=b;exact a.zV;exact a.zW;exact a.m;exact a.x;exact a.b;exact a.r;exact a.zU;exact a.zT;exact a.zC;exact a.zq;exact a.g
def vI[j:aJ](N:V ac)(e)(l:n7 oM N (aI i) k e sp (n3 oM N (aI i) k e sp))
  (g:∀b a d c,sp b a d c->b.length=(dR (aI i)).length:=by walk_at"l") (f:gq N (dR (aI i)) (de (aI i)):=by exact⟨rfl,rfl,rfl,by decide+kernel,rfl,by decide+kernel,by decide+kernel⟩)
  (p:ir (cP (aI i)) (cP (aI i)) (aI i) (dR (aI i)):=by walk_at"b") (q:N.length=(dR (aI i)).length+e:=by rfl) (o:vw.contains i=ab:=by rfl):b' (k+1) i sp:=
 lR.a (j.a i o) f p g λn m h s t a b d c r e=>by rw[qk (g _ _ _ _ e) q];exact T0 l ⟨⟨_,n,m,h,s,t⟩,a,d,c⟩ a b r f.a e
def Nx[j:aJ](N:V ac)(e)(l:n7 kq N (aI i) k e sp (n3 kq N (aI i) k e sp))
  (g:∀b a d c,sp b a d c->b.length=(dR (aI i)).length:=by walk_at"l") (f:gq N (dR (aI i)) (de (aI i)):=by exact⟨rfl,rfl,rfl,by decide+kernel,rfl,by decide+kernel,by decide+kernel⟩)
  (p:ir (cP (aI i)) (cP (aI i)) (aI i) (dR (aI i)):=by walk_at"b") (q:N.length=(dR (aI i)).length+e:=by rfl) (o:vw.contains i=ab:=by rfl):cL (k+1) i sp:=
 lR.b (j.a i o) f p g λn m h s t a b d c r e=>by rw[qk (g _ _ _ _ e) q];exact T0 l ⟨⟨_,n,m,h,s,t⟩,a,d,c⟩ a b r f.a e
def cF[c:aJ](b)(a)(f:n7 oM (f1 (aI i)++a) (aI i) k b sp (n3 oM (f1 (aI i)++a) (aI i) k b sp))
  (g:∀c d e E,sp c d e E->c.length=(dR (aI i)).length:=by walk_at"l") (S:gq (f1 (aI i)++a) (dR (aI i)) (de (aI i)):=by exact⟨rfl,rfl,rfl,by decide+kernel,rfl,by decide+kernel,by decide+kernel⟩)
  (c:ir (cP (aI i)) (cP (aI i)) (aI i) (dR (aI i)):=by walk_at"b") (d:(f1 (aI i)++a).length=(dR (aI i)).length+b:=by rfl) (a:vw.contains i=ab:=by rfl):b' (k+1) i sp:=vI _ b f g S c d a
def cT[c:aJ](b)(a)(g:n7 kq (f1 (aI i)++a) (aI i) k b sp (n3 kq (f1 (aI i)++a) (aI i) k b sp))
  (h:∀c e f d,sp c e f d->c.length=(dR (aI i)).length:=by walk_at"l") (S:gq (f1 (aI i)++a) (dR (aI i)) (de (aI i)):=by exact⟨rfl,rfl,rfl,by decide+kernel,rfl,by decide+kernel,by decide+kernel⟩)
  (c:ir (cP (aI i)) (cP (aI i)) (aI i) (dR (aI i)):=by walk_at"b") (d:(f1 (aI i)++a).length=(dR (aI i)).length+b:=by rfl) (a:vw.contains i=ab:=by rfl):cL (k+1) i sp:=Nx _ b g h S c d a
def dF[m:aJ](e)(a)(o:n7 oM (f1 (ck (aI i) j)++a) (ck (aI i) j) k e sp (n3 oM (f1 (ck (aI i) j)++a) (ck (aI i) j) k e sp))
  (l:∀b H d c,sp b H d c->b.length=(dR (ck (aI i) j)).length:=by walk_at"l") (h:gq (f1 (ck (aI i) j)++a) (dR (ck (aI i) j)) (de (ck (aI i) j)):=by exact⟨rfl,rfl,rfl,by decide+kernel,rfl,by decide+kernel,by decide+kernel⟩)
  (q:∀g,ir (cP (ck (aI i) j)) g (ck (aI i) j) (dR (ck (aI i) j)):=by intro _;walk_at"b") (r:(f1 (ck (aI i) j)++a).length=(dR (ck (aI i) j)).length+e:=by rfl) (e:vS.contains (i,j)=ab:=by rfl):dz (k+1) i j sp:=by
 obtain⟨g,n⟩:=m.f i j e;exact⟨ou.a n h (q g) l λf p m t u H b d c s a=>by rw[qk (l _ _ _ _ a) r];exact T0 o ⟨⟨_,f,p,m,t,u⟩,H,d,c⟩ H b s h.a a,Vi e⟩
def ix[m:aJ](f)(b)(o:n7 kq (f1 (ck (aI i) j)++b) (ck (aI i) j) k f sp (n3 kq (f1 (ck (aI i) j)++b) (ck (aI i) j) k f sp))
  (l:∀c a e d,sp c a e d->c.length=(dR (ck (aI i) j)).length:=by walk_at"l") (h:gq (f1 (ck (aI i) j)++b) (dR (ck (aI i) j)) (de (ck (aI i) j)):=by exact⟨rfl,rfl,rfl,by decide+kernel,rfl,by decide+kernel,by decide+kernel⟩)
  (r:∀g,ir (cP (ck (aI i) j)) g (ck (aI i) j) (dR (ck (aI i) j)):=by intro _;walk_at"b") (s:(f1 (ck (aI i) j)++b).length=(dR (ck (aI i) j)).length+f:=by rfl) (f:vS.contains (i,j)=ab:=by rfl):hK (k+1) i j sp:=by
 obtain⟨g,n⟩:=m.f i j f;exact⟨ou.b n h (r g) l λq p m u w a c e d t b=>by rw[qk (l _ _ _ _ b) s];exact T0 o ⟨⟨_,q,p,m,u,w⟩,a,e,d⟩ a c t h.a b,Vi f⟩
end
def a8:fS (eJ hf hs) (kq c e d b a) a:=IS
section
variable{X:aK}{i:Nat}{x:ac}{e:aZ}{n:aY}{pos m:bL}
def aA(i)(a:aS X e n)(g:X.i.Nodup:=by assumption)(c:X.i[i]?=O x:=by rfl)(f:nz X.a.scope x:=by first|exact Or.inl rfl|exact Or.inr rfl)(d:lO e (O (.Name x m)) pos.line X.a=cR ae:=by rfl)(b:X.r x=ab\/X.a.scope.names.lookup x=O .local:=by first|exact .inl rfl|exact .inr rfl|assumption):e6 X (.Assign [.Name x m] e pos) (pj n (mo i)):=HK g c f a d b
def bE(i)(d:X.i.Nodup:=by assumption)(b:X.i[i]?=O x:=by rfl)(c:nz X.a.scope x:=by first|exact Or.inl rfl|exact Or.inr rfl)(a:X.r x=ab\/X.a.scope.names.lookup x=O .local:=by first|exact .inl rfl|exact .inr rfl|assumption):j0 X (.Name x pos) (mo i):=HD d b c a
end
section
variable{X:aK}{n:f8}{i h j k:Nat}{sp:aB}{E:cf}{x m:ac}{p pos g:bL}{o e:aZ}{f:V aZ}{d:aY}{t:el}{C:Y}
def f0{E:cf}{k:Nat}{B u pos:bL}(D:gO hf hs ak hk i5 cE a s)(A:cK k (kq l r q c E).b:=by assumption)(z:3<=k:=by decide)(y:fh (kq l r q c E) a:=by rfl)(w:(a==("__debug__":ac))=ae:=by decide):
  e6 (kq l r q c E) (.Raise (O (.Call (.Name a B) [] [] u)) aa pos) (Df ak cE E s):=Ny D A z y w
end
section
variable{X:aK}{i j k l:Nat}{x y z u f:ac}{a b c d e:aZ}{n tb m h g:aY}{p q r s pos:bL}
def n5(X:aK)(i:Nat)(x:ac):Prop:=X.i[i]?=O x/\o6 X.a.scope x/\(x==("__debug__":ac))=ae/\(x==("__classdict__":ac))=ae
def n6(X:aK)(e:aZ)(a:V aZ):Prop:=bX (e::a) X.a=(ae,bB e X.a)::bX a X.a
def n5.o(a:n5 X i x):aS X (.Name x p) (j8 i):=W i a.1 a.2.1 a.2.2.1 a.2.2.2
def c3(b:aS X a n)(s:n6 X a []:=by exact rfl):fR X [a] (pk n j7):=Z b ai s
def c6(d:aS X a n)(c:aS X b tb)(s:n6 X a [b]:=by exact rfl)(r:n6 X b []:=by exact rfl):fR X [a,b] (pk n (pk tb j7)):=Z d (c3 c r) s
def n0(e:aS X a n)(d:aS X b tb)(o:aS X c m)(s:n6 X a [b,c]:=by exact rfl)(r:n6 X b [c]:=by exact rfl)(f:n6 X c []:=by exact rfl):fR X [a,b,c] (pk n (pk tb (pk m j7))):=Z e (c6 d o r f) s
def n2(f:aS X a n)(e:aS X b tb)(o:aS X c m)(i:aS X d h)(s:n6 X a [b,c,d]:=by exact rfl)(r:n6 X b [c,d]:=by exact rfl)(j:n6 X c [d]:=by exact rfl)(g:n6 X d []:=by exact rfl):fR X [a,b,c,d] (pk n (pk tb (pk m (pk h j7)))):=Z f (n0 e o i r j g) s
def c2(i)(a:n5 X i x:=by walk_at"v"):fR X [.Name x p] (pk (j8 i) j7):=c3 a.o I
def c7(i j)(b:n5 X i x:=by walk_at"v")(a:n5 X j y:=by walk_at"v"):fR X [.Name x p,.Name y q] (pk (j8 i) (pk (j8 j) j7)):=c6 b.o a.o I I
def pn(i j k)(b:n5 X i x:=by walk_at"v")(a:n5 X j y:=by walk_at"v")(o:n5 X k z:=by walk_at"v"):fR X [.Name x p,.Name y q,.Name z r] (pk (j8 i) (pk (j8 j) (pk (j8 k) j7))):=n0 b.o a.o o.o I I I
def n8(i j k l)(b:n5 X i x:=by walk_at"v")(a:n5 X j y:=by walk_at"v")(o:n5 X k z:=by walk_at"v")(c:n5 X l u:=by walk_at"v"):fR X [.Name x p,.Name y q,.Name z r,.Name u s] (pk (j8 i) (pk (j8 j) (pk (j8 k) (pk (j8 l) j7)))):=n2 b.o a.o o.o c.o I I I I
def n4(c:aS X e g)(b:lN e f X.a (bB e X.a)=bB e X.a:=by rfl)(a:X.e=ak:=by rfl):aS X (.Attribute e f pos) (rh ak g f):=av ak c b a
def c0(i)(a:n5 X i x:=by walk_at"v")(c:lN (.Name x p) f X.a (bB (.Name x p) X.a)=bB (.Name x p) X.a:=by rfl)(b:X.e=ak:=by rfl):aS X (.Attribute (.Name x p) f pos) (rh ak (j8 i) f):=av ak a.o c b
def c5[h:aJ](j:aS X e g)(k:fh X "len":=by rfl)(l:X.g=hk:=by rfl)(i:X.e=ak:=by rfl)(s:n6 X e []:=by exact rfl):aS X (.Call (.Name "len" p) [e] [] pos) (yk (λxs c f=>∃p d,xs=[.b p]/\(dU ak c p d\/kA ak c p d)/\f (.a d.length) c) (pk g j7)):=bM (cO ak i) k (by rw[l];exact h.e) cC (c3 j s) (by decide) (by decide) s I
def c8(d:aS X a n)(e:aS X b tb)(f:Gv b:=by exactλ_ _=>rfl)(c:X.e=ak:=by rfl):aS X (.Subscript a b pos) (po (HS ak) n tb):=by rw[<-c];exact dL ew d e f
def c4{r:fq}(B:d4 X (eL o) r)(t:aS X a n)(w:aS X b tb)(A:oc o b=ae:=by exact bS _):g4 X (.Compare a [o] [b] pos) (uc (po r n tb)):=bV B t w A
def n9(C:d4 X (eL o) t)(w:aS X a n)(A:aS X b tb)(B:oc o b=ae:=by exact bS _):aS X (.Compare a [o] [b] pos) (po t n tb):=mB C w A B
def c1(a:aS X e g):eG X [.Return (O e) pos] (rk g):=au (aV a)
end
def c9:1<=aH:=by decide
def n1:2<=aH:=by decide
def Vg:3<=aH:=by decide
def Vh:4<=aH:=by decide
def Vm:5<=aH:=by decide
def Vn:6<=aH:=by decide
local macro_rules|`(tactic|walk_at "v")=>`(tactic|exact ⟨rfl,by first|exact Or.inl rfl|exact Or.inr (Or.inl rfl)|exact Or.inr (Or.inr rfl),by decide,by decide⟩)
local macro_rules|`(tactic|walk_at "p")=>`(tactic|first|exact aX|exact a8)
def S6(e h i:aY):aY:=λa c f=>e a c λj d=>∃c,j=.b c/\qP d c/\h a d λk g=>i a g λh e=>∃a d,e c=O (.b a)/\k=dC d/\a.length<aH/\
 (∀g,bx a d=O g->f g e)/\(bx a d=aa->f h (al e c (.b (cH a d h))))
section
variable{X:aK}{o e f:aZ}{n m k:aY}{j i:bL}
def PK(c:X.b.units+1<eK)(w:aS X o n)(p:aS X e m)(u:aS X f k)(b:xh X o "setdefault" j e f i:=by exact⟨rfl,rfl,rfl,rfl⟩):aS X (.Call (.Attribute o "setdefault" j) [e,f] [] i) (S6 n m k):=by
 intro d z h g c q t;refine u_ b.a b.b b.c uL Kr PySem.F.type_dict_setdefault (a3 (w d z h g _ q t) λA B ⟨C,l,c,y,a,s,r,x⟩=>?_);subst s;obtain rfl:A=b9 a:=y;obtain⟨g,q,_⟩:=tV c r;refine⟨g,q,?_⟩;rw[b.d];refine uF I (uG (pF (a3 (p d B h l _ c x) λg D ⟨r,b,q,A,z⟩=>pF (a3 (u d D h b _ q z) λy F ⟨r,x,l,w,g,c,t,s,E,B,C⟩=>uH ?_))));subst s;obtain⟨q,u,d,h,b⟩:=qZ l.a t;have s:d.length<=aH:=by rw[<-h.a];exact q
 refine rS Kr b.typeIs PySem.F.entry_dict_setdefault (PySem.F.args_dict_setdefault_3 _ _ _) (kt_meets_setdefault (dW X.c X.d) a (j4 A) u y) ⟨d,b,s,λz q=>?_,λz y s A=>?_⟩;have b:=h.b c;rw[q]at b;cases d:bx g c with|none=>rw[d]at b;exact nomatch b|some q=>rw[d]at b;exact⟨q,x,l.e _,b,B q d⟩
 have b:=h.b c;rw[z]at b;cases d:bx g c with
 |some q=>rw[d]at b;exact nomatch b
 |none=>
  have q:(cH g c r).length<=aH:=by have:=j5 g c r;omega
  have p:∃b,y.get? a=O b:=let⟨b,_,_,g,_⟩:=s;⟨b,g⟩;exact⟨r,_,tR l (by rw[t];exact ma) A p (xG q u (h.c c w) s),w,C d⟩
end
theorem ww:∀{f:V ah}{d:V ag},f.length=d.length->(∀(b:Nat) e c,f[b]?=O e->d[b]?=O c->br e c)->bR f d
 |[],[],_,_=>.nil
 |e::f,c::d,a,g=>.cons (g 0 e c I I) (ww (by simpa using a) λb h v d f=>g (b+1) h v (by simpa using d) (by simpa using f))
 |[],_::_,a,_=>by simp at a
 |_::_,[],a,_=>by simp at a
section
variable{X:aK}
def Ba(l:X.k=ab):g3 X (.type "list") (λxs d f=>∃a kvs,xs=[ah.b a]/\d a=O (.b kvs)/\∀e,d e=aa->f (.b e) (al d e (.a (kvs.map λc=>dC c.1)))):=by
 intro i p m d xs j f e h g;obtain⟨a,kvs,rfl,j,o⟩:=g;obtain⟨r,rfl,d⟩:=nM h;cases d;obtain⟨i,m,h,f,d⟩:=qZ e.a j;obtain⟨ep,g⟩:=d.dictAt;refine PySem.W.kdl_call (K2 (knd:=dW X.c X.d) (kvs:=h) (ep:=ep) m) (e.b.a l) g (by rw[<-f.a];exact i) λl q d j n m g=>⟨.b p.heap.objs.size,_,e.y (t':=q) n (bp _) (show d_ X.c X.d _ l _ (.a (kvs.map λc=>dC c.1))from⟨by rw[an];exact i,d.toList,j,?_,by rw[m]⟩),I,o _ (e.a.b (bp _))⟩;have i:d.size=h.length:=g.1;have e:d.toList.length=d.size:=by simp
 have h:(kvs.map λc=>dC c.1).length=d.toList.length:=by rw[an,e,i,f.a]
 refine ww h λi x v d e=>?_;obtain⟨l,m,h,j⟩:=g.2 i v (by rw[<-sV];exact e);rw[bw]at d;cases e:kvs[i]? with
 |none=>rw[e]at d;cases d
 |some c=>
  rw[e]at d;obtain rfl:dC c.1=x:=bA d;obtain⟨r,d,_⟩:=q1 f (k:=c.1) (v:=c.2) e;rw[d]at h;have:c.1=l:=by have:=bA h;exact cb rz this
  rw[this];exact t9 j
end
section
variable{X:aK}
def CZ(f:aR)(h:Bool):fq:=λi j c g=>∃b a,fG f c j (.list b)/\fG f c i a/\nZ b=ab/\a.canLay0=ab/\a.depth<=60/\g (.d (if h then !(b.any λe=>e.eqv a)else b.any λe=>e.eqv a)) c
def PE(a:X.b.units+64<eK):d4 X (eL .In) (CZ X.e ae):=by intro f g h b o p n m c a i j e;obtain⟨r,c,f,g,k,l,q,h⟩:=e;obtain⟨q,e⟩:=fG.a a _ p m f j;obtain⟨j,f⟩:=fG.a a c o n g i;exact SeqAt.in_list_reads e f k l (by omega) ⟨.d _,b,a,I,h⟩
def PG(a:X.b.units+64<eK):d4 X (eL .NotIn) (CZ X.e ab):=by intro f g h b o p n m c a i j e;obtain⟨r,c,f,g,k,l,q,h⟩:=e;obtain⟨q,e⟩:=fG.a a _ p m f j;obtain⟨j,f⟩:=fG.a a c o n g i;exact SeqAt.notIn_list_reads e f k l (by omega) ⟨.d _,b,a,I,h⟩
end
abbrev dP(l:V Int):jD:=.list (l.map ke)
abbrev hO(a:Nat×Nat):jD:=.tuple [.int a.1,.int a.2]
theorem Bt:∀(a b:V Int),uQ (a.map ke) (b.map ke)=aq (a=b)
 |[],[]=>I
 |[],_::_=>I
 |_::_,[]=>I
 |c::a,d::b=>by show((c==d)&&uQ (a.map ke) (b.map ke))=_;rw[Bt a b];by_cases e:c=d<;>by_cases f:a=b<;>simp[e,f]
def vv(l a):(dP l).eqv (dP a)=aq (l=a):=Bt l a
def MW(a b:Nat×Nat):(hO a).eqv (hO b)=aq (a=b):=by show(((a.1:Int)==(b.1:Int))&&(((a.2:Int)==(b.2:Int))&&ab))=_;obtain⟨c,d⟩:=a;obtain⟨a,e⟩:=b;by_cases b:c=a<;>by_cases f:d=e<;>simp[b,f]<;>omega
theorem B3:∀a:V Int,nZ (a.map ke)=ab
 |[]=>I
 |b::a=>by show(ab&&nZ (a.map ke))=ab;rw[B3 a];rfl
def vM(a):(dP a).canLay0=ab:=B3 a
theorem vN:∀a:V (V Int),nZ (a.map dP)=ab
 |[]=>I
 |b::a=>by show((dP b).canLay0&&nZ (a.map dP))=ab;rw[vN a,vM];rfl
theorem B0:∀a:V (Nat×Nat),nZ (a.map hO)=ab
 |[]=>I
 |b::a=>by show((hO b).canLay0&&nZ (a.map hO))=ab;rw[B0 a];rfl
theorem Bj:∀a:V Int,rE (a.map ke)<=1
 |[]=>by decide
 |b::a=>by have:=Bj a;show eN _ (rE (a.map ke))<=1;exact JP.mpr ⟨by show(_:Nat)<=1;first|exact bp _|exact co _,this⟩
def vp(a:V Int):(dP a).depth<=2:=by have:=Bj a;show rE (a.map ke)+1<=2;omega
theorem Bi:∀a:V (V Int),rE (a.map dP)<=2
 |[]=>by decide
 |b::a=>JP.mpr ⟨vp b,Bi a⟩
def l4(l):mV (dP l)=ab:=by have:=vp l;unfold mV;rw[vM];simp only[gg,decide_eq_true_eq];omega
def sG(l:V (V Int)):mV (.list (l.map dP))=ab:=by have:=Bi l;have a:(pJ (l.map dP)).canLay0=ab:=vN l;unfold mV;rw[a];simp only[gg,decide_eq_true_eq];show rE (l.map dP)+1<=64;omega
theorem Br:∀(a b:V (V Int)),uQ (a.map dP) (b.map dP)=aq (a=b)
 |[],[]=>I
 |[],_::_=>I
 |_::_,[]=>I
 |c::a,d::b=>by show((dP c).eqv (dP d)&&uQ (a.map dP) (b.map dP))=_;rw[Br a b,vv];by_cases e:c=d<;>by_cases f:a=b<;>simp[e,f]
def MV(a b:V (V Int)):(pJ (a.map dP)).eqv (.list (b.map dP))=aq (a=b):=Br a b
section
variable{K:aR}{H:af}
theorem Bl:∀c:V Int,lj K H (c.map ah.a) (c.map ke)
 |[]=>.b
 |d::c=>.a (.b d) (Bl c)
def vr{l:V Int}(e:H d=O (.a (l.map ah.a))):fG K H (.b d) (dP l):=.c (dU.b e) (Bl l)
def Bo(f:H e=O (.d [.a c.1,.a c.2])):fG K H (.b e) (hO c):=.d (kA.b f) (.a (.b _) (.a (.b _) .b))
theorem Bm:∀{c:V e},(∀d∈c,fG K H (f d) (g d))->lj K H (c.map f) (c.map g)
 |[],_=>.b
 |d::c,e=>.a (e d cr) (Bm λf c=>e f (cJ _ c))
def Bn{d:V e}(k:H f=O (.a (d.map g)))(j:∀i∈d,fG K H (g i) (h i)):fG K H (.b f) (.list (d.map h)):=.c (dU.b k) (Bm j)
end
section
variable{X:aK}
def PR(c:aR):fq:=λi j a h=>∃e f g,i=.b e/\j=.b f/\dU c a e g/\dU c a f []/\h (.d g.isEmpty) a
def wa(K:aR)(u:X.b.units+64<eK)(l:X.e=K:=by rfl):d4 X (eL .Eq) (PR K):=by
 subst l;intro B D H c F G v E s b q r h;obtain⟨A,C,xs,rfl,rfl,m,n,k⟩:=h;cases q;cases r;obtain⟨y,o,f,w⟩:=b.g m;obtain⟨z,p,g,x⟩:=b.g n;cases p;cases o with|nil=>exact SeqAt.eq_listAt (e:=λ_=>ab) f.isList g.isList I (by omega) (λj i _=>a7 i (by simp)) ⟨.d _,c,b,I,k⟩|cons a t=>exact SeqAt.eq_list_lengthsAt f.isList g.isList (by simp) (by omega) ⟨.d _,c,b,I,k⟩
end
def O8{p:be}(o:d_ t u s p n q):∃r,p.get? n=O r:=by
 cases q with
 |a p=>obtain⟨_,_,_,_,n⟩:=o;exact⟨_,n⟩
 |d p=>obtain⟨_,_,_,_,n,_⟩:=o;exact⟨_,n⟩
 |b p=>obtain⟨_,_,_,_,_,_,_,n,_⟩:=o;exact⟨_,n⟩
 |h p=>obtain⟨_,_,_,_,_,_,_,n,_⟩:=o;exact⟨_,n⟩
 |k p q=>obtain⟨_,_,_,_,n,_⟩:=o;exact⟨_,n⟩
 |c q s p=>obtain⟨_,_,_,n,_⟩:=o;exact⟨_,n⟩
 |f q=>exact o
 |i p=>obtain⟨_,⟨_,_,_,n,_⟩,_⟩:=o;exact⟨_,n⟩
 |m s p=>obtain⟨_,_,_,n⟩:=o;exact⟨_,n⟩
 |e n r=>exact⟨_,o.1⟩
 |g n=>exact⟨_,o⟩
 |l n q=>exact⟨_,o⟩
 |j n=>exact o.2.1
section
variable{X:aK}{pins:V (Y×aF)}{σ:L2.aQ}{H:af}{s:ao}{h':be}
def BG(d:ek X.c X.d H s.heap)(c:s.heap.get? a=aa):H a=aa:=by
 cases e:H a with|none=>rfl|some f=>obtain⟨v,b⟩:=O8 (d a f e);rw[c]at b;cases b
def NC(h:L2.ax X pins σ H s)(k:∀c d,s.heap.get? c=O d->h'.get? c=O d)(g:s.heap.get? e=aa)(l:d_ X.c X.d (al H e a) h' e a):L2.ax X pins σ (al H e a) {s with heap:=h',toks:=f}:=by
 have f:=BG h.a g;have i:∀c d,s.heap.get? c=O d->c≠e:=λc d a j=>by rw[j,g]at a;cases a
 refine h.D ⟨λc d a _ _ _=>k c d a,λc d a _ _ _=>⟨d.slots,k c d a⟩,λc d a g _=>(aL (i c d a)).trans g,λc d a _=>⟨d,k c d a⟩,λc j a=>(aL (cX a f)).trans a,λc d j a=>(aL (cX a f)).trans a,λc g a=>⟨#[],by rw[aL (cX a f),a];simp⟩⟩ λc d g=>?_;by_cases i:c=e;subst i;rw[az]at g;cases g;exact l;rw[aL i]at g;exact(h.a c d g).b (λe v _ a=>k e v a) (λe a=>(aL (cX a f)).trans a) λe j a=>(aL (cX a f)).trans a
def Mv(r:X.k=ab):g3 X (.builtin "sorted") (λl H j=>∃(c:Y)(kvs:V (aU×ah))(e:V Int),l=[ah.b c]/\H c=O (.b kvs)/\(kvs.map λg=>dC g.1)=e.map ah.a/\∀(d:V Int) h,d.Perm e->d.Pairwise (·<=·)->H h=aa->j (.b h) (al H h (.a (d.map ah.a)))):=by
 intro pins s σ H l p j i n h;obtain⟨c,kvs,e,rfl,j,t,l⟩:=h;obtain⟨C,rfl,c⟩:=nM n;cases c;obtain⟨x,u,h,n,c⟩:=qZ i.a j;obtain⟨ep,p⟩:=c.dictAt;have w:h.length<=aH:=by rw[<-n.a];exact x
 refine Calls.call_function_entry kind_sorted plain_sorted entry_sorted (args_sorted1 _) ?_;unfold Builtin.«sorted»;refine aD (m:=checkCount "sorted" 1 1 _) (bF ?_);refine aD (PySem.W.kdu_collect (A:=X.b.in1) (K2 (knd:=dW X.c X.d) (kvs:=h) (ep:=ep) u) (i.b.a r) p w λh' B c j q=>?_);have u:c.size=h.length:=q.1;have p:c.toList.length=c.size:=by simp
 have r:c.toList.length<=aH:=by rw[p,u];exact w
 have z:bR (e.map ah.a) c.toList:=by
  rw[<-t];refine ww (by rw[an,p,u,n.a]) λw D v h e=>?_;obtain⟨y,E,p,u⟩:=q.2 w v (by rw[<-sV];exact e);rw[bw]at h;cases e:kvs[w]? with
  |none=>rw[e]at h;cases h
  |some g=>
   rw[e]at h;obtain rfl:dC g.1=D:=bA h;obtain⟨C,h,_⟩:=q1 n (k:=g.1) (v:=g.2) e;rw[h]at p;have:g.1=y:=by have:=bA p;exact cb rz this
   rw[this];exact t9 u
 have n:=z.d;refine aD (Ly ?_ r);have g:(h'.push (seqObj "list" c.toList.toArray 0)).get? h'.objs.size=O (seqObj "list" c.toList.toArray 0):=eo _ I;refine aD (iq (m2 slot_list_sort ⟨_,g,I⟩ entry_list_sort (list_sort_treeAny g n r λout d q h u=>⟨_,I,?_⟩) (args_list_sort _)));refine bF ⟨_,I,?_⟩;have n:s.heap.get? h'.objs.size=aa:=by
  cases l:s.heap.get? h'.objs.size with|none=>rfl|some o=>exact a7 (cB (j _ _ l)) (fV _)
 obtain⟨p,r⟩:=sortedHeap_at (out:=out) g;have g:(d.map ah.a).length<=aH:=by rw[an,h.length_eq,<-an (f:=ah.a),<-t,an];exact x
 have t:L2.ax X pins σ (al H h'.objs.size (.a (d.map ah.a))) {s with heap:=sortedHeap (h'.push (seqObj "list" c.toList.toArray 0)) h'.objs.size c.toList out,toks:=B}:=by refine NC i (λc o e=>?_) n ⟨g,out.toList,p,ud q,r⟩;have g:=cB (j c o e);rw[sortedHeap_old (eA g) (by rw[size_push'];exact mN g),dw _ (j c o e)]
 exact⟨.b _,_,t,I,l d _ h u (BG i.a n)⟩
end
open AutoSeq1 (wpAny_loadPart')
section
variable{prog:bd}{w:aO}{A:bK}{E:ag->ao->Prop}{s:ao}
def MN(a)(e)(f)(i)(n)(c):
  Meets (Builtin.«enumerate.__new__» ⟨[.type "enumerate",.ref a],[(dg "start",.int 1 c)]⟩) (λ_ R s=>s.heap.get? a=O {cls:=.type "list",dict:=i,data:=.seq e f,slots:=n}/\R (.ok (.ret (.ref (s.heap.push {cls:=.type "list_iterator",data:=.fields #[.ref a,.int 0 0]}).objs.size))) {s with heap:=(s.heap.push {cls:=.type "list_iterator",data:=.fields #[.ref a,.int 0 0]}).push {cls:=.type "enumerate",data:=.fields #[.none,.bool ae,.ref s.heap.objs.size,fy 1,.none,.none]}}):=
 .of_wp λprog w A R s b=>by
  obtain⟨l,j,h,o,m⟩:=s;obtain⟨k,b⟩:=b;have p:=sub_enumerate;have d:Heap.IsList (Shared.heap ⟨l,j,h,o,m⟩) a e:=⟨_,k,I,f,I⟩
  wp_walk using wpAny_loadPart' k
  refine wpAny_stack_any λq=>bF ?_;split;rename_i g _ _ _ _ _;cases(g==An "enumerate");show aC _ _ ((cR (b9 a,O (kS 1 c)):fw (ag×ar ag))>>=_) _ _ _
  wp_walk using wpAny_loadPart' k,p0 d
  exact⟨_,I,b⟩;show aC _ _ ((cR (b9 a,O (kS 1 c)):fw (ag×ar ag))>>=_) _ _ _
  wp_walk using wpAny_loadPart' k,p0 d
  exact⟨_,I,b⟩;show aC _ _ ((cR (b9 a,O (kS 1 c)):fw (ag×ar ag))>>=_) _ _ _
  wp_walk using wpAny_loadPart' k,p0 d
  exact⟨_,I,b⟩
abbrev ng(a:fx):V (ac×ag):=[(dg "start",.int 1 a)]
def ML(a b)(c):Meets (Builtin.«object.__init__» ⟨[a,b],ng c⟩) (λ_ R s=>s.TypeIs a "enumerate"/\R (.ok (.ret .none)) s):=by
 refine Meets.of_wp λprog w A R s b=>?_;obtain⟨c,a⟩:=b;have b:=Af.init.lookup;have b:=Af.made;repeat(any_goals(first|assumption|wp_step))
 exact⟨_,I,a⟩
def MP(a)(b):checkTypeCall "enumerate" ⟨[a],ng b⟩=cR ():=by kernel_rfl
def MO(a)(b):AE "enumerate.__new__" ⟨[.type "enumerate",a],ng b⟩=cR ():=by kernel_rfl
def MI(a b)(c):argsOk "object.__init__" ⟨[a,b],ng c⟩:=by have a:=signature?_of (id:="object.__init__") (n:="__tini__".toList) (o:="tcejbo".toList) (by kernel_rfl) F.owner_object;unfold argsOk;rw[a];kernel_rfl
def MJ{a:Y}{c:Array ag}{t:fx}{d:ag->ao->Prop}(e:s.heap.IsList a c)
  (l:∀b,lH b (s.heap.objs.size+1) s.heap.objs.size 1 .none->b.IsListIter s.heap.objs.size a 0->(∀f o,s.heap.get? f=O o->b.get? f=O o)->d (.ref (s.heap.objs.size+1)) {s with heap:=b}):
  aC (aT prog w) A (e' (.type "enumerate") [.ref a] (ng t)) d E s:=by
 obtain⟨⟨d,j,b,n⟩,m,g,i,h⟩:=e;obtain rfl:d=.type "list":=g;obtain rfl:b=.seq c i:=h;have b:=Af;obtain⟨d,g,e⟩:=b.mro;have d:=b.made;have d:=b.sub;have d:=b.notType;have d:=b.canCreate;have d:=MP (.ref a) t;refine ol (AF ?_);show aC _ _ (callAny (.type "enumerate") _) _ _ _;refine bF ⟨Ae _ (by decide+kernel),u0 F.entry_type_call ?_⟩;rw[Around.under_plain (weight_type_call_type "enumerate" [.ref a] (ng t)) (units_type_call_type "enumerate" [.ref a] (ng t))];repeat(any_goals(first|assumption|wp_step))
 obtain⟨e,h⟩:∃e:kR->ao->Prop,e=λd g=>d=.ok (.ret (.ref (s.heap.push {cls:=.type "list_iterator",data:=.fields #[.ref a,.int 0 0]}).objs.size))/\g={s with heap:=(s.heap.push {cls:=.type "list_iterator",data:=.fields #[.ref a,.int 0 0]}).push {cls:=.type "enumerate",data:=.fields #[.none,.bool ae,.ref s.heap.objs.size,fy 1,.none,.none]}}:=⟨_,I⟩;have k:=MN a c i j n t prog w A.in1 e s ⟨m,by rw[h];exact⟨I,I⟩⟩;refine og (R:=e) (u1 b.plain F.entry_enumerate_new (AS (MO (.ref a) t) k)) λd j c=>?_;rw[h]at c;obtain⟨rfl,rfl⟩:=c;have h:(s.heap.push {cls:=.type "list_iterator",data:=.fields #[.ref a,.int 0 0]}).objs.size=s.heap.objs.size+1:=hI ..;have e:=eo (s.heap.push {cls:=.type "list_iterator",data:=.fields #[.ref a,.int 0 0]}) (o:={cls:=.type "enumerate",data:=.fields #[.none,.bool ae,.ref s.heap.objs.size,fy 1,.none,.none]}) I;have i:=l _ (by rw[<-h];exact e) ⟨_,dw _ (eo _ I),I,I⟩ λf o k=>dw _ (dw _ k);rw[<-h]at i;have h:Shared.TypeIs {s with heap:=(s.heap.push {cls:=.type "list_iterator",data:=.fields #[.ref a,.int 0 0]}).push {cls:=.type "enumerate",data:=.fields #[.none,.bool ae,.ref s.heap.objs.size,fy 1,.none,.none]}} (.ref (s.heap.push {cls:=.type "list_iterator",data:=.fields #[.ref a,.int 0 0]}).objs.size) "enumerate":=⟨_,e,I⟩;have e:=b.init.lookup;have e:=b.init.bind (.ref (s.heap.push {cls:=.type "list_iterator",data:=.fields #[.ref a,.int 0 0]}).objs.size);repeat(any_goals(first|assumption|wp_step))
 obtain⟨e,f⟩:∃e:kR->ao->Prop,e=λd g=>d=.ok (.ret .none)/\g={s with heap:=(s.heap.push {cls:=.type "list_iterator",data:=.fields #[.ref a,.int 0 0]}).push {cls:=.type "enumerate",data:=.fields #[.none,.bool ae,.ref s.heap.objs.size,fy 1,.none,.none]}}:=⟨_,I⟩;have g:=ML (.ref (s.heap.push {cls:=.type "list_iterator",data:=.fields #[.ref a,.int 0 0]}).objs.size) (.ref a) t prog w A.in1 e _ ⟨h,by rw[f];exact⟨I,I⟩⟩;refine og (R:=e) (u1 b.init.plain F.entry_object_init (b.init.check _ _ _ _ _ _ _ _ h (MI _ _ _) g)) λd j c=>?_;rw[f]at c;obtain⟨rfl,rfl⟩:=c;repeat(any_goals(first|assumption|wp_step))
end
section
variable{prog:bd}{w:aO}{A:bK}{E:ag->ao->Prop}{s:ao}
def MM{x h:ag}
  (g:lH s.heap a e d h) (l:s.heap.IsListIter e k j) (o:s.heap.IsList k b) (q:b[j]?=O x) (n:a≠e)
  (C:∀f,Ai f a e (d+1) x s.heap.objs.size->f.IsListIter e k (j+1)->f.get? s.heap.objs.size=O {cls:=.type "tuple",data:=.seq #[.int d s.toks,x]}->(∀b c,b≠a->b≠e->s.heap.get? b=O c->f.get? b=O c)->i (O (.ref s.heap.objs.size)) {s with heap:=f,toks:=s.toks+1}):
  aC (aT prog w) A (ip (.ref a)) i E s:=by
 have f:s.TypeIs (.ref a) "enumerate":=⟨_,g,I⟩;unfold ip;refine aD (pZ (u' (name:=dg "__next__") f uN (m2 uN f Kn ?_ (Kk _))));have D:a<s.heap.objs.size:=cB g;refine aD (m:=pR (.ref a) 2) (kV g I (x:=.ref e) I ?_);refine aD (wpAny_nextOf_list_item l o q λi F p=>?_);have f:lH i a e d h:=(p.2 a n).trans g;refine aD (m:=pR (.ref a) 3) (kV f I (x:=fy d) I ?_);refine aD (m:=pR (.ref a) 4) (kV f I (x:=.none) I ?_);refine aD (m:=mkInt d) (wpAny_mkInt ?_);refine aD (m:=pW (.ref a) 3 (fy (d+1))) (r2 f (by simp) λg i r=>?_);have i:lH g a e (d+1) h:=i;refine aD (m:=pW (.ref a) 4 .none) (r2 i (by simp) λg f t=>?_);have f:lH g a e (d+1) h:=f;refine aD (m:=newTuple [.int d s.toks,x]) (wpAny_newTuple ?_);have u:g.objs.size=s.heap.objs.size:=by rw[t.1,r.1,p.1]
 have l:lH (g.push {cls:=.type "tuple",data:=.seq #[.int d s.toks,x]}) a e (d+1) h:=dw _ f;have B:(g.push {cls:=.type "tuple",data:=.seq #[.int d s.toks,x]}).get? s.heap.objs.size=O {cls:=.type "tuple",data:=.seq #[.int d s.toks,x]}:=by rw[<-u];exact eo _ I
 have z:∀b c,b≠a->b≠e->s.heap.get? b=O c->(g.push {cls:=.type "tuple",data:=.seq #[.int d s.toks,x]}).get? b=O c:=λb c f o i=>
  dw _ (t.extBut b c f (r.extBut b c f (p.extBut b c o i)))
 have y:(g.push {cls:=.type "tuple",data:=.seq #[.int d s.toks,x]}).IsListIter e k (j+1):=by obtain⟨c,p,q⟩:=(F.extBut r.extBut n.symm).extBut t.extBut n.symm;exact⟨c,dw _ p,q⟩
 rw[u];generalize g.push {cls:=.type "tuple",data:=.seq #[.int d s.toks,x]}=r at l B z y⊢;refine aD (m:=T2 (.ref a)) (aD (m:=pR (.ref a) 0) (kV l I (x:=.none) I (bF ?_)));refine aD (m:=rule _) (wpAny_rule ?_);refine aD (m:=pR (.ref a) 5) (kV l I (x:=h) I ?_);refine aD (m:=pW (.ref a) 5 x) (r2 l (by simp) λh g t=>?_);have g:lH h a e (d+1) x:=g;refine aD (m:=T1 (.ref a) (.ref s.heap.objs.size)) (aD (r2 g (by simp) λl h u=>?_));have h:Ai l a e (d+1) x s.heap.objs.size:=h;refine r2 h (by simp) λg l F=>?_;have l:Ai g a e (d+1) x s.heap.objs.size:=l;have d:∀b c,b≠a->r.get? b=O c->g.get? b=O c:=λb c f i=>F.extBut b c f (u.extBut b c f (t.extBut b c f i));have a:g.IsListIter e k (j+1):=by obtain⟨c,p,q⟩:=y;exact⟨c,d _ _ n.symm p,q⟩
 exact aD (rZ (bF ⟨_,I,bF (C g l a (d _ _ (mO D) B) λb c f o i=>d b c f (z b c f o i))⟩))
def MK(i:A.handled=aa)
  (f:lH s.heap a c n o) (j:s.heap.IsListIter c h d) (k:s.heap.IsList h g) (l:g[d]?=aa)
  (g:∀d,Kw c s.heap d->e aa {s with heap:=d}):aC (aT prog w) A (ip (.ref a)) e E s:=by
 have e:s.TypeIs (.ref a) "enumerate":=⟨_,f,I⟩;unfold ip;refine aD (pZ (u' (name:=dg "__next__") e uN (m2 uN e Kn ?_ (Kk _))));refine aD (m:=pR (.ref a) 2) (kV f I (x:=.ref c) I (aD (wpAny_nextOf_list_end i j k l λd x e ⟨h,f,a⟩=>?_)));exact aD (Ls (T:="StopIteration") (b:=ab) ⟨h,f,a⟩ Lc (bF (g _ e)))
end
def p4(g:aR)(i:Y):gE:=
 ⟨λf e=>∃(c:V ah)(x:ah),dU g e i c/\c[f]?=O x,λf e k j=>∃h x,k=.b h/\e h=aa/\j=al e h (.d [.a (f+1:Nat),x])/\∀c,dU g e i c->c[f]?=O x,λf e=>∃c:V ah,dU g e i c/\c.length<=f⟩
def Te(j o l):
  j1 k q h (.Tuple m n p) (p4 h j) [o,l] o (λi r=>(∃w,lH r o l ((i+1:Nat):Int) w)/\r.IsListIter l j i/\o≠l)where
 g:=by simp
 a:=λi r p k m=>by
  obtain⟨⟨w,n⟩,⟨u,M,K,q⟩,_⟩:=p;have E:k=o\/k=l:=by simpa using m
  rcases E with j|j;rw[j];exact⟨_,n,λt h=>nomatch h⟩;rw[j];exact⟨u,M,λt h=>by rw[q]at h;cases h⟩
 c:=λi r F p q=>let⟨⟨w,n⟩,y,t⟩:=p;⟨⟨w,q o (by simp) _ n⟩,y.at λu h=>q l (by simp) u h,t⟩
 e:=by
  intro y J N H K i X s za D T q z p L;subst J N H;obtain⟨⟨w,n⟩,A,t⟩:=p;obtain⟨zj,x,B,P⟩:=L;obtain⟨zh,R,Q,zg⟩:=q.g B;obtain⟨C,G,zi⟩:=R.b P;have U:o<s.heap.objs.size:=cB n;have zd:l<s.heap.objs.size:=by obtain⟨_,h,_⟩:=A;exact cB h
  refine MM n A Q.isList (x:=C) (by simpa using G) t λF M ze zb zf=>⟨_,I,wpAny_letOwnedTupleGo_enum (s:={s with heap:=F,toks:=s.toks+1}) M λG zc S=>?_⟩;have M:G.get? s.heap.objs.size=O {cls:=.type "tuple",data:=.seq #[.int ((i+1:Nat):Int) s.toks,C]}:=(S.2 _ (mO U)).trans zb;have zb:d_ y.c y.d (al D s.heap.objs.size (.d [.a (i+1:Nat),x])) G s.heap.objs.size (.d [.a (i+1:Nat),x]):=
   ⟨by show 2<=aH;decide,[.int ((i+1:Nat):Int) s.toks,C],.cons ⟨_,I⟩ (.cons zi .nil),⟨_,M,I,_,I⟩⟩
  have M:ax y X za (al D s.heap.objs.size (.d [.a (i+1:Nat),x])) {s with heap:=G,toks:=s.toks+1}:=
   q.zw (ch:=[o,l]) (λk G m h=>(S.2 k (λj=>m (by simp[j]))).trans (zf k G (λj=>m (by simp[j])) (λj=>m (by simp[j])) h)) z (bp _) zb
  refine⟨.b s.heap.objs.size,_,M,I,⟨_,x,I,q.a.b (bp _),I,λzb G=>by rw[q.zh G B];exact P⟩,⟨⟨C,?_⟩,ze.at λu h=>(S.2 l (df t)).trans h,t⟩,λk m=>?_⟩;have C:((i+1+1:Nat):Int)=((i+1:Nat):Int)+1:=by omega
  rw[C];exact zc;have C:k<s.heap.objs.size:=by
   have E:k=o\/k=l:=by simpa using m
   rcases E with j|j;rw[j];exact U;rw[j];exact zd
  rw[aL (eA C)];exact(z k m).1
 d:=by intro y J N H K i X s za D T q z p L;subst J N H;obtain⟨⟨w,n⟩,A,t⟩:=p;obtain⟨zj,B,P⟩:=L;obtain⟨zh,R,Q,zg⟩:=q.g B;obtain⟨o,t,j,w,y,B⟩:=z l (by simp);have j:=R.a;exact MK (q.b.a K) n A Q.isList (by simp;omega) λF j=>⟨I,q.o (t':=s.toks) (λk u m h=>j k u m h) o t w y B⟩
 f:=λh i s j T p r=>let⟨⟨_,n⟩,_⟩:=p;LC n r
def Nk(d:aR)(f:el):hC:=λh a e=>f h a λg c=>∃a f,g=[.b a]/\dU d c a f/\e (p4 d a) c
def Mm
  (n:aC f d (AN (d5 b (bX (g::c) a))) (λo j=>aC f d (evalAll ((gM b (gN h a)).map (·.2))) (λl p=>aC f d (e' (.type i) o (((gM b (gN h a)).filterMap (·.1)).zip l)) k e p) e j) e m)
  (o:bX (g::c) a=(ae,bB g a)::bX c a) (l:(d5 b (bX c a)).any (·.1)=ae)
  (r:(gM b (gN h a)).all (·.1.isSome)=ab) (s:(gM b (gN h a)).any (·.1.isNone)=ae):
  aC f d (kh b (.type i) [] (d5 b (bX (g::c) a)) (gM b (gN h a))) k e m:=by
 have t:(d5 b (bX (g::c) a)).any (·.1)=ae:=by rw[o];show(ae||(d5 b (bX c a)).any (·.1))=ae;rw[l];rfl
 unfold kh;have q:aC f d (evalArgs (.type i) ab (d5 b (bX (g::c) a)) (gM b (gN h a))) (λl j=>aC f d (e' (.type i) l.pos l.kw) k e j) e m:=by rw[o]at n⊢;exact evalArgs_kwB r n
 refine aD (iq (a3 q λl j b=>aD (oq ?_)));simp only[t,s,DP];exact aD (bF (aD (a3 b λc p a=>aD (iq (wpAny_point (bF a))))))
def PM{b:aK}(p:fh b "enumerate")(q:b.g "enumerate"=aa)(o:fR b [c] e)(r:bX [c] b.a=[(ae,bB c b.a)]:=by rfl):
  jp b (.Tuple f h m) (.Call (.Name "enumerate" l) [c] [⟨O "start",.Constant (.int 1) g j,k⟩] d) (Nk b.e e):=by
 intro e u f m s h n;show aC _ _ (do kh d (<-bB (.Name "enumerate" l) b.a) [] (d5 d (bX [c] b.a)) (gM d (gN [⟨O "start",.Constant (.int 1) g j,k⟩] b.a))) _ _ _;refine aD (nD h p q boot_enumerate (Mm (a3 (o d e u f m _ h n) λc w ⟨l,g,k,s,j⟩=>?_) r I I I));obtain⟨l,xs,c,o,p⟩:=j;subst c;cases s with
 |cons c d=>
  cases d;cases c;refine kws_cons (a3 (a5 (i:=1) e w f g (λv j=>v=.a 1/\j=g) k ⟨I,I⟩) λr c ⟨v,h,d,q,m,n⟩=>kws_nil ?_);subst m n;obtain⟨t,rfl⟩:=q;obtain⟨k,m,j,g⟩:=d.g o;refine MJ (t:=t) j.isList λk g m n=>LC g ?_;have j:ax b e f h {c with heap:=k}:=d.w (t':=c.toks) n;refine⟨c.heap.objs.size+1,[c.heap.objs.size+1,c.heap.objs.size],_,_,h,I,j,Te l (c.heap.objs.size+1) c.heap.objs.size,⟨⟨.none,g⟩,m,JT _⟩,λb e=>?_,p⟩;have f:b=c.heap.objs.size+1\/b=c.heap.objs.size:=by simpa using e
  have e:c.heap.objs.size<=b:=by rcases f with b|b;rw[b];exact Nat.le_add_right _ _;rw[b];exact bp _
  exact d.F e (d.a.b e)
section
variable{X:aK}
abbrev kZ:=ac->L2.aQ->af->bj->Prop
def ow(X:aK)(g:V aZ)(h:kZ):Prop:=∀d e f a b c,ax X e a b f->h d a b c->aC (aT X.c X.d) X.b (joinParts d (evalEach g X.a)) (e5 X e a c) X.f f
def Nv:kZ:=λa d b c=>a.length<=aH/\c (.e a) b
def CS:ow X [] Nv:=λd g h i b f c a=>joinParts_nil ⟨.e d,b,c.e _,⟨_,I⟩,a.2⟩ a.1
def Nw(b:ac)(e:kZ):kZ:=λa f c d=>(a++b).length<=aH/\e (a++b) f c d
def wh(e:ow X a b):ow X (.Constant (.str c) d f::a) (Nw c b):=λh f i g b d c a=>
 J5 (Ka ⟨a.1,e _ f _ g b d (c.e _) a.2⟩)
def Nu(h:aY)(g:kZ):kZ:=λc d b f=>h d b λi e=>∃b:Int,i=.a b/\b.natAbs.log2<1920/\(c++dg (kr b)).length<=aH/\g (c++dg (kr b)) d e f
def wg(l:aS X b d)(k:ow X c a):ow X (.FormattedValue b (-1) aa f::c) (Nu d a):=λf b r c d i g o=>
 J5 (FormattedValue_plain (a3 (l b r c d _ g o) λu t ⟨w,f,h,q,s,j,m,n,p⟩=>by subst j;obtain⟨a,rfl⟩:=q;exact formatField_int_small m ⟨n,k _ b _ c f i ((h.e _).e _) p⟩))
def CO(h:ow X (f::g::d) e):aS X (.JoinedStr (f::g::d) i) (λc a b=>e pK c a b):=λf g c a b d e=>JoinedStr_many (h _ f g c a b d e)
end
def Nj{a:ao}(e:b 4238894112 {a with toks:=a.toks+1}):aC (aT f g) d (pyHash .none) b c a:=by have d:a.TypeIs .none "NoneType":=I;unfold pyHash pyHashByItsType;have f:[fL].any Value.onHeap=ae:=I;refine aD ?_;rw[cRoomFor,aw (by rw[f];exact ed)];refine bF (aD (AV d uM.lookup ?_));show aC _ _ (if(O (pL "NoneType.__hash__")==O fL)=ab then _ else _) b c a;rw[aw (by rw[beq_builtin_none];exact ed)];refine aD (AV d uM.lookup ?_);show aC _ _ (callSpecialIfBoundUnlessNone? .none "__hash__" _>>=_) b c a;refine aD (wpAny_callSpecialIfBoundUnlessNone?_slot d uM (m2 uM d F.entry_NoneType_hash (show aC _ _ (do ret (<-mkInt 4238894112)) _ _ a from wpAny_ret_mkInt ?_) (F.args_NoneType_hash_1 _)));show aC _ _ (if(aq (-(2:Int)^63<=4238894112)&&aq ((4238894112:Int)<2^63))=ab then _ else _) b c _;rw[ay (by decide)];exact bF e
def sk:ar aU->ag->Bool
 |none,.none=>ab
 |none,_=>ae
 |some a,b=>iL a b
def Nz(b:aO):ar aU->Int
 |none=>4238894112
 |some a=>xR b a
def lX(d:sk b c=ab):(b=aa/\c=.none)\/∃a,b=O a/\iL a c=ab:=by
 cases b with
 |none=>cases c<;>first|exact .inl ⟨I,I⟩|cases d
 |some a=>exact .inr ⟨a,I,d⟩
def vK:iL a .none=ae:=by cases a<;>rfl
def Cf(g:bd)(e:aO):Kz g e (ar aU)where
 is:=sk
 hash:=Nz e
 inj:=λh o p q r=>by
  rcases lX q with⟨rfl,rfl⟩|⟨c,rfl,b⟩<;>rcases lX r with⟨rfl,i⟩|⟨l,rfl,f⟩
  rfl
  rw[vK]at f;cases f;subst i;rw[vK]at b;cases b;rw[(dW g e).inj h c l b f]
 byValue:=λk h a=>by
  rcases lX a with⟨rfl,rfl⟩|⟨c,rfl,b⟩
  rfl
  exact(dW g e).byValue c h b
 pyHash:=λm a=>by rcases lX m with⟨rfl,rfl⟩|⟨c,rfl,b⟩;exact Nj a;exact(dW g e).pyHash b a
 eqBool:=λ{t u x o p y h w} s m a=>by rcases lX s with⟨rfl,rfl⟩|⟨c,rfl,b⟩<;>rcases lX m with⟨rfl,rfl⟩|⟨l,rfl,f⟩;exact KJ _ _ _ _ _ a;rcases iM f with⟨n,d,rfl,rfl⟩|⟨j,d,rfl,rfl⟩;exact KH n d _ _ _ _ a;exact KI j d _ _ _ _ a;rcases iM b with⟨n,d,rfl,rfl⟩|⟨j,d,rfl,rfl⟩;exact KE n d _ _ _ _ a;exact KN j d _ _ _ _ a;refine(dW g e).eqBool b f ?_;have i:aq (O c=O l)=aq (c=l):=decide_eq_decide.mpr (by simp);rw[i]at a;exact a
 «strs»:=λk j d h a=>by rcases lX a with⟨_,i⟩|⟨c,rfl,b⟩;cases i;exact(dW g e).strs c j d h b
def NQ{c:be}(i:c.MapOf (dW d e) a b):c.MapOf (Cf d e) a λk=>k.bind b:=by
 obtain⟨j,c,b,e,f,g,d,h⟩:=i;refine⟨j,c,b,e,f,g,λa i=>?_,λk=>?_⟩;obtain⟨k,b,e⟩:=d a i;exact⟨O k,b,e⟩;cases k with
 |some k=>exact h k
 |none=>
  show findBy sk c aa=aa;unfold findBy;have a:c.find? (λa=>sk aa a.key)=aa:=by rw[Array.find?_eq_none];intro f e c;obtain⟨k,b,_⟩:=d f e;rcases lX c with⟨_,a⟩|⟨c,a,_⟩;rw[a]at b;have:iL k .none=ab:=b;rw[vK]at this;cases this;cases a
  rw[a]
  rfl
def LJ(a:af)(d:Y)(f:ah)(e:ar ah):Prop:=fg a d f e\/(f=.c/\e=aa/\∃g,iI a d (.b g))
def S5(h g:aY):aY:=λc a f=>h c a λi e=>g c e λh a=>∃c e,h=.b c/\LJ a c i e/\f (.d (!e.isSome)) a
def PJ{a:aK}{i b:aZ}(q:a.b.units+1<eK)(g:aS a i e)(p:aS a b c):mi a .NotIn i b (S5 e c):=by intro f n j b h c e;refine a3 (g f n j b _ c e) λr w ⟨o,l,m,h,t⟩=>a3 (p f w j l _ m t) λx y ⟨z,e,b,u,n,s,o,c,g⟩=>?_;subst o;obtain rfl:x=b9 n:=u;rcases c with c|⟨j,l,f,m⟩;exact xB q b c h λn f=>⟨.d (!s.isSome),e,f,I,g⟩;subst j l;obtain rfl:r=fL:=h;obtain⟨l,f,j,h,c⟩:=j3 b.a m;exact Lz (knd:=Cf a.c a.d) (k:=aa) I f (NQ c.mapOf) ⟨.d ab,e,b.e _,I,g⟩
section
inductive R5(vs:V ah)(H:af)(Q:bj)(E:cf):Prop
 |a (n lo hi:Int):vs=[.a n,.a lo,.a hi]->(lo<=n/\n<=hi->Q .c H)->(¬(lo<=n/\n<=hi)->dO ak cE E H (-1))->R5 vs H Q E
def hS[a:aJ]:cL 4 22 R5:=by
 refine cT 0 [] λc f d e b=>?_;obtain⟨g,f,c,rfl,e,d⟩:=b;refine⟨_,au (bD (iP (pe h8 h8 (W 1) (W 0) (W 2))) (au (f0 a.B)) bQ),_,_,I,I,bG (λa=>?_) (λa=>?_)⟩;have a:=cj a;refine⟨_,_,I,I,bG (λb=>?_) (λb=>?_)⟩;exact d λc=>by simp[c.2]at b
 exact e ⟨a,by simpa using b⟩;exact d λc=>by simp[c.1]at a
inductive R4(vs:V ah)(H:af)(Q:bj)(E:cf):Prop
 |a (n:Int):vs=[.a n]->(0<=n/\n<=99->Q .c H)->(¬(0<=n/\n<=99)->dO ak cE E H (-1))->R4 vs H Q E
def v5[a:aJ]:cL 5 23 R4:=by refine cT 0 [] λc f d e b=>?_;obtain⟨e,rfl,c,d⟩:=b;exact⟨_,au (a9 (aP hS (n0 (W 0) a5 (di a.zL)))),_,_,_,I,c,d⟩
inductive R8(vs:V ah)(H:af)(Q:bj)(E:cf):Prop
 |a (n:Int):vs=[.a n]->(0<=n/\n<=1000000000->Q .c H)->(¬(0<=n/\n<=1000000000)->dO ak cE E H (-1))->R8 vs H Q E
def v6[a:aJ]:cL 5 24 R8:=by refine cT 0 [] λc f d e b=>?_;obtain⟨e,rfl,c,d⟩:=b;exact⟨_,au (a9 (aP hS (n0 (W 0) a5 (di a.S)))),_,_,_,I,c,d⟩
inductive R3(vs:V ah)(H:af)(Q:bj)(E:cf):Prop
 |a (n:Int):vs=[.a n]->(1<=n/\n<=20->Q .c H)->(¬(1<=n/\n<=20)->dO ak cE E H (-1))->R3 vs H Q E
def v4[a:aJ]:cL 5 28 R3:=by refine cT 0 [] λc f d e b=>?_;obtain⟨e,rfl,c,d⟩:=b;exact⟨_,au (a9 (aP hS (n0 (W 0) a5 (di a.zP)))),_,_,_,I,c,d⟩
inductive R2(vs:V ah)(H:af)(Q:bj)(E:cf):Prop
 |a (n:Int):vs=[.a n]->(0<=n/\n<=1->Q .c H)->(¬(0<=n/\n<=1)->dO ak cE E H (-1))->R2 vs H Q E
def Cy[a:aJ]:cL 5 29 R2:=by refine cT 0 [] λb e c d a=>?_;obtain⟨d,rfl,b,c⟩:=a;exact⟨_,au (a9 (aP hS (n0 (W 0) a5 a5))),_,_,_,I,b,c⟩
inductive R1(vs:V ah)(H:af)(Q:bj)(E:cf):Prop
 |a (n:Int):vs=[.a n]->(0<=n->Q .c H)->(n<0->dO ak cE E H (-1))->R1 vs H Q E
def v3[a:aJ]:cL 4 27 R1:=by refine cT 0 [] λc f d e b=>?_;obtain⟨e,rfl,c,d⟩:=b;refine⟨_,au (bD (c4 gH (W 0) a5) (au (f0 a.B)) bQ),_,_,I,I,bG (λa=>?_) (λa=>?_)⟩;exact d (cj a);exact c (qN.mp (dH a))
def m7(v:V Int):Prop:=v.length<=5/\∀a∈v,-1000000000<=a/\a<=1000000000
inductive R9(vs:V ah)(H:af)(Q:bj)(E:cf):Prop
 |a (a:Y) (v:V Int):vs=[.b a]->H a=O (.a (bg v))->(m7 v->Q .c H)->(¬m7 v->dO ak cE E H (-1))->R9 vs H Q E
def Cz[k:aJ]:cL 5 25 R9:=by
 refine cT 1 [] λt B z A w=>?_;obtain⟨u,v,rfl,m,x,r⟩:=w;refine⟨_,aj (a9 (aP hS (n0 (c5 (W 0)) a5 (di k.zK)))) (au (dY kQ I (bZ (W 0)) (bE 1) (au (a9 (aP hS (n0 (W 1) (q8 rm (di k.S)) (di k.S))))))),_,_,I,.inl (dU.b m),_,_,_,I,λl=>?_,λl=>r λh=>l ⟨qL _,by have:=h.1;simp only[an];omega⟩⟩;refine⟨_,I,⟨_,dU.b m⟩,ev (xs:=bg v) (λg j i=>i=t/\(∃o,j=[O (.b u),o])/\∀f∈v.take g,-1000000000<=f/\f<=1000000000) ⟨I,⟨_,I⟩,by simp⟩ ?_ ?_ ?_⟩;rintro g j i _ ⟨rfl,_,_⟩;exact dU.b m;rintro g f j i d ⟨rfl,⟨o,rfl⟩,n⟩;obtain⟨e,q,rfl⟩:∃e,v[g]?=O e/\f=.a e:=by
  rw[bw]at d;cases p:v[g]? with
  |none=>rw[p]at d;cases d
  |some e=>rw[p]at d;exact⟨e,I,(bA d).symm⟩
 refine⟨_,I,_,_,_,I,λh=>⟨I,⟨_,I⟩,?_⟩,λh=>r λy=>h (y.2 e (a1 q))⟩;intro s c;rw[en,cU]at c;rcases c with c|c;exact n s c;rw[q]at c;have:s=e:=by simpa using c
 subst this;exact h;rintro j i ⟨rfl,_,n⟩;refine x ⟨?_,λf d=>n f (by rw[an,dN];exact d)⟩;have:=l.2;simp only[an]at this;omega
end
section
structure eh where
 d:Y
 g:Y
 h:Y
 i:aF
 e:V Int
 c:Nat
def kn(c:eh):V (ac×ah):=[("calls",.b c.h),("position",.a c.c)]
def eh.f(j:eh):V aE:=[a0 j.d hN j.g (kn j),[(j.h,.e j.i (.a (bg j.e)))]]
def eh.b(r:eh):aE:=(r.f).flatten
inductive QU(vs:V ah)(H:af)(Q:bj)(E:cf):Prop
 |a (x dx ca:Y) (o:aF) (l:V Int) (R:V aE):vs=[.b x,.b ca]->am H (a0 x hN dx []::[(ca,.e o (.a (bg l)))]::R)->(∀H',aM H H'->am H' (eh.b ⟨x,dx,ca,o,l,0⟩::R)->Q .c H')->QU vs H Q E
def Oa[c:aJ]:dz 2 103 0 QU:=by refine dF 0 [] λa g d f e=>?_;obtain⟨h,d,a,o,g,j,rfl,f,i⟩:=e;refine⟨_,aj (b7 (W 0) (W 1) I) (au (b7 (W 0) a5 I)),?_⟩;have e:=f.b 0 I;refine⟨e,c.t.b,(bJ I),az,c.t.a,(bJ I),i _ ((aM.c.b e (λ_ c=>nomatch c)).b az (λ_ c=>nomatch c)) ?_⟩;exact am.h (L:=eh.f ⟨h,d,a,o,g,0⟩) ((f.n [("calls",.b a)]).n (kn ⟨h,d,a,o,g,0⟩))
inductive QV(vs:V ah)(H:af)(Q:bj)(E:cf):Prop
 |a (r:eh) (R:V aE):vs=[.b r.d]->am H (r.b::R)->Q (.d (aq (r.e.length<=r.c))) H->QV vs H Q E
def Ob[h:aJ]:dz 2 103 1 QV:=by
 refine dF 0 [] λg j b i f=>?_;obtain⟨b,j,rfl,i,k⟩:=f;refine⟨_,c1 (n9 q5 (c0 0) (c5 (c0 0))),?_⟩;have f:=i.i (L:=b.f);have i:g b.d=O (.c hN b.g (kn b)):=f.b 0 I;have j:g b.h=O (.e b.i (.a (bg b.e))):=f.e 1 I;refine⟨i,h.t.a,I,i,h.t.b,I,_,_,I,.inl (.inl (.inr ⟨_,j⟩)),_,_,I,I,?_⟩;have f:(aq (((bg b.e).length:Int)<=(b.c:Int)))=aq (b.e.length<=b.c):=by simp
 show(n3 _ _ _ _ _ _).a (.d (aq (((bg b.e).length:Int)<=(b.c:Int)))) g;rw[f];exact k
inductive Db(vs:V ah)(H:af)(Q:bj)(E:cf):Prop
 |a (r:eh) (n:Int) (R:V aE):vs=[.b r.d]->am H (r.b::R)->r.e[r.c]?=O n->(∀H',aM H H'->am H' (eh.b {r with c:=r.c+1}::R)->Q (.a n) H')->Db vs H Q E
def bO[f:aJ]:dz 2 103 2 Db:=by refine dF 1 [] λg i d h b=>?_;obtain⟨r,j,h,rfl,d,i,k⟩:=b;refine⟨_,aj (aA 1 (c8 (c0 0) (c0 0))) (aj (pd (W 0) a5 mq) (c1 (W 1))),?_⟩;have b:=d.i (L:=r.f);have d:g r.d=O (.c hN r.g (kn r)):=b.b 0 I;have h:g r.h=O (.e r.i (.a (bg r.e))):=b.e 1 I;exact⟨d,f.t.b,I,d,f.t.a,I,_,_,_,_,I,I,.inl (.inr ⟨_,h⟩),dJ (v:=.a j) (by rw[bw,i];rfl),d,f.t.a,I,_,_,I,I,_,_,d,(bJ I),k _ (aM.c.b d (λ_ f=>nomatch f)) (am.h (L:=eh.f {r with c:=r.c+1}) (b.j 0 I (kn {r with c:=r.c+1})))⟩
inductive QW(vs:V ah)(H:af)(Q:bj)(E:cf):Prop
 |a (r:eh) (m:Nat) (R:V aE):vs=[.b r.d]->am H (r.b::R)->r.e[r.c]?=O (m:Int)->r.c+1+m<=r.e.length->(∀l H',aM H H'->am H' ([(l,.a (bg ((r.e.drop (r.c+1)).take m)))]::eh.b {r with c:=r.c+1+m}::R)->Q (.b l) H')->QW vs H Q E
def vY[g:aJ]:dz 3 103 3 QW:=by
 refine dF 2 [] λi k f h d=>?_;obtain⟨r,f,R,rfl,h,n,m,o⟩:=d;refine⟨_,aj (aA 1 (a' bO (W 0))) (aj (aA 2 (lu lw (c0 0) (iO (c0 0)) (iO (ey mx (c0 0) (W 1))))) (aj (pd (W 0) (W 1) mq) (c1 (W 2)))),?_⟩;have d:=h.i (L:=r.f);have k:i r.d=O (.c hN r.g (kn r)):=d.b 0 I;refine⟨k,I,r,f,R,I,h,n,λi p d=>?_⟩;have h:=d.i (L:=eh.f {r with c:=r.c+1});have d:i r.d=O (.c hN r.g (kn {r with c:=r.c+1})):=h.b 0 I;have k:i r.h=O (.e r.i (.a (bg r.e))):=h.e 1 I;refine⟨d,g.t.b,I,d,g.t.a,I,_,I,d,g.t.a,I,_,_,I,I,_,I,_,_,I,.inl (.inr ⟨_,k⟩),λl i=>?_⟩;have k:f9 (bg r.e) (O (((r.c+1:Nat):Int))) (O (((r.c+1:Nat):Int)+(f:Int)))=bg ((r.e.drop (r.c+1)).take f):=by unfold f9;rw[show(((r.c+1:Nat):Int)+(f:Int))=((r.c+1+f:Nat):Int) by simp,HT.mc,HT.mc];simp only[an];rw[pC (show r.c+1<=r.e.length by omega),pC m,JL];exact(by rw[<-jz,<-ka])
 rw[k];have k:r.d≠l:=cX d i;refine⟨(aL k).trans d,g.t.a,I,_,_,I,I,_,_,(aL k).trans d,(bJ I),o _ _ ((p.a (aW.a i).c).b ((aL k).trans d) (λ_ g=>nomatch g)) ?_⟩;have d:=(h.f i (.a (bg ((r.e.drop (r.c+1)).take f)))).j 1 I (kn {r with c:=r.c+1+f});exact d.k (by simp[eh.b,eh.f])
end
def gU{x d C:Y}(h:a x=aa)(e:a d=aa)(g:d≠x):aW a (al (al a d (.f x)) x (.c C d [])):=
 (aW.a e).b (aW.a (by rw[aL (df g)];exact h))
def gj(e:af)(f:bj)(g:V ah):Prop:=∀d c,aW e c->e d=aa->c d=O (.a g)->f (.b d) c
def bY{C a:Y}(xs):cw.c C a b≠.d xs:=λa=>nomatch a
def iz(xs):cw.a a≠.d xs:=λa=>nomatch a
def m'(xs):cw.b a≠.d xs:=λa=>nomatch a
def ba.d{j:ba}(k:cD l (j.f)):l j.e=O (.c d8 j.g (et (.a j.a.place) j.a j.c))/\cD l (gZ j.c j.a.value):=by have k:cD l (a0 j.e d8 j.g (et (.a j.a.place) j.a j.c)++(gZ j.c j.a.value++[])):=k;rw[dM]at k;exact⟨(cD.b.mp k).1.e,(cD.b.mp k).2⟩
def gX(b:a<=1000000):a<aH:=by rw[bn];omega
section
inductive Rh(vs:V ah)(H:af)(Q:bj)(E:cf):Prop
 |a (x dx va:Y) (r:aG) (R:V aE):vs=[.b x,.a r.time,.a (c_ r.key),qm va r.value,.a r.sender,.a r.seq,.a r.kind]->am H (a0 x d8 dx []::R)->(∀H',aM H H'->am H' (a0 x d8 dx (et .c r va)::R)->Q .c H')->Rh vs H Q E
def v1[a:aJ]:dz 2 36 0 Rh:=by refine dF 0 [] λe h f g d=>?_;obtain⟨k,j,h,g,i,rfl,e,f⟩:=d;refine⟨_,aj (b7 (W 0) kF I) (aj (b7 (W 0) (W 1) I) (aj (b7 (W 0) (W 2) I) (aj (b7 (W 0) (W 3) I) (aj (b7 (W 0) (W 4) I) (aj (b7 (W 0) (W 5) I) (au (b7 (W 0) (W 6) I))))))),?_⟩;have d:=e.b 0 I;refine⟨d,a.c.a,(bJ I),az,a.c.g,(bJ I),az,a.c.b,(bJ I),az,a.c.e,(bJ I),az,a.c.d,(bJ I),az,a.c.f,(bJ I),az,a.c.c,(bJ I),f _ (((((((aM.c.b d bY).b az bY).b az bY).b az bY).b az bY).b az bY).b az bY) ?_⟩;exact((((((e.n _).n _).n _).n _).n _).n _).n (et .c g h)
abbrev k6(s a:Nat):aG:={place:=0,time:=0,key:=aa,value:=aa,sender:=s,seq:=0,kind:=a}
inductive Sw(vs:V ah)(H:af)(Q:bj)(E:cf):Prop
 |a (s k:Nat) (R:V aE):vs=[.a s,.a k]->am H R->(∀l H',l.a=k6 s k->aM H H'->am H' (ba.h l::R)->Q (.b l.e) H')->Sw vs H Q E
def Pj[a:aJ]:b' 4 37 Sw:=by refine cF 0 [] λb g e f d=>?_;obtain⟨s,b,h,rfl,j,k⟩:=d;refine⟨_,c1 (hQ a.R v1 (Z a5 (Z (di a.z) (n2 kF (W 0) a5 (W 1))))),λx a f d e=>?_⟩;refine⟨x,a,0,k6 s b,h,I,j.t f d e,λg t i=>⟨I,?_⟩⟩;exact k ⟨x,a,0,k6 s b⟩ g I ((gU f d e).c.a t) (i.k (by simp[ba.h,gZ]))
def fm(b:V (Y×V Int)):V Int:=b.flatMap λa=>(a.2.length:Int)::a.2
def Td{b:V (Y×V Int)}(d:b[a]?=O c):fm (b.take (a+1))=fm (b.take a)++((c.2.length:Int)::c.2):=by rw[en,d];simp[fm]
def Tc(a:V (Y×V Int))(b):(fm (a.take b)).length<=(fm a).length:=by
 have c:fm a=fm (a.take b)++fm (a.drop b):=by unfold fm;rw[<-g8,gK]
 rw[c,bH];omega
inductive SX(vs:V ah)(H:af)(Q:bj)(E:cf):Prop
 |a (a b:Y) (ms:V Int) (rs:V (Y×V Int)):vs=[.b a,.b b]->H a=O (.a (bg ms))->H b=O (.a (rs.map λx=>ah.b x.1))->(∀x∈rs,H x.1=O (.a (bg x.2)))->ms.length+(fm rs).length<=aH->gj H Q (bg (ms++fm rs))->SX vs H Q E
def l0[e:aJ]:b' 2 39 SX:=by
 refine cF 2 [] λc i d h g=>?_;obtain⟨q,r,m,l,rfl,i,d,s,h,k⟩:=g;refine⟨_,aj (aA 2 (pa tM (by rfl) e.y rA (c2 0))) (aj (dY e_ I (bZ (W 1)) (bE 3) (aj (a9 (eY e9 gL ha gG (W 2) (c3 (c5 (W 3))))) (au (a9 (eY e9 mQ nY mw (W 2) (c2 3)))))) (c1 (W 2))),_,_,I,.inl (dU.b i),λj h=>?_⟩;have i:aW c (al c j (.a (bg m))):=aW.a h;refine⟨_,I,⟨_,dU.b (i _ _ d)⟩,ev (xs:=l.map λp=>ah.b p.1) (λg n e=>(∃o,n=[O (.b q),O (.b r),O (.b j),o])/\aW c e/\e j=O (.a (bg (m++fm (l.take g))))) ⟨⟨_,I⟩,i,by simp[fm,az]⟩ ?_ ?_ ?_⟩;rintro g n e _ ⟨_,c,_⟩;exact dU.b (c _ _ d);rintro g p n e i ⟨⟨o,rfl⟩,c,m⟩;obtain⟨d,q,rfl⟩:∃d,l[g]?=O d/\p=.b d.1:=by
  rw[bw]at i;cases p:l[g]? with
  |none=>rw[p]at i;cases i
  |some d=>rw[p]at i;exact⟨d,I,(bA i).symm⟩
 have i:=s d (a1 q);have p:=Td q;have q:=Tc l (g+1);rw[p]at q;simp only[bH,cz]at q;have g:d.1≠j:=cX i h;refine⟨.inl ⟨I,_,dU.b m⟩,_,_,I,.inl (dU.b (c _ _ i)),_,_,_,I,I,m,(by simp only[an,bH];omega),.inl ⟨I,_,dU.b az⟩,_,_,_,_,I,I,az,(aL g).trans (c _ _ i),(by simp only[an,bH,cz,f'];omega),⟨_,I⟩,(c.f h).f h,?_⟩;rw[az,p];simp;rintro n e ⟨⟨o,rfl⟩,c,m⟩;refine k j e c h ?_;rw[m,an,dN]
def l':ar (V Int)->V Int
 |none=>[-1]
 |some a=>(a.length:Int)::a
def ox(b:ar (V Int)):Prop:=∀a,b=O a->a.length<=1000
inductive SV(vs:V ah)(H:af)(Q:bj)(E:cf):Prop
 |a (va:Y) (v:ar (V Int)):vs=[qm va v]->cD H (gZ va v)->ox v->gj H Q (bg (l' v))->SV vs H Q E
def PA[c:aJ]:b' 2 40 SV:=by
 refine cF 0 [] λk g d f c=>?_;obtain⟨j,f,rfl,d,h,i⟩:=c;refine⟨_,aj (bD (eI (mz (W 0))) (c1 (bC (c3 (q8 rm a5)))) bQ) (c1 (ey h7 (bC (c3 (c5 (W 0)))) (W 0))),?_⟩;cases f with
 |none=>exact⟨_,I,c9,λg c=>i g _ (aW.a c) c az⟩
 |some f=>have d:k j=O (.a (bg f)):=d _ cr;have h:=h f I;refine⟨_,_,I,.inl (dU.b d),c9,λg c=>?_⟩;have f:j≠g:=cX d c;refine⟨_,_,_,_,I,I,az,(aL f).trans d,(by simp only[an,cz,f'];rw[bn];omega),λf d=>?_⟩;refine i f _ ((aW.a c).b (aW.a d)) ((aW.a c).e d) ?_;rw[az];simp[l']
def C0(a:aG):hu a=[(a.place:Int),(a.time:Int),c_ a.key,(a.sender:Int),(a.seq:Int),(a.kind:Int)]++l' a.value:=by unfold hu;cases a.value<;>rfl
inductive SK(vs:V ah)(H:af)(Q:bj)(E:cf):Prop
 |a (l:ba):vs=[.b l.e]->cD H (l.f)->ox l.a.value->gj H Q (bg (hu l.a))->SK vs H Q E
def v'[c:aJ]:b' 3 41 SK:=by
 refine cF 1 [] λb h f g d=>?_;obtain⟨b,rfl,f,h,k⟩:=d;refine⟨_,aj (aA 1 (bC (Z (c0 0) (Z (c0 0) (n2 (c0 0) (c0 0) (c0 0) (c0 0)))))) (c1 (ey h7 (W 1) (aP PA (c3 (c0 0))))),?_⟩;obtain⟨d,j⟩:=ba.d f;refine⟨d,c.c.a,I,d,c.c.g,I,d,c.c.b,I,d,c.c.d,I,d,c.c.f,I,d,c.c.c,I,Vn,λf g=>?_⟩;have f:=aW.a (o:=.a (bg [(b.a.place:Int),(b.a.time:Int),c_ b.a.key,(b.a.sender:Int),(b.a.seq:Int),(b.a.kind:Int)])) g;refine⟨f _ _ d,c.c.e,I,b.c,b.a.value,I,j.c f,h,λn l g m i=>?_⟩;refine⟨_,_,_,_,I,I,g _ _ az,i,?_,λj c=>?_⟩;simp only[an,cz,f'];have:(l' b.a.value).length<=1001:=by
  cases d:b.a.value with|none=>simp[l']|some v=>have:=h v d;simp[l'];omega
 rw[bn];omega;refine k j _ (f.b (g.b (aW.a c))) ((f.b g).e c) ?_;rw[az,C0];simp
end
def d2{α:Type}{l:V α}{f:α->ah}{i:Nat}{x:ah}(a:(l.map f)[i]?=O x):∃y,l[i]?=O y/\x=f y:=by
 rw[bw]at a;cases b:l[i]? with
 |none=>rw[b]at a;cases a
 |some y=>rw[b]at a;exact⟨y,I,(bA a).symm⟩
def l9{b:V c}{y:c}(f:c->e)(d:b[a]?=O y):(b.take (a+1)).map f=(b.take a).map f++[f y]:=by rw[en,d,a6];rfl
def eR{α:Type}{a:Y}{g:eH}{D:dV}{C:aY}{m:V Nat}{q:L2.aQ}{k:af}{j:Y}{z:af->Prop}(l:V α)(x f:α->ah)(p:α->Bool)(A:k j=aa)(F:k a=O (.a (l.map x)))(H:l.length<aH)
  (G:∀r∈l,∀d,aW k d->∀(o:af->Prop)(t:bj),(p r=ae->∀e,aW d e->o e)->(p r=ab->∀e,aW d e->t (f r) e)->g (x r) (b0 q m) d λh s=>b0 h m=b0 q m/\D h s λw n=>if w=ab then C h n t else o n)
  (E:∀d,aW k d->d j=O (.a ((l.filter p).map f))->z d):
  ∃u:Nat->Nat->af->Prop,(∃o,u 0 o (al k j (.a [])))/\∀i o d,u i o d->
   ((gt ak a).b i d/\z d)\/((gt ak a).a i d/\∃t:af->Prop,(∀e,t e->∃B,B<o/\u (i+1) B e)/\∀y e,(gt ak a).c i d y e->g y (b0 q m) e λh s=>b0 h m=b0 q m/\D h s λw n=>if w=ab then C h n λo m=>∃h,m j=O (.a h)/\h.length<aH/\t (al m j (.a (h++[o])))else t n):=by
 refine o_ (xs:=l.map x) (λi d=>aW k d/\d j=O (.a (((l.take i).filter p).map f))) ⟨aW.a A,by simp[az]⟩ (λi d _ h=>dU.b (h.1 _ _ F)) ?_ (λd h=>E d h.1 (by have:=h.2;rw[an,dN]at this;exact this));rintro i y d h ⟨l,m⟩;obtain⟨r,j,rfl⟩:=d2 h;have n:=a1 j;refine G r n d l _ _ (λk e h=>⟨l.b h,?_⟩) (λk e h=>⟨_,h _ _ m,?_,(l.b h).f A,?_⟩);rw[h _ _ m,en,j,ie];simp[k];rw[an];exact lD (cu (fv _ _) (JA _ _)) (lD (pB (bu.mp j).1) H);rw[az,en,j,ie];simp[k]
def M'{m:Y}{xs:V ah}{s:eH}{u:dv}{l:hA}{g:L2.aQ}{f:af}(h:Nat->L2.aQ->af->Prop)(w:h 0 g f)(y:∀e g f,e<=xs.length->h e g f->dU ak f m xs)
  (z:∀e k g f,e<xs.length->xs[xs.length -1 -e]?=O k->h e g f->s k g f λr n=>u {l with a:=h (e+1),d:=h (e+1),c:=l.a} r n) (x:∀g f,h xs.length g f->l.a g f):
  ∃p:Nat->Nat->L2.aQ->af->Prop,(∃j,p 0 j g f)/\∀e j g f,p e j g f->
   ((o3 ak m xs.length).b e f/\l.a g f)\/((o3 ak m xs.length).a e f/\∃o:L2.aQ->af->Prop,(∀q i,o q i->∃t,t<j/\p (e+1) t q i)/\∀k i,(o3 ak m xs.length).c e f k i->s k g i λr n=>u {l with a:=o,d:=o,c:=l.a} r n):=by
 refine⟨λe j g f=>j=xs.length -e/\e<=xs.length/\h e g f,⟨xs.length,by simp,co _,w⟩,?_⟩;rintro e j g f ⟨rfl,m,l⟩;have n:=y e g f m l;by_cases j:e<xs.length;have m:xs.length -1 -e<xs.length:=by omega
 refine .inr ⟨⟨j,xs,xs[xs.length -1 -e],n,by simp[m]⟩,h (e+1),λq i o=>⟨xs.length -(e+1),by omega,I,j,o⟩,λk i m=>?_⟩;obtain⟨h,m⟩:=m;subst h;exact z e k g _ j (m xs n) l;have h:e=xs.length:=by omega
 subst h;exact .inl ⟨bp _,x g f l⟩
section
def he.i{j:he}(l:cD k (j.c)):k j.e=O (.c fC j.f [("first",.a j.a),("records",.b j.g)])/\k j.g=O (.a (j.b.map ba.b))/\∀m∈j.b,cD k (m.f):=by have l:cD k (a0 j.e fC j.f [("first",.a j.a),("records",.b j.g)]++((j.g,cw.a (j.b.map ba.b))::(j.b.flatMap (ba.f)++[]))):=l;rw[dM]at l;obtain⟨k,j⟩:=cD.b.mp l;obtain⟨j,l⟩:=cD.a.mp j;exact⟨k.e,j,cD.d.mp l⟩
structure fN(H:af)(p:aN):Prop where
 b:H p.c=O (.c bN p.k (cx p))
 e:H p.q=O (.a (p.d.map he.d))
 f:∀s∈p.d,cD H (s.c)
 d:cD H (p.b.c)
 g:H p.t=O (.b (dc p.e))
 h:cD H (dk p.e)
def aN.u{y:aN}(z:cD A (y.l)):fN A y:=by have z:cD A (a0 y.c bN y.k (cx y)++((y.q,cw.a (y.d.map he.d))::(y.d.flatMap (he.c)++(y.b.c++((y.t,cw.b (dc y.e))::(dk y.e++[])))))):=z;rw[dM]at z;obtain⟨C,y⟩:=cD.b.mp z;obtain⟨y,z⟩:=cD.a.mp y;obtain⟨z,A⟩:=cD.b.mp z;obtain⟨A,B⟩:=cD.b.mp A;obtain⟨B,D⟩:=cD.a.mp B;exact⟨C.e,y,cD.d.mp z,A,B,D⟩
def fN.a(i:fN m l)(j:aW m k):fN k l:=⟨j _ _ i.b,j _ _ i.e,λs k=>(i.f s k).c j,i.d.c j,j _ _ i.g,i.h.c j⟩
def fN.c{i:aN}(j:fN k i):∀r∈i.g,cD k (r.f):=λr i=>by rcases cU.mp i with i|i;obtain⟨s,k,i⟩:=kM.mp i;exact(he.i (j.f s k)).2.2 r i;exact(he.i j.d).2.2 r i
end
def aN.p(y:aN):Prop:=y.g.length<=1000000
def BC{α:Type}(a:V he)(c):((a.take c).flatMap (·.b)).length<=(a.flatMap (·.b)).length:=by
 have d:a.flatMap (·.b)=(a.take c).flatMap (·.b)++(a.drop c).flatMap (·.b):=by rw[<-g8,gK]
 rw[d,bH];omega
section
inductive Rf(vs:V ah)(H:af)(Q:bj)(E:cf):Prop
 |a (p:aN):vs=[.b p.c]->fN H p->p.p->gj H Q (p.g.map ba.b)->Rf vs H Q E
def k7[h:aJ]:dz 2 65 2 Rf:=by
 refine dF 2 [] λl H E G u=>?_;obtain⟨d,rfl,e,w,k⟩:=u;refine⟨_,aj (aA 1 (bC ai)) (aj (dY e_ I (bZ (c0 0)) (bE 2) (au (a9 (eY e9 mQ nY mw (W 1) (c3 (c0 2)))))) (c1 (ey h7 (W 1) (n4 (c0 0))))),co _,λm p=>?_⟩;have n:aW l (al l m (.a [])):=aW.a p;have F:(d.d.flatMap (·.b)).length+d.b.b.length<=1000000:=by have:=w;unfold aN.p aN.g at this;rwa[bH]at this
 refine⟨n _ _ e.b,h.d.c,I,_,I,⟨_,dU.b (n _ _ e.e)⟩,ev (xs:=d.d.map he.d) (λi j f=>(∃o,j=[O (.b d.c),O (.b m),o])/\aW l f/\f m=O (.a (((d.d.take i).flatMap (·.b)).map ba.b))) ⟨⟨_,I⟩,n,by simp[az]⟩ ?_ ?_ ?_⟩;rintro i j f _ ⟨_,c,_⟩;exact dU.b (c _ _ e.e);rintro i J j f x ⟨⟨o,rfl⟩,c,g⟩;obtain⟨s,r,rfl⟩:=d2 x;obtain⟨B,C,_⟩:=he.i (e.f s (a1 r));have t:((d.d.take (i+1)).flatMap (·.b))=((d.d.take i).flatMap (·.b))++s.b:=by rw[en,r,g8];simp
 have D:=BC (α:=Unit) d.d (i+1);rw[t,bH]at D;refine⟨.inl ⟨I,_,dU.b g⟩,c _ _ B,h.p.a,I,_,_,_,_,I,I,g,c _ _ C,?_,?_⟩;rw[an,an,bn];omega;refine⟨⟨_,I⟩,c.f p,?_⟩;rw[az,t,a6];rintro j f ⟨⟨o,rfl⟩,c,g⟩;rw[an,dN]at g;obtain⟨y,z,_⟩:=he.i e.d;refine⟨c _ _ e.b,h.d.d,I,c _ _ y,h.p.a,I,_,_,_,_,I,I,g,c _ _ z,?_,λA q=>?_⟩;rw[an,an,bn];omega;refine k A _ (c.b (aW.a q)) (c.e q) ?_;rw[az,<-a6]
 rfl
end
open Vblwai (Rec)
def hh(a:aG):Bool:=a.kind==2||a.kind==3
def ge:V aG->Int->ar Nat
 |[],_=>aa
 |a::c,b=>if hh a=ab/\b=a.sender then O a.kind else ge c b
def d9:V aG->Int->ar Nat
 |[],_=>aa
 |r::a,b=>if hh r=ab then d9 a b else if r.kind=1 then(match ge a r.sender with|some k=>if b=r.place then O k else d9 a b|none=>d9 a b)else d9 a b
def oD(c:aG)(a)(b):d9 (c::a) b=if hh c=ab then d9 a b else if c.kind=1 then(match ge a c.sender with|some k=>if b=c.place then O k else d9 a b|none=>d9 a b)else d9 a b:=I
def Mz{a:aG}(g:hh a=ae)(f:a.kind=1)(e:ge b a.sender=O d)(c):d9 (a::b) c=if c=a.place then O d else d9 b c:=by rw[oD,aw (by rw[g];decide),ay f,e]
def iv(c:V (aU×ah))(b:Int->ar Nat):Prop:=∀a,bx c (.inl a)=(b a).map λk:Nat=>ah.a k
def iv.b(g:iv e f)(d:Int)(k:Nat):iv (cH e (.inl d) (.a k)) (λc=>if c=d then O k else f c):=λc=>by rw[rn];by_cases e:c=d;subst e;simp;have:¬((bb c:aU)=.inl d):=λh=>e (jQ h);rw[aw this];show _=y7 _ (if c=d then O k else f c);rw[aw e];exact g c
def iv.a(h:iv f d)(g:∀c,d c=e c):iv f e:=λc=>by rw[h c,g c]
def PV{a:V e}(f:b<a.length)(d:a[a.length -1 -b]?=O c):a.drop (a.length -(b+1))=c::a.drop (a.length -b):=by
 have f:a.length -(b+1)=a.length -1 -b:=by omega
 have e:a.length -1 -b<a.length:=by omega
 rw[f,ic e];have:a[a.length -1 -b]=c:=by rw[eM e]at d;exact bA d
 rw[this];congr 2;omega
section
def A1(e:af)(f:bj)(g:Int->ar Nat)(h:Nat):Prop:=∀c a d,aW e a->e c=aa->a c=O (.b d)->iv d g->d.length<=h->f (.b c) a
inductive R'(vs:V ah)(H:af)(Q:bj)(E:cf):Prop
 |a (a:Y) (rs:V ba):vs=[.b a]->H a=O (.a (rs.map ba.b))->(∀r∈rs,cD H (r.f))->rs.length<=1000000->A1 H Q (d9 (rs.map (·.a))) rs.length->R' vs H Q E
def v7[j:aJ]:b' 2 43 R':=by
 refine cF 3 [] λe h g A l=>?_;obtain⟨r,h,rfl,q,x,m,k⟩:=l;refine⟨_,aj (aA 1 jr) (aj (aA 2 jr) (aj (dY e_ I (HG I j.zS (c2 0)) (bE 3) (au (bD (bV (wb ak) (c0 3) (js (c6 (di j.T) (di j.U))) (by with_unfolding_all rfl)) (au (jt (cN g) (W 1) (c0 3) (c0 3) I)) (au (bD (mj.a (ra (c4 gh (c0 3) (di j.E)) (rb (eI (t4 (cN g) (c0 3) (W 1)))))) (au (jt (cN g) (W 2) (c0 3) (g5 (cN g) (W 1) (c0 3) (λ_ _=>I)) I)) bQ))))) (c1 (W 2)))),λl C=>?_⟩;have m:aW e (al e l (.b [])):=aW.a C;refineλu g=>?_;have J:e u=aa:=m.e g;have A:u≠l:=λF=>by rw[F,az]at g;cases g
 have o:aW e (al (al e l (.b [])) u (.b [])):=m.b (aW.a g);refine⟨_,_,I,dU.b (o _ _ q),M' (xs:=h.map ba.b) (λi B m=>(∃D,B=[O (.b r),O (.b l),O (.b u),D])/\aW e m/\∃p n,m l=O (.b p)/\m u=O (.b n)/\p.length<=i/\n.length<=i/\iv p (ge ((h.drop (h.length -i)).map (·.a)))/\iv n (d9 ((h.drop (h.length -i)).map (·.a)))) ⟨⟨_,I⟩,o,[],[],by rw[aL (df A),az],az,bp _,bp _,by simp[ge,iv,bx],by simp[d9,iv,bx]⟩ ?_ ?_ ?_⟩;rintro i B m _ ⟨_,o,_⟩;exact dU.b (o _ _ q);rintro i g B m e q ⟨⟨D,rfl⟩,o,p,n,r,w,L,G,z,t⟩;rw[an]at e q;obtain⟨g,s,rfl⟩:=d2 q;have q:=(x g (a1 s)).c o;obtain⟨x,_⟩:=ba.d q;have y:=PV e s;refine⟨x,j.c.c,I,n1,λs q=>?_⟩;have e:aW m (al m s (.d [.a 2,.a 3])):=aW.a q;have E:l≠s:=cX r q;have l:u≠s:=cX w q;refine⟨_,_,I,.inr (kA.b az),I,I,bG (λl=>?_) (λl=>?_)⟩
 ·
  have l:hh g.a=ab:=by simp[iK,gv]at l;simp[hh];omega
  refine⟨e _ _ x,j.c.c,I,e _ _ x,j.c.d,I,_,_,I,qO.a (k:=bb (g.a.sender:Int)) (e _ _ r) (by rw[bn];omega),⟨_,I⟩,(o.b e).f C,_,n,az,(aL A).trans (e _ _ w),cu (j5 _ _ _) (by omega),by omega,?_,?_⟩;rw[y];refine(z.b (g.a.sender:Int) g.a.kind).a λs=>?_;simp only[b1,ge,l,true_and];rw[y];refine t.a λs=>?_;simp only[b1,d9,l,if_true]
 have l:hh g.a=ae:=by simp[iK,gv]at l;simp[hh];omega
 have E:iv p (ge ((h.drop (h.length -(i+1))).map (·.a))):=by rw[y];refine z.a λs=>?_;simp[b1,ge,l]
 refine⟨e _ _ x,j.c.c,I,I,bG (λq=>?_) (λq=>?_)⟩;have q:g.a.kind=1:=by have:=cj q;injection this with this;omega
 refine⟨e _ _ x,j.c.d,I,_,_,I,fg.a (k:=bb (g.a.sender:Int)) (e _ _ r),?_⟩;rw[z (g.a.sender:Int)];cases C:ge ((h.drop (h.length -i)).map (·.a)) (g.a.sender:Int)with
 |none=>refine⟨⟨_,I⟩,o.b e,p,n,e _ _ r,e _ _ w,by omega,by omega,E,?_⟩;rw[y];refine t.a λs=>?_;show _=d9 (g.a::(h.drop (h.length -i)).map (·.a)) s;rw[oD,aw (by rw[l];decide),ay q,C]
 |some K=>
  refine⟨e _ _ x,j.c.d,I,_,_,I,(by have H:=fg.a (k:=bb (g.a.sender:Int)) (e _ _ r);rw[z (g.a.sender:Int),C]at H;exact H),e _ _ x,j.c.a,I,_,_,I,qO.a (k:=bb (g.a.place:Int)) (e _ _ w) (by rw[bn];omega),?_⟩
  refine⟨⟨_,I⟩,(o.b e).f J,p,_,(aL (df A)).trans (e _ _ r),az,by omega,cu (j5 _ _ _) (by omega),E,?_⟩;rw[y];exact(t.b (g.a.place:Int) K).a λs=>(Mz l q C s).symm
 have q:g.a.kind≠1:=λF=>by have:=dH q;exact this (by rw[F];rfl)
 refine⟨⟨_,I⟩,o.b e,p,n,e _ _ r,e _ _ w,by omega,by omega,E,?_⟩;rw[y];refine t.a λs=>?_;show _=d9 (g.a::(h.drop (h.length -i)).map (·.a)) s;rw[oD,aw (by rw[l];decide),aw q];rintro B m ⟨⟨D,rfl⟩,o,p,n,r,w,L,G,z,t⟩;rw[an]at G t;rw[JR,Jk]at t;exact k u m n o J w t G
end
def lb(b:V aG)(a:aG):Bool:=a.kind==1&&(d9 b a.place).isNone
def sH(b:V aG)(a:Nat):Nat:=match b.find? (lb b)with|some b=>iU b.place a|none=>a
def r6(b:V aG)(a:aG):Bool:=a.kind==0||d9 b a.place==O 2
def aN.o(y:aN):V aG:=y.g.map (·.a)
def aN.r(y:aN):Nat:=sH y.o y.h
def aN.j(y:aN):V ba:=y.g.filter λz=>aq (z.a.place<y.r)&&r6 y.o z.a
def By{b:V c}{f:c->Bool}(h:b[a]?=O d)(e:(b.take a).find? f=aa)(g:f d=ae):(b.take (a+1)).find? f=aa:=by rw[en,h,kJ,e];simp[g]
def M5{a:V d}{f:d->Bool}(e:a[b]?=O c)(g:(a.take b).find? f=aa)(h:f c=ab):a.find? f=O c:=by
 have d:a=a.take b++c::a.drop (b+1):=by have i:=(bu.mp e).1;have:=ic i;have i:a[b]=c:=(bu.mp e).2;rw[i]at this;rw[<-this,gK]
 rw[d,kJ,g];simp[h]
section
def vi(c:af)(d:bj)(e:Int):Prop:=∀b,aW c b->d (.a e) b
inductive SQ(vs:V ah)(H:af)(Q:bj)(E:cf):Prop
 |a (p:aN):vs=[.b p.c]->fN H p->p.p->vi H Q p.r->SQ vs H Q E
def sx[h:aJ]:b' 3 44 SQ:=by
 refine cF 3 [] λd l g j e=>?_;obtain⟨d,rfl,j,l,k⟩:=e;refine⟨_,aj (aA 1 (a' k7 (W 0))) (aj (aA 2 (aP v7 (c2 1))) (aj (dY e_ I (bZ (W 1)) (bE 3) (au (bD (mj.a (ra (c4 gh (c0 3) (di h.E)) (rb (eI (my (cN g) (c0 3) (W 2)))))) (c1 (bM (xw I) (by rfl) h.F uC (c6 (c0 3) (c0 0)))) bQ))) (c1 (c0 0)))),j.b,I,d,I,j,l,λq g n m e=>?_⟩;refine⟨q,d.g,I,e,(j.a n).c,l,λs r p g m u w t=>?_⟩;have m:=n.b g;refine⟨_,I,⟨_,dU.b (g _ _ e)⟩,ev (xs:=d.g.map ba.b) (λi p n=>n=r/\(∃o,p=[O (.b d.c),O (.b q),O (.b s),o])/\(d.o.take i).find? (lb d.o)=aa) ⟨I,⟨_,I⟩,by simp⟩ ?_ ?_ ?_⟩;rintro i p n _ ⟨rfl,_,_⟩;exact dU.b (g _ _ e);rintro i t p n q ⟨rfl,⟨o,rfl⟩,l⟩;obtain⟨e,g,rfl⟩:=d2 q;have r:=((j.a m).c e (a1 g));obtain⟨q,_⟩:=ba.d r;have r:d.o[i]?=O e.a:=by unfold aN.o;rw[bw,g];rfl
 refine⟨q,h.c.c,I,I,bG (λg=>?_) (λg=>?_)⟩;have g:e.a.kind=1:=by have:=cj g;injection this with this;omega
 refine⟨q,h.c.a,I,_,_,I,fg.a (k:=bb (e.a.place:Int)) u,?_⟩;rw[w (e.a.place:Int)];cases s:d9 (d.g.map (·.a)) (e.a.place:Int)with
 |none=>
  have u:lb d.o e.a=ab:=by simp[lb,g,aN.o,s]
  refine⟨q,h.c.a,I,m _ _ j.b,h.d.b,I,_,_,I,?_⟩;have q:(if(d.h:Int)<(e.a.place:Int)then(d.h:Int)else(e.a.place:Int))=(d.r:Int):=by unfold aN.r sH;rw[M5 r l u];show _=((iU e.a.place d.h:Nat):Int);split<;>omega
  rw[q];exact k _ m
 |some u=>refine⟨I,⟨_,I⟩,By r l ?_⟩;simp[lb,g,aN.o,s]
 have g:e.a.kind≠1:=λu=>by have:=dH g;exact this (by rw[u];rfl)
 exact⟨I,⟨_,I⟩,By r l (by simp[lb,g])⟩;rintro p n ⟨rfl,⟨o,rfl⟩,l⟩;refine⟨m _ _ j.b,h.d.b,I,?_⟩;have q:(d.h:Int)=(d.r:Int):=by
  unfold aN.r sH;have g:d.o.find? (lb d.o)=aa:=by
   rw[an]at l;have e:d.o.take d.g.length=d.o:=by rw[<-an (f:=λt:ba=>t.a) (as:=d.g)];exact dN
   rwa[e]at l
  rw[g]
 rw[q];exact k _ m
inductive R_(vs:V ah)(H:af)(Q:bj)(E:cf):Prop
 |a (l:ba) (d:Y) (kvs:V (aU×ah)) (f:Int->ar Nat):vs=[.b l.e,.b d]->cD H (l.f)->H d=O (.b kvs)->iv kvs f->Q (.d (l.a.kind==0||f l.a.place==O 2)) H->R_ vs H Q E
def O6[d:aJ]:b' 2 45 R_:=by
 refine cF 0 [] λa f e c b=>?_;obtain⟨a,h,j,f,rfl,c,g,i,k⟩:=b;refine⟨_,c1 (HC (n9 gh (c0 0) (di d.D)) (t5 (n9 gh (x4 (cN e) (W 1) (c0 0) ⟨I,I,I,I⟩) (di d.T)))),?_⟩;obtain⟨h,_⟩:=ba.d c;refine⟨h,d.c.c,I,I,bG (λb=>?_) (λb=>?_)⟩;have b:a.a.kind=0:=by have:=cj b;injection this with this;omega
 have e:(a.a.kind==0||f a.a.place==O 2)=ab:=by simp[b]
 rw[e]at k;exact k;have b:a.a.kind≠0:=λc=>by have:=dH b;exact this (by rw[c];rfl)
 refine⟨_,I,.inl ⟨_,.inl g⟩,h,d.c.a,I,_,fg.a (k:=bb (a.a.place:Int)) g,?_⟩;rw[i (a.a.place:Int)];cases e:f (a.a.place:Int)with
 |none=>
  refine⟨I,?_⟩;have d:(a.a.kind==0||f a.a.place==O 2)=ae:=by simp[b,e]
  rw[d]at k;exact k
 |some c=>
  refine⟨I,?_⟩;have d:(a.a.kind==0||f a.a.place==O 2)=aq (ah.a (c:Int)=ah.a 2):=by rw[e];by_cases a:c=2;subst a;simp;have:¬(ah.a (c:Int)=ah.a 2):=λc=>a (by injection c with c;omega);simp[b,a,this]
  rw[d]at k;exact k
inductive SM(vs:V ah)(H:af)(Q:bj)(E:cf):Prop
 |a (p:aN):vs=[.b p.c]->fN H p->p.p->gj H Q (p.j.map ba.b)->SM vs H Q E
def qc[p:aJ]:b' 4 46 SM:=by
 refine cF 4 ["record"] λb e d g f=>?_;obtain⟨b,rfl,d,e,k⟩:=f;refine⟨_,aj (aA 1 (a' k7 (W 0))) (aj (aA 2 (aP v7 (c2 1))) (aj (aA 3 (aP sx (c2 0))) (c1 (dX I g (bZ (W 1)) (own:=[("record",4)]) (dn I) (λ_ _ _ _ _=>bE 4) (λ_ _ _ _ _=>fU (mj.a (ra (c4 gH (c0 4) (W 3)) (rb (ju (aP O6 (c7 4 2))))))) (λ_ _ _ _ _=>(W 4)))))),d.b,I,b,I,d,e,λf h g j i=>?_⟩;refine⟨f,b.g,I,i,(d.a g).c,e,λq h t l j r u m=>?_⟩;have h:=g.b l;refine⟨b,I,d.a h,e,λj g=>?_⟩;have j:=h.b g;refine⟨_,I,⟨_,dU.b (g _ _ (l _ _ i))⟩,λo n=>?_⟩;refine eR b.g ba.b ba.b (λf=>aq (f.a.place<b.r)&&r6 b.o f.a) n (g _ _ (l _ _ i)) (gX e) ?_ (λm h s=>k o m (j.b h) (j.e n) s);intro e n m h f o i l;have f:=((d.a j).c e n).c h;obtain⟨j,_⟩:=ba.d f;refine⟨I,j,p.c.a,I,_,_,I,I,bG (λd=>?_) (λd=>?_)⟩;have d:e.a.place<b.r:=by have:=cj d;omega
 refine⟨e,q,t,d9 (b.g.map (·.a)),I,f,h _ _ (g _ _ r),u,bG (λf=>?_) (λf=>?_)⟩;exact l (by simp only[d,decide_true,gg];exact f) _ aW.d;exact i (by simp only[d,decide_true,gg];exact f) _ aW.d;have d:¬e.a.place<b.r:=λb=>by have:=dH d;omega
 exact(i (by simp[d]) _ aW.d)
end
def dq(a:ba):Int:=c_ a.a.key
def BV{a:ba}:dq a=-1↔a.a.key=aa:=by
 unfold dq c_;cases a.a.key with|none=>simp|some k=>simp
def gx(k:Int)(a:ba):Bool:=a.a.key.isSome&&dq a==k
def fc(ls:V ba)(k:Int):ar ba:=(ls.filter (gx k)).getLast?
def BX(b)(a)(k):fc (b++[a]) k=if gx k a=ab then O a else fc b k:=by unfold fc;rw[ie];by_cases b:gx k a=ab;simp[b];simp[b]
structure oy(kvs:V (aU×ah))(f:Int->ar ba):Prop where
 a:∀n:Int,bx kvs (.inl n)=(f n).map ba.b
 b:∀x∈kvs,∃n:Int,x.1=.inl n
def Cb{d:V (aU×ah)}{c:aU}{g:ah}{b:aU×ah}(a:b∈cH d c g):b∈d\/b.1=c:=by unfold cH at a;split at a;obtain⟨h,f,rfl⟩:=bm.mp a;split;rename_i e;exact .inr e;exact .inl f;rcases cU.mp a with a|a;exact .inl a;rw[dZ]at a;subst a;exact .inr I
def oy.d(k:oy g i)(f)(j:ba):oy (cH g (.inl f) j.b) (λe=>if e=f then O j else i e):=by refine⟨λe=>?_,λl g=>?_⟩;rw[rn];by_cases h:e=f;subst h;simp;have:¬((bb e:aU)=.inl f):=λm=>h (jQ m);rw[aw this];show _=y7 _ (if e=f then O j else i e);rw[aw h];exact k.a e;rcases Cb g with g|g;exact k.b l g;exact⟨f,g⟩
def oy.c(h:oy i f)(j:∀e,f e=g e):oy i g:=⟨λe=>by rw[h.a e,j e],h.b⟩
def k9(b:aN):V ba:=(b.j.filter λa=>(fc b.j (dq a)).isSome).filter λa=>match fc b.j (dq a)with|some b=>aq (a.a.place<b.a.place)|none=>ae
def k4(b:aN):V ba:=(b.g.filter λa=>aq (a.a.place<b.r)).filter λa=>d9 b.o a.a.place==O 3
def hP(ls:V ba)(k:Int):ar Nat:=(ls.find? λa=>dq a==k).map λa=>a.a.place
def l8(b:aN):V ba:=(b.j.filter λa=>a.a.value.isNone).filter λa=>hP b.g (dq a)==O a.a.place
def k'(a:aN):a.j.length<=a.g.length:=fv _ _
def ho{b:aN}(c:a∈b.j):a∈b.g:=(cY.mp c).1
def BY{k:Int}(c:fc a k=O b):b∈a:=(cY.mp (uq c)).1
section
def LY(e:af)(f:bj)(g:Int->ar ba)(h:Nat):Prop:=∀c a d,aW e a->e c=aa->a c=O (.b d)->oy d g->d.length<=h->f (.b c) a
inductive Sn(vs:V ah)(H:af)(Q:bj)(E:cf):Prop
 |a (p:aN):vs=[.b p.c]->fN H p->p.p->LY H Q (fc p.j) p.g.length->Sn vs H Q E
def CD[t:aJ]:b' 5 47 Sn:=by
 refine cF 2 [] λd h g e f=>?_;obtain⟨e,rfl,n,y,k⟩:=f;refine⟨_,aj (aA 1 jr) (aj (dY e_ I (bZ (aP qc (c2 0))) (bE 2) (au (bD (c4 j6 (c0 2) (di t.z)) (au (jt (cN g) (W 1) (c0 2) (W 2) I)) bQ))) (c1 (W 1))),λm u=>?_⟩;have g:aW d (al d m (.b [])):=aW.a u;refine⟨e,I,n.a g,y,λp l h o j=>?_⟩;have q:=g.b h;have o:l m=O (.b []):=h _ _ az;refine⟨_,I,⟨_,dU.b j⟩,ev (xs:=e.j.map ba.b) (λi s g=>(∃w,s=[O (.b e.c),O (.b m),w])/\aW d g/\g p=O (.a (e.j.map ba.b))/\∃h,g m=O (.b h)/\h.length<=i/\oy h (fc (e.j.take i))) ⟨⟨_,I⟩,q,j,[],o,bp _,⟨λr=>by simp[fc,bx],λd l=>nomatch l⟩⟩ ?_ ?_ ?_⟩;rintro i s g _ ⟨_,_,f,_⟩;exact dU.b f;rintro i d s g l ⟨⟨w,rfl⟩,q,p,h,o,x,j⟩;obtain⟨d,f,rfl⟩:=d2 l;have l:=a1 f;have z:i<e.g.length:=eg (bu.mp f).1 (k' e);obtain⟨A,_⟩:=ba.d ((n.a q).c d (ho l));have z:e.j.take (i+1)=e.j.take i++[d]:=by rw[en,f];rfl
 refine⟨A,t.c.b,I,I,bG (λf=>?_) (λf=>?_)⟩;have f:d.a.key≠aa:=λl=>by rw[<-BV]at l;simp[show c_ d.a.key=-1 from l]at f
 have B:d.a.key.isSome=ab:=by cases n:d.a.key with|none=>exact a7 n f|some _=>rfl
 refine⟨A,t.c.b,I,_,_,I,qO.a (k:=bb (dq d)) o (by have:=y;unfold aN.p at this;rw[bn];omega),⟨_,I⟩,q.f u,(aL (λl=>by rw[l,o]at p;cases p)).trans p,_,az,cu (j5 _ _ _) (by omega),(j.d (dq d) d).c λr=>?_⟩;rw[z,BX];by_cases n:r=dq d;subst n;simp[gx,B];have:gx r d=ae:=by simp[gx];intro _ l;exact n l.symm
 simp[n,this];have f:d.a.key=aa:=by rw[<-BV];simp at f;exact f
 refine⟨⟨_,I⟩,q,p,h,o,by omega,j.c λr=>?_⟩;rw[z,BX];simp[gx,f];rintro s g ⟨⟨w,rfl⟩,q,p,h,o,x,j⟩;rw[an]at x j;rw[dN]at j;exact k m g h q u o j (cu x (k' e))
inductive SD(vs:V ah)(H:af)(Q:bj)(E:cf):Prop
 |a (p:aN):vs=[.b p.c]->fN H p->p.p->gj H Q ((k9 p).map ba.b)->SD vs H Q E
def Pn[n:aJ]:b' 6 49 SD:=by
 refine cF 3 ["record"] λd e f g b=>?_;obtain⟨e,rfl,l,d,k⟩:=b;refine⟨_,aj (aA 1 (aP CD (c2 0))) (aj (nH (i:=2) I g I I (nK I I I I) (bZ (aP qc (c2 0))) (own:=[("record",3)]) (dn I) (λ_ _ _ _ _=>bE 3) (λ_ _ _ _ _=>fU (eI (t4 (cN f) (c0 3) (W 1)))) (λ_ _ _ _ _=>(W 3))) (c1 (dX I g (bZ (W 2)) (own:=[("record",3)]) (dn I) (λ_ _ _ _ _=>bE 3) (λ_ _ _ _ _=>fU (c4 gH (c0 3) (n4 (g5 (cN f) (W 1) (c0 3) (λ_ _=>I))))) (λ_ _ _ _ _=>(W 3))))),e,I,l,d,λC f j h g w A m=>?_⟩;refine⟨e,I,l.a h,d,λf j r m g=>?_⟩;have u:=h.b r;have x:e.j.length<aH:=gX (cu (k' e) d);refine⟨_,I,⟨_,dU.b g⟩,λh d=>?_⟩;refine eR e.j ba.b ba.b (λf=>(fc e.j (dq f)).isSome) d g x ?_ (λh z y=>?_);intro d o m g s t h j;obtain⟨q,_⟩:=ba.d (((l.a u).a g).c d (ho o));refine⟨I,q,n.c.b,I,_,_,I,fg.a (k:=bb (dq d)) (g _ _ (r _ _ w)),?_⟩;rw[A.a (dq d),lE];exact bG (λb=>j b _ aW.d) (λb=>h b _ aW.d);have p:=u.b z;refine⟨_,I,⟨_,dU.b y⟩,λB u=>?_⟩;refine eR (e.j.filter λf=>(fc e.j (dq f)).isSome) ba.b ba.b (λf=>match fc e.j (dq f)with|some e=>aq (f.a.place<e.a.place)|none=>ae) u y (lD (fv _ _) x) ?_ (λf E D=>k B f (p.b E) (p.e u) D)
 intro d o m g s t h j;obtain⟨f,u⟩:=cY.mp o;obtain⟨q,_⟩:=ba.d (((l.a p).a g).c d (ho f));obtain⟨e,o⟩:=nV.mp u;obtain⟨u,_⟩:=ba.d (((l.a p).a g).c e (ho (BY o)));have f:fg m C (.a (dq d)) (O e.b):=by have f:=fg.a (k:=bb (dq d)) (g _ _ (z _ _ (r _ _ w)));rw[A.a (dq d),o]at f;exact f
 refine⟨I,q,n.c.a,I,q,n.c.b,I,_,_,I,f,u,n.c.a,I,_,_,I,I,?_⟩;have h:aq (d.a.place<e.a.place)=ae->∀f,aW m f->s f:=λb=>h (by simp only[o];exact b);have j:aq (d.a.place<e.a.place)=ab->∀f,aW m f->t d.b f:=λb=>j (by simp only[o];exact b);refine bG (λb=>j ?_ _ aW.d) (λb=>h ?_ _ aW.d);have:=cj b;exact dm (by omega);have:=dH b;exact da (by omega)
end
def vD(a:aN):(k4 a).length<=a.g.length:=cu (fv _ _) (fv _ _)
def wc(a:aN):(k9 a).length<=a.g.length:=cu (cu (fv _ _) (fv _ _)) (k' a)
def Dg(a:aN):(l8 a).length<=a.g.length:=cu (cu (fv _ _) (fv _ _)) (k' a)
def BI{b:aN}(c:a∈k4 b):a∈b.g:=(cY.mp (cY.mp c).1).1
def CK{b:aN}(c:a∈k9 b):a∈b.g:=ho (cY.mp (cY.mp c).1).1
def Dh{b:aN}(c:a∈l8 b):a∈b.g:=ho (cY.mp (cY.mp c).1).1
def eD(a:aN):V ba:=(k9 a++k4 a)++l8 a
def fY(c:Nat)(e:V ba):V (aU×ah):=e.foldl (λa b=>if b.a.place<c then cH a (.inl (b.a.place:Int)) (.d ab)else a) []
def BJ(a)(b)(c:ba):fY a (b++[c])=if c.a.place<a then cH (fY a b) (.inl (c.a.place:Int)) (.d ab)else fY a b:=by
 unfold fY;rw[mJ]
 rfl
def Nd(e)(b:V ba):(fY e b).length<=b.length:=by
 suffices∀a:V (aU×ah),(b.foldl (λa c=>if c.a.place<e then cH a (bb (c.a.place:Int)) (.d ab)else a) a).length<=a.length+b.length by have:=this [];simpa[fY]using this
 induction b with|nil=>intro a;simp|cons c e b=>intro a;rw[kK];refine cu (b _) ?_;rw[cz];split;have:=j5 a (.inl (c.a.place:Int)) (.d ab);omega;omega
def Bz(b:V ba)(a:ba)(k):hP (b++[a]) k=match hP b k with
  |some c=>O c
  |none=>if dq a=k then O a.a.place else aa:=by
 unfold hP;rw[kJ];cases d:b.find? λc=>dq c==k with|some b=>simp|none=>by_cases b:dq a=k<;>simp[b]
def M6(d:a∈b):∃c,hP b (dq a)=O c:=by
 unfold hP;cases c:b.find? λe=>dq e==dq a with|some b=>exact⟨_,I⟩|none=>have:=j9.mp c a d;simp at this
section
inductive Sg(vs:V ah)(H:af)(Q:bj)(E:cf):Prop
 |a (p:aN):vs=[.b p.c]->fN H p->p.p->gj H Q ((k4 p).map ba.b)->Sg vs H Q E
def O'[n:aJ]:b' 4 50 Sg:=by
 refine cF 5 ["record"] λd f g e b=>?_;obtain⟨d,rfl,f,h,k⟩:=b;refine⟨_,aj (aA 1 (a' k7 (W 0))) (aj (aA 2 (aP v7 (c2 1))) (aj (aA 3 (aP sx (c2 0))) (aj (nH (i:=4) I e I I (nK I I I I) (bZ (W 1)) (own:=[("record",5)]) (dn I) (λ_ _ _ _ _=>bE 5) (λ_ _ _ _ _=>fU (c4 gH (c0 5) (W 3))) (λ_ _ _ _ _=>(W 5))) (c1 (dX I e (bZ (W 4)) (own:=[("record",5)]) (dn I) (λ_ _ _ _ _=>bE 5) (λ_ _ _ _ _=>fU (c4 gh (x4 (cN g) (W 2) (c0 5) ⟨I,I,I,I⟩) (di n.U))) (λ_ _ _ _ _=>(W 5))))))),f.b,I,d,I,f,h,λe j l m g=>?_⟩;refine⟨e,d.g,I,g,(f.a l).c,h,λo m q j p B E r=>?_⟩;have m:=l.b j;refine⟨d,I,f.a m,h,λo l=>?_⟩;have s:=m.b l;refine⟨_,I,⟨_,dU.b (l _ _ (j _ _ g))⟩,λo m=>?_⟩;refine eR d.g ba.b ba.b (λe=>aq (e.a.place<d.r)) m (l _ _ (j _ _ g)) (gX h) ?_ (λo u t=>?_);intro g p x m z A j o;obtain⟨r,_⟩:=ba.d (((f.a s).a m).c g p);refine⟨I,r,n.c.a,I,_,_,I,I,bG (λb=>o ?_ _ aW.d) (λb=>j ?_ _ aW.d)⟩;have:=cj b;exact dm (by omega);have:=dH b;exact da (by omega);have q:=s.b u;refine⟨_,I,⟨_,dU.b t⟩,λw s=>?_⟩;refine eR (d.g.filter λe:ba=>aq (e.a.place<d.r)) ba.b ba.b (λe:ba=>d9 d.o e.a.place==O 3) s t (lD (fv _ _) (gX h)) ?_ (λy D C=>k w y (q.b D) (q.e s) C);intro g p x m z A j o;obtain⟨r,_⟩:=ba.d (((f.a q).a m).c g (cY.mp p).1);have e:=m _ _ (u _ _ (l _ _ B));refine⟨I,_,I,.inl ⟨_,.inl e⟩,r,n.c.a,I,_,fg.a (k:=bb (g.a.place:Int)) e,?_⟩;rw[E (g.a.place:Int)];show t_ _ _=ab/\_;cases e:d9 (d.g.map (·.a)) (g.a.place:Int)with|none=>exact⟨I,(j (by simp[aN.o,e]) _ aW.d)⟩|some d=>refine⟨I,bG (λb=>o ?_ _ aW.d) (λb=>j ?_ _ aW.d)⟩;have:=cj b;injection this with this;simp[aN.o,e];omega;have b:=dH b;simp only[aN.o,e,beq_eq_false_iff_ne,ne_eq,kO];intro d;exact b (by rw[d];rfl)
inductive Se(vs:V ah)(H:af)(Q:bj)(E:cf):Prop
 |a (a:Y) (rs:V ba):vs=[.b a]->H a=O (.a (rs.map ba.b))->(∀r∈rs,cD H (r.f))->rs.length<=1000000->A1 H Q (hP rs) rs.length->Se vs H Q E
def O_[l:aJ]:b' 2 51 Se:=by
 refine cF 2 [] λd h f e g=>?_;obtain⟨n,e,rfl,h,w,j,k⟩:=g;refine⟨_,aj (aA 1 jr) (aj (dY e_ I (bZ (W 0)) (bE 2) (au (bD (eI (my (cN f) (c0 2) (W 1))) (au (jt (cN f) (W 1) (c0 2) (c0 2) I)) bQ))) (c1 (W 1))),λo q=>?_⟩;have g:aW d (al d o (.b [])):=aW.a q;refine⟨_,I,⟨_,dU.b (g _ _ h)⟩,ev (xs:=e.map ba.b) (λi p j=>(∃s,p=[O (.b n),O (.b o),s])/\aW d j/\∃f,j o=O (.b f)/\f.length<=i/\iv f (hP (e.take i))) ⟨⟨_,I⟩,g,[],az,bp _,λm=>by simp[hP,bx]⟩ ?_ ?_ ?_⟩;rintro i p j _ ⟨_,g,_⟩;exact dU.b (g _ _ h);rintro i d p j t ⟨⟨s,rfl⟩,g,f,n,u,h⟩;obtain⟨d,r,rfl⟩:=d2 t;have t:i<e.length:=(bu.mp r).1;obtain⟨t,_⟩:=ba.d ((w d (a1 r)).c g);have w:e.take (i+1)=e.take i++[d]:=by rw[en,r];rfl
 refine⟨t,l.c.b,I,_,_,I,fg.a (k:=bb (dq d)) n,?_⟩;rw[h (dq d),lE];cases r:hP (e.take i) (dq d)with
 |none=>
  refine⟨t,l.c.a,I,t,l.c.b,I,_,_,I,qO.a (k:=bb (dq d)) n (by rw[bn];omega),⟨_,I⟩,g.f q,_,az,cu (j5 _ _ _) (by omega),(h.b (dq d) d.a.place).a λm=>?_⟩;rw[w,Bz];by_cases l:m=dq d;subst l;simp[r];rw[aw l];cases hP (e.take i) m with|none=>simp[df l]|some t=>rfl
 |some t=>
  refine⟨⟨_,I⟩,g,f,n,by omega,h.a λm=>?_⟩;rw[w,Bz];by_cases l:m=dq d;subst l;simp[r];cases hP (e.take i) m with|none=>simp[df l]|some t=>rfl
 rintro p j ⟨⟨s,rfl⟩,g,f,n,u,h⟩;rw[an]at u h;rw[dN]at h;exact k o j f g q n h u
inductive SU(vs:V ah)(H:af)(Q:bj)(E:cf):Prop
 |a (p:aN):vs=[.b p.c]->fN H p->p.p->gj H Q ((l8 p).map ba.b)->SU vs H Q E
def Pz[l:aJ]:b' 5 52 SU:=by
 refine cF 3 ["record"] λd f h b e=>?_;obtain⟨d,rfl,g,f,k⟩:=e;refine⟨_,aj (aA 1 (aP O_ (c3 (a' k7 (W 0))))) (aj (nH (i:=2) I b I I (nK I I I I) (bZ (aP qc (c2 0))) (own:=[("record",3)]) (dn I) (λ_ _ _ _ _=>bE 3) (λ_ _ _ _ _=>fU (eI (mz (c0 3)))) (λ_ _ _ _ _=>(W 3))) (c1 (dX I b (bZ (W 2)) (own:=[("record",3)]) (dn I) (λ_ _ _ _ _=>bE 3) (λ_ _ _ _ _=>fU (c4 gh (c0 3) (g5 (cN h) (W 1) (c0 3) (λ_ _=>I)))) (λ_ _ _ _ _=>(W 3))))),g.b,I,d,I,g,f,λb m h n j=>?_⟩;refine⟨b,d.g,I,j,(g.a h).c,f,λB n p m o C F q=>?_⟩;have j:=h.b m;refine⟨d,I,g.a j,f,λo m u n h=>?_⟩;have r:=j.b u;have s:d.j.length<aH:=gX (cu (k' d) f);refine⟨_,I,⟨_,dU.b h⟩,λj f=>?_⟩;refine eR d.j ba.b ba.b (λb=>b.a.value.isNone) f h s ?_ (λj w t=>?_);intro f o q h z A m n;obtain⟨j,_⟩:=ba.d (((g.a r).a h).c f (ho o));refine⟨I,j,l.c.e,I,?_⟩;cases p:f.a.value with|none=>exact(n (by simp[p]) _ aW.d)|some x=>exact(m (by simp[p]) _ aW.d)
 have p:=r.b w;refine⟨_,I,⟨_,dU.b t⟩,λx r=>?_⟩;refine eR (d.j.filter λb:ba=>b.a.value.isNone) ba.b ba.b (λb:ba=>hP d.g (dq b)==O b.a.place) r t (lD (fv _ _) s) ?_ (λy E D=>k x y (p.b E) (p.e r) D);intro f o q h z A m n;have b:=ho (cY.mp o).1;obtain⟨j,_⟩:=ba.d (((g.a p).a h).c f b);obtain⟨g,d⟩:=M6 b;have b:fg q B (.a (dq f)) (O (.a (g:Int))):=by have b:=fg.a (k:=bb (dq f)) (h _ _ (w _ _ (u _ _ C)));rw[F (dq f),d]at b;exact b
 refine⟨I,j,l.c.a,I,j,l.c.b,I,_,_,I,b,I,bG (λe=>n ?_ _ aW.d) (λe=>m ?_ _ aW.d)⟩;have:=cj e;injection this with this;simp[d];omega;have e:=dH e;simp only[d,beq_eq_false_iff_ne,ne_eq,kO];intro b;exact e (by rw[b])
inductive SG(vs:V ah)(H:af)(Q:bj)(E:cf):Prop
 |a (p:aN):vs=[.b p.c]->fN H p->p.p->(∀d H',aW H H'->H d=aa->H' d=O (.b (fY p.b.a (eD p)))->Q (.b d) H')->SG vs H Q E
def Pp[m:aJ]:b' 7 53 SG:=by
 refine cF 2 [] λh e f c d=>?_;obtain⟨c,rfl,n,e,k⟩:=d;refine⟨_,aj (aA 1 jr) (aj (dY e_ I (bZ (ey h7 (ey h7 (aP Pn (c2 0)) (aP O' (c2 0))) (aP Pz (c2 0)))) (bE 2) (au (bD (c4 gH (c0 2) (n4 (c0 0))) (au (jt (cN f) (W 1) (c0 2) kE I)) bQ))) (c1 (W 1))),?_⟩;have f:=e;unfold aN.p at f;refineλg q=>?_;have f:aW h (al h g (.b [])):=aW.a q;refine⟨c,I,n.a f,e,λp j i r l=>?_⟩;refine⟨c,I,(n.a f).a i,e,λs r j t p=>?_⟩;refine⟨_,_,_,_,I,I,j _ _ l,p,(by rw[an,an,bn];have:=wc c;have:=vD c;omega),λl p=>?_⟩;have s:=((f.b i).b j).b (aW.a (o:=.a ((k9 c).map ba.b++(k4 c).map ba.b)) p);refine⟨c,I,n.a s,e,λr u f t l=>?_⟩;refine⟨_,_,_,_,I,I,f _ _ az,l,(by rw[bH,an,an,an,bn];have:=wc c;have:=vD c;have:=Dg c;omega),λl r=>?_⟩;have e:=s.b f;have t:=e.b (aW.a (o:=.a ((k9 c).map ba.b++(k4 c).map ba.b++(l8 c).map ba.b)) r);have e:(k9 c).map ba.b++(k4 c).map ba.b++(l8 c).map ba.b=(eD c).map ba.b:=by simp[eD]
 have s:u g=O (.b []):=f _ _ (aW.a p _ _ (j _ _ (i _ _ az)));have i:g≠l:=cX s r;rw[e];rw[e]at t;refine⟨_,I,⟨_,dU.b az⟩,ev (xs:=(eD c).map ba.b) (λe p f=>(∃o,p=[O (.b c.c),O (.b g),o])/\aW h f/\f l=O (.a ((eD c).map ba.b))/\f g=O (.b (fY c.b.a ((eD c).take e)))) ⟨⟨_,I⟩,t,az,(aL i).trans s⟩ ?_ ?_ ?_⟩;rintro e p f _ ⟨_,_,d,_⟩;exact dU.b d;rintro e i p f r ⟨⟨o,rfl⟩,l,j,h⟩;obtain⟨i,s,rfl⟩:=d2 r;have r:e<(eD c).length:=(bu.mp s).1;have t:i∈c.g:=by rcases cU.mp (a1 s)with d|d;rcases cU.mp d with d|d;exact CK d;exact BI d;exact Dh d
 have r:=n.a l;obtain⟨u,_⟩:=ba.d (r.c i t);obtain⟨n,_,_⟩:=he.i r.d;have t:(eD c).take (e+1)=(eD c).take e++[i]:=by rw[en,s];rfl
 refine⟨u,m.c.a,I,r.b,m.d.d,I,n,m.p.b,I,_,_,I,I,bG (λd=>?_) (λd=>?_)⟩;have d:=cj d;have n:i.a.place<c.b.a:=by omega
 refine⟨u,m.c.a,I,_,_,I,qO.a (k:=bb (i.a.place:Int)) h (by
  have:=Nd c.b.a ((eD c).take e);have:=JA e (eD c);have:(eD c).length<=3000000:=by unfold eD;rw[bH,bH];have:=wc c;have:=vD c;have:=Dg c;omega
  rw[bn];omega),?_⟩
 refine⟨⟨_,I⟩,l.f q,(aL (λe=>by rw[e,h]at j;cases j)).trans j,?_⟩;rw[az,t,BJ,ay n];have d:=dH d;have n:¬i.a.place<c.b.a:=by omega
 refine⟨⟨_,I⟩,l,j,?_⟩;rw[t,BJ,aw n];exact h;rintro p f ⟨⟨o,rfl⟩,l,j,h⟩;rw[an,dN]at h;exact k g f l q h
end
def iw(b:aN)(c:Int):V ba:=if c=1 then b.j else b.g.filter λa=>a.a.kind==0||a.a.kind==1
def k1(a:aN)(b:Int):Nat:=if b=1 then a.r else a.f
def vC(c:aN)(d a:Int):V ba:=(iw c a).filter λb=>aq (d<=(b.a.place:Int))
def ej(c:aN)(d:Int)(b:Nat)(a:Int):V ba:=(vC c d a).take b
def k8(d:aN)(a:Int)(c:Nat)(b:Int):Int:=if(ej d a c b).length=c then(match(ej d a c b).getLast? with|some c=>(c.a.place:Int)+1|none=>a)else eN a (k1 d b)
def Bb{c:aN}(a:b∈iw c d):b∈c.g:=by unfold iw at a;split at a;exact ho a;exact(cY.mp a).1
def Mq(a:aN)(b):(iw a b).length<=a.g.length:=by unfold iw;split;exact k' a;exact fv _ _
def p'{b:aN}(d:a∈ej b f e c):a∈b.g:=Bb (cY.mp (y0 d)).1
section
def L0(e:af)(h:bj)(j:V ba)(k:Int):Prop:=∀g i f d,aW e d->e g=aa->e f=aa->d g=O (.c jF i [("records",.b f),("goes_on",.a k)])->d f=O (.a (j.map ba.b))->h (.b g) d
inductive Rg(vs:V ah)(H:af)(Q:bj)(E:cf):Prop
 |a (x dx:Y) (lv:ah) (n:Int):vs=[.b x,lv,.a n]->H x=O (.c jF dx [])->(∀H',(∀b o,b≠x->H b=O o->H' b=O o)->H' x=O (.c jF dx [("records",lv),("goes_on",.a n)])->Q .c H')->Rg vs H Q E
def Cr[a:aJ]:dz 2 111 0 Rg:=by refine dF 0 [] λc f d e b=>?_;obtain⟨h,e,f,g,rfl,c,d⟩:=b;refine⟨_,aj (b7 (W 0) (W 1) I) (au (b7 (W 0) (W 2) I)),c,a.u.b,(bJ I),az,a.u.a,(bJ I),d _ (λc o a b=>?_) az⟩;rw[aL a,aL a];exact b
inductive SJ(vs:V ah)(H:af)(Q:bj)(E:cf):Prop
 |a (p:aN) (c:Int):vs=[.b p.c,.a c]->fN H p->p.p->gj H Q ((iw p c).map ba.b)->SJ vs H Q E
def Pt[g:aJ]:b' 5 112 SJ:=by
 refine cF 1 ["record"] λe h f j b=>?_;obtain⟨k,i,rfl,f,h,e⟩:=b;refine⟨_,aj (bD (c4 gh (W 1) a5) (c1 (aP qc (c2 0))) bQ) (c1 (dX I j (bZ (a' k7 (W 0))) (own:=[("record",2)]) (dn I) (λ_ _ _ _ _=>bE 2) (λ_ _ _ _ _=>fU (bV (wb ak) (c0 2) (js (c6 (di g.D) (di g.E))) (by with_unfolding_all rfl))) (λ_ _ _ _ _=>(W 2)))),I,bG (λb=>?_) (λb=>?_)⟩;have b:i=1:=by have:=cj b;injection this
 refine⟨k,I,f,h,?_⟩;unfold iw at e;rw[ay b]at e;exact e;have b:¬i=1:=λi=>dH b (by rw[i]);unfold iw at e;rw[aw b]at e;refine⟨f.b,I,k,I,f,h,λi b j l m=>?_⟩;refine⟨_,I,⟨_,dU.b m⟩,λn l=>?_⟩;refine eR k.g ba.b ba.b (λi:ba=>i.a.kind==0||i.a.kind==1) l m (gX h) ?_ (λb k o=>e n b (j.b k) (j.e l) o);intro l e b k m n h i;obtain⟨m,_⟩:=ba.d (((f.a j).a k).c l e);refine⟨I,m,g.c.c,I,n1,λj f=>?_⟩;have e:aW b (al b j (.d [.a 0,.a 1])):=aW.a f;refine⟨_,_,I,.inr (kA.b az),I,I,bG (λb=>i ?_ _ e) (λb=>h ?_ _ e)⟩;simp[iK,gv]at b;simp;omega;simp[iK,gv]at b;simp;omega
inductive Sb(vs:V ah)(H:af)(Q:bj)(E:cf):Prop
 |a (p:aN) (c:Int):vs=[.b p.c,.a c]->fN H p->p.p->vi H Q (k1 p c)->Sb vs H Q E
def O7[f:aJ]:b' 4 113 Sb:=by
 refine cF 0 [] λe d b c a=>?_;obtain⟨h,c,rfl,d,g,b⟩:=a;refine⟨_,aj (bD (c4 gh (W 1) a5) (c1 (aP sx (c2 0))) bQ) (c1 (c0 0)),I,bG (λa=>?_) (λa=>?_)⟩;have a:c=1:=by have:=cj a;injection this
 refine⟨h,I,d,g,?_⟩;unfold k1 at b;rw[ay a]at b;exact b;have a:¬c=1:=λc=>dH a (by rw[c]);unfold k1 at b;rw[aw a]at b;exact⟨d.b,f.d.a,I,b e aW.d⟩
inductive SI(vs:V ah)(H:af)(Q:bj)(E:cf):Prop
 |a (p:aN) (place:Int) (n:Nat) (c:Int):vs=[.b p.c,.a place,.a n,.a c]->1<=n->fN H p->p.p->L0 H Q (ej p place n c) (k8 p place n c)->SI vs H Q E
def v_[p:aJ]:b' 6 114 SI:=by
 refine cF 3 ["record"] λd h g l k=>?_;obtain⟨d,h,j,g,rfl,m,w,D,K⟩:=k;refine⟨_,aj (nH (i:=4) I l I I (nK I I I I) (bZ (aP Pt (c7 0 3))) (own:=[("record",6)]) (dn I) (λ_ _ _ _ _=>bE 6) (λ_ _ _ _ _=>fU (c4 q5 (c0 6) (W 1))) (λ_ _ _ _ _=>(W 6))) (aj (aA 5 (lu lw (W 4) q_ (iO (W 2)))) (aj (bD (c4 gh (c5 (W 5)) (W 2)) (c1 (hQ p.zo Cr (c6 (W 5) (ey mx (n4 (c8 (W 5) (q8 rm a5))) a5)))) bQ) (c1 (hQ p.zo Cr (c6 (W 5) (bM (xv I) (by rfl) p.zt boot_max (c6 (W 1) (aP O7 (c7 0 3))))))))),d,g,I,w,D,λl q n s m=>?_⟩;have s:(iw d g).length<aH:=gX (cu (Mq d g) D);refine⟨_,I,⟨_,dU.b m⟩,λt q=>?_⟩;refine eR (iw d g) ba.b ba.b (λl:ba=>aq (h<=(l.a.place:Int))) q m s ?_ (λL y u=>?_);intro r t s z A B m q;obtain⟨s,_⟩:=ba.d (((w.a n).a z).c r (Bb t));exact⟨I,s,p.c.a,I,_,_,I,I,bG (λk=>q k _ aW.d) (λk=>m k _ aW.d)⟩;have E:=n.b y;refine⟨_,I,_,_,I,dU.b u,λz B=>?_⟩;have k:f9 ((vC d h g).map ba.b) aa (O (j:Int))=(ej d h j g).map ba.b:=by unfold f9 ej;rw[HT.s4,HT.mc,Jk,Nat.sub_zero,ka,an,<-an (f:=ba.b),<-List.take_eq_take_min]
 have m:f9 (((iw d g).filter λl:ba=>aq (h<=(l.a.place:Int))).map ba.b) aa (O (j:Int))=(ej d h j g).map ba.b:=k;rw[m];have n:=E.b (aW.a (o:=.a ((ej d h j g).map ba.b)) B);refine⟨_,_,I,.inl (dU.b az),I,bG (λk=>?_) (λk=>?_)⟩;have k:(ej d h j g).length=j:=by have:=cj k;injection this with this;rw[an]at this;omega
 have t:ej d h j g≠[]:=λJ=>by rw[J]at k;simp at k;omega
 obtain⟨q,m,l⟩:∃q m,ej d h j g=q++[m]:=⟨_,_,(Jg t).symm⟩;have q:m∈d.g:=p' (by rw[l];simp);obtain⟨s,_⟩:=ba.d ((w.a n).c m q);have y:k8 d h j g=(m.a.place:Int)+1:=by unfold k8;rw[ay k,l];simp
 refine⟨_,I,_,_,_,m.b,I,I,dU.b az,(by rw[l,a6];exact xn _ m.b),s,p.c.a,I,_,_,I,I,λx q l G H=>?_⟩;have F:=gU (C:=jF) l G H;refine⟨x,q,_,_,I,az,λm A t=>⟨I,?_⟩⟩;have u:aW (al L z (.a ((ej d h j g).map ba.b))) m:=λp o s=>A p o (cX s l) (F p o s);rw[<-y]at t;exact K x q z m (n.b u) (n.e l) (E.e B) t (u _ _ az);have k:¬(ej d h j g).length=j:=λJ=>dH k (by rw[an,J]);have y:k8 d h j g=eN h (k1 d g):=by unfold k8;rw[aw k]
 refine⟨d,g,I,w.a n,D,λJ k=>?_⟩;refine⟨_,_,I,λx q l G H=>?_⟩;have F:=gU (C:=jF) l G H;refine⟨x,q,_,_,I,az,λm A t=>⟨I,?_⟩⟩;have u:aW J m:=λp o s=>A p o (cX s l) (F p o s);have p:(if(k1 d g:Int)>h then(k1 d g:Int)else h)=k8 d h j g:=by rw[y];split<;>omega
 rw[p]at t;exact K x q z m ((n.b k).b u) ((n.b k).e l) (E.e B) t (u _ _ (k _ _ az))
end
structure bo where
 a:Nat
 f:ar Nat
 c:V (Nat×V aG)
 j:Nat
 k:V aG
 d:Nat
 n:Nat
 b:V (Nat×V Nat)
def he.h(j:he):Nat×V aG:=(j.a,j.b.map (·.a))
def aN.a(y:aN):bo:=⟨y.m,y.s,y.d.map he.h,y.b.a,y.b.b.map (·.a),y.f,y.h,y.e.map λx=>(x.1,x.2.2)⟩
def bo.l(t:bo):bo:={t with n:=t.d}
def l7(a:bo)(b:Nat)(c:Nat×V aG):Bool:=aq ((a.d:Int) -((c.1:Int)+(a.a:Int))<(b:Int))
def bo.s(t:bo)(k:Nat):bo:={t with c:=t.c.dropWhile λu=>!l7 t k u}
def bo.m(t:bo):bo:={t with c:=t.c++[(t.j,t.k)],j:=t.d,k:=[],n:=t.d}
def bo.o(t:bo):bo:=match t.f with|none=>t.m|some u=>t.m.s u
def Bd{a:bo}(b:a.f=aa):a.o=a.m:=by unfold bo.o;rw[b]
def Be{a:bo}{k:Nat}(b:a.f=O k):a.o=a.m.s k:=by unfold bo.o;rw[b]
section
variable{n:ac->ar ag}
def lT(c:af)(d:bj)(e:V aE)(f:Y)(g:bo)(h:ah):Prop:=∀(b:aN) a,b.c=f->b.a=g->aM c a->am a (b.l::e)->d h a
end
def i7(l:V b)(x:b)(a:b->V c):(l++[x]).flatMap a=l.flatMap a++a x:=by simp
section
inductive Q6(vs:V ah)(H:af)(Q:bj)(E:cf):Prop
 |a (p:aN):vs=[.b p.c]->fN H p->Q (.a (match p.d with|[]=>(p.b.a:Int)|s::_=>(s.a:Int))) H->Q6 vs H Q E
def Oi[b:aJ]:dz 2 65 1 Q6:=by
 refine dF 0 [] λa f d e c=>?_;obtain⟨e,rfl,a,d⟩:=c;refine⟨_,aj (bD (c4 kD (c5 (c0 0)) a5) (c1 (n4 (c8 (c0 0) a5))) bQ) (c1 (n4 (c0 0))),a.b,b.d.c,I,_,_,I,.inl (dU.b a.e),_,_,I,I,?_⟩;cases c:e.d with
 |nil=>rw[c]at d;obtain⟨e,_,_⟩:=he.i a.d;exact⟨a.b,b.d.d,I,e,b.p.b,I,d⟩
 |cons e f=>rw[c]at d;have g:aq ((0:Int)<(((e::f).map he.d).length:Int))=ab:=dm (by rw[b1,cz];omega);show if aq ((0:Int)<(((e::f).map he.d).length:Int))=ab then _ else _;rw[g];obtain⟨f,_,_⟩:=he.i (a.f e (by rw[c];exact cr));exact⟨a.b,b.d.c,I,_,_,_,e.d,I,I,dU.b a.e,(by rw[c];exact dJ (j:=0) I),f,b.p.b,I,d⟩
inductive Ra(vs:V ah)(H:af)(Q:bj)(E:cf):Prop
 |a (p:aN):vs=[.b p.c]->fN H p->Q (.a ((p.f:Int) -(p.h:Int))) H->Ra vs H Q E
def Oo[a:aJ]:dz 2 65 3 Ra:=by refine dF 0 [] λb f d e c=>?_;obtain⟨e,rfl,b,d⟩:=c;exact⟨_,c1 (ey q7 (c0 0) (c0 0)),b.b,a.d.a,I,b.b,a.d.b,I,_,_,I,I,d⟩
inductive Dc(vs:V ah)(H:af)(Q:bj)(E:cf):Prop
 |a (pa dx sa sx:Y) (fs ss:V (ac×ah)) (f z:Nat):vs=[.b pa,.b sa]->H pa=O (.c bN dx fs)->fs.lookup ("segment_size":ac)=O (ah.a z)->H sa=O (.c fC sx ss)->ss.lookup ("first":ac)=O (ah.a f)->Q (.a ((f:Int)+(z:Int))) H->Dc vs H Q E
def vZ[a:aJ]:dz 2 65 6 Dc:=by refine dF 0 [] λc f d e b=>?_;obtain⟨k,h,l,n,j,m,i,o,rfl,d,f,e,c,g⟩:=b;exact⟨_,c1 (ey mx (c0 1) (c0 0)),e,a.p.b,c,d,a.d.g,f,_,_,I,I,g⟩
inductive Q7(vs:V ah)(H:af)(Q:bj)(E:cf):Prop
 |a (p:aN) (R:V aE):vs=[.b p.c]->am H (p.l::R)->lT H Q R p.c p.a.l .c->Q7 vs H Q E
def sr[e:aJ]:dz 2 65 10 Q7:=by refine dF 0 [] λf g a d b=>?_;obtain⟨a,i,rfl,d,g⟩:=b;refine⟨_,au (b7 (W 0) (c0 0) I),?_⟩;have b:=d.i (L:=a.n);have d:f a.c=O (.c bN a.k (cx a)):=b.b 0 I;exact⟨d,e.d.a,I,d,e.d.b,(bJ I),g {a with h:=a.f} _ I I (aM.c.b d bY) (am.h (L:=aN.n {a with h:=a.f}) (b.j 0 I (cx {a with h:=a.f})))⟩
inductive Ri(vs:V ah)(H:af)(Q:bj)(E:cf):Prop
 |a (x dx:Y) (f:Nat) (R:V aE):vs=[.b x,.a f]->am H (a0 x fC dx []::R)->(∀la H',aM H H'->am H' (he.c ⟨x,dx,la,f,[]⟩::R)->Q .c H')->Ri vs H Q E
def Ct[d:aJ]:dz 2 64 0 Ri:=by refine dF 0 [] λe i f h g=>?_;obtain⟨j,i,f,h,rfl,e,l⟩:=g;refine⟨_,aj (b7 (W 0) (W 1) I) (au (b7 (W 0) (bC ai) I)),?_⟩;have g:=e.b 0 I;refine⟨g,d.p.b,(bJ I),?_⟩;have h:=e.n [("first",.a (f:Int))];refine⟨co _,λj i=>?_⟩;have e:=h.f i (.a []);have h:=e.b 1 I;refine⟨h,d.p.a,(bJ I),?_⟩;have d:=e.j 1 I [("first",.a (f:Int)),("records",.b j)];exact l j _ (((aM.c.b g bY).a (aW.a i).c).b h bY) ((d.a 1 I).k (by simp[he.c]))
inductive Q_(vs:V ah)(H:af)(Q:bj)(E:cf):Prop
 |a (p:aN) (R:V aE) (k:Nat):vs=[.b p.c]->am H (p.l::R)->p.s=O k->lT H Q R p.c (p.a.s k) .c->Q_ vs H Q E
def Om[m:aJ]:dz 3 65 8 Q_:=by
 refine dF 0 [] λf h e g n=>?_;obtain⟨e,k,h,rfl,l,t,x⟩:=n;refine⟨_,au (yb e_ (c4 kD (c5 (c0 0)) a5) (aj (bD (c4 gH (ey q7 (c0 0) (bT vZ (W 0) (c3 (c8 (c0 0) a5)))) (c0 0)) (au HI) bQ) (au (a9 (eY e9 Ku PySem.F.type_list_pop Hk (c0 0) (c3 a5)))))),IP (λq g=>q=[O (.b e.c)]/\∃i,aM f g/\am g (aN.l {e with d:=i}::k)/\(i.map he.h).dropWhile (λf=>!l7 e.a h f)=(e.d.map he.h).dropWhile (λf=>!l7 e.a h f)) (λq g=>match g e.q with|some (.a o)=>o.length|_=>0) ⟨I,e.d,aM.c,l,I⟩ ?_ ?_⟩;rintro q g ⟨rfl,i,u,p,r⟩;have n:=p.i (L:=aN.n {e with d:=i});have k:g e.c=O (.c bN e.k (cx {e with d:=i})):=n.b 0 I;have l:g e.q=O (.a (i.map he.d)):=n.e 1 I;have w:=aN.u (p.d 0 I);refine⟨k,m.d.c,I,_,_,I,.inl (dU.b l),_,_,I,I,?_⟩;cases i with
 |nil=>
  refine x {e with d:=[]} g I ?_ u p;show(⟨e.m,e.s,[],_,_,_,_,_⟩:bo)={e.a with c:=(e.d.map he.h).dropWhile λf=>!l7 e.a h f};rw[<-r]
  rfl
 |cons f i=>
  have s:aq ((0:Int)<(((f::i).map he.d).length:Int))=ab:=dm (by rw[b1,cz];omega);show if aq ((0:Int)<(((f::i).map he.d).length:Int))=ab then _ else _;rw[s];obtain⟨y,_,_⟩:=he.i (w.f f cr);have s:(cx {e with d:=f::i}).lookup ("keep":ac)=O (ah.a (h:Int)):=by show O (dj e.s)=_;rw[t];rfl
  refine⟨k,m.d.a,I,k,I,k,m.d.c,I,_,_,_,_,I,I,dU.b l,dJ (j:=0) I,e.c,e.k,f.e,f.f,_,_,f.a,e.m,I,k,I,y,I,_,_,I,I,k,m.d.f,s,_,_,I,I,?_⟩;have w:l7 e.a h f.h=aq ((e.f:Int) -((f.a:Int)+(e.m:Int))<(h:Int)):=I;refine bG (λs=>?_) (λs=>?_)
  ·
   have t:l7 e.a h f.h=ab:=w.trans s;refine x {e with d:=f::i} g I ?_ u p;show(⟨e.m,e.s,(f::i).map he.h,_,_,_,_,_⟩:bo)={e.a with c:=(e.d.map he.h).dropWhile λf=>!l7 e.a h f};rw[<-r,b1,List.dropWhile_cons_of_neg (by rw[t];decide)]
   rfl
  have t:l7 e.a h f.h=ae:=w.trans s;refine⟨k,m.d.c,I,.inl ⟨I,_,dU.b l⟩,e.q,_,0,0,f.d,I,I,l,by decide,by decide,(by simp[u7];try omega),I,⟨I,i,u.b l iz,?_,?_⟩,?_⟩;have h:=n.p 1 I (.a (i.map he.d));exact am.h (L:=aN.n {e with d:=i}) (h.F (D:=f.c) (B:=i.flatMap (he.c)) 2 (by simp[aN.n]));rw[<-r,b1,List.dropWhile_cons_of_pos (by rw[t];rfl)];show(match al g e.q (.a _) e.q with|some (.a o)=>o.length|_=>0)<(match g e.q with|some (.a o)=>o.length|_=>0);rw[az,l];simp
 intro q g f h o e;obtain⟨f,p,e⟩:=xK e;obtain⟨f,rfl,e⟩:=nJ e;obtain⟨g,h,i,r,t,k,l,q,j,m,n,e⟩:=e;obtain⟨u,f,s⟩:=j2 e;cases f;exact uh p ⟨g,h,i,r,t,k,l,q,j,m,n,o _ _ s⟩
end
def eS:V (Nat×Y×V Nat)->Nat->ar (Y×V Nat)
 |[],_=>aa
 |b::c,a=>if b.1=a then O b.2 else eS c a
def ql(b:V (Nat×Y×V Nat))(c:Nat):bx (dc b) (.inl (c:Int))=(eS b c).map λa=>ah.b a.1:=by
 induction b with|nil=>rfl|cons a b d=>show bx ((bb (a.1:Int),ah.b a.2.1)::dc b) _=_;by_cases b:a.1=c;rw[g7 (by rw[b])];simp[eS,b];rw[g6 (λa=>b (by have:=jQ a;omega)),d];simp[eS,b]
def Tb(a:eS c b=O f):∃d e,c=d++(b,f)::e:=by
 induction c with
 |nil=>cases a
 |cons c i h=>
  by_cases g:c.1=b;simp only[eS,g,if_true]at a;refine⟨[],i,?_⟩;have:c=(b,f):=by cases c;simp only[kO]at a;simp_all
  rw[this];rfl;simp only[eS,g,if_false]at a;obtain⟨d,e,rfl⟩:=h a;exact⟨c::d,e,I⟩
def wr(f:cD c (dk d))(e:eS d g=O b):c b.1=O (.a (a4 b.2)):=by obtain⟨c,d,rfl⟩:=Tb e;exact f (b.1,.a (a4 b.2)) (by simp[dk])
def cZ:V (Nat×V Nat)->Nat->V Nat
 |[],_=>[]
 |a::r,s=>if a.1=s then a.2 else cZ r s
def NN(c:V (Nat×Y×V Nat))(b):cZ (c.map λa=>(a.1,a.2.2)) b=((eS c b).map (·.2)).getD []:=by
 induction c with|nil=>rfl|cons a c d=>by_cases c:a.1=b;simp[cZ,eS,c];simp only[b1,cZ,eS,c,if_false];exact d
section
inductive Rc(vs:V ah)(H:af)(Q:bj)(E:cf):Prop
 |a (p:aN) (s:Nat):vs=[.b p.c,.a s]->fN H p->(∀l H',aW H H'->H' l=O (.a (a4 (cZ p.a.b s)))->Q (.b l) H')->Rc vs H Q E
def Cq[f:aJ]:dz 2 65 4 Rc:=by
 refine dF 0 [] λd e h c b=>?_;obtain⟨g,c,rfl,e,k⟩:=b;refine⟨_,c1 (x5 (cN h) (c0 0) (W 1) (bC ai) ⟨I,I,I,I⟩),e.b,f.d.e,I,_,I,.inl ⟨_,.inl e.g⟩,co _,λh i=>?_⟩;have f:aW d (al d h (.a [])):=aW.a i;refine⟨_,fg.a (k:=bb (c:Int)) (f _ _ e.g),?_⟩;rw[ql];have d:cZ g.a.b c=((eS g.e c).map (·.2)).getD []:=NN g.e c;cases b:eS g.e c with|none=>rw[b]at d;exact k h _ f (by rw[az,d];rfl)|some c=>rw[b]at d;exact k c.1 _ f (by rw[f _ _ (wr e.h b),d];rfl)
inductive Dd(vs:V ah)(H:af)(Q:bj)(E:cf):Prop
 |a (p:aN) (R:V aE):vs=[.b p.c]->am H (p.l::R)->p.d.length<=1000000->lT H Q R p.c p.a.o .c->Dd vs H Q E
def Oj[h:aJ]:dz 4 65 7 Dd:=by
 refine dF 0 [] λf j e i g=>?_;obtain⟨e,j,rfl,i,k,q⟩:=g;refine⟨_,aj (a9 (eY e9 gL ha gG (c0 0) (c3 (c0 0)))) (aj (b7 (W 0) (hQ h.zp Ct (c3 (c0 0))) I) (aj (a9 (a' sr (W 0))) (au (bD (eI (nF (c0 0))) (au (a9 (a' Om (W 0)))) bQ)))),?_⟩;have g:=i.i (L:=e.n);have k:f e.c=O (.c bN e.k (cx e)):=g.b 0 I;have i:f e.q=O (.a (e.d.map he.d)):=g.e 1 I;refine⟨k,h.d.c,I,.inl ⟨I,_,dU.b i⟩,k,h.d.d,I,_,_,_,I,I,i,(by rw[an,bn];omega),?_⟩;have k:=g.p 1 I (.a (e.d.map he.d++[e.b.d]));have p:al f e.q (.a (e.d.map he.d++[e.b.d])) e.c=O (.c bN e.k (cx e)):=k.b 0 I;have t:aM f (al f e.q (.a (e.d.map he.d++[e.b.d]))):=aM.c.b i iz;refine⟨p,h.d.a,I,λo g n l m=>?_⟩;have p:=k.t (C:=fC) n l m;refine⟨o,g,e.f,_,I,p,λr i u k=>⟨I,?_⟩⟩;have s:=(t.a (gU n l m).c).a u;have l:i e.c=O (.c bN e.k (cx e)):=k.b 1 I;refine⟨l,h.d.d,(bJ I),?_⟩;let m:he:=⟨o,g,r,e.f,[]⟩
 let g:aN:={e with d:=e.d++[e.b],b:=m}
 have n:=k.j 1 I (cx g);have o:am (al i e.c (.c bN e.k (cx g))) (g.l::j):=by
  refine am.h (L:=g.n) ?_;have k:=n.a 4 (B:=e.b.c) I;have n:=k.w 3 (B:=e.d.flatMap (he.c)) I;have k:=n.x 3;have n:(e.d++[e.b]).flatMap (he.c)=e.d.flatMap (he.c)++e.b.c:=i7 _ _ _;have p:(e.d++[e.b]).map he.d=e.d.map he.d++[e.b.d]:=by simp
  show am _ ([a0 e.c bN e.k (cx g),[(e.q,cw.a ((e.d++[e.b]).map he.d))],(e.d++[e.b]).flatMap (he.c),m.c,[(e.t,cw.b (dc e.e))],dk e.e]++j);rw[n,p];exact k
 have n:aM f (al i e.c (.c bN e.k (cx g))):=s.b l bY;have m:al i e.c (.c bN e.k (cx g)) e.c=O (.c bN e.k (cx g)):=az;refine⟨m,I,g,j,I,o,λf l k p s i=>?_⟩;have r:=n.a s;have m:l f.c=O (.c bN f.k (cx f)):=(i.i (L:=f.n)).b 0 I;have n:f.s=e.s:=cb bo.f p;have o:f.a=e.a.m:=by
  rw[p];show bo.l (⟨e.m,e.s,(e.d++[e.b]).map he.h,e.f,[],e.f,e.h,_⟩:bo)=_;simp only[a6,b1,nQ]
  rfl
 rw[<-show f.c=e.c from k];refine⟨m,h.d.f,I,?_⟩;cases g:f.s with|none=>refine q f l k ?_ r i;rw[o,Bd (show e.a.f=aa from(n.symm.trans g))]|some h=>refine⟨m,I,f,j,h,I,i,g,λu l s t w p=>?_⟩;refine q u l (s.trans k) ?_ (r.a w) p;rw[t,o,Be (show e.a.f=O h from(n.symm.trans g))]
end
def S_(b:eS e c=O g):∃d f,e=d++(c,g)::f/\∀a∈d,a.1≠c:=by
 induction e with
 |nil=>cases b
 |cons a i h=>
  by_cases e:a.1=c;simp only[eS,e,if_true]at b;refine⟨[],i,?_,by simp⟩;have:a=(c,g):=by cases a;simp only[kO]at b;simp_all
  rw[this];rfl;simp only[eS,e,if_false]at b;obtain⟨d,f,rfl,c⟩:=h b;exact⟨a::d,f,I,λg b=>by rcases bW.mp b with rfl|b;exact e;exact c g b⟩
def Ta(b:eS a c=aa):∀d∈a,d.1≠c:=by
 induction a with|nil=>simp|cons d a e=>by_cases a:d.1=c;simp[eS,a]at b;simp only[eS,a,if_false]at b;intro d c;rcases bW.mp c with rfl|c;exact a;exact e b d c
def d7:V (Nat×V Nat)->Nat->Nat->V (Nat×V Nat)
 |[],b,a=>[(b,[a])]
 |c::d,b,a=>if c.1=b then(c.1,c.2++[a])::d else c::d7 d b a
def L4(d:∀c∈b,c.1≠a):d7 (b++(a,g)::f) a e=b++(a,g++[e])::f:=by
 induction b with|nil=>simp[d7]|cons c a b=>have:=d c cr;simp only[gJ,d7,this,if_false];rw[b λc a=>d c (cJ _ a)]
def L7(d:∀c∈a,c.1≠b):d7 a b e=a++[(b,[e])]:=by
 induction a with|nil=>rfl|cons c a b=>have:=d c cr;simp only[gJ,d7,this,if_false];rw[b λc a=>d c (cJ _ a)]
def bo.g(t:bo)(r:aG):bo:={t with k:=t.k++[{r with place:=t.d}],d:=t.d+1,b:=if 0<r.seq then d7 t.b r.sender t.d else t.b}
def bo.h(t:bo)(r:aG):bo:=if t.d+1=t.j+t.a then(t.g r).o else t.g r
def ba.i(j:ba):j.f=a0 j.e d8 j.g (et (.a j.a.place) j.a j.c)++gZ j.c j.a.value:=by simp[ba.f]
structure aN.w(p:aN):Prop where
 a:p.d.length<=1000000
 c:p.b.b.length<=1000000
 d:p.e.length<=1000000
 b:∀x∈p.e,x.2.2.length<=1000000
section
inductive Rd(vs:V ah)(H:af)(Q:bj)(E:cf):Prop
 |a (p:aN) (l:ba) (R:V aE):vs=[.b p.c,.b l.e]->am H (p.l::l.h::R)->p.w->lT H Q R p.c (p.a.h l.a) (.a p.f)->Rd vs H Q E
def v0[n:aJ]:dz 5 65 5 Rd:=by
 refine dF 1 [] λm g l zb j=>?_;obtain⟨g,h,r,rfl,q,C,J⟩:=j;refine⟨_,aj (aA 2 (c0 0)) (aj (b7 (W 1) (W 2) I) (aj (a9 (eY e9 gL ha gG (n4 (c0 0)) (c2 1))) (aj (pd (W 0) a5 mq) (aj (bD (c4 kD (c0 1) a5) (au (a9 (eY e9 gL ha gG (PK (cN l) (c0 0) (c0 1) (bC ai)) (c2 2)))) bQ) (aj (bD (c4 gh (c0 0) (bT vZ (W 0) (c3 (c0 0)))) (au (a9 (a' Oj (W 0)))) bQ) (c1 (W 2))))))),?_⟩;have l:=((q.a 1 I).i (L:=[a0 h.e d8 h.g (et .c h.a h.c),gZ h.c h.a.value])).a 2 I;have j:am m (g.n++(a0 h.e d8 h.g (et .c h.a h.c)::gZ h.c h.a.value::r)):=l.i (L:=g.n);have l:m g.c=O (.c bN g.k (cx g)):=j.b 0 I;have q:m h.e=O (.c d8 h.g (et .c h.a h.c)):=j.b 6 I;refine⟨l,n.d.a,I,q,n.c.a,(bJ I),?_⟩;let z:ba:={h with a:={h.a with place:=g.f}}
 have l:=j.j 6 I (et (.a g.f) h.a h.c);have t:aM m (al m h.e (.c d8 h.g (et (.a g.f) h.a h.c))):=aM.c.b q bY;have q:al m h.e (.c d8 h.g (et (.a g.f) h.a h.c)) g.c=O (.c bN g.k (cx g)):=l.b 0 I;obtain⟨s,j,_⟩:=he.i (l.d 3 (B:=g.b.c) I);refine⟨q,n.d.d,I,s,n.p.a,I,.inl ⟨I,_,dU.b j⟩,_,_,_,I,I,j,(by rw[an,bn];have:=C.c;omega),?_⟩;have s:=l.L 3 (B1:=a0 g.b.e fC g.b.f [("first",.a g.b.a),("records",.b g.b.g)]) (a:=g.b.g) (o:=.a (g.b.b.map ba.b)) (B2:=g.b.b.flatMap (ba.f)++[]) I (.a (g.b.b.map ba.b++[h.b]));have u:=t.b (o':=.a (g.b.b.map ba.b++[h.b])) j iz;let A:he:={g.b with b:=g.b.b++[z]}
 have q:am (al (al m h.e (.c d8 h.g (et (.a g.f) h.a h.c))) g.b.g (.a (g.b.b.map ba.b++[h.b])))
   ([a0 g.c bN g.k (cx g),[(g.q,cw.a (g.d.map he.d))],g.d.flatMap (he.c),A.c,[(g.t,cw.b (dc g.e))],dk g.e]++r):=by
  have j:=(s.a 7 I).a 7 I;have l:=am.h (L:=[a0 h.e d8 h.g (et (.a g.f) h.a h.c),gZ h.c h.a.value]) j;have j:=l.w 3 I;have G:A.c=(a0 g.b.e fC g.b.f [("first",.a g.b.a),("records",.b g.b.g)]++(g.b.g,cw.a (g.b.b.map ba.b++[h.b]))::(g.b.b.flatMap (ba.f)++[]))++[a0 h.e d8 h.g (et (.a g.f) h.a h.c),gZ h.c h.a.value].flatten:=by
   show[a0 g.b.e fC g.b.f [("first",.a g.b.a),("records",.b g.b.g)],[(g.b.g,cw.a ((g.b.b++[z]).map ba.b))],(g.b.b++[z]).flatMap (ba.f)].flatten=_;rw[i7,a6,ba.i];simp only[fj,pu,dM,b8,gJ,lB]
   rfl
  rw[G];exact j
 generalize l:al (al m h.e (.c d8 h.g (et (.a g.f) h.a h.c))) g.b.g (.a (g.b.b.map ba.b++[h.b]))=j at q u;have s:al (al m h.e (.c d8 h.g (ef "place" (.a g.f) (et .c h.a h.c)))) g.b.g (.a (g.b.b.map ba.b++[.b h.e]))=j:=l;rw[s];have t:j g.c=O (.c bN g.k (cx g)):=q.b 0 I;refine⟨t,n.d.a,I,_,_,I,I,_,_,t,(bJ I),?_⟩;let l:aN:={g with b:=A,f:=g.f+1}
 have s:am (al j g.c (.c bN g.k (cx l))) (l.n++r):=q.j 0 I (cx l);have M:aM m (al j g.c (.c bN g.k (cx l))):=u.b t bY;have q:al j g.c (.c bN g.k (ef "next_place" (.a ((g.f:Int)+1)) (cx g)))=al j g.c (.c bN g.k (cx l)):=I;rw[q];generalize al j g.c (.c bN g.k (cx l))=q at s M;have N:q h.e=O (.c d8 h.g (et (.a g.f) h.a h.c)):=by have:=(he.i (s.d 3 (B:=A.c) I)).2.2 z (by simp[A]);exact(ba.d this).1
 have Q:∀(j:aN) u,j.c=g.c->j.a=g.a.g h.a->j.d.length<=1000000->aM m u->am u (j.l::r)->∀o,ft (ym (uc (po yc (rh ak (j8 0) "next_place") (mC bN "behind" (Dc) [] mh (j8 0) (pk (rh ak (j8 0) "open_segment") j7)))) (ub (mC bN "close_segment" (Dd) [] mh (j8 0) j7)) yo) (rk (j8 2)) {a:=λ_ m=>(n3 oM (f1 (ck (aI 65) 5)++[]) (ck (aI 65) 5) 4 1 Rd).a .c m,b:=(n3 oM (f1 (ck (aI 65) 5)++[]) (ck (aI 65) 5) 4 1 Rd).a} [O (.b g.c),o,O (.a g.f)] u:=by
  intro j u H D S K t o;have w:u g.c=O (.c bN j.k (cx j)):=by rw[<-H];exact(t.i (L:=j.n)).b 0 I
  obtain⟨F,_,_⟩:=he.i (aN.u (t.d 0 I)).d;have E:j.f=g.f+1:=cb bo.d D;have m:j.b.a=g.b.a:=cb bo.j D;have P:j.m=g.m:=cb bo.a D;refine⟨w,n.d.a,I,w,I,w,n.d.d,I,g.c,j.k,j.b.e,j.b.f,_,_,j.b.a,j.m,I,w,I,F,I,I,?_⟩;rw[E,m,P];refine bG (λm=>?_) (λm=>?_);have m:g.f+1=g.b.a+g.m:=by have:=cj m;injection this with this;omega
  refine⟨w,I,j,r,by rw[H];rfl,t,S,λT E P R U F=>?_⟩;refine J T E (P.trans H) ?_ (K.a U) F;rw[R,D];unfold bo.h;rw[ay (show g.a.d+1=g.a.j+g.a.a from m)];have m:¬g.f+1=g.b.a+g.m:=λE=>dH m (by congr 1;omega)
  refine J j u H ?_ K t;rw[D];unfold bo.h;rw[aw (show¬g.a.d+1=g.a.j+g.a.a from m)]
 refine⟨N,n.c.f,I,_,_,I,I,bG (λu=>?_) (λu=>?_)⟩;have u:0<h.a.seq:=by have:=cj u;omega
 have w:q g.c=O (.c bN g.k (cx l)):=s.b 0 I;have K:q g.t=O (.b (dc g.e)):=s.e 4 I;have za:g.a.g h.a={g.a with k:=g.a.k++[{h.a with place:=g.f}],d:=g.f+1,b:=d7 g.a.b h.a.sender g.f}:=by
  unfold bo.g;rw[ay u]
  rfl
 refine⟨w,n.d.e,I,_,I,.inl ⟨_,.inl K⟩,N,n.c.d,I,co _,λm J=>?_⟩;have D:aW q (al q m (.a [])):=aW.a J;refine⟨_,bb (h.a.sender:Int),D _ _ K,I,(by simp only[dc,an];have:=C.d;rw[bn];omega),λv n=>?_,λn=>?_⟩;rw[ql]at n;cases w:eS g.e h.a.sender with
 |none=>rw[w]at n;cases n
 |some x=>
  rw[w]at n;obtain rfl:ah.b x.1=v:=bA n;obtain⟨U,X,H,R⟩:=S_ w;have P:q x.1=O (.a (a4 x.2)):=wr (s.d 5 (B:=dk g.e) I) w;have N:=D _ _ P;refine⟨.inl ⟨I,_,dU.b N⟩,_,_,_,I,I,N,(by rw[an,bn];have:=C.b _ (by rw[H];simp:(h.a.sender,x)∈g.e);simp only at this;omega),?_⟩;have t:am (al q m (.a [])) (l.n++r):=s.o λa o G=>D a o G;have F:=t.L 5 (B1:=dk U) (a:=x.1) (o:=.a (a4 x.2)) (B2:=dk X) (by show O (dk g.e)=_;rw[H];simp[dk]) (.a (a4 x.2++[.a g.f]))
  let j:aN:={l with e:=U++(h.a.sender,x.1,x.2++[g.f])::X}
  refine Q j _ I ?_ C.a ((M.a D.c).b N iz) (am.h (L:=j.n) ?_) _;rw[za];have N:d7 g.a.b h.a.sender g.f=j.e.map λy=>(y.1,y.2.2):=by show d7 (g.e.map λy=>(y.1,y.2.2)) h.a.sender g.f=_;rw[H];simp only[a6,b1,j];rw[L4];intro y S;obtain⟨E,T,rfl⟩:=bm.mp S;exact R E T
  rw[N];show(⟨g.m,g.s,_,_,(g.b.b++[z]).map (·.a),_,_,_⟩:bo)=_;rw[a6]
  rfl
  have P:dc j.e=dc g.e:=by rw[H];simp[dc,j]
  have H:dk j.e=dk U++(x.1,cw.a (a4 x.2++[.a g.f]))::dk X:=by simp[dk,j]
  show am _ ([a0 g.c bN g.k (cx l),[(g.q,cw.a (g.d.map he.d))],g.d.flatMap (he.c),A.c,[(g.t,cw.b (dc j.e))],dk j.e]++r);rw[P,H];exact F
 rw[ql]at n;have w:eS g.e h.a.sender=aa:=by cases G:eS g.e h.a.sender with|none=>rfl|some x=>rw[G]at n;cases n
 have R:=Ta w;have t:=s.f J (.a []);have zb:m≠g.t:=λE=>by rw[E,K]at J;cases J
 have n:al (al q m (.a [])) g.t (.b (cH (dc g.e) (.inl (h.a.sender:Int)) (.b m))) m=O (.a []):=(aL zb).trans az;refine⟨.inl ⟨I,_,dU.b n⟩,_,_,_,I,I,n,(by show 0<aH;decide),?_⟩;have F:=(t.p 5 I (.b (cH (dc g.e) (.inl (h.a.sender:Int)) (.b m)))).p 0 I (.a ([]++[.a g.f]));let j:aN:={l with e:=g.e++[(h.a.sender,m,[g.f])]}
 refine Q j _ I ?_ C.a (((M.a D.c).b (D _ _ K) m').b n iz) (am.h (L:=j.n) ?_) _;rw[za];have N:d7 g.a.b h.a.sender g.f=j.e.map λy=>(y.1,y.2.2):=by show d7 (g.e.map λy=>(y.1,y.2.2)) h.a.sender g.f=_;rw[L7];simp[j];intro y S;obtain⟨E,T,rfl⟩:=bm.mp S;exact R E T
 rw[N];show(⟨g.m,g.s,_,_,(g.b.b++[z]).map (·.a),_,_,_⟩:bo)=_;rw[a6]
 rfl
 have P:dc j.e=cH (dc g.e) (.inl (h.a.sender:Int)) (.b m):=by rw[pf _ (by rw[ql,w];rfl)];simp[dc,j]
 have H:dk j.e=dk g.e++[(m,cw.a ([]++[.a g.f]))]:=by simp[dk,j]
 have m:=am.w F 5 (B:=dk g.e) I;show am _ ([a0 g.c bN g.k (cx l),[(g.q,cw.a (g.d.map he.d))],g.d.flatMap (he.c),A.c,[(g.t,cw.b (dc j.e))],dk j.e]++r);rw[P,H];exact m;have u:¬0<h.a.seq:=by have:=dH u;omega
 refine Q l q I ?_ C.a M (am.h (L:=l.n) s) _;unfold bo.g;rw[aw u];show(⟨g.m,g.s,_,_,(g.b.b++[z]).map (·.a),_,_,_⟩:bo)=_;rw[a6]
 rfl
end
def k5(b:V (aU×ah))(a:Nat×V aG):Nat×V aG:=(a.1,a.2.filter λc=>(bx b (.inl (c.place:Int))).isNone)
def bo.q(t:bo)(u:V (aU×ah)):bo:={t with c:=t.c.map (k5 u)}
section
inductive Q9(vs:V ah)(H:af)(Q:bj)(E:cf):Prop
 |a (p:aN) (d:Y) (kvs:V (aU×ah)) (R:V aE):vs=[.b p.c,.b d]->am H (p.l::[(d,.b kvs)]::R)->p.p->lT H Q ([(d,.b kvs)]::R) p.c (p.a.q kvs) .c->Q9 vs H Q E
def Ol[t:aJ]:dz 2 65 9 Q9:=by
 refine dF 2 ["record"] λf e h j n=>?_;obtain⟨e,u,i,H,rfl,g,r,k⟩:=n;refine⟨_,au (dY e_ I (bZ (c0 0)) (bE 2) (au (b7 (W 2) (dX I j (bZ (c0 2)) (own:=[("record",3)]) (dn I) (λ_ _ _ _ _=>bE 3) (λ_ _ _ _ _=>fU (eI (my (cN h) (c0 3) (W 1)))) (λ_ _ _ _ _=>(W 3))) I))),?_⟩;have j:=g.i (L:=e.n);have g:f e.c=O (.c bN e.k (cx e)):=j.b 0 I;have h:f e.q=O (.a (e.d.map he.d)):=j.e 1 I;refine⟨g,t.d.c,I,_,I,⟨_,dU.b h⟩,ev (xs:=e.d.map he.d) (λh x l=>(∃C D,x=[O (.b e.c),O (.b u),C,D])/\aM f l/\∃g:V he,am l (aN.n {e with d:=g++e.d.drop h}++([(u,.b i)]::H))/\g.map he.d=(e.d.take h).map he.d/\g.map he.h=(e.d.take h).map λf=>k5 i f.h) ⟨⟨_,_,I⟩,aM.c,[],j,I,I⟩ ?_ ?_ ?_⟩;rintro h x l _ ⟨_,_,g,m,p,_⟩;have:l e.q=O (.a ((g++e.d.drop h).map he.d)):=m.e 1 I;rw[a6,p,<-a6,gK]at this;exact dU.b this;rintro h f x l o ⟨⟨C,D,rfl⟩,E,g,m,p,s⟩;obtain⟨f,j,rfl⟩:=d2 o;have o:=(bu.mp j).1;have z:e.d.drop h=f::e.d.drop (h+1):=by rw[ic o,(bu.mp j).2]
 have A:e.d.take (h+1)=e.d.take h++[f]:=by rw[en,j];rfl
 have P:l u=O (.b i):=m.e 6 I;have j:cD l (f.c):=(cD.d.mp (m.d 2 (B:=(g++e.d.drop h).flatMap (he.c)) I)) f (by rw[z];simp);obtain⟨G,q,S⟩:=he.i j;have K:f.b.length<aH:=by
  refine gX (cu ?_ r);unfold aN.g;rw[bH];have:f.b.length<=(e.d.flatMap (·.b)).length:=by
   have o:=BC (α:=Unit) e.d (h+1);rw[A,g8,bH]at o;simp at o;have y:(e.d.flatMap (·.b)).length=(e.d.map λj=>j.b.length).sum:=by simp[pz]
   rw[y];omega
  omega
 refine⟨G,t.p.a,I,_,I,⟨_,dU.b q⟩,λr J=>?_⟩;refine eR f.b ba.b ba.b (λj:ba=>(bx i (.inl (j.a.place:Int))).isNone) J q K ?_ (λM w R=>?_);intro q Q T K U X M N;obtain⟨T,_⟩:=ba.d ((S q Q).c K);refine⟨I,T,t.c.a,I,_,_,I,fg.a (k:=bb (q.a.place:Int)) (K _ _ P),bG (λn=>N ?_ _ aW.d) (λn=>M ?_ _ aW.d)⟩;cases o:bx i (.inl (q.a.place:Int))with|none=>rfl|some K=>rw[o]at n;cases n
 cases o:bx i (.inl (q.a.place:Int))with
 |none=>rw[o]at n;cases n
 |some K=>rfl
 refine⟨w _ _ G,t.p.a,(bJ I),?_⟩;let n:he:=⟨f.e,f.f,r,f.a,f.b.filter λj:ba=>(bx i (.inl (j.a.place:Int))).isNone⟩
 refine⟨⟨_,_,I⟩,(E.a w.c).b (w _ _ G) bY,g++[n],?_,?_,?_⟩;have t:=m.q w J R;have w:(g++e.d.drop h).flatMap (he.c)=g.flatMap (he.c)++(f.c++(e.d.drop (h+1)).flatMap (he.c)):=by rw[z];simp
 have o:=t.a 3 (B:=(g++e.d.drop h).flatMap (he.c)) I;rw[w]at o;have t:=(am.A o).a 1 I;have o:=am.i (L:=[a0 f.e fC f.f [("first",.a f.a),("records",.b f.g)],[(f.g,cw.a (f.b.map ba.b))],f.b.flatMap (ba.f)]) (am.A t);have t:=o.n [("first",.a f.a),("records",.b r)];have o:=t.g 1 I;have t:=(o.E 1 I (vB (ba.f) (λj:ba=>(bx i (.inl (j.a.place:Int))).isNone) f.b)).F 1 I;have o:=((t.a 1 I).a 4 (B:=[(r,cw.a ((f.b.filter λj:ba=>(bx i (.inl (j.a.place:Int))).isNone).map ba.b))]) I).a 2 I;have t:=am.h (L:=[a0 f.e fC f.f [("first",.a f.a),("records",.b r)],[(r,cw.a ((f.b.filter λj:ba=>(bx i (.inl (j.a.place:Int))).isNone).map ba.b))],(f.b.filter λj:ba=>(bx i (.inl (j.a.place:Int))).isNone).flatMap (ba.f)]) o;have r:=am.y ((am.y t).a 1 I);have o:=r.x 2;have r:(g++[n]++e.d.drop (h+1)).flatMap (he.c)=g.flatMap (he.c)++(n.c++(e.d.drop (h+1)).flatMap (he.c)):=by simp
 have y:(g++[n]++e.d.drop (h+1)).map he.d=(g++e.d.drop h).map he.d:=by rw[z];simp[n]
 show am _ ([a0 e.c bN e.k (cx e),[(e.q,cw.a ((g++[n]++e.d.drop (h+1)).map he.d))],(g++[n]++e.d.drop (h+1)).flatMap (he.c),e.b.c,[(e.t,cw.b (dc e.e))],dk e.e]++([(u,.b i)]::H));rw[r,y];exact o;rw[A,a6,a6,p];rfl;rw[A,a6,a6,s];have:n.h=k5 i f.h:=by
  show(f.a,(f.b.filter λj:ba=>(bx i (.inl (j.a.place:Int))).isNone).map (·.a))=(f.a,(f.b.map (·.a)).filter λq=>(bx i (.inl (q.place:Int))).isNone);rw[ul]
  rfl
 simp[this];rintro x l ⟨⟨C,D,rfl⟩,E,g,m,p,s⟩;rw[an]at m p s;rw[dN]at p s;rw[jv,dM]at m;refine k {e with d:=g} l I ?_ E (am.h (L:=aN.n {e with d:=g}) m);show(⟨e.m,e.s,g.map he.h,_,_,_,_,_⟩:bo)={e.a with c:=(e.d.map he.h).map (k5 i)};rw[s,bz]
 rfl
inductive Su(vs:V ah)(H:af)(Q:bj)(E:cf):Prop
 |a (p:aN) (R:V aE):vs=[.b p.c]->am H (p.l::R)->p.p->lT H Q R p.c (p.a.q (fY p.b.a (eD p))) (.a ((fY p.b.a (eD p)).length:Nat))->Su vs H Q E
def Ph[f:aJ]:b' 8 54 Su:=by refine cF 1 [] λd i e h g=>?_;obtain⟨d,j,rfl,e,i,m⟩:=g;refine⟨_,aj (aA 1 (aP Pp (c2 0))) (aj (a9 (bT Ol (W 0) (c2 1))) (c1 (bM nB (by rfl) f.e cC (c2 1)))),d,I,aN.u (e.d 0 I),i,λh g l1 k l=>?_⟩;have f:=(e.q l1 k l).a 1 I;have o:g d.c=O (.c bN d.k (cx d)):=(f.i (L:=d.n)).b 0 I;refine⟨o,I,d,h,_,j,I,f,i,λn e k l p g=>?_⟩;have f:e h=O (.b (fY d.b.a (eD d))):=g.e 1 I;exact⟨_,_,I,f,m n e k l (l1.c.a p) (g.g 1 I)⟩
end
def bo.p(t:bo):bo:={t with d:=t.n,k:=t.k.filter (λu=>aq (u.place<t.n)),b:=t.b.map λu=>(u.1,u.2.filter λw=>aq (w<t.n))}
def S'(d:∀c∈b,c.1≠a):eS (b++(a,e)::f) a=O e:=by
 induction b with|nil=>simp[eS]|cons c a b=>have:=d c cr;simp only[gJ,eS,this,if_false];exact b λc a=>d c (cJ _ a)
def B9{a:V (Nat×Y×V Nat)}{d:Nat}{f:ah}(e:∀b∈a,b.1≠d):(dc a).map (λc=>if c.1=(bb (d:Int):aU)then(c.1,f)else c)=dc a:=by
 induction a with|nil=>rfl|cons b a c=>have f:=e b cr;have:¬((bb (b.1:Int):aU)=bb (d:Int)):=λa=>f (by have:=jQ a;omega);simp only[dc,b1,this,if_false]at c⊢;rw[c λa b=>e a (cJ _ b)]
def PP{c d:V (Nat×Y×V Nat)}{a:Nat}{g:Y×V Nat}(f)(xs)(h:∀e∈c,e.1≠a)(i:∀e∈d,e.1≠a):cH (dc (c++(a,g)::d)) (bb (a:Int)) (.b f)=dc (c++(a,f,xs)::d):=by
 have e:((dc (c++(a,g)::d)).any λf=>aq (f.1=(bb (a:Int):aU)))=ab:=by simp[dc]
 unfold cH;rw[ay e];have e:∀a:Nat×Y×V Nat,dc (c++a::d)=dc c++((bb (a.1:Int),ah.b a.2.1)::dc d):=λa=>by simp[dc]
 rw[e,e,a6,b1,B9 h,B9 i];simp
section
inductive Q'(vs:V ah)(H:af)(Q:bj)(E:cf):Prop
 |a (p:aN) (R:V aE):vs=[.b p.c]->am H (p.l::R)->p.p->p.w->(p.e.map (·.1)).Nodup->lT H Q R p.c p.a.p .c->Q' vs H Q E
def On[n:aJ]:dz 2 65 11 Q':=by
 refine dF 5 ["record","place"] λj d h i s=>?_;obtain⟨d,u,rfl,m,l,R,S,k⟩:=s;refine⟨_,aj (b7 (W 0) (c0 0) I) (aj (aA 1 (c0 0)) (aj (b7 (W 1) (dX I i (bZ (c0 1)) (own:=[("record",4)]) (dn I) (λ_ _ _ _ _=>bE 4) (λ_ _ _ _ _=>fU (c4 gH (c0 4) (c0 0))) (λ_ _ _ _ _=>(W 4))) I) (au (dY e_ I (bZ (pa (Ba I) (by rfl) n.y rA (c3 (c0 0)))) (bE 2) (aj (aA 3 (g5 (cN h) (c0 0) (W 2) (λ_ _=>I))) (au (jt (cN h) (c0 0) (W 2) (dX I i (bZ (W 3)) (own:=[("place",5)]) (dn I) (λ_ _ _ _ _=>bE 5) (λ_ _ _ _ _=>fU (c4 gH (W 5) (c0 0))) (λ_ _ _ _ _=>(W 5))) I))))))),?_⟩;have l:=m.i (L:=d.n);have h:j d.c=O (.c bN d.k (cx d)):=l.b 0 I;refine⟨h,n.d.b,I,h,n.d.a,(bJ I),?_⟩;let i:aN:={d with f:=d.h}
 have p:am (al j d.c (.c bN d.k (cx i))) (i.n++u):=l.j 0 I (cx i);have P:aM j (al j d.c (.c bN d.k (cx i))):=aM.c.b h bY;have h:al j d.c (.c bN d.k (ef "next_place" (.a d.h) (cx d)))=al j d.c (.c bN d.k (cx i)):=I;rw[h];generalize al j d.c (.c bN d.k (cx i))=h at p P;have w:h d.c=O (.c bN d.k (cx i)):=p.b 0 I;obtain⟨x,q,z⟩:=he.i (p.d 3 (B:=d.b.c) I);refine⟨w,n.d.d,I,x,n.p.a,I,_,I,⟨_,dU.b q⟩,λh C=>?_⟩;refine eR d.b.b ba.b ba.b (λm:ba=>aq (m.a.place<d.h)) C q (gX R.c) ?_ (λl l2 E=>?_);intro t zb zd A ze zf M N;obtain⟨D,_⟩:=ba.d ((z t zb).c A);refine⟨I,D,n.c.a,I,A _ _ w,n.d.b,I,_,_,I,I,bG (λs=>N ?_ _ aW.d) (λs=>M ?_ _ aW.d)⟩;have:(t.a.place:Int)<(d.h:Int):=cj s;exact dm (by omega);have:¬(t.a.place:Int)<(d.h:Int):=dH s;exact da (by omega);let D:he:=⟨d.b.e,d.b.f,h,d.b.a,d.b.b.filter λm:ba=>aq (m.a.place<d.h)⟩
 let w:aN:={i with b:=D}
 refine⟨l2 _ _ x,n.p.a,(bJ I),?_⟩;have i:am (al l d.b.e (.c fC d.b.f [("first",.a d.b.a),("records",.b h)])) (w.n++u):=by have D:=p.q l2 C E;have E:=am.i (L:=[a0 d.b.e fC d.b.f [("first",.a d.b.a),("records",.b d.b.g)],[(d.b.g,cw.a (d.b.b.map ba.b))],d.b.b.flatMap (ba.f)]) (D.a 4 (B:=d.b.c) I);have G:=(E.n [("first",.a d.b.a),("records",.b h)]).g 1 I;have H:=(G.E 1 I (vB (ba.f) (λm:ba=>aq (m.a.place<d.h)) d.b.b)).F 1 I;have J:=((H.a 1 I).a 2 (B:=[(h,cw.a ((d.b.b.filter λm:ba=>aq (m.a.place<d.h)).map ba.b))]) I).a 2 I;have K:=am.h (L:=[a0 d.b.e fC d.b.f [("first",.a d.b.a),("records",.b h)],[(h,cw.a ((d.b.b.filter λm:ba=>aq (m.a.place<d.h)).map ba.b))],(d.b.b.filter λm:ba=>aq (m.a.place<d.h)).flatMap (ba.f)]) J;exact K.x 3
 have C:aM j (al l d.b.e (.c fC d.b.f [("first",.a d.b.a),("records",.b h)])):=(P.a l2.c).b (l2 _ _ x) bY;have p:al l d.b.e (.c fC d.b.f (ef "records" (.b h) [("first",.a d.b.a),("records",.b d.b.g)]))=al l d.b.e (.c fC d.b.f [("first",.a d.b.a),("records",.b h)]):=I;rw[p];generalize al l d.b.e (.c fC d.b.f [("first",.a d.b.a),("records",.b h)])=p at i C;have h:p d.c=O (.c bN d.k (cx w)):=i.b 0 I;have l:p d.t=O (.b (dc d.e)):=i.e 4 I;refine⟨h,n.d.e,I,_,_,I,l,λm x=>?_⟩;have p:=i.f x (.a ((dc d.e).map λh=>dC h.1));have i:(dc d.e).map (λh=>dC h.1)=d.e.map λl=>ah.a (l.1:Int):=by simp[dc,dC]
 rw[i]at p⊢;have Q:=C.a (aW.a (o:=.a (d.e.map λl=>ah.a (l.1:Int))) x).c;have x:=(p.x 6);refine⟨_,I,⟨_,dU.b az⟩,ev (xs:=d.e.map λl=>ah.a (l.1:Int)) (λh C p=>(∃o q z P,C=[O (.b d.c),O (.b d.b.e),o,q,z,P])/\aM j p/\∃i:V (Nat×Y×V Nat),am p (aN.n {w with e:=i++d.e.drop h}++([(m,.a (d.e.map λl=>ah.a (l.1:Int)))]::u))/\(i.map λl=>(l.1,l.2.2))=(d.e.take h).map λl=>(l.1,l.2.2.filter λj=>aq (j<d.h))) ⟨⟨_,_,_,_,I⟩,Q,[],x,I⟩ ?_ ?_ ?_⟩;rintro h C p _ ⟨_,_,i,q,_⟩;exact dU.b (q.e 6 I);rintro h l C p x ⟨⟨zj,zk,zl,zm,rfl⟩,T,i,q,u⟩;obtain⟨y,z,rfl⟩:=d2 x;have x:=(bu.mp z).1;have P:d.e.drop h=y::d.e.drop (h+1):=by rw[ic x,(bu.mp z).2]
 have zh:d.e.take (h+1)=d.e.take h++[y]:=by rw[en,z];rfl
 have x:d.e=d.e.take h++y::d.e.drop (h+1):=by rw[<-P,gK]
 have Q:=S;rw[x,a6,b1]at Q;have za:∀r∈i,r.1≠y.1:=by
  intro r S x;have U:i.map (·.1)=(d.e.take h).map (·.1):=by have:=cb (nP rz) u;simpa[bz,TE]using this
  have:r.1∈(d.e.take h).map (·.1):=by rw[<-U];exact bm.mpr ⟨r,S,I⟩
  exact(jA.mp Q).2.2 _ this _ cr x
 have zg:∀r∈d.e.drop (h+1),r.1≠y.1:=by intro r S x;have:=(jA.mp Q).2.1;exact(g_.mp this).1 (by rw[<-x];exact bm.mpr ⟨r,S,I⟩)
 have Q:p d.c=O (.c bN d.k (cx w)):=q.b 0 I;have S:p d.t=O (.b (dc (i++d.e.drop h))):=q.e 4 I;have U:i++d.e.drop h=i++(y.1,y.2)::d.e.drop (h+1):=by rw[P]
 have x:eS (i++d.e.drop h) y.1=O y.2:=by rw[U];exact S' za
 have zc:p y.2.1=O (.a (a4 y.2.2)):=wr (q.d 5 (B:=dk (i++d.e.drop h)) I) x;have r:fg p d.t (.a (y.1:Int)) (O (.b y.2.1)):=by have r:=fg.a (k:=bb (y.1:Int)) S;rw[ql,x]at r;exact r
 refine⟨Q,n.d.e,I,_,_,I,r,_,I,⟨_,dU.b zc⟩,λr X=>?_⟩;refine eR y.2.2 (λj:Nat=>ah.a (j:Int)) (λj:Nat=>ah.a (j:Int)) (λj:Nat=>aq (j<d.h)) X zc (gX (R.b y (a1 z))) ?_ (λzn x zi=>?_);intro t zb zd A ze zf M N;refine⟨I,A _ _ Q,n.d.b,I,_,_,I,I,bG (λs=>N ?_ _ aW.d) (λs=>M ?_ _ aW.d)⟩;have:(t:Int)<(d.h:Int):=cj s;exact dm (by omega);have:¬(t:Int)<(d.h:Int):=dH s;exact da (by omega);have z:(dc (i++d.e.drop h)).length<aH:=by
  have s:i.length=(d.e.take h).length:=by have:=cb fu u;simpa using this
  have:(i++d.e.drop h).length=d.e.length:=by rw[bH,s,<-bH,gK]
  simp only[dc,an];rw[this];exact gX R.d
 refine⟨x _ _ Q,n.d.e,I,_,_,I,qO.a (k:=bb (y.1:Int)) (x _ _ S) z,⟨_,_,_,_,I⟩,(T.a x.c).b (x _ _ S) m',i++[(y.1,r,y.2.2.filter λj=>aq (j<d.h))],?_,?_⟩;have n:cH (dc (i++d.e.drop h)) (bb (y.1:Int)) (.b r)=dc (i++[(y.1,r,y.2.2.filter λj=>aq (j<d.h))]++d.e.drop (h+1)):=by rw[U,PP r (y.2.2.filter λj=>aq (j<d.h)) za zg];simp
 rw[n];have D:=q.q x X zi;have E:=D.p 5 I (.b (dc (i++[(y.1,r,y.2.2.filter λj=>aq (j<d.h))]++d.e.drop (h+1))));have n:dk (i++d.e.drop h)=dk i++(y.2.1,cw.a (a4 y.2.2))::dk (d.e.drop (h+1)):=by rw[P];simp[dk]
 have G:=E.E 6 (B:=dk (i++d.e.drop h)) (B':=[(y.2.1,cw.a (a4 y.2.2))]++(dk i++dk (d.e.drop (h+1)))) I (by rw[n];exact y2);have H:=G.F 6 I;have J:=am.w H 5 (B:=dk i++dk (d.e.drop (h+1))) I;have K:=J.E 5 (B:=(dk i++dk (d.e.drop (h+1)))++[(r,cw.a ((y.2.2.filter λj:Nat=>aq (j<d.h)).map λj:Nat=>ah.a (j:Int)))]) (B':=dk (i++[(y.1,r,y.2.2.filter λj=>aq (j<d.h))]++d.e.drop (h+1))) I (by
  have:dk (i++[(y.1,r,y.2.2.filter λj=>aq (j<d.h))]++d.e.drop (h+1))=dk i++(r,cw.a ((y.2.2.filter λj:Nat=>aq (j<d.h)).map λj:Nat=>ah.a (j:Int)))::dk (d.e.drop (h+1)):=by simp[dk]
  rw[this,b8];exact ia _ (nU))
 exact K;rw[zh,a6,a6,u]
 rfl
 rintro C p ⟨⟨zj,zk,zl,zm,rfl⟩,T,i,q,u⟩;rw[an]at q u;rw[dN]at u;rw[jv,dM]at q;refine k {w with e:=i} p I ?_ T (am.h (L:=aN.n {w with e:=i}) (q.g 6 I));show(⟨d.m,d.s,_,d.b.a,(d.b.b.filter λm:ba=>aq (m.a.place<d.h)).map (·.a),d.h,d.h,i.map λl=>(l.1,l.2.2)⟩:bo)=⟨d.m,d.s,_,d.b.a,(d.b.b.map (·.a)).filter (λt=>aq (t.place<d.h)),d.h,d.h,(d.e.map λl=>(l.1,l.2.2)).map λl=>(l.1,l.2.filter λj=>aq (j<d.h))⟩;rw[u,bz,ul]
 rfl
end
def gk(a b c:V d):(a++(b++c)).Perm (b++(a++c)):=by rw[<-b8 a b c,<-b8 b a c];exact ly _ nU
def _root_.L3.am.D{Bs:V aE}{f:H->aE}{l1 l2:V H}{y:H}(R:am Q Bs)(c)(S:Bs[c]?=O ((l1++y::l2).flatMap f)):am Q (f y::l1.flatMap f::l2.flatMap f::Bs.eraseIdx c):=
 (R.a c S).k (by simp only[fj,g8,ez,b8];exact gk _ _ _)
def _root_.L3.am.G{Bs:V aE}{B:aE}{f:Q->aE}{l1 l2:V Q}{y:Q}(c)(S:Bs[c]?=O B)(R:am H (f y::l1.flatMap f::l2.flatMap f::Bs.eraseIdx c)):am H (Bs.set c ((l1++y::l2).flatMap f)):=by
 have Q:am H ((l1++y::l2).flatMap f::Bs.eraseIdx c):=R.k (by simp only[fj,g8,ez,b8];exact gk _ _ _)
 exact Q.k (mF S).symm
structure b4 where
 e:V Nat
 d:Nat
 c:Bool
 b:ar Nat
 a:V bo
def bq.b(b:bq):b4:=⟨b.f,b.g,b.l,b.j,b.a.map aN.a⟩
section
def bq.n(r:bq):V aE:=[a0 r.e ec r.i (hM r),[(r.k,.a (a4 r.f))],[(r.h,.a (r.a.map aN.i))],r.a.flatMap (aN.l)]
structure lQ(H:af)(b:bq):Prop where
 a:H b.e=O (.c ec b.i (hM b))
 f:H b.k=O (.a (a4 b.f))
 d:H b.h=O (.a (b.a.map aN.i))
 c:∀p∈b.a,fN H p
def bq.q{r:bq}(s:cD t (r.c)):lQ t r:=by have s:cD t (a0 r.e ec r.i (hM r)++((r.k,cw.a (a4 r.f))::(r.h,cw.a (r.a.map aN.i))::(r.a.flatMap (aN.l)++[]))):=s;rw[dM]at s;obtain⟨t,r⟩:=cD.b.mp s;obtain⟨r,s⟩:=cD.a.mp r;obtain⟨s,u⟩:=cD.a.mp s;exact⟨t.e,r,s,λx w=>aN.u (cD.d.mp u x w)⟩
def lQ.e(b:lQ j i)(g:aW j h):lQ h i:=⟨g _ _ b.a,g _ _ b.f,g _ _ b.d,λi h=>(b.c i h).a g⟩
def A0(c:af)(d:bj)(e:V aE)(f:Y)(g:b4)(h:ah):Prop:=∀(b:bq) a,b.e=f->b.b=g->aM c a->am a (b.c::e)->d h a
end
def nb(a:V b):a.filter (λ_=>ab)=a:=by induction a<;>simp_all
def p3(a:V Nat)(d:Nat):Prop:=∃b,a[d]?=O b/\(∀e∈a,b<=e)/\∀c,c<d->a[c]?≠O b
def Nt{b:V Nat}{c:Nat}(d:c∈b):∃a:Nat,b[a]?=O c/\∀i:Nat,i<a->b[i]?≠O c:=by
 induction b with
 |nil=>cases d
 |cons e b h=>
  by_cases b:e=c;exact⟨0,by simp[b],λi g=>by omega⟩;obtain⟨a,e,f⟩:=h (by rcases bW.mp d with c|c;exact a7 c.symm b;exact c);refine⟨a+1,by simpa using e,λi g=>?_⟩;cases i with|zero=>simpa using b|succ i=>simpa using f i (by omega)
abbrev oI(b:Nat)(a:ar Nat):bo:=⟨b,a,[],0,[],0,0,[]⟩
section
inductive Q8(vs:V ah)(H:af)(Q:bj)(E:cf):Prop
 |a (x dx:Y) (z:Nat) (kp:ar Nat) (R:V aE):vs=[.b x,.a z,dj kp]->am H (a0 x bN dx []::R)->lT H Q R x (oI z kp) .c->Q8 vs H Q E
def Ok[i:aJ]:dz 4 65 0 Q8:=by
 refine dF 0 [] λg f d e k=>?_;obtain⟨h,e,d,f,m,rfl,p,x⟩:=k;refine⟨_,aj (b7 (W 0) (W 1) I) (aj (b7 (W 0) (W 2) I) (aj (b7 (W 0) (bC ai) I) (aj (b7 (W 0) (hQ i.zp Ct (c3 a5)) I) (aj (b7 (W 0) a5 I) (aj (b7 (W 0) a5 I) (au (b7 (W 0) jr I))))))),?_⟩;have k:=p.b 0 I;refine⟨k,i.d.g,(bJ I),az,i.d.f,(bJ I),?_⟩;have l:=(p.n [("segment_size",.a (d:Int))]).n [("segment_size",.a (d:Int)),("keep",dj f)];have s:=(aM.c.b (o':=.c bN e [("segment_size",.a (d:Int))]) k bY).b (o':=.c bN e [("segment_size",.a (d:Int)),("keep",dj f)]) az bY;have k:al (al g h (.c bN e (ef "segment_size" (.a (d:Int)) []))) h (.c bN e (ef "keep" (dj f) (ef "segment_size" (.a (d:Int)) [])))=al (al g h (.c bN e [("segment_size",.a (d:Int))])) h (.c bN e [("segment_size",.a (d:Int)),("keep",dj f)]):=I;rw[k];generalize al (al g h (.c bN e [("segment_size",.a (d:Int))])) h (.c bN e [("segment_size",.a (d:Int)),("keep",dj f)])=k at l s;refine⟨co _,λg r=>?_⟩;have p:=l.f r (.a []);have q:=p.b 1 I;have t:=s.a (aW.a (o:=.a []) r).c;refine⟨q,i.d.c,(bJ I),?_⟩;have l:=p.j 1 I [("segment_size",.a (d:Int)),("keep",dj f),("full_segments",.b g)];have u:=t.b (o':=.c bN e [("segment_size",.a (d:Int)),("keep",dj f),("full_segments",.b g)]) q bY;have p:al (al k g (.a [])) h (.c bN e (ef "full_segments" (.b g) [("segment_size",.a (d:Int)),("keep",dj f)]))=al (al k g (.a [])) h (.c bN e [("segment_size",.a (d:Int)),("keep",dj f),("full_segments",.b g)]):=I;rw[p];generalize al (al k g (.a [])) h (.c bN e [("segment_size",.a (d:Int)),("keep",dj f),("full_segments",.b g)])=p at l u;refineλk q t r s=>?_;have w:=l.t (C:=fC) t r s;refine⟨k,q,0,_,I,w,λy z l p=>⟨I,?_⟩⟩;have w:=(u.a (gU t r s).c).a l;have t:=p.b 2 I;let l:he:=⟨k,q,y,0,[]⟩
 refine⟨t,i.d.d,(bJ I),az,i.d.a,(bJ I),az,i.d.b,(bJ I),?_⟩;let s:V (ac×ah):=[("segment_size",.a (d:Int)),("keep",dj f),("full_segments",.b g),("open_segment",.b k),("next_place",.a 0),("on_disk",.a 0)]
 let q:V (ac×ah):=[("segment_size",.a (d:Int)),("keep",dj f),("full_segments",.b g),("open_segment",.b k)]
 let r:V (ac×ah):=[("segment_size",.a (d:Int)),("keep",dj f),("full_segments",.b g),("open_segment",.b k),("next_place",.a 0)]
 have u:=((p.j 2 I q).j 2 I r).j 2 I s;have y:=((w.b (o':=.c bN e q) t bY).b (o':=.c bN e r) az bY).b (o':=.c bN e s) az bY;refineλk r=>?_;have p:=u.f r (.b []);have q:=p.b 3 I;refine⟨q,i.d.e,(bJ I),?_⟩;let i:aN:=⟨h,e,g,k,d,f,[],l,0,0,[]⟩
 have d:=p.j 3 I (cx i);refine x i _ I I ((y.a (aW.a (o:=.b []) r).c).b q bY) ?_;have f:am _ ([a0 h bN e (cx i),[(g,cw.a [])],he.c l,[(k,cw.b [])]]++m):=((d.a 1 I).a 2 I).a 3 I;have d:am _ ([a0 h bN e (cx i),[(g,cw.a [])],[],he.c l,[(k,cw.b [])],[]]++m):=f.k (by simp only[fj,lA,pu,lB,dM,b8,gJ];exact .refl _)
 exact am.h (L:=i.n) d
inductive QT(vs:V ah)(H:af)(Q:bj)(E:cf):Prop
 |a (b:bq) (key:Int):vs=[.b b.e,.a key]->lQ H b->0<b.a.length->b.a.length<=1000000->(key≠-1->Q (.a (key%(b.a.length:Int))) H)->(key=-1->∀j H',aW H H'->p3 (b.a.map (·.f)) j->Q (.a (j:Nat)) H')->QT vs H Q E
def Ci[h:aJ]:dz 2 67 1 QT:=by
 refine dF 2 ["part"] λd k e g c=>?_;obtain⟨e,key,rfl,d,p,q,k,r⟩:=c;refine⟨_,aj (bD (c4 j6 (W 1) (di h.z)) (c1 (ey x1 (W 1) (c5 (c0 0)))) bQ) (aj (nH (i:=2) I g I I (nK I I I I) (bZ (c0 0)) (own:=[("part",3)]) (dn I) (λ_ _ _ _ _=>bE 3) (λ_ _ _ _ _=>f_) (λ_ _ _ _ _=>(c0 3))) (c1 (eY e9 Kt PySem.F.type_list_index Hj (W 2) (c3 (bM (GD I) (by rfl) h.F uC (c2 2)))))),I,bG (λc=>?_) (λc=>?_)⟩;have c:key≠-1:=λg=>by rw[g]at c;simp at c
 have g:((e.a.map aN.i).length:Int)=(e.a.length:Int):=by rw[an]
 refine⟨d.a,h.n.a,I,_,_,I,.inl (dU.b d.d),_,_,I,I,(by rw[g];omega),?_⟩;rw[g];exact k c;have c:key=-1:=by simpa using c
 refine⟨d.a,h.n.a,I,_,I,⟨_,dU.b d.d⟩,λl o=>?_⟩;refine eR e.a aN.i (λk:aN=>ah.a (k.f:Int)) (λ_=>ab) o d.d (gX q) ?_ (λm s n=>?_);intro k q u t w x y o;exact⟨I,t _ _ (d.c k q).b,h.d.a,I,o I _ aW.d⟩;rw[nb]at n;have o:e.a.map (λk:aN=>ah.a (k.f:Int))=((e.a.map (·.f)).map λd:Nat=>(d:Int)).map ah.a:=by rw[bz,bz];rfl
 have h:m l=O (.a (((e.a.map (·.f)).map λd:Nat=>(d:Int)).map ah.a)):=by rw[<-o];exact n
 refine⟨.inl ⟨I,_,dU.b h⟩,l,_,I,dU.b h,(by simp only[an];exact p),λn k o=>?_⟩;obtain⟨d,p,rfl⟩:=bm.mp k;obtain⟨j,k,n⟩:=Nt p;refine⟨l,_,.a (d:Int),j,.a (d:Int),I,I,dU.b h,I,?_,?_,?_,?_,?_⟩;rw[hE];intro v h;obtain⟨i,_,rfl⟩:=bm.mp h
 rfl
 rw[bw,bw,k];rfl;simp[gv];intro i p l h;rw[bw,bw]at h;cases g:(e.a.map (·.f))[i]? with
 |none=>rw[g]at h;cases h
 |some e=>rw[g]at h;obtain rfl:ah.a (e:Int)=p:=bA h;have:e≠d:=λe=>n i l (by rw[g,e]);simp only[gv,beq_eq_false_iff_ne,ne_eq];omega
 refine r c j m s ⟨d,k,λe g=>?_,n⟩;have:=o (e:Int) (bm.mpr ⟨e,g,I⟩);omega
def hj(b:bq):Int:=(b.a.map λa=>(a.f:Int) -(a.h:Int)).sum
inductive QS(vs:V ah)(H:af)(Q:bj)(E:cf):Prop
 |a (b:bq):vs=[.b b.e]->lQ H b->b.a.length<=1000000->vi H Q (hj b)->QS vs H Q E
def Ch[b:aJ]:dz 3 67 2 QS:=by
 refine dF 1 ["part"] λc g d f e=>?_;obtain⟨d,rfl,c,i,k⟩:=e;refine⟨_,c1 (bM (qY I) (by rfl) b.J uE (c3 (dX I f (bZ (c0 0)) (own:=[("part",1)]) (dn I) (λ_ _ _ _ _=>bE 1) (λ_ _ _ _ _=>f_) (λ_ _ _ _ _=>(a' Oo (W 1)))))),c.a,b.n.a,I,_,I,⟨_,dU.b c.d⟩,λg f=>?_⟩;refine eR d.a aN.i (λb:aN=>ah.a ((b.f:Int) -(b.h:Int))) (λ_=>ab) f c.d (gX i) ?_ (λh l e=>?_);intro b j f m n o p i;have f:=(c.c b j).a m;exact⟨I,f.b,I,b,I,f,i I _ aW.d⟩;rw[nb]at e;have c:d.a.map (λb:aN=>ah.a ((b.f:Int) -(b.h:Int)))=(d.a.map λb=>(b.f:Int) -(b.h:Int)).map ah.a:=by rw[bz];rfl
 rw[c]at e;exact⟨g,_,I,dU.b e,k h l⟩
inductive QQ(vs:V ah)(H:af)(Q:bj)(E:cf):Prop
 |a (b:bq) (R:V aE):vs=[.b b.e]->am H (b.c::R)->A0 H Q R b.e {b.b with a:=b.b.a.map bo.l} .c->QQ vs H Q E
def N_[e:aJ]:dz 3 67 3 QQ:=by
 refine dF 1 [] λi j d h g=>?_;obtain⟨d,n,rfl,h,x⟩:=g;refine⟨_,au (dY e_ I (bZ (c0 0)) (bE 1) (au (a9 (a' sr (W 1))))),?_⟩;have j:=h.i (L:=d.n);have g:i d.e=O (.c ec d.i (hM d)):=j.b 0 I;have h:i d.h=O (.a (d.a.map aN.i)):=j.e 2 I;refine⟨g,e.n.a,I,_,I,⟨_,dU.b h⟩,ev (xs:=d.a.map aN.i) (λg m h=>(∃o,m=[O (.b d.e),o])/\aM i h/\∃e:V aN,am h (bq.n {d with a:=e++d.a.drop g}++n)/\e.map aN.i=(d.a.take g).map aN.i/\e.map aN.a=(d.a.take g).map λi=>i.a.l) ⟨⟨_,I⟩,aM.c,[],j,I,I⟩ ?_ ?_ ?_⟩;rintro g m h _ ⟨_,_,e,i,j,_⟩;have:h d.h=O (.a ((e++d.a.drop g).map aN.i)):=i.e 2 I;rw[a6,j,<-a6,gK]at this;exact dU.b this;rintro g k m h q ⟨⟨o,rfl⟩,p,e,i,j,l⟩;obtain⟨y,k,rfl⟩:=d2 q;have r:=(bu.mp k).1;have q:d.a.drop g=y::d.a.drop (g+1):=by rw[ic r,(bu.mp k).2]
 have s:d.a.take (g+1)=d.a.take g++[y]:=by rw[en,k];rfl
 rw[q]at i;have q:=i.D (f:=aN.l) (l1:=e) (l2:=d.a.drop (g+1)) (y:=y) 3 I;have u:h y.c=O (.c bN y.k (cx y)):=(aN.u (q.d 0 I)).b;refine⟨u,I,y,_,I,q,λk A r w z t=>?_⟩;refine⟨⟨_,I⟩,p.a z,e++[k],?_,?_,?_⟩;have u:=am.G (Bs:=bq.n {d with a:=e++y::d.a.drop (g+1)}++n) (B:=(e++y::d.a.drop (g+1)).flatMap (aN.l)) 3 I t;have q:e++[k]++d.a.drop (g+1)=e++k::d.a.drop (g+1):=by simp
 have t:(e++k::d.a.drop (g+1)).map aN.i=(e++y::d.a.drop (g+1)).map aN.i:=by simp[aN.i,r]
 show am _ ([a0 d.e ec d.i (hM d),[(d.k,cw.a (a4 d.f))],[(d.h,cw.a ((e++[k]++d.a.drop (g+1)).map aN.i))],(e++[k]++d.a.drop (g+1)).flatMap (aN.l)]++n);rw[q,t];exact u;rw[s,a6,a6,j];simp[aN.i,r];rw[s,a6,a6,l];simp[w];rintro m h ⟨⟨o,rfl⟩,p,e,i,j,l⟩;rw[an]at i j l;rw[dN]at j l;rw[jv,dM]at i;refine x {d with a:=e} h I ?_ p (am.h (L:=bq.n {d with a:=e}) i);show(⟨d.f,d.g,d.l,d.j,e.map aN.a⟩:b4)=⟨d.f,d.g,d.l,d.j,(d.a.map aN.a).map bo.l⟩;rw[l,bz]
 rfl
end
structure fA where
 g:Y
 h:Y
 a:Nat
 e:Nat
 b:Nat
 c:Nat
abbrev fA.d(i:fA):ah:=.b i.g
structure b3 where
 g:Y
 n:Y
 p:Y
 k:Y
 a:V (Y×Nat×Nat)
 b:V fA
 j:Bool
 e:Nat
structure bf where
 e:Y
 g:Y
 c:Nat
 f:Nat
 a:ar b3
structure a_ where
 e:Y
 l:Y
 p:Y
 r:Y
 q:Y
 n:Y
 b:Nat
 k:Nat
 g:Nat
 f:V Nat
 h:V (ar Nat)
 a:V Nat
 d:V Nat
structure a2 where
 e:Y
 l:Y
 m:Y
 i:Y
 k:Y
 b:V bq
 a:V bf
 c:V a_
 j:ar aF
def jJ(b:ar aF)(a:cw):cw:=match b with|none=>a|some o=>.e o a
noncomputable def vU(b:fA):V (ac×ah):=[("group",.a b.a),("generation",.a b.e),("part",.a b.b),("place",.a b.c)]
def f3(t:b3):V (ac×ah):=[("parts",.b t.p),("moves",.b t.k),("is_decided",.d t.j),("marked",.a t.e)]
def iC:ar b3->ah
 |none=>.c
 |some t=>.b t.g
def b6(x:bf):V (ac×ah):=[("number",.a x.c),("epoch",.a x.f),("transaction",iC x.a)]
noncomputable def fZ(c:a_):V (ac×ah):=[("book",.a c.k),("generation",.a c.g),("members",.b c.p),("owners",.b c.r),("kept",.b c.q),("read_up_to",.b c.n)]
def f2(s:a2):V (ac×ah):=[("books",.b s.m),("senders",.b s.i),("groups",.b s.k)]
abbrev cg(x:Y×Nat×Nat):ah:=.b x.1
def ca(l:V bf):V (aU×ah):=l.map λx=>(.inl (x.c:Int),.b x.e)
def dh(l:V a_):V (aU×ah):=l.map λx=>(.inl (x.b:Int),.b x.e)
section
def fA.f(i:fA):aE:=a0 i.g kk i.h (vU i)
def b3.m(t:b3):V aE:=[a0 t.g e0 t.n (f3 t),[(t.p,.a (t.a.map cg))],[(t.k,.a (t.b.map fA.d))],t.b.flatMap (fA.f)]
def b3.h(t:b3):aE:=(t.m).flatten
def l_:ar b3->aE
 |none=>[]
 |some a=>a.h
def bf.i(x:bf):V aE:=[a0 x.e dD x.g (b6 x),l_ x.a]
def bf.h(x:bf):aE:=(x.i).flatten
noncomputable def a_.m(t:a_):V aE:=[a0 t.e ei t.l (fZ t),[(t.p,.a (a4 t.f))],[(t.r,.a (t.h.map dj))],[(t.q,.a (a4 t.a))],[(t.n,.a (a4 t.d))]]
def a_.j(x:a_):aE:=(x.m).flatten
noncomputable def a2.o(s:a2):V aE:=[a0 s.e dA s.l (f2 s),[(s.m,.a (s.b.map bq.d))],s.b.flatMap (bq.c),[(s.i,jJ s.j (.b (ca s.a)))],s.a.flatMap (bf.h),[(s.k,.b (dh s.c))],s.c.flatMap (a_.j)]
def a2.d(s:a2):aE:=(s.o).flatten
end
def fO(b:af)(c:V (Y×Nat×Nat)):Prop:=∀x∈c,b x.1=O (.d [.a x.2.1,.a x.2.2])
def fO.a(e:fO b d)(t:aM b c):fO c d:=λx b=>t _ _ (e x b)
section
structure lU(H:af)(t:b3):Prop where
 a:H t.g=O (.c e0 t.n (f3 t))
 c:H t.p=O (.a (t.a.map cg))
 b:H t.k=O (.a (t.b.map fA.d))
 e:∀m∈t.b,H m.g=O (.c kk m.h (vU m))
def b3.q{r:b3}(s:cD t (r.h)):lU t r:=by have s:cD t (a0 r.g e0 r.n (f3 r)++((r.p,cw.a (r.a.map cg))::(r.k,cw.a (r.b.map fA.d))::(r.b.flatMap (fA.f)++[]))):=s;rw[dM]at s;obtain⟨t,r⟩:=cD.b.mp s;obtain⟨r,s⟩:=cD.a.mp r;obtain⟨s,u⟩:=cD.a.mp s;exact⟨t.e,r,s,λx w=>(cD.d.mp u x w).e⟩
def lU.d{t:b3}(f:lU i t)(g:aW i h):lU h t:=⟨g _ _ f.a,g _ _ f.c,g _ _ f.b,λi h=>g _ _ (f.e i h)⟩
structure p7(H:af)(x:bf):Prop where
 a:H x.e=O (.c dD x.g (b6 x))
 b:∀t,x.a=O t->lU H t
def bf.k{l:bf}(m:cD n (l.h)):p7 n l:=by have m:cD n (a0 l.e dD l.g (b6 l)++(l_ l.a++[])):=m;rw[dM]at m;obtain⟨n,l⟩:=cD.b.mp m;refine⟨n.e,λo m=>b3.q ?_⟩;rw[m]at l;exact l
def p7.c(f:p7 i h)(g:aW i e):p7 e h:=⟨g _ _ f.a,λh e=>(f.b h e).d g⟩
structure kY(H:af)(x:a_):Prop where
 a:H x.e=O (.c ei x.l (fZ x))
 d:H x.p=O (.a (a4 x.f))
 e:H x.r=O (.a (x.h.map dj))
 b:H x.q=O (.a (a4 x.a))
 f:H x.n=O (.a (a4 x.d))
def a_.o{t:a_}(u:cD w (t.j)):kY w t:=by have u:cD w (a0 t.e ei t.l (fZ t)++((t.p,cw.a (a4 t.f))::(t.r,cw.a (t.h.map dj))::(t.q,cw.a (a4 t.a))::(t.n,cw.a (a4 t.d))::[])):=u;obtain⟨x,t⟩:=cD.b.mp u;obtain⟨t,u⟩:=cD.a.mp t;obtain⟨u,w⟩:=cD.a.mp u;obtain⟨w,y⟩:=cD.a.mp w;exact⟨x.e,t,u,w,(cD.a.mp y).1⟩
def kY.c{x:a_}(g:kY j x)(h:aW j i):kY i x:=⟨h _ _ g.a,h _ _ g.d,h _ _ g.e,h _ _ g.b,h _ _ g.f⟩
structure iu(H:af)(s:a2):Prop where
 a:H s.e=O (.c dA s.l (f2 s))
 f:H s.m=O (.a (s.b.map bq.d))
 d:∀b∈s.b,lQ H b
 j:H s.i=O (jJ s.j (.b (ca s.a)))
 c:∀x∈s.a,p7 H x
 i:H s.k=O (.b (dh s.c))
 e:∀x∈s.c,kY H x
def iu.g{s:a2}(m:iu k s)(l:s.j=aa):k s.i=O (.b (ca s.a)):=by
 rw[m.j,l]
 rfl
def a2.f{s:a2}(x:cD y (s.d)):iu y s:=by have x:cD y (a0 s.e dA s.l (f2 s)++((s.m,cw.a (s.b.map bq.d))::(s.b.flatMap (bq.c)++((s.i,jJ s.j (.b (ca s.a)))::(s.a.flatMap (bf.h)++((s.k,cw.b (dh s.c))::(s.c.flatMap (a_.j)++[]))))))):=x;rw[dM]at x;obtain⟨E,z⟩:=cD.b.mp x;obtain⟨z,A⟩:=cD.a.mp z;obtain⟨A,B⟩:=cD.b.mp A;obtain⟨B,C⟩:=cD.a.mp B;obtain⟨C,D⟩:=cD.b.mp C;obtain⟨D,F⟩:=cD.a.mp D;exact⟨E.e,z,λx y=>bq.q (cD.d.mp A x y),B,λx y=>bf.k (cD.d.mp C x y),D,λx y=>a_.o (cD.d.mp F x y)⟩
def iu.h{s:a2}(b:iu m s)(k:aW m l):iu l s:=⟨k _ _ b.a,k _ _ b.f,λl m=>(b.d l m).e k,k _ _ b.j,λl m=>(b.c l m).c k,k _ _ b.i,λl m=>(b.e l m).c k⟩
end
def ne{a:V c}{y:c}(d:a[b]?=O y):a=a.take b++y::a.drop (b+1):=by obtain⟨a,rfl⟩:=bu.mp d;rw[<-ic a,gK]
def nn{b:V d}{y c:d}(e:b[a]?=O y):b.set a c=b.take a++c::b.drop (a+1):=by obtain⟨a,_⟩:=bu.mp e;rw[List.set_eq_take_append_cons_drop,ay a]
def i_{l:V a}{y d:a}{f:a->g}(b:l[c]?=O y)(e:f d=f y):(l.set c d).map f=l.map f:=by rw[nn b,a6,b1,e,<-b1,<-a6,<-ne b]
section
noncomputable def a2.g(s:a2)(x j:Nat)(y:aN):a2:={s with b:=s.b.modify x λb=>{b with a:=b.a.set j y}}
def lY{c:V b}{y:b}(e:c[a]?=O y):c.modify a d=c.set a (d y):=by apply mH;intro c;rw[mK,py];by_cases b:a=c;subst b;obtain⟨this,rfl⟩:=bu.mp e;simp[this];simp[b]
end
def eQ(a:V bf)(b:Int):ar bf:=a.find? λx=>aq ((x.c:Int)=b)
def dE(a:V a_)(b:Int):ar a_:=a.find? λx=>aq ((x.b:Int)=b)
def Dq(b:V e)(c:e->Int)(f:e->ah)(d):bx (b.map λa=>((.inl (c a):aU),f a)) (.inl d)=(b.find? λa=>aq (c a=d)).map f:=by
 induction b with|nil=>rfl|cons a b e=>rw[b1];by_cases b:c a=d;rw[g7 (by rw[b])];simp[b];rw[g6 (λa=>b (jQ a)),e];simp[b]
def sC(a)(b):bx (ca a) (.inl b)=(eQ a b).map λx=>ah.b x.e:=Dq a _ _ b
def sd(a)(b):bx (dh a) (.inl b)=(dE a b).map λc=>ah.b c.e:=Dq a _ _ b
def a2.n(y:a2)(x:Int):ar bq:=if 0<=x then y.b[x.toNat]? else aa
def a2.p(A:a2)(y x:Int):ar aN:=(A.n y).bind λz=>if 0<=x then z.a[x.toNat]? else aa
def jE{d:a2}{b:Int}(a:d.n b=O c):0<=b/\d.b[b.toNat]?=O c:=by unfold a2.n at a;split at a;exact⟨by assumption,a⟩;cases a
def Mg{b:a2}{a:Int}(d:0<=a)(e:a<(b.b.length:Int)):∃c,b.n a=O c/\b.b[a.toNat]?=O c:=by
 have c:a.toNat<b.b.length:=by omega
 refine⟨b.b[a.toNat],?_,eM c⟩;unfold a2.n;rw[ay d,eM c]
def A'{b:a2}(c:¬(0<=a/\a<(b.b.length:Int))):b.n a=aa:=by
 unfold a2.n;split;rw[yW];omega
 rfl
def bq.m(s:bq)(r:Int):ar aN:=if 0<=r then s.a[r.toNat]? else aa
def sz(c:a2)(a b):c.p a b=(c.n a).bind λd=>d.m b:=I
def PI{f:a2}{c e:Int}(a:f.p c e=O g):∃b,f.n c=O b/\0<=c/\f.b[c.toNat]?=O b/\0<=e/\b.a[e.toNat]?=O g:=by
 rw[sz]at a;cases d:f.n c with
 |none=>rw[d]at a;cases a
 |some b=>rw[d]at a;have a:b.m e=O g:=a;unfold bq.m at a;split at a;exact⟨b,I,(jE d).1,(jE d).2,by assumption,a⟩;cases a
def vq{o:ar bf}(h:d e=O (.b (ca f)))(g:eQ f c=o):fg d e (.a c) (o.map λx=>ah.b x.e):=by have:=fg.a (k:=bb c) h;rw[sC,g]at this;exact this
def ME{g:ar a_}(i:d e=O (.b (dh f)))(h:dE f c=g):fg d e (.a c) (g.map λj=>ah.b j.e):=by have:=fg.a (k:=bb c) i;rw[sd,h]at this;exact this
section
inductive Ru(vs:V ah)(H:af)(Q:bj)(E:cf):Prop
 |a (x dx:Y) (fs:V (ac×ah)) (R:V aE):vs=[.b x]->(fs=[]\/∃p q r,fs=[(("books":ac),p),(("senders":ac),q),(("groups":ac),r)])->am H (a0 x dA dx fs::R)->(∀ba sa ga H',aM H H'->am H' (a2.d ⟨x,dx,ba,sa,ga,[],[],[],aa⟩::R)->Q .c H')->Ru vs H Q E
def Cx[k:aJ]:dz 2 163 1 Ru:=by
 refine dF 0 [] λH g e f d=>?_;obtain⟨l,g,f,q,rfl,e,A,B⟩:=d;refine⟨_,aj (b7 (W 0) (bC ai) I) (aj (b7 (W 0) jr I) (au (b7 (W 0) jr I))),?_⟩;rcases e with rfl|⟨d,C,r,rfl⟩;refine⟨co _,λd m=>?_⟩;have h:=A.f m (.a []);refine⟨h.b 1 I,k.l.a,(bJ I),?_⟩;have s:=h.j 1 I [("books",.b d)];have x:=(aW.a (H:=H) (o:=.a []) m).c.b (o':=.c dA g [("books",.b d)]) (h.b 1 I) bY;refineλe p=>?_;have i:=s.f p (.b []);refine⟨i.b 2 I,k.l.b,(bJ I),?_⟩;have t:=i.j 2 I [("books",.b d),("senders",.b e)];have y:=(x.a (aW.a (o:=.b []) p).c).b (o':=.c dA g [("books",.b d),("senders",.b e)]) (i.b 2 I) bY;refineλf n=>?_;have j:=t.f n (.b []);refine⟨j.b 3 I,k.l.c,(bJ I),?_⟩;have u:=j.j 3 I [("books",.b d),("senders",.b e),("groups",.b f)];have z:=(y.a (aW.a (o:=.b []) n).c).b (o':=.c dA g [("books",.b d),("senders",.b e),("groups",.b f)]) (j.b 3 I) bY;have w:am _ ([a0 l dA g [("books",.b d),("senders",.b e),("groups",.b f)],[(d,cw.a [])],[(e,cw.b [])],[(f,cw.b [])]]++q):=((u.a 1 I).a 2 I).a 3 I;exact B d e f _ z (am.h (L:=a2.o ⟨l,g,d,e,f,[],[],[],aa⟩) (w.k (by show rr _ ([a0 l dA g [("books",.b d),("senders",.b e),("groups",.b f)],[(d,cw.a [])],[],[(e,cw.b [])],[],[(f,cw.b [])],[]]++q).flatten;simp only[fj,lA,pu,lB,dM,b8,gJ];exact .refl _)))
 refine⟨co _,λd m=>?_⟩;have h:=A.f m (.a []);refine⟨h.b 1 I,k.l.a,(bJ I),?_⟩;have s:=h.j 1 I [("books",.b d),("senders",C),("groups",r)];have x:=(aW.a (H:=H) (o:=.a []) m).c.b (o':=.c dA g [("books",.b d),("senders",C),("groups",r)]) (h.b 1 I) bY;refineλe p=>?_;have i:=s.f p (.b []);refine⟨i.b 2 I,k.l.b,(bJ I),?_⟩;have t:=i.j 2 I [("books",.b d),("senders",.b e),("groups",r)];have y:=(x.a (aW.a (o:=.b []) p).c).b (o':=.c dA g [("books",.b d),("senders",.b e),("groups",r)]) (i.b 2 I) bY;refineλf n=>?_;have j:=t.f n (.b []);refine⟨j.b 3 I,k.l.c,(bJ I),?_⟩;have u:=j.j 3 I [("books",.b d),("senders",.b e),("groups",.b f)];have z:=(y.a (aW.a (o:=.b []) n).c).b (o':=.c dA g [("books",.b d),("senders",.b e),("groups",.b f)]) (j.b 3 I) bY;have w:am _ ([a0 l dA g [("books",.b d),("senders",.b e),("groups",.b f)],[(d,cw.a [])],[(e,cw.b [])],[(f,cw.b [])]]++q):=((u.a 1 I).a 2 I).a 3 I;exact B d e f _ z (am.h (L:=a2.o ⟨l,g,d,e,f,[],[],[],aa⟩) (w.k (by show rr _ ([a0 l dA g [("books",.b d),("senders",.b e),("groups",.b f)],[(d,cw.a [])],[],[(e,cw.b [])],[],[(f,cw.b [])],[]]++q).flatten;simp only[fj,lA,pu,lB,dM,b8,gJ];exact .refl _)))
inductive Rp(vs:V ah)(H:af)(Q:bj)(E:cf):Prop
 |a (x dx:Y) (R:V aE):vs=[.b x]->am H (a0 x dA dx []::R)->(∀ba sa ga H',aM H H'->am H' (a2.d ⟨x,dx,ba,sa,ga,[],[],[],aa⟩::R)->Q .c H')->Rp vs H Q E
def Oq[a:aJ]:dz 3 163 0 Rp:=by refine dF 0 [] λa e b c d=>?_;obtain⟨f,c,b,rfl,a,e⟩:=d;exact⟨_,au (a9 (a' Cx (W 0))),a.b 0 I,I,f,c,[],b,I,.inl I,a,e⟩
inductive Rm(vs:V ah)(H:af)(Q:bj)(E:cf):Prop
 |a (s:a2) (i:Int):vs=[.b s.e,.a i]->iu H s->(∀b,s.n i=O b->Q (.b b.e) H)->(s.n i=aa->dO ak cE E H (-2))->Rm vs H Q E
def lZ[d:aJ]:hK 4 163 2 Rm:=by
 refine ix 0 [] λb f c e a=>?_;obtain⟨i,g,rfl,c,l,h⟩:=a;refine⟨_,aj (bD (iP (pe h8 gH a5 (W 1) (c5 (c0 0)))) (au (f0 d.A)) bQ) (c1 (c8 (c0 0) (W 1))),_,_,I,I,bG (λa=>?_) (λa=>?_)⟩;have a:=cj a;refine⟨c.a,d.l.a,I,_,_,I,.inl (dU.b c.f),_,_,I,I,bG (λb=>?_) (λb=>?_)⟩;refine h (A' λe=>?_);have:=e.2;simp[an]at b;omega;have b:g<(i.b.length:Int):=by simp[an]at b;exact b
 obtain⟨f,j,k⟩:=Mg a b;refine⟨c.a,d.l.a,I,_,_,_,_,I,I,dU.b c.f,?_,l f j⟩;have b:(i.b.map bq.d)[g.toNat]?=O f.d:=by rw[bw,k];rfl
 have:=dJ b;rwa[jn a]at this;exact h (A' λe=>by simp[e.1]at a)
inductive Rq(vs:V ah)(H:af)(Q:bj)(E:cf):Prop
 |a (s:a2) (t:Y) (i j:Int):vs=[.b s.e,.b t]->iu H s->H t=O (.d [.a i,.a j])->(∀p,s.p i j=O p->Q (.b p.c) H)->(s.p i j=aa->dO ak cE E H (-2))->Rq vs H Q E
def ja[e:aJ]:hK 5 163 8 Rq:=by
 refine ix 1 [] λb f c d a=>?_;obtain⟨k,t,i,j,rfl,b,g,l,h⟩:=a;refine⟨_,aj (aA 2 (bT lZ (W 0) (c3 (dL mr (W 1) a5 (λ_ _=>I))))) (aj (bD (iP (pe h8 gH a5 (dL mr (W 1) a5 (λ_ _=>I)) (c5 (c0 2)))) (au (f0 e.A)) bQ) (c1 (c8 (c0 2) (dL mr (W 1) a5 (λ_ _=>I))))),b.a,I,_,_,_,_,I,I,kA.b g,dJ (j:=0) I,k,i,I,b,λa c=>?_,λd=>h (by rw[sz,d];rfl)⟩;obtain⟨d,f⟩:=jE c;have d:=b.d a (a1 f);have f:k.p i j=a.m j:=by rw[sz,c];rfl
 refine⟨_,_,_,_,I,I,kA.b g,dJ (j:=1) I,_,_,I,I,bG (λb=>?_) (λb=>?_)⟩;have b:=cj b;refine⟨d.a,e.n.a,I,_,_,I,.inl (dU.b d.d),_,_,I,I,bG (λc=>?_) (λc=>?_)⟩;refine h ?_;rw[f];unfold bq.m;rw[ay b,yW];simp[an]at c;omega;have c:j<(a.a.length:Int):=by simp[an]at c;exact c
 have k:j.toNat<a.a.length:=by omega
 have c:a.a[j.toNat]?=O a.a[j.toNat]:=eM k;refine⟨d.a,e.n.a,I,_,_,_,_,I,I,kA.b g,dJ (j:=1) I,_,_,_,_,I,I,dU.b d.d,?_,l a.a[j.toNat] ?_⟩;have d:(a.a.map aN.i)[j.toNat]?=O a.a[j.toNat].i:=by rw[bw,c];rfl
 have:=dJ d;rwa[jn b]at this;rw[f];unfold bq.m;rw[ay b,c];refine h ?_;rw[f];unfold bq.m;rw[aw (dH b)]
inductive Rs(vs:V ah)(H:af)(Q:bj)(E:cf):Prop
 |a (s:a2) (n:Int):vs=[.b s.e,.a n]->iu H s->s.j=aa->(∀x,eQ s.a n=O x->Q (.b x.e) H)->(eQ s.a n=aa->dO ak cE E H (-5))->Rs vs H Q E
def Cw[b:aJ]:hK 4 163 3 Rs:=by
 refine ix 0 [] λa e c d f=>?_;obtain⟨i,e,rfl,a,d,g,h⟩:=f;refine⟨_,aj (bD (eI (my (cN c) (W 1) (c0 0))) (au (f0 b.ze)) bQ) (c1 (g5 (cN c) (c0 0) (W 1) (λ_ _=>I))),a.a,b.l.b,I,_,_,I,fg.a (k:=bb e) (a.g d),?_⟩;rw[sC];cases c:eQ i.a e with|none=>exact(h c)|some e=>refine⟨a.a,b.l.b,I,_,_,I,vq (a.g d) c,g e c⟩
inductive Rr(vs:V ah)(H:af)(Q:bj)(E:cf):Prop
 |a (s:a2) (n ep:Int):vs=[.b s.e,.a n,.a ep]->iu H s->s.j=aa->(∀x,eQ s.a n=O x->(x.f:Int)=ep->Q (.b x.e) H)->(∀x,eQ s.a n=O x->(x.f:Int)≠ep->dO ak cE E H (-8))->(eQ s.a n=aa->dO ak cE E H (-5))->Rr vs H Q E
def sv[e:aJ]:hK 5 163 4 Rr:=by
 refine ix 1 [] λb f c d a=>?_;obtain⟨k,j,c,rfl,b,f,g,h,i⟩:=a;refine⟨_,aj (aA 3 (bT Cw (W 0) (c2 1))) (aj (bD (c4 j6 (c0 3) (W 2)) (au (f0 e.Q)) bQ) (c1 (W 3))),b.a,I,k,j,I,b,f,λd c=>?_,i⟩;have f:=b.c d (kN c);refine⟨f.a,e.k.b,I,I,bG (λa=>?_) (λa=>?_)⟩;exact h d c λb=>by rw[b]at a;simp at a
 exact g d c (by simpa using a)
inductive Rt(vs:V ah)(H:af)(Q:bj)(E:cf):Prop
 |a (s:a2) (n ep:Int):vs=[.b s.e,.a n,.a ep]->iu H s->s.j=aa->(∀x t,eQ s.a n=O x->(x.f:Int)=ep->x.a=O t->Q (.b x.e) H)->(∀x,eQ s.a n=O x->(x.f:Int)=ep->x.a=aa->dO ak cE E H (-7))->(∀x,eQ s.a n=O x->(x.f:Int)≠ep->dO ak cE E H (-8))->(eQ s.a n=aa->dO ak cE E H (-5))->Rt vs H Q E
def v2[c:aJ]:hK 6 163 5 Rt:=by
 refine ix 1 [] λa f d e b=>?_;obtain⟨l,k,e,rfl,a,f,h,g,i,j⟩:=b;refine⟨_,aj (aA 3 (bT sv (W 0) (c7 1 2))) (aj (bD (eI (mz (c0 3))) (au (f0 c.zf)) bQ) (c1 (W 3))),a.a,I,l,k,e,I,a,f,λx b d=>?_,i,j⟩;have e:=a.c x (kN b);refine⟨e.a,c.k.a,I,?_⟩;cases a:x.a with|none=>exact(g x b d a)|some t=>exact(h x t b d a)
inductive Rn(vs:V ah)(H:af)(Q:bj)(E:cf):Prop
 |a (s:a2) (n:Int):vs=[.b s.e,.a n]->iu H s->(∀x,dE s.c n=O x->Q (.b x.e) H)->(dE s.c n=aa->dO ak cE E H (-4))->Rn vs H Q E
def ni[b:aJ]:hK 4 163 6 Rn:=by
 refine ix 0 [] λa f c d e=>?_;obtain⟨h,d,rfl,a,f,g⟩:=e;refine⟨_,aj (bD (eI (my (cN c) (W 1) (c0 0))) (au (f0 b.zd)) bQ) (c1 (g5 (cN c) (c0 0) (W 1) (λ_ _=>I))),a.a,b.l.c,I,_,_,I,fg.a (k:=bb d) a.i,?_⟩;rw[sd];cases c:dE h.c d with|none=>exact(g c)|some x=>refine⟨a.a,b.l.c,I,_,_,I,ME a.i c,f x c⟩
def a2.h(s:a2):V aN:=s.b.flatMap (·.a)
inductive Rl(vs:V ah)(H:af)(Q:bj)(E:cf):Prop
 |a (s:a2):vs=[.b s.e]->iu H s->s.h.length<=1000000->gj H Q (s.h.map aN.i)->Rl vs H Q E
def Cv[m:aJ]:dz 2 163 9 Rl:=by
 refine dF 2 [] λg h c f d=>?_;obtain⟨c,rfl,i,f,r⟩:=d;refine⟨_,aj (aA 1 (bC ai)) (aj (dY e_ I (bZ (c0 0)) (bE 2) (au (a9 (eY e9 mQ nY mw (W 1) (c3 (c0 2)))))) (c1 (W 1))),co _,λj l=>?_⟩;have h:aW g (al g j (.a [])):=aW.a l;have d:=h _ _ i.f;refine⟨h _ _ i.a,m.l.a,I,_,I,⟨_,dU.b d⟩,ev (xs:=c.b.map bq.d) (λd k f=>(∃o,k=[O (.b c.e),O (.b j),o])/\aW g f/\f j=O (.a (((c.b.take d).flatMap (·.a)).map aN.i))) ⟨⟨_,I⟩,h,az⟩ ?_ ?_ ?_⟩;rintro d k f _ ⟨_,g,_⟩;exact dU.b (g _ _ i.f);rintro d n k f p ⟨⟨o,rfl⟩,g,h⟩;obtain⟨n,q,rfl⟩:=d2 p;have p:=(i.d n (a1 q)).e g;have i:(c.b.take (d+1)).flatMap (·.a)=(c.b.take d).flatMap (·.a)++n.a:=by rw[en,q];simp
 have n:((c.b.take (d+1)).flatMap (·.a)).length<=c.h.length:=by
  unfold a2.h;conv=>rhs;rw[<-gK (d+1) c.b]
  rw[g8,bH];omega
 refine⟨.inl ⟨I,_,dU.b h⟩,p.a,m.n.a,I,_,_,_,_,I,I,h,p.d,?_,?_⟩;rw[i,bH]at n;simp only[an];rw[bn];omega;refine⟨⟨_,I⟩,g.f l,?_⟩;rw[az,i,a6];rintro k f ⟨⟨o,rfl⟩,g,h⟩;rw[an,dN]at h;exact r j f g l h
end
def hW(bs:V b4)(c:Nat×Nat)(f:bo->bo):V b4:=bs.modify c.1 λb=>{b with a:=b.a.modify c.2 f}
def b2(a:V b4):V Nat:=a.map λb=>b.a.length
def fk(c:V b4)(b:Nat×Nat):Prop:=∃a,(b2 c)[b.1]?=O a/\b.2<a
def oF(a:V b4)(d:Nat×Nat)(f):b2 (hW a d f)=b2 a:=by
 apply mH;intro c;unfold b2 hW;rw[bw,bw,mK];cases a[c]? with|none=>rfl|some b=>by_cases a:d.1=c;simp[a];simp[a]
def fk.b(f:fk c d):fk (hW c g e) d:=by unfold fk;rw[oF];exact f
def fk.a(g:fk c e)(f:b2 d=b2 c):fk d e:=by unfold fk;rw[f];exact g
def wv{l:V bq}{q:Nat×Nat}(c:fk (l.map bq.b) q):∃b a,l[q.1]?=O b/\b.a[q.2]?=O a:=by
 obtain⟨d,a,e⟩:=c;unfold Rb.b2 at a;rw[bz,bw]at a;cases c:l[q.1]? with
 |none=>rw[c]at a;cases a
 |some b=>rw[c]at a;have a:(b.a.map aN.a).length=d:=bA a;rw[an]at a;exact⟨b,b.a[q.2],I,eM (by omega)⟩
def CM{e:a2}{c a:Nat}{b:bq}{d:aN}(f:e.b[c]?=O b)(g:b.a[a]?=O d):e.p (c:Int) (a:Int)=O d:=by unfold a2.p a2.n;rw[ay (qL _),eX,f];show(if(0:Int)<=(a:Int)then b.a[(a:Int).toNat]? else aa)=_;rw[ay (qL _),eX,g]
def qh{s:a2}{b:bq}{d e:aN}{f:bo->bo}(g:s.b[c]?=O b)(i:b.a[a]?=O d)(h:e.a=f d.a):(s.g c a e).b.map bq.b=hW (s.b.map bq.b) (c,a) f:=by unfold a2.g hW;show(s.b.modify c _).map bq.b=_;rw[lY g,nR,lY (y:=b.b) (by rw[bw,g];rfl)];congr 1;show(⟨b.f,b.g,b.l,b.j,(b.a.set a e).map aN.a⟩:b4)=⟨b.f,b.g,b.l,b.j,(b.a.map aN.a).modify a f⟩;rw[lY (y:=d.a) (by rw[bw,i];rfl),nR,h]
structure bo.e(m:bo)(n:Nat):Prop where
 e:m.c.length<=n
 g:m.k.length<=n
 b:m.b.length<=n
 a:∀x∈m.b,x.2.length<=n
 f:(m.c.flatMap (·.2)).length+m.k.length<=n
 d:(m.b.map (·.1)).Nodup
def bo.e.c{m:bo}{p o:Nat}(n:m.e p)(l:p<=o):m.e o:=⟨cu n.e l,cu n.g l,cu n.b l,λx o=>cu (n.a x o) l,cu n.f l,n.d⟩
def bo.e.i{o:bo}{n:Nat}(m:o.e n):o.l.e n:=⟨m.e,m.g,m.b,m.a,m.f,m.d⟩
def A5(b:V (Nat×V Nat))(f i c)(h:b.length<=c)(d:∀a∈b,a.2.length<=c):(d7 b f i).length<=c+1/\∀a∈d7 b f i,a.2.length<=c+1:=by
 induction b generalizing c with
 |nil=>simp[d7]
 |cons j e k=>
  unfold d7;by_cases g:j.1=f;rw[ay g];refine⟨eZ h,λa b=>?_⟩;rcases bW.mp b with rfl|b;have:=d j cr;simp only[bH,cz,f'];omega;exact eZ (d a (cJ _ b));rw[aw g];have n:e.length+1<=c:=h;obtain⟨m,j⟩:=k c (by omega) (λa b=>d a (cJ _ b));obtain⟨l,rfl⟩:∃l,c=l+1:=⟨c -1,by omega⟩;refine⟨?_,λa b=>?_⟩;have c:(d7 e f i).length<=e.length+1:=by
   clear k m j h d n g;induction e with|nil=>simp[d7]|cons f e c=>unfold d7;split;simp;simp only[cz];omega
  simp only[cz];omega;rcases bW.mp b with rfl|b;exact eZ (d a cr);exact j a b
def L5(b:V (Nat×V Nat))(a c):(d7 b a c).map (·.1)=if a∈b.map (·.1)then b.map (·.1)else b.map (·.1)++[a]:=by
 induction b with|nil=>simp[d7]|cons d e c=>unfold d7;by_cases b:d.1=a;simp[b];rw[aw b,b1,c];have c:¬a=d.1:=λd=>b d.symm;by_cases b:a∈e.map (·.1);simp only[b1,bW,c,b,or_true,if_true];simp only[b1,bW,c,b,or_false,if_false,gJ]
def L6{c:V (Nat×V Nat)}(g f)(a:(c.map (·.1)).Nodup):((d7 c g f).map (·.1)).Nodup:=by rw[L5];split;exact a;rename_i d;rw[jA];exact⟨a,by simp,λi e j b h=>d (by simp at b;rw[<-b,<-h];exact e)⟩
def bo.e.l{m:bo}{p:Nat}(n:m.e p)(o:aG):(m.g o).e (p+1)/\(m.g o).c.length<=p:=by refine⟨⟨eZ n.e,?_,?_,?_,?_,?_⟩,n.e⟩;show(m.k++[_]).length<=_;have:=n.g;simp only[bH,cz,f'];omega;show(if 0<o.seq then d7 m.b o.sender m.d else m.b).length<=_;split;exact(A5 _ _ _ p n.b n.a).1;exact eZ n.b;show∀q∈(if 0<o.seq then d7 m.b o.sender m.d else m.b),_;split;exact(A5 _ _ _ p n.b n.a).2;exactλq p=>eZ (n.a q p);show(m.c.flatMap (·.2)).length+(m.k++[_]).length<=_;have:=n.f;simp only[bH,cz,f'];omega;show((if 0<o.seq then d7 m.b o.sender m.d else m.b).map (·.1)).Nodup;split;exact L6 _ _ n.d;exact n.d
def MG(p:a->Bool)(b:a->V c)(l:V a):((l.dropWhile p).flatMap b).length<=(l.flatMap b).length:=by
 conv=>rhs;rw[<-JH (p:=p) (l:=l)]
 rw[g8,bH];omega
def bo.e.j{m:bo}{o:Nat}(p:m.e o)(n:m.c.length+1<=o):m.o.e o:=by
 have n:m.m.e o:=by refine⟨?_,co _,p.b,p.a,?_,p.d⟩;show(m.c++[_]).length<=o;simp only[bH,cz,f'];omega;show((m.c++[(m.j,m.k)]).flatMap (·.2)).length+0<=o;have:=p.f;rw[i7,bH];exact this
 unfold bo.o;split;exact n;refine⟨?_,n.g,n.b,n.a,?_,n.d⟩;exact cu (Jh _).length_le n.e;refine cu (JK ?_ _) n.f;exact MG _ _ _
def bo.e.h{m:bo}{n:Nat}(o:m.e n)(r):(m.h r).e (n+1):=by obtain⟨m,p⟩:=o.l r;unfold bo.h;split;exact m.j (by omega);exact m
def dy(bs:V b4)(n:Nat):Prop:=∀b∈bs,∀a∈b.a,a.e n
def dy.a(g:dy d f)(l:f<=e):dy d e:=λd e h f=>(g d e h f).c l
def Ca{c:V a}(g:b∈c.modify f e):b∈c\/∃d∈c,b=e d:=by
 obtain⟨e,a⟩:=hG.mp g;rw[mK]at a;cases b:c[e]? with|none=>rw[b]at a;simp at a|some d=>rw[b]at a;by_cases c:f=e;simp[c]at a;exact .inr ⟨d,a1 b,a.symm⟩;simp[c]at a;exact .inl (a▸a1 b)
def dy.b{bs:V b4}{n i:Nat}{s:Nat×Nat}{f:bo->bo}(g:dy bs n)(l:n<=i)(q:∀m:bo,m.e n->(f m).e i):dy (hW bs s f) i:=by intro b p o k;rcases Ca p with d|⟨j,d,rfl⟩;exact(g b d o k).c l;rcases Ca k with h|⟨r,h,rfl⟩;exact(g j d o h).c l;exact q _ (g j d r h)
def Fit.a{f:aN}(d:f.a.e e)(g:e<=1000000):f.w:=by refine⟨?_,?_,?_,λx e=>?_⟩;have:=d.e;simp only[aN.a,an]at this;omega;have:=d.g;simp only[aN.a,an]at this;omega;have:=d.b;simp only[aN.a,an]at this;omega;have:=d.a (x.1,x.2.2) (bm.mpr ⟨x,e,I⟩);simp only at this;omega
def bo.e.k{n:bo}{o:Nat}(m:n.e o):n.p.e o:=by refine⟨m.e,cu (fv _ _) m.g,by simp only[bo.p,an];exact m.b,?_,?_,?_⟩;intro o n;obtain⟨p,o,rfl⟩:=bm.mp n;exact cu (fv _ _) (m.a p o);refine cu (JJ (fv _ _) _) m.f;simp only[bo.p,bz];exact m.d
def Fit.b{d:aN}(f:d.a.e e)(g:e<=1000000):d.p:=by
 have:=f.f;unfold aN.p aN.g;have e:(d.a.c.flatMap (·.2)).length=(d.d.flatMap (·.b)).length:=by show((d.d.map he.h).flatMap (·.2)).length=_;rw[jx,pz,pz];congr 1;apply ga;intro d _;simp[he.h]
 rw[e]at this;simp only[aN.a,an]at this;rw[bH];omega
def Fit.c{d:aN}(e:d.a.e f):(d.e.map (·.1)).Nodup:=by have:=e.d;simp only[aN.a,bz]at this;exact this
def dy.c{f:V bq}{g:Nat}{d:bq}{e:aN}{l j:Nat}(h:dy (f.map bq.b) g)(i:f[l]?=O d)(k:d.a[j]?=O e):e.a.e g:=
 h d.b (bm.mpr ⟨d,a1 i,I⟩) e.a (bm.mpr ⟨e,a1 k,I⟩)
def b3.f(r:b3)(s:Y×Nat×Nat):b3:=if(r.a.map (·.2)).contains s.2 then r else{r with a:=r.a++[s]}
section
inductive Q5(vs:V ah)(H:af)(Q:bj)(E:cf):Prop
 |a (x dx:Y) (g n p o:Nat) (R:V aE):vs=[.b x,.a g,.a n,.a p,.a o]->am H (a0 x kk dx []::R)->(∀H',aM H H'->am H' (fA.f ⟨x,dx,g,n,p,o⟩::R)->Q .c H')->Q5 vs H Q E
def Cp[a:aJ]:dz 2 116 0 Q5:=by refine dF 0 [] λd g e f c=>?_;obtain⟨x,e,f,h,i,o,j,rfl,d,g⟩:=c;refine⟨_,aj (b7 (W 0) (W 1) I) (aj (b7 (W 0) (W 2) I) (aj (b7 (W 0) (W 3) I) (au (b7 (W 0) (W 4) I)))),?_⟩;have c:=d.b 0 I;refine⟨c,a.s.a,(bJ I),az,a.s.b,(bJ I),az,a.s.c,(bJ I),az,a.s.d,(bJ I),g _ ((((aM.c.b c bY).b az bY).b az bY).b az bY) ?_⟩;exact(((d.n _).n _).n _).n (vU ⟨x,e,f,h,i,o⟩)
inductive Rv(vs:V ah)(H:af)(Q:bj)(E:cf):Prop
 |a (x dx:Y) (R:V aE):vs=[.b x]->am H (a0 x e0 dx []::R)->(∀pa ma H',aM H H'->am H' (b3.h ⟨x,dx,pa,ma,[],[],ae,0⟩::R)->Q .c H')->Rv vs H Q E
def Ot[h:aJ]:dz 2 117 0 Rv:=by
 refine dF 0 [] λH i f g e=>?_;obtain⟨k,g,l,rfl,j,n⟩:=e;refine⟨_,aj (b7 (W 0) (bC ai) I) (aj (b7 (W 0) (bC ai) I) (aj (b7 (W 0) kE I) (au (b7 (W 0) a5 I)))),co _,λe i=>?_⟩;have f:=j.f i (.a []);refine⟨f.b 1 I,h.o.a,(bJ I),?_⟩;have j:=f.j 1 I [("parts",.b e)];have p:=(aW.a (H:=H) (o:=.a []) i).c.b (o':=.c e0 g [("parts",.b e)]) (f.b 1 I) bY;refine⟨co _,λf m=>?_⟩;have i:=j.f m (.a []);refine⟨i.b 2 I,h.o.b,(bJ I),?_⟩;have j:=i.j 2 I [("parts",.b e),("moves",.b f)];have q:=(p.a (aW.a (o:=.a []) m).c).b (o':=.c e0 g [("parts",.b e),("moves",.b f)]) (i.b 2 I) bY;refine⟨j.b 2 I,h.o.c,(bJ I),?_⟩;have i:=j.j 2 I [("parts",.b e),("moves",.b f),("is_decided",.d ae)];have m:=q.b (o':=.c e0 g [("parts",.b e),("moves",.b f),("is_decided",.d ae)]) (j.b 2 I) bY;refine⟨i.b 2 I,h.o.d,(bJ I),?_⟩;let h:b3:=⟨k,g,e,f,[],[],ae,0⟩
 have j:=i.j 2 I (f3 h);have p:=m.b (o':=.c e0 g (f3 h)) (i.b 2 I) bY;have i:am _ ([a0 k e0 g (f3 h),[(e,cw.a [])],[(f,cw.a [])]]++l):=(j.a 1 I).a 2 I;exact n e f _ p (am.h (L:=h.m) (i.k (by show rr _ ([a0 k e0 g (f3 h),[(e,cw.a [])],[(f,cw.a [])],[]]++l).flatten;simp only[fj,lA,pu,lB,dM,b8,gJ];exact .refl _)))
inductive Rk(vs:V ah)(H:af)(Q:bj)(E:cf):Prop
 |a (x dx:Y) (n:Nat) (R:V aE):vs=[.b x,.a n]->am H (a0 x dD dx []::R)->(∀H',aM H H'->am H' (bf.h ⟨x,dx,n,0,aa⟩::R)->Q .c H')->Rk vs H Q E
def Op[e:aJ]:dz 2 118 0 Rk:=by
 refine dF 0 [] λc h d f g=>?_;obtain⟨x,c,d,f,rfl,h,k⟩:=g;refine⟨_,aj (b7 (W 0) (W 1) I) (aj (b7 (W 0) a5 I) (au (b7 (W 0) kF I))),?_⟩;have g:=h.b 0 I;refine⟨g,e.k.c,(bJ I),az,e.k.b,(bJ I),az,e.k.a,(bJ I),k _ (((aM.c.b g bY).b az bY).b az bY) ?_⟩;have e:am _ (a0 x dD c (b6 ⟨x,c,d,0,aa⟩)::f):=((h.n [("number",.a d)]).n [("number",.a d),("epoch",.a 0)]).n _;exact e.k (by show rr _ (((a0 x dD c (b6 ⟨x,c,d,0,aa⟩)++([]++[])))++f.flatten);simp only[dM,fj];exact .refl _)
inductive Rj(vs:V ah)(H:af)(Q:bj)(E:cf):Prop
 |a (x:bf) (R:V aE):vs=[.b x.e]->am H (x.h::R)->(x.a.isSome=ab->dO ak cE E H (-7))->(x.a=aa->∀(t:b3) H',t.a=[]->t.b=[]->t.j=ae->t.e=0->aM H H'->am H' (bf.h {x with a:=O t}::R)->Q .c H')->Rj vs H Q E
def Cu[b:aJ]:hK 4 118 1 Rj:=by
 refine ix 0 [] λf h e g d=>?_;obtain⟨x,e,rfl,g,h,n⟩:=d;refine⟨_,aj (bD (eI (nF (c0 0))) (au (f0 b.zl)) bQ) (au (b7 (W 0) (BR b.zB Ot) I)),?_⟩;have d:=g.i (L:=x.i);have g:f x.e=O (.c dD x.g (b6 x)):=d.b 0 I;refine⟨g,b.k.a,I,?_⟩;cases f:x.a with
 |some t=>exact(h (by rw[f];rfl))
 |none=>
  refineλk g j h i=>?_;have m:=d.t (C:=e0) j h i;refine⟨k,g,_,I,m,λp o l q d=>⟨I,?_⟩⟩;have m:=(gU j h i).c.a q;have h:l x.e=O (.c dD x.g (b6 x)):=d.b 1 I;refine⟨h,b.k.a,(bJ I),?_⟩;let t:b3:=⟨k,g,p,o,[],[],ae,0⟩
  have g:=d.j 1 I (b6 {x with a:=O t});have b:am _ ([a0 x.e dD x.g (b6 {x with a:=O t}),t.h,l_ x.a]++e):=g.a 1 I;rw[f]at b;refine n f t _ I I I I (m.b h bY) (am.h (L:=bf.i {x with a:=O t}) (b.k (by show rr ([a0 x.e dD x.g (b6 {x with a:=O t}),t.h,[]]++e).flatten ([a0 x.e dD x.g (b6 {x with a:=O t}),t.h]++e).flatten;simp only[fj,lA,pu,lB,dM,b8,gJ];exact .refl _)))
inductive Rw(vs:V ah)(H:af)(Q:bj)(E:cf):Prop
 |a (t:b3) (x:Y×Nat×Nat) (R:V aE):vs=[.b t.g,.b x.1]->am H (t.h::R)->fO H t.a->fO H [x]->t.a.length<=1000000->(∀H',aM H H'->am H' ((t.f x).h::R)->Q .c H')->Rw vs H Q E
def Ou[l:aJ]:dz 2 117 1 Rw:=by
 refine dF 0 [] λi d e b f=>?_;obtain⟨b,d,o,rfl,n,j,k,h,g⟩:=f;refine⟨_,au (bD (bV (PG e.a) (W 1) (c0 0) (by with_unfolding_all rfl)) (au (a9 (eY e9 gL ha gG (c0 0) (c2 1)))) bQ),?_⟩;have f:=n.i (L:=b.m);have m:i b.g=O (.c e0 b.n (f3 b)):=f.b 0 I;have h:i b.p=O (.a (b.a.map cg)):=f.e 1 I;have p:=k d cr;refine⟨m,l.o.a,I,b.a.map λe=>hO e.2,hO d.2,Bn h λe k=>Bo (j e k),Bo p,(by rw[show(b.a.map λe:Y×Nat×Nat=>hO e.2)=(b.a.map (·.2)).map hO by rw[bz];rfl];exact B0 _),I,bJ I,?_⟩;have p:(Je (b.a.map λe:Y×Nat×Nat=>hO e.2) λk=>k.eqv (hO d.2))=(b.a.map (·.2)).contains d.2:=by
  rw[yL,List.contains_eq_any_beq,yL];congr 1;funext e;show(hO e.2).eqv (hO d.2)=(d.2==e.2);rw[MW];by_cases j:e.2=d.2;rw[j];simp;have:(d.2==e.2)=ae:=by simp;exactλk=>j k.symm
  rw[this];simp[j]
 rw[p];show if(!(b.a.map (·.2)).contains d.2)=ab then _ else _;unfold b3.f at g;refine bG (λe=>?_) (λe=>?_);have e:(b.a.map (·.2)).contains d.2=ae:=by simpa using e
 rw[e]at g;refine⟨m,l.o.a,I,.inl ⟨I,_,dU.b h⟩,_,_,_,I,I,h,(by rw[an,bn];omega),?_⟩;have j:=f.p 1 I (.a (b.a.map cg++[cg d]));refine g _ (aM.c.b h iz) (am.h (L:=b3.m {b with a:=b.a++[d]}) ?_);show am _ ([a0 b.g e0 b.n (f3 b),[(b.p,.a ((b.a++[d]).map cg))],[(b.k,.a (b.b.map fA.d))],b.b.flatMap (fA.f)]++o);rw[a6];exact j;have e:(b.a.map (·.2)).contains d.2=ab:=by simpa using e
 rw[e]at g;exact g i aM.c n
inductive Sm(vs:V ah)(H:af)(Q:bj)(E:cf):Prop
 |a (x:bf) (y:Y×Nat×Nat) (R:V aE):vs=[.b x.e,.b y.1]->am H (x.h::R)->(∀t,x.a=O t->fO H t.a/\t.a.length<=1000000)->fO H [y]->(∀H',aM H H'->am H' (bf.h {x with a:=x.a.map λt=>t.f y}::R)->Q (.a (if x.a.isSome then 1 else 0)) H')->Sm vs H Q E
def Pe[l:aJ]:b' 3 56 Sm:=by
 refine cF 0 [] λk f d e m=>?_;obtain⟨d,i,n,rfl,p,r,s,f⟩:=m;refine⟨_,aj (bD (eI (mz (c0 0))) (c1 (di l.D)) bQ) (aj (a9 (bT Ou (c0 0) (c2 1))) (c1 (di l.E))),?_⟩;have m:=p.i (L:=d.i);have o:k d.e=O (.c dD d.g (b6 d)):=m.b 0 I;refine⟨o,l.k.a,I,?_⟩;cases j:d.a with
 |none=>
  have f:=f k aM.c;rw[j]at f;have q:({d with a:=(aa:ar b3).map λe=>e.f i}:bf)=d:=by cases d;simp_all
  rw[q]at f;exact f p
 |some e=>
  obtain⟨t,u⟩:=r e j;have p:am k ([a0 d.e dD d.g (b6 d),e.h]++n):=by
   have:d.i=[a0 d.e dD d.g (b6 d),e.h]:=by show[_,l_ d.a]=_;rw[j];rfl
   rw[<-this];exact m
  have m:=p.a 1 I;have q:k e.g=O (.c e0 e.n (f3 e)):=(b3.q (m.d 0 I)).a;have r:(b6 d).lookup ("transaction":ac)=O (.b e.g):=by show O (iC d.a)=_;rw[j];rfl
  refine⟨o,l.k.a,r,q,I,e,i,_,I,m,t,s,u,λk w p=>?_⟩;have f:=f k w;rw[j]at f;refine f (am.h (L:=bf.i {d with a:=O (e.f i)}) ?_);have f:(e.f i).g=e.g:=by unfold b3.f;split<;>rfl
  have l:b6 {d with a:=O (e.f i)}=b6 d:=by
   unfold b6;show[_,_,(("transaction":ac),ah.b (e.f i).g)]=[_,_,(("transaction":ac),iC d.a)];rw[j,f]
   rfl
  show am k ([a0 d.e dD d.g (b6 {d with a:=O (e.f i)}),(e.f i).h]++n);rw[l];exact p.a 1 I
end
def _root_.L3.am.l{c H S:aE}(T:am Q (c::R))(U:c.Perm (H++S)):am Q (H::S::R):=am.A (T.C U)
def _root_.L3.am.m{c H S:aE}(T:am Q (H::S::R))(U:c.Perm (H++S)):am Q (c::R):=(am.y T).C U.symm
def kl{a d b c e:aE}(f:d.Perm (c++e)):(a++(d++b)).Perm (c++(a++(e++b))):=by refine(ia a (ly b f)).trans ?_;rw[b8];exact gk _ _ _
def sa{d:Type}{a:d->aE}{b:V d}{c:Nat}{e:d}(f:b[c]?=O e):(b.flatMap a).Perm (a e++((b.take c).flatMap a++(b.drop (c+1)).flatMap a)):=by
 conv=>lhs;rw[ne f]
 rw[g8,ez];exact gk _ _ _
def sb{d:Type}{a:d->aE}{c:V d}{b:Nat}{g e:d}(f:c[b]?=O g):((c.set b e).flatMap a).Perm (a e++((c.take b).flatMap a++(c.drop (b+1)).flatMap a)):=by rw[nn f,g8,ez];exact gk _ _ _
section
def bq.o(r:bq):r.c=(a0 r.e ec r.i (hM r)++([(r.k,cw.a (a4 r.f))]++[(r.h,cw.a (r.a.map aN.i))]))++(r.a.flatMap (aN.l)++[]):=by simp[bq.c]
def bq.p{r:bq}{u:aN}(w:r.a[t]?=O u):∃x,(r.c).Perm (u.l++x)/\∀s:aN,s.c=u.c->(bq.c {r with a:=r.a.set t s}).Perm (s.l++x):=by refine⟨_,by rw[bq.o];exact kl (sa w),λs x=>?_⟩;rw[bq.o];have y:(r.a.set t s).map aN.i=r.a.map aN.i:=i_ w (by show ah.b s.c=ah.b u.c;rw[x]);show((a0 r.e ec r.i (hM r)++([(r.k,cw.a (a4 r.f))]++[(r.h,cw.a ((r.a.set t s).map aN.i))]))++((r.a.set t s).flatMap (aN.l)++[])).Perm _;rw[y];exact kl (sb w)
def a2.r(x:a2):x.d=a0 x.e dA x.l (f2 x)++([(x.m,cw.a (x.b.map bq.d))]++(x.b.flatMap (bq.c)++([(x.i,jJ x.j (.b (ca x.a)))]++(x.a.flatMap (bf.h)++([(x.k,cw.b (dh x.c))]++(x.c.flatMap (a_.j)++[])))))):=I
def a2.t{x:a2}{A:bq}(B:x.b[z]?=O A):∃C,(x.d).Perm (A.c++C)/\∀y:bq,y.e=A.e->(a2.d {x with b:=x.b.set z y}).Perm (y.c++C):=by refine⟨_,by rw[a2.r,<-b8];exact kl (sa B),λy C=>?_⟩;rw[a2.r,<-b8];have D:(x.b.set z y).map bq.d=x.b.map bq.d:=i_ B (by show ah.b y.e=ah.b A.e;rw[C]);show((a0 x.e dA x.l (f2 x)++[(x.m,cw.a ((x.b.set z y).map bq.d))])++((x.b.set z y).flatMap (bq.c)++_)).Perm _;rw[D];exact kl (sb B)
def a2.u{s:a2}{i z:Nat}{y:bq}{A:aN}(C:s.b[i]?=O y)(H:y.a[z]?=O A):∃B,(s.d).Perm (A.l++B)/\∀x:aN,x.c=A.c->(a2.d (s.g i z x)).Perm (x.l++B):=by obtain⟨A,D,E⟩:=a2.t C;obtain⟨B,F,G⟩:=bq.p H;refine⟨B++A,D.trans (by rw[<-b8];exact ly _ F),λx A=>?_⟩;unfold a2.g;rw[lY C];refine(E {y with a:=y.a.set z x} I).trans ?_;rw[<-b8];exact ly _ (G x A)
def a2.q{s:a2}{i:Nat}{x:bf}(y:s.a[i]?=O x):∃z,(s.d).Perm (x.h++z)/\∀x':bf,x'.e=x.e->x'.c=x.c->(a2.d {s with a:=s.a.set i x'}).Perm (x'.h++z):=by refine⟨_,by rw[a2.r,<-b8,<-b8,<-b8];exact kl (sa y),λx' z B=>?_⟩;rw[a2.r,<-b8,<-b8,<-b8];have A:ca (s.a.set i x')=ca s.a:=i_ y (by rw[z,B]);show(((a0 s.e dA s.l (f2 s)++[(s.m,cw.a (s.b.map bq.d))])++s.b.flatMap (bq.c))++[(s.i,jJ s.j (.b (ca (s.a.set i x'))))]++((s.a.set i x').flatMap (bf.h)++_)).Perm _;rw[A];exact kl (sb y)
def a2.s{s:a2}{x:a_}(z:s.c[y]?=O x):∃A,(s.d).Perm (x.j++A)/\∀x':a_,x'.e=x.e->x'.b=x.b->(a2.d {s with c:=s.c.set y x'}).Perm (x'.j++A):=by refine⟨_,by rw[a2.r,<-b8,<-b8,<-b8,<-b8,<-b8];exact kl (sa z),λx' A C=>?_⟩;rw[a2.r,<-b8,<-b8,<-b8,<-b8,<-b8];have B:dh (s.c.set y x')=dh s.c:=i_ z (by rw[A,C]);show(((a0 s.e dA s.l (f2 s)++[(s.m,cw.a (s.b.map bq.d))])++s.b.flatMap (bq.c))++[(s.i,jJ s.j (.b (ca s.a)))]++s.a.flatMap (bf.h)++[(s.k,cw.b (dh (s.c.set y x')))]++((s.c.set y x').flatMap (a_.j)++_)).Perm _;rw[B];exact kl (sb z)
def bf.j{x:bf}{t:b3}(l:x.a=O t):(x.h).Perm (t.h++a0 x.e dD x.g (b6 x)):=by show(a0 x.e dD x.g (b6 x)++(l_ x.a++[])).Perm _;rw[l,dM];exact nU
end
def vn(xs:V c)(f:c->ah)(a b:Nat):f9 (xs.map f) (O (a:Int)) (O (b:Int))=((xs.take b).drop a).map f:=by unfold f9;rw[HT.mc,HT.mc,jz,ka,an];apply mH;intro c;simp only[List.getElem?_take,Js,bw];by_cases d:a<=xs.length;rw[pC d];by_cases d:a+c<b;rw[ay d];by_cases b:a+c<xs.length;rw[ay (by omega)];rw[px (by omega)];split<;>rfl;rw[aw d,aw (by omega)];rw[uy (show xs.length<=a by omega),px (show xs.length<=a+c by omega),aw (by omega)];split<;>rfl
def fP(bs:V b4)(b a:Nat)(c:V (Nat×Nat)):V b4:=c.foldl (λbs d=>hW bs d λc=>(c.h (k6 b a)).l) bs
def oE(a:V b4)(e d:Nat)(b:V (Nat×Nat)):b2 (fP a e d b)=b2 a:=by
 induction b generalizing a with|nil=>rfl|cons f g c=>exact(c _).trans (oF _ _ _)
def nd{bs:V b4}{n:Nat}{a:V (Nat×Nat)}(b:dy bs n):dy (fP bs d c a) (n+a.length):=by
 induction a generalizing bs n with|nil=>exact b|cons f a e=>have:=e (bs:=hW bs f λe=>(e.h (k6 d c)).l) (n:=n+1) (b.b (mM n) λd c=>(c.h _).i);rw[cz,show n+(a.length+1)=n+1+a.length by omega];exact this
def b3.i(t:b3):Nat:=if t.j=ab then 2 else 3
abbrev b3.c(t:b3):V (Nat×Nat):=t.a.map (·.2)
def nh{s:a2}{i j:Nat}{a:bq}{f:aN}{c:Prop}(d:s.b[i]?=O a)(e:a.a[j]?=O f)(b:s.p (i:Int) (j:Int)=aa):c:=by rw[CM d e]at b;cases b
def nf{s:a2}{i j:Nat}{a:bq}{c d:aN}(e:s.b[i]?=O a)(f:a.a[j]?=O c)(b:s.p (i:Int) (j:Int)=O d):d=c:=by rw[CM e f]at b;exact(bA b).symm
def Nn{d:Bool}{x y:Nat}{e:L2.aQ}{b:af}{c:bj}(f:c (.a ((if d=ab then x else y:Nat):Int)) b):if d=ab then kG (.a (x:Int)) e b c else kG (.a (y:Int)) e b c:=by cases d<;>exact f
section
def hV(a:bf)(b:aN)(key:ar Nat)(c:Nat)(v:V Int):aG:={place:=0,time:=c,key:=key,value:=O v,sender:=a.c,seq:=(cZ b.a.b a.c).length+1,kind:=if a.a.isSome=ab then 1 else 0}
inductive SO(vs:V ah)(H:af)(Q:bj)(E:cf):Prop
 |a (s:a2) (i:Nat) (x:bf) (y:Y×Nat×Nat) (b:bq) (P:aN) (key:ar Nat) (time:Nat) (va:Y) (v:V Int) (R:V aE):vs=[.b s.e,.b x.e,.b y.1,.a (c_ key),.a time,.b va]->am H (s.d::[(va,.a (bg v))]::R)->s.a[i]?=O x->(∀t,x.a=O t->fO H t.a/\t.a.length<=1000000)->fO H [y]->s.b[y.2.1]?=O b->b.a[y.2.2]?=O P->P.w->(∀(P':aN) H',P'.c=P.c->P'.a=P.a.h (hV x P key time v)->aM H H'->am H' (a2.d {s.g y.2.1 y.2.2 P' with a:=s.a.set i {x with a:=x.a.map λt=>t.f y}}::R)->Q (.a P.f) H')->SO vs H Q E
def CJ[r:aJ]:cL 6 57 SO:=by
 refine cT 3 [] λb g e f d=>?_;obtain⟨k,i,b,g,w,P1,key,f,e,v,l,rfl,q,t,x,y,h,j,B,E⟩:=d;refine⟨_,aj (aA 6 (bT ja (W 0) (c2 2))) (aj (aA 7 (ey mx (c5 (bT Cq (W 6) (c3 (c0 1)))) a5)) (aj (aA 8 (aP Pe (c7 1 2))) (c1 (bT v0 (W 6) (c3 (hQ r.R v1 (Z (W 4) (Z (W 3) (n2 (W 5) (c0 1) (W 7) (W 8)))))))))),?_⟩;have m:=a2.f (q.d 0 I);have D:=a1 t;refine⟨m.a,I,k,g.1,g.2.1,g.2.2,I,m,y g cr,λd p=>?_,λn=>nh h j n⟩;obtain rfl:=nf h j p;have p:=(m.d w (a1 h)).c d (a1 j);refine⟨p.b,I,(m.c b D).a,r.k.c,I,d,b.c,I,p,λu z n A=>?_⟩;refine⟨_,_,I,.inl (dU.b A),_,_,I,I,?_⟩;have A:am z (k.d::[(e,.a (bg v))]::l):=q.o λp o m=>n p o m;obtain⟨p,q,D⟩:=a2.q t;refine⟨b,g,_,I,A.l q,λp m=>⟨(x p m).1.a n.c,(x p m).2⟩,y.a n.c,λz F A=>?_⟩;let q:bf:={b with a:=b.a.map λp=>p.f g}
 let m:a2:={k with a:=k.a.set i q}
 have p:am z (m.d::[(e,.a (bg v))]::l):=A.m (D q I I);have g:=a2.f (p.d 0 I);have y:=(g.d w (a1 h)).c d (a1 j);have z:=g.c q (a1 (i:=i) (by show(k.a.set i q)[i]?=_;rw[fK (bu.mp t).1]));refine⟨y.b,I,z.a,r.k.c,I,λg k x t w=>?_⟩;have r:=p.t (C:=d8) x t w;have A:ah.a (((cZ d.a.b b.c).map λp:Nat=>ah.a (p:Int)).length+1:Int)=ah.a ((hV b d key f v).seq:Int):=by rw[an];rfl
 have z:ah.a (if b.a.isSome=ab then 1 else 0)=ah.a ((hV b d key f v).kind:Int):=by show _=ah.a (((if b.a.isSome=ab then 1 else 0:Nat)):Int);split<;>rfl
 refine⟨g,k,e,hV b d key f v,_,?_,r,λq D y=>⟨I,?_⟩⟩;show[ah.b g,ah.a f,ah.a (c_ key),ah.b e,ah.a b.c,ah.a (((cZ d.a.b b.c).map λp:Nat=>ah.a (p:Int)).length+1:Int),ah.a (if b.a.isSome=ab then 1 else 0)]=_;rw[A,z]
 rfl
 let u:ba:=⟨g,k,e,hV b d key f v⟩
 have p:am q (m.d::u.h::l):=by have r:=y.a 2 I;have y:am q ([a0 g d8 k (et .c (hV b d key f v) e),[(e,cw.a (bg v))]]++(m.d::l)):=r.a 1 I;exact(am.h (L:=[a0 g d8 k (et .c (hV b d key f v) e),[(e,cw.a (bg v))]]) y).a 1 I
 obtain⟨e,b,k⟩:=a2.u (s:=m) h j;have f:=((p.l b).a 2 I).a 1 I;refine⟨d,u,_,I,f,B,λP' e b h j g=>?_⟩;exact E P' e b h (((n.c.a F).a ((gU x t w).c.a D)).a j) (g.m (k P' b))
inductive Sv(vs:V ah)(H:af)(Q:bj)(E:cf):Prop
 |a (s:a2) (i:Nat) (x:bf) (t:b3) (c n:Nat) (R:V aE):vs=[.b s.e,.b x.e,.a c]->am H (s.d::R)->s.a[i]?=O x->x.a=O t->fO H t.a->(∀q∈t.c,fk (s.b.map bq.b) q)->dy (s.b.map bq.b) n->n+t.a.length<=1000000->(∀bs H',bs.map bq.b=fP (s.b.map bq.b) x.c t.i ((t.c.take c).drop t.e)->aM H H'->am H' (a2.d {s with b:=bs,a:=s.a.set i {x with a:=O {t with e:=c}}}::R)->Q .c H')->Sv vs H Q E
def CG[h:aJ]:cL 6 58 Sv:=by
 refine cT 4 [] λk j g i d=>?_;obtain⟨g,j,x,t,G,S,p,rfl,n,R,u,J,A,E,i,za⟩:=d;refine⟨_,aj (aA 3 (c0 1)) (aj (aA 4 (x6 (ju (c0 3)) (di h.T) (di h.U))) (aj (dY kQ I (bZ (lu lw (c0 3) (iO (c0 3)) (iO (W 2)))) (bE 5) (aj (aA 6 (bT ja (W 0) (c2 5))) (aj (a9 (bT v0 (W 6) (c3 (aP Pj (c6 (c0 1) (W 4)))))) (au (a9 (a' sr (W 6))))))) (au (b7 (W 3) (W 2) I)))),?_⟩;have d:=a2.f (n.d 0 I);have M:=a1 R;have i:=d.c x M;have d:=i.b t u;have j:(b6 x).lookup ("transaction":ac)=O (.b t.g):=by show O (iC x.a)=_;rw[u];rfl
 refine⟨i.a,h.k.a,j,d.a,h.o.c,I,Nn (x:=2) (y:=3) ?_⟩;refine⟨d.a,h.o.a,I,d.a,h.o.d,I,_,I,_,I,_,_,I,dU.b d.c,λo j=>?_⟩;rw[vn];generalize K:(t.a.take G).drop t.e=i;have z:=n.f j (.a (i.map cg));have n:aW k (al k o (.a (i.map cg))):=aW.a j;have D:∀y∈i,y∈t.a:=λy q=>by rw[<-K]at q;exact y0 (ur q)
 have d:i.length<=t.a.length:=by rw[<-K,kL,e7];omega
 refine⟨_,I,⟨_,dU.b az⟩,ev (xs:=i.map cg) (λw C r=>(∃N P,C=[O (.b g.e),O (.b x.e),O (.a G),O (.b t.g),O (.a t.i),N,P])/\aM k r/\∃d:V bq,d.map bq.b=fP (g.b.map bq.b) x.c t.i ((i.take w).map (·.2))/\am r ([(o,.a (i.map cg))]::a2.d {g with b:=d}::p)) ⟨⟨_,_,I⟩,n.c,g.b,I,z⟩ ?_ ?_ ?_⟩;rintro w C r _ ⟨_,_,d,_,j⟩;exact dU.b (j.e 0 I);rintro w o C r n ⟨⟨N,P,rfl⟩,B,d,k,j⟩;obtain⟨y,q,rfl⟩:=d2 n;have z:=D y (a1 q);have p:fk (d.map bq.b) y.2:=(A y.2 (bm.mpr ⟨y,z,I⟩)).a (by rw[k,oE]);obtain⟨D,Q,n,o⟩:=wv p;have p:=a2.f (s:={g with b:=d}) (j.d 1 I);have H:=p.c x M;have A:=(bu.mp q).1;have F:Q.a.e 999999:=by
  have A:dy (d.map bq.b) (S+((i.take w).map (·.2)).length):=by rw[k];exact nd E
  refine(A.c n o).c ?_;rw[an,e7];omega
 refine⟨p.a,I,{g with b:=d},y.1,y.2.1,y.2.2,I,p,B _ _ (J y z),λA w=>?_,λi=>nh (s:={g with b:=d}) n o i⟩;obtain rfl:=nf (s:={g with b:=d}) n o w;have i:=(p.d D (a1 n)).c A (a1 o);refine⟨i.b,I,H.a,h.k.c,I,x.c,t.i,_,I,j,λT z S zc w=>?_⟩;obtain⟨z,i,zb⟩:=a2.u (s:={g with b:=d}) n o;have D:=(((w.a 2 I).l i).a 2 I).a 1 I;refine⟨A,T,_,I,D,Fit.a F (by omega),λi E J U zd z=>?_⟩;have F:E A.c=O (.c bN i.k (cx i)):=by rw[<-J];exact(aN.u (z.d 0 I)).b
 refine⟨F,I,i,_,by rw[J];rfl,z,λA F T X ze E=>?_⟩;have F:=(E.m (zb A (T.trans J))).a 1 I;refine⟨⟨_,_,I⟩,((B.a zc).a zd).a ze,(a2.g {g with b:=d} y.2.1 y.2.2 A).b,?_,F⟩;rw[qh (s:={g with b:=d}) n o (f:=λQ=>(Q.h (k6 x.c t.i)).l) (by rw[X,U,S])];rw[l9 (λn:Y×Nat×Nat=>n.2) q];unfold fP;rw[mJ];show hW (d.map bq.b) _ _=_;rw[k]
 rfl
 rintro C r ⟨⟨N,P,rfl⟩,B,d,k,j⟩;rw[an,dN]at k;have w:=j.a 1 I;have p:=a2.f (s:={g with b:=d}) (w.d 0 I);have H:=p.c x M;have j:=H.b t u;obtain⟨n,i,A⟩:=a2.q (s:={g with b:=d}) R;have D:=(w.l i).l (bf.j u);have z:=D.i (L:=t.m);refine⟨j.a,h.o.d,(bJ I),?_⟩;let g:b3:={t with e:=G}
 let h:bf:={x with a:=O g}
 have E:=am.h (L:=g.m) (z.j 0 I (f3 g));have i:b6 h=b6 x:=by
  unfold b6;show[_,_,(("transaction":ac),ah.b t.g)]=[_,_,(("transaction":ac),iC x.a)];rw[u]
  rfl
 have F:=(E.m (by have:=bf.j (x:=h) (t:=g) I;rw[i]at this;exact this)).m (A h I I);refine za d _ ?_ (B.b j.a bY) (F.g 1 I);rw[k,<-K,jz,ka]
end
def vH(c:a<b):jq b (a:Int)=O a:=by unfold jq;simp;omega
def k_(c:a_)(b a:Int):Prop:=0<=b/\0<=a/\c.h[b.toNat]?=O (O a.toNat)
def BF{o:Y}{p:aF}{i:V (aU×ah)}{x:eH}{A:dv}{n:hA}{h:L2.aQ}{g:af}(j:Nat->L2.aQ->af->Prop)(B:j 0 h g)(D:∀f h g,f<=i.length->j f h g->g o=O (.e p (.b i)))
  (E:∀f t m h g,i[f]?=O (t,m)->j f h g->x m h g λw q=>A {n with a:=j (f+1),d:=j (f+1),c:=n.a} w q) (C:∀h g,j i.length h g->n.a h g):
  ∃s:Nat->Nat->L2.aQ->af->Prop,(∃l,s 0 l h g)/\∀f l h g,s f l h g->
   ((o1 o p i).b f g/\n.a h g)\/((o1 o p i).a f g/\∃r:L2.aQ->af->Prop,(∀u k,r u k->∃z,z<l/\s (f+1) z u k)/\∀m k,(o1 o p i).c f g m k->x m h k λw q=>A {n with a:=r,d:=r,c:=n.a} w q):=by
 refine⟨λf l h g=>l=i.length -f/\f<=i.length/\j f h g,⟨i.length,by simp,co _,B⟩,?_⟩;rintro f l h g ⟨rfl,p,n⟩;have o:=D f h g p n;by_cases l:f<i.length;refine .inr ⟨⟨o,l⟩,j (f+1),λu k p=>⟨i.length -(f+1),by omega,I,l,p⟩,λm k y=>?_⟩;obtain⟨j,t,y⟩:=y;subst j;exact E f t m h _ y n;have j:f=i.length:=by omega
 subst j;exact .inl ⟨⟨o,bp _⟩,C h g n⟩
def M_{p:Y}{q:aF}{i:V (aU×ah)}{x:eH}{z:dv}{n:hA}{h:L2.aQ}{g:af}(j:Nat->L2.aQ->af->Prop)(A:j 0 h g)(C:∀f h g,f<=i.length->j f h g->g p=O (.e q (.b i)))
  (D:∀f k o h g,i[f]?=O (k,o)->j f h g->x (dC k) h g λw r=>z {n with a:=j (f+1),d:=j (f+1),c:=n.a} w r) (B:∀h g,j i.length h g->n.a h g):
  ∃t:Nat->Nat->L2.aQ->af->Prop,(∃m,t 0 m h g)/\∀f m h g,t f m h g->
   ((ll p q i).b f g/\n.a h g)\/((ll p q i).a f g/\∃s:L2.aQ->af->Prop,(∀u l,s u l->∃y,y<m/\t (f+1) y u l)/\∀o l,(ll p q i).c f g o l->x o h l λw r=>z {n with a:=s,d:=s,c:=n.a} w r):=by
 refine⟨λf m h g=>m=i.length -f/\f<=i.length/\j f h g,⟨i.length,by simp,co _,A⟩,?_⟩;rintro f m h g ⟨rfl,p,n⟩;have q:=C f h g p n;by_cases p:f<i.length;refine .inr ⟨⟨q,p⟩,j (f+1),λu l r=>⟨i.length -(f+1),by omega,I,p,r⟩,λo l m=>?_⟩;obtain⟨j,k,l,m,rfl⟩:=m;subst j;exact D f k l h _ m n;have j:f=i.length:=by omega
 subst j;exact .inl ⟨⟨q,bp _⟩,B h g n⟩
section
inductive Sc(vs:V ah)(H:af)(Q:bj)(E:cf):Prop
 |a (s:a2) (i:Nat) (x:bf) (t:b3) (n:Nat) (R:V aE):vs=[.b s.e,.b x.e]->am H (s.d::R)->s.a[i]?=O x->x.a=O t->fO H t.a->(∀q∈t.c,fk (s.b.map bq.b) q)->dy (s.b.map bq.b) n->n+t.a.length<=1000000->(∀bs H',bs.map bq.b=fP (s.b.map bq.b) x.c t.i (t.c.drop t.e)->aM H H'->am H' (a2.d {s with b:=bs,a:=s.a.set i {x with a:=aa}}::b3.h {t with e:=t.a.length}::R)->Q .c H')->Sc vs H Q E
def qb[d:aJ]:cL 7 59 Sc:=by
 refine cT 0 [] λf m g h j=>?_;obtain⟨f,i,x,t,q,n,rfl,p,h,g,y,z,r,A,k⟩:=j;refine⟨_,aj (a9 (aP CG (n0 (W 0) (W 1) (c5 (n4 (c0 1)))))) (au (b7 (W 1) kF I)),?_⟩;have j:=a2.f (p.d 0 I);have o:=a1 h;have m:=j.c x o;have j:=m.b t g;have o:(b6 x).lookup ("transaction":ac)=O (.b t.g):=by show O (iC x.a)=_;rw[g];rfl
 refine⟨m.a,d.k.a,o,j.a,d.o.a,I,_,_,I,.inl (dU.b j.c),f,i,x,t,t.a.length,q,n,(by rw[an];rfl),p,h,g,y,z,r,A,λo q w B u=>?_⟩;let m:b3:={t with e:=t.a.length}
 let g:bf:={x with a:=O m}
 let j:a2:={f with b:=o,a:=f.a.set i g}
 have p:j.a[i]?=O g:=by show(f.a.set i g)[i]?=_;rw[fK (bu.mp h).1]
 obtain⟨r,y,z⟩:=a2.q (s:=j) p;have h:=(u.l y).l (bf.j (x:=g) (t:=m) I);have p:q x.e=O (.c dD x.g (b6 g)):=h.b 1 I;refine⟨p,d.k.a,(bJ I),?_⟩;let d:bf:={x with a:=aa}
 have q:am _ (m.h::a0 x.e dD x.g (b6 d)::r::n):=h.j 1 I (b6 d);have m:d.h=a0 x.e dD x.g (b6 d):=by show a0 x.e dD x.g (b6 d)++([]++[])=_;simp
 have h:=q.a 1 I;rw[<-m]at h;have m:=(am.m (h.a 2 I|>.a 1 I) (z d I I));refine k o _ ?_ (B.b p bY) ?_;rw[w,mL (by rw[an];exact bp _)];have h:(j.a.set i d)=f.a.set i d:=by show(f.a.set i g).set i d=_;rw[kb]
 rw[h]at m;exact m
inductive Q3(vs:V ah)(H:af)(Q:bj)(E:cf):Prop
 |a (g:a_) (R:V aE):vs=[.b g.e]->am H (g.j::R)->(∀l H',aM H H'->am H' (a_.j {g with n:=l,d:=g.a}::R)->Q .c H')->Q3 vs H Q E
def Cn[e:aJ]:dz 2 109 4 Q3:=by
 refine dF 0 [] λj h b g f=>?_;obtain⟨b,h,rfl,g,k⟩:=f;refine⟨_,au (b7 (W 0) (pa tM (by rfl) e.y rA (c3 (c0 0))) I),?_⟩;have f:=g.i (L:=b.m);have h:=a_.o (g.d 0 I);refine⟨h.a,e.h.a,I,_,_,I,.inl (dU.b h.b),λg i=>?_⟩;have h:=f.f i (.a (a4 b.a));have f:al j g (.a (a4 b.a)) b.e=O (.c ei b.l (fZ b)):=h.b 1 I;refine⟨f,e.h.f,(bJ I),?_⟩;let e:a_:={b with n:=g,d:=b.a}
 have b:=h.j 1 I (fZ e);have h:=b.g 5 I;have b:=h.x 4;exact k g _ ((aW.a i).c.b f bY) (am.h (L:=e.m) b)
inductive Q2(vs:V ah)(H:af)(Q:bj)(E:cf):Prop
 |a (g:a_) (p o:Nat) (R:V aE):vs=[.b g.e,.a p,.a o]->am H (g.j::R)->p<g.a.length->(∀H',aM H H'->am H' (a_.j {g with a:=g.a.modify p λz=>eN z o}::R)->Q .c H')->Q2 vs H Q E
def Og[f:aJ]:dz 2 109 5 Q2:=by
 refine dF 0 [] λb e c d g=>?_;obtain⟨b,c,d,e,rfl,h,j,k⟩:=g;refine⟨_,au (t7 (bM (xv I) (by rfl) f.zt boot_max (c6 (c8 (c0 0) (W 1)) (W 2))) (t6 (c0 0) (W 1) ua)),?_⟩;have g:=h.i (L:=b.m);have e:=a_.o (h.d 0 I);have i:b.a[c]?=O b.a[c]:=eM j;have h:(a4 b.a)[c]?=O (.a (b.a[c]:Nat)):=by rw[bw,i];rfl
 refine⟨e.a,f.h.a,I,_,_,_,_,I,I,dU.b e.b,dJ h,_,_,I,e.a,f.h.a,I,_,_,_,_,I,I,e.b,vH (by rw[an];exact j),?_⟩;have h:=g.p 3 I (.a ((a4 b.a).set c (.a (if(d:Int)>(b.a[c]:Int)then(d:Int)else(b.a[c]:Int)))));have g:(a4 b.a).set c (.a (if(d:Int)>(b.a[c]:Int)then(d:Int)else(b.a[c]:Int)))=a4 (b.a.modify c λf=>eN f d):=by rw[lY i];show _=(b.a.set c (eN b.a[c] d)).map _;rw[nR];congr 2;split<;>omega
 rw[g]at h⊢;exact k _ (aM.c.b e.b iz) (am.h (L:=a_.m {b with a:=b.a.modify c λf=>eN f d}) h)
inductive Q1(vs:V ah)(H:af)(Q:bj)(E:cf):Prop
 |a (g:a_) (p o:Nat) (R:V aE):vs=[.b g.e,.a p,.a o]->am H (g.j::R)->p<g.a.length->(∀H',aM H H'->am H' (a_.j {g with a:=g.a.set p o}::R)->Q .c H')->Q1 vs H Q E
def Oe[g:aJ]:dz 2 109 6 Q1:=by
 refine dF 0 [] λb f c e d=>?_;obtain⟨b,c,o,e,rfl,f,h,i⟩:=d;refine⟨_,au (t7 (W 2) (t6 (c0 0) (W 1) ua)),?_⟩;have d:=f.i (L:=b.m);have e:=a_.o (f.d 0 I);refine⟨e.a,g.h.a,I,_,_,_,_,I,I,e.b,vH (by rw[an];exact h),?_⟩;have f:=d.p 3 I (.a ((a4 b.a).set c (.a (o:Int))));have d:(a4 b.a).set c (.a (o:Int))=a4 (b.a.set c o):=by show _=(b.a.set c o).map _;rw[nR]
 rw[d]at f⊢;exact i _ (aM.c.b e.b iz) (am.h (L:=a_.m {b with a:=b.a.set c o}) f)
inductive Q4(vs:V ah)(H:af)(Q:bj)(E:cf):Prop
 |a (g:a_) (p o:Nat) (R:V aE):vs=[.b g.e,.a p,.a o]->am H (g.j::R)->p<g.d.length->(∀H',aM H H'->am H' (a_.j {g with d:=g.d.set p o}::R)->Q .c H')->Q4 vs H Q E
def Co[h:aJ]:dz 2 109 7 Q4:=by
 refine dF 0 [] λb g c f e=>?_;obtain⟨b,c,o,f,rfl,g,i,j⟩:=e;refine⟨_,au (t7 (W 2) (t6 (c0 0) (W 1) ua)),?_⟩;have e:=g.i (L:=b.m);have f:=a_.o (g.d 0 I);refine⟨f.a,h.h.f,I,_,_,_,_,I,I,f.f,vH (by rw[an];exact i),?_⟩;have g:=e.p 4 I (.a ((a4 b.d).set c (.a (o:Int))));have e:(a4 b.d).set c (.a (o:Int))=a4 (b.d.set c o):=by show _=(b.d.set c o).map _;rw[nR]
 rw[e]at g⊢;exact j _ (aM.c.b f.f iz) (am.h (L:=a_.m {b with d:=b.d.set c o}) g)
inductive QX(vs:V ah)(H:af)(Q:bj)(E:cf):Prop
 |a (g:a_) (n:Int):vs=[.b g.e,.a n]->kY H g->((g.g:Int)=n->Q .c H)->((g.g:Int)≠n->dO ak cE E H (-8))->QX vs H Q E
def Ck[b:aJ]:hK 4 109 8 QX:=by
 refine ix 0 [] λc f d e a=>?_;obtain⟨c,g,rfl,d,e,f⟩:=a;refine⟨_,au (bD (c4 j6 (W 1) (c0 0)) (au (f0 b.Q)) bQ),d.a,b.h.c,I,I,bG (λa=>?_) (λa=>?_)⟩;exact f λb=>by rw[b]at a;simp at a
 have a:g=(c.g:Int):=by simpa using a
 exact e a.symm
inductive QY(vs:V ah)(H:af)(Q:bj)(E:cf):Prop
 |a (g:a_) (p m:Int):vs=[.b g.e,.a p,.a m]->kY H g->(k_ g p m->Q .c H)->(¬k_ g p m->dO ak cE E H (-9))->QY vs H Q E
def Oc[h:aJ]:hK 4 109 9 QY:=by
 refine ix 0 [] λb e c d a=>?_;obtain⟨b,c,k,rfl,f,l,i⟩:=a;refine⟨_,au (bD (mj.a (nI (iP (pe h8 gH a5 (W 1) (c5 (c0 0)))) (pg (c4 j6 (c8 (c0 0) (W 1)) (W 2))))) (au (f0 h.zi)) bQ),_,_,I,I,bG (λe=>?_) (λe=>?_)⟩;have e:=cj e;refine⟨f.a,h.h.e,I,_,_,I,.inl (dU.b f.e),_,_,I,I,bG (λd=>?_) (λd=>?_)⟩;refine i λa=>?_;have:=(bu.mp a.2.2).1;simp[an]at d;omega;have d:c<(b.h.length:Int):=by simp[an]at d;exact d
 have g:c.toNat<b.h.length:=by omega
 have d:b.h[c.toNat]?=O b.h[c.toNat]:=eM g;have j:(b.h.map dj)[c.toNat]?=O (dj b.h[c.toNat]):=by rw[bw,d];rfl
 have g:=dJ j;rw[jn e]at g;cases j:b.h[c.toNat]with
 |none=>rw[j]at d g;refine⟨f.a,h.h.e,I,_,_,_,_,I,I,dU.b f.e,g,I,(i λa=>?_)⟩;have a:=a.2.2;rw[d]at a;cases a
 |some c=>
  rw[j]at d g;refine⟨f.a,h.h.e,I,_,_,_,_,I,I,dU.b f.e,g,I,bG (λb=>?_) (λb=>?_)⟩;refine i λa=>?_;have f:=a.2.2;rw[d]at f;have g:=bA (bA f);have f:(c:Int)=k:=by have:=a.2.1;omega
  rw[<-f]at b;simp[dj]at b;have b:(c:Int)=k:=by simpa[dj]using b
  exact l ⟨e,by omega,by rw[d];congr 2;omega⟩
 exact(i λa=>by simp[a.1]at e)
def qf(a:a_)(b:Nat)(o:Int)(c:Nat):Prop:=((a.a.getD b 0:Nat):Int)<=o/\o<=((iU (a.d.getD b 0) c:Nat):Int)
inductive QZ(vs:V ah)(H:af)(Q:bj)(E:cf):Prop
 |a (g:a_) (p:Nat) (o:Int) (d:Nat):vs=[.b g.e,.a p,.a o,.a d]->kY H g->p<g.a.length->p<g.d.length->(qf g p o d->Q .c H)->(¬qf g p o d->dO ak cE E H (-1))->QZ vs H Q E
def Cm[d:aJ]:hK 4 109 10 QZ:=by
 refine ix 0 [] λb f c e h=>?_;obtain⟨b,c,o,j,rfl,e,i,k,g,f⟩:=h;refine⟨_,au (bD (iP (pe h8 h8 (c8 (c0 0) (W 1)) (W 2) (bM (xw I) (by rfl) d.F uC (c6 (c8 (c0 0) (W 1)) (W 3))))) (au (f0 d.B)) bQ),?_⟩;have h:b.a[c]?=O b.a[c]:=eM i;have j:(a4 b.a)[c]?=O (.a (b.a[c]:Nat)):=by rw[bw,h];rfl
 have i:b.d[c]?=O b.d[c]:=eM k;have k:(a4 b.d)[c]?=O (.a (b.d[c]:Nat)):=by rw[bw,i];rfl
 have l:b.a.getD c 0=b.a[c]:=by rw[pw,h];rfl
 have h:b.d.getD c 0=b.d[c]:=by rw[pw,i];rfl
 unfold qf at g f;rw[l,h]at g f;refine⟨e.a,d.h.a,I,_,_,_,_,I,I,dU.b e.b,dJ j,_,_,I,I,bG (λb=>?_) (λb=>?_)⟩;have b:=cj b;refine⟨e.a,d.h.f,I,_,_,_,_,I,I,dU.b e.f,dJ k,_,_,I,_,_,I,I,bG (λc=>?_) (λc=>?_)⟩;refine f λd=>?_;have e:=d.2;simp only[wG,decide_eq_false_iff_not]at c;split at c<;>omega;refine g ⟨b,?_⟩;simp only[wF,decide_eq_true_eq]at c;split at c<;>omega;exact(f λd=>a7 d.1 (dH b))
inductive Ro(vs:V ah)(H:af)(Q:bj)(E:cf):Prop
 |a (s:a2) (n m gen p:Int):vs=[.b s.e,.a n,.a m,.a gen,.a p]->iu H s->(∀g,dE s.c n=O g->(g.g:Int)=gen->k_ g p m->Q (.b g.e) H)->(∀g,dE s.c n=O g->(g.g:Int)=gen->¬k_ g p m->dO ak cE E H (-9))->(∀g,dE s.c n=O g->(g.g:Int)≠gen->dO ak cE E H (-8))->(dE s.c n=aa->dO ak cE E H (-4))->Ro vs H Q E
def su[a:aJ]:hK 5 163 7 Ro:=by refine ix 1 [] λb e c d a=>?_;obtain⟨l,j,i,e,k,rfl,d,f,g,h,b⟩:=a;refine⟨_,aj (aA 5 (bT ni (W 0) (c2 1))) (aj (a9 (bT Ck (W 5) (c2 3))) (aj (a9 (bT Oc (W 5) (c7 4 2))) (c1 (W 5)))),d.a,I,l,j,I,d,λa c=>?_,b⟩;have b:=d.e a (kN c);refine⟨b.a,I,a,e,I,b,λd=>?_,h a c⟩;refine⟨b.a,I,a,k,i,I,b,λe=>?_,g a c d⟩;exact f a c d e
end
def hT:V bq->V aN->V bq
 |[],_=>[]
 |b::d,c=>{b with a:=c.take b.a.length}::hT d (c.drop b.a.length)
theorem C2:∀(c:V bq)(b:V aN),b.length=(c.flatMap (·.a)).length->(hT c b).flatMap (·.a)=b
 |[],b,c=>by have:b=[]:=Jy.mp (by simpa using c);rw[this];rfl
 |d::e,b,c=>by rw[ez,bH]at c;show b.take d.a.length++(hT e (b.drop d.a.length)).flatMap (·.a)=b;rw[C2 e _ (by rw[kL];omega),gK]
theorem C1(h:aN->b)(f:bo->bo):∀(e:V bq)(c:V aN),c.map aN.a=(e.flatMap (·.a)).map (λd=>f d.a)->(hT e c).map bq.b=e.map λb=>{b.b with a:=b.b.a.map f}
 |[],c,e=>I
 |b::g,c,e=>by
  rw[ez,a6]at e;have i:(c.take b.a.length).map aN.a=b.a.map λd=>f d.a:=by rw[ka,e,y3 (by rw[an];exact bp _),mL (by rw[an];exact bp _)]
  have j:(c.drop b.a.length).map aN.a=(g.flatMap (·.a)).map λd=>f d.a:=by rw[jz,e,Jj (by rw[an])]
  show(⟨b.f,b.g,b.l,b.j,(c.take b.a.length).map aN.a⟩:b4)::(hT g (c.drop b.a.length)).map bq.b=_;rw[C1 h f g _ j,i];rw[b1];congr 1;show _=(⟨b.f,b.g,b.l,b.j,(b.a.map aN.a).map f⟩:b4);rw[bz]
  rfl
section
def oK(a:bq):aE:=a0 a.e ec a.i (hM a)++([(a.k,cw.a (a4 a.f))]++[(a.h,cw.a (a.a.map aN.i))])
theorem vk:∀b:V bq,(b.flatMap (bq.c)).Perm ((b.flatMap (·.a)).flatMap (aN.l)++b.flatMap (oK))
 |[]=>.refl _
 |b::d=>by
  rw[ez,ez,ez,g8];have c:(b.c).Perm (b.a.flatMap (aN.l)++oK b):=by rw[bq.o,dM];exact nU
  refine(TK c (vk d)).trans ?_;rw[b8,b8];exact ia _ (gk _ _ _)
theorem C4:∀(b:V bq)(d:V aN),d.map (·.c)=(b.flatMap (·.a)).map (·.c)->(hT b d).flatMap (oK)=b.flatMap (oK)
 |[],_,_=>I
 |b::f,d,e=>by
  rw[ez,a6]at e;have g:(d.take b.a.length).map (·.c)=b.a.map (·.c):=by rw[ka,e,y3 (by rw[an];exact bp _),mL (by rw[an];exact bp _)]
  have h:(d.drop b.a.length).map (·.c)=(f.flatMap (·.a)).map (·.c):=by rw[jz,e,Jj (by rw[an])]
  have e:(d.take b.a.length).map aN.i=b.a.map aN.i:=by have:=cb (nP ah.b) g;rw[bz,bz]at this;exact this
  show oK {b with a:=d.take b.a.length}++(hT f (d.drop b.a.length)).flatMap (oK)=_;rw[C4 f _ h,ez];congr 1;show a0 b.e ec b.i (hM b)++([(b.k,cw.a (a4 b.f))]++[(b.h,cw.a ((d.take b.a.length).map aN.i))])=_;rw[e]
  rfl
theorem C3:∀(a:V bq) b,(hT a b).map bq.d=a.map bq.d
 |[],_=>I
 |c::a,b=>by
  show c.d::(hT a _).map bq.d=_;rw[C3 a]
  rfl
def a2.w(x:a2):∃z,(x.d).Perm (x.h.flatMap (aN.l)++z)/\∀y:V aN,y.map (·.c)=x.h.map (·.c)->(a2.d {x with b:=hT x.b y}).Perm (y.flatMap (aN.l)++z):=by
 refine⟨_,by rw[a2.r,<-b8];exact kl (vk x.b),λy z=>?_⟩;rw[a2.r,<-b8];show((a0 x.e dA x.l (f2 x)++[(x.m,cw.a ((hT x.b y).map bq.d))])++((hT x.b y).flatMap (bq.c)++_)).Perm _;rw[C3];have A:=vk (hT x.b y);have B:y.length=x.h.length:=by have:=cb fu z;rwa[an,an]at this
 rw[C2 x.b y B,C4 x.b y z]at A;exact kl A
end
structure m6 where
 g:Nat
 e:Nat
 i:Nat
 c:V Nat
 d:V (ar Nat)
 b:V Nat
 f:V Nat
def a_.i(t:a_):m6:=⟨t.b,t.k,t.g,t.f,t.h,t.a,t.d⟩
def m6.a(j:m6):m6:={j with f:=j.b}
def gS(c:V b4):V b4:=c.map λb=>{b with a:=b.a.map bo.p}
def r8(a):b2 (gS a)=b2 a:=by unfold b2 gS;rw[bz];apply ga;intro a _;simp
def vA(c:dy a b):dy (gS a) b:=by intro a b d e;obtain⟨a,d,rfl⟩:=bm.mp b;obtain⟨f,b,rfl⟩:=bm.mp e;exact(c a d f b).k
def gP(b:V b4)(c:bf):V b4:=match c.a with|none=>b|some a=>fP b c.c a.i (a.c.drop a.e)
def gw(l:V bf)(a:V b4):V b4:=l.foldl gP a
def b_(x:bf):Nat:=match x.a with|none=>0|some t=>t.a.length
def MR(b:bf)(d:dy c e):dy (gP c b) (e+b_ b):=by
 unfold gP b_;cases b.a with|none=>exact d|some b=>refine(nd d).a ?_;rw[kL,an];simp only;omega
def Bq(a)(b:bf):b2 (gP a b)=b2 a:=by
 unfold gP;cases b.a with|none=>rfl|some a=>exact oE _ _ _ _
def vt(l:V bf)(a:V b4):b2 (gw l a)=b2 a:=by
 induction l generalizing a with|nil=>rfl|cons d c b=>exact(b _).trans (Bq _ _)
def Bp{b:V bf}{a:V b4}{c:Nat}(d:dy a c):dy (gw b a) (c+(b.map b_).sum):=by
 induction b generalizing a c with|nil=>exact d|cons f g e=>have:=e (MR f d);rw[b1,ik,<-uv];exact this
def b3.o(t:b3):b3:={t with e:=t.a.length}
def bf.d(x:bf):bf:={x with a:=aa}
def wk(a:V bf):ca (a.map bf.d)=ca a:=by
 unfold ca;rw[bz]
 rfl
def S3(a:V bf)(b)(d:a[b]?=O c):((a.take b).map b_).sum+b_ c<=(a.map b_).sum:=by
 conv=>rhs;rw[ne d]
 rw[a6,b1,rx,ik];omega
section
inductive Sq(vs:V ah)(H:af)(Q:bj)(E:cf):Prop
 |a (s:a2) (n:Nat) (R:V aE):vs=[.b s.e]->am H (s.d::R)->s.j=aa->s.h.length<=1000000->(∀x∈s.a,∀t,x.a=O t->fO H t.a/\∀q∈t.c,fk (s.b.map bq.b) q)->dy (s.b.map bq.b) n->n+(s.a.map b_).sum<=1000000->(∀bs gs H',bs.map bq.b=gw s.a (gS (s.b.map bq.b))->gs.map a_.i=s.c.map (λg=>g.i.a)->gs.map (·.e)=s.c.map (·.e)->aM H H'->am H' (a2.d {s with b:=bs,a:=s.a.map bf.d,c:=gs}::((s.a.filterMap (·.a)).map b3.o).flatMap (b3.h)::R)->Q .c H')->Sq vs H Q E
def v9[zb:aJ]:cL 8 60 Sq:=by
 refine cT 3 [] λN m h k i=>?_;obtain⟨h,zl,s,rfl,k,zg,p,zn,zk,m,zp⟩:=i;refine⟨_,aj (dY kQ I (bZ (a' Cv (W 0))) (bE 1) (au (a9 (a' On (W 1))))) (aj (q' (dY kQ I (x_ (c0 0)) (bE 2) (au (bD (eI (nF (c0 2))) (au (a9 (aP qb (c7 0 2)))) bQ)))) (au (q' (dY kQ I (x_ (c0 0)) (bE 3) (au (a9 (a' Cn (W 3)))))))),?_⟩;have o:=a2.f (k.d 0 I);refine⟨o.a,I,h,I,o,p,λH i l1 q m=>?_⟩;have p:am i ([(H,cw.a (h.h.map aN.i))]::h.d::s):=k.q l1 q m;obtain⟨o,k,P⟩:=a2.w h;have q:am i (h.h.flatMap (aN.l)::o::[(H,cw.a (h.h.map aN.i))]::s):=(p.a 1 I).l k;refine⟨_,I,⟨_,dU.b m⟩,ev (xs:=h.h.map aN.i) (λj r k=>(∃D E F,r=[O (.b h.e),D,E,F])/\aM N k/\∃i:V aN,i.map (·.c)=(h.h.take j).map (·.c)/\i.map aN.a=(h.h.take j).map (λA=>A.a.p)/\am k ((i++h.h.drop j).flatMap (aN.l)::o::[(H,cw.a (h.h.map aN.i))]::s)) ⟨⟨_,_,_,I⟩,l1.c,[],I,I,q⟩ ?_ ?_ ?_⟩;rintro j r k _ ⟨_,_,i,_,_,m⟩;exact dU.b (m.e 2 I);rintro j v r k p ⟨⟨D,E,F,rfl⟩,M,i,w,z,m⟩;obtain⟨y,S,rfl⟩:=d2 p;have Q:h.h.drop j=y::h.h.drop (j+1):=by obtain⟨R,rfl⟩:=bu.mp S;exact ic R
 have C:h.h.take (j+1)=h.h.take j++[y]:=by rw[en,S];rfl
 rw[Q]at m;have T:=m.D (f:=aN.l) (l1:=i) (l2:=h.h.drop (j+1)) (y:=y) 0 I;have u:y.a.e zl:=by obtain⟨q,G,J⟩:=kM.mp (a1 S);exact zk q.b (bm.mpr ⟨q,G,I⟩) y.a (bm.mpr ⟨y,J,I⟩)
 have zf:k y.c=O (.c bN y.k (cx y)):=(aN.u (T.d 0 I)).b;refine⟨zf,I,y,_,I,T,Fit.b u (by omega),Fit.a u (by omega),Fit.c u,λJ zm G K zi q=>?_⟩;refine⟨⟨_,_,_,I⟩,M.a zi,i++[J],?_,?_,?_⟩;rw[C,a6,a6,w];simp[G];rw[C,a6,a6,z];simp[K];have ze:=am.G (Bs:=(i++y::h.h.drop (j+1)).flatMap (aN.l)::o::[(H,cw.a (h.h.map aN.i))]::s) 0 I q;have zc:i++[J]++h.h.drop (j+1)=i++J::h.h.drop (j+1):=by simp
 rw[zc];exact ze;rintro r k ⟨⟨D,E,F,rfl⟩,M,i,w,z,m⟩;rw[an]at w z m;rw[dN]at w z;rw[jv,dM]at m;have q:=(m.m (P i w)).g 1 I;have m:=C1 (λA:aN=>A.a) bo.p h.b i z;generalize hT h.b i=o at q m;have K:o.map bq.b=gS (h.b.map bq.b):=by rw[m];unfold gS;rw[bz];rfl
 have m:am k (a2.d {h with b:=o}::s):=q;have A:=a2.f (m.d 0 I);refine⟨h.i,.b (ca h.a),A.g zg,trivial,λq=>?_⟩;have G:=m.i (L:=a2.o {h with b:=o});have u:am (al k h.i (.e q (.b (ca h.a)))) (a2.d {h with b:=o,j:=O q}::s):=am.h (L:=a2.o {h with b:=o,j:=O q}) (G.p 3 I (.e q (.b (ca h.a))));have G:aM N (al k h.i (.e q (.b (ca h.a)))):=M.b (A.g zg) m';generalize al k h.i (.e q (.b (ca h.a)))=m at u G;have m:=a2.f (u.d 0 I);refine⟨m.a,zb.l.b,I,h.i,q,ca h.a,I,m.j,BF (λj r k=>(∃D E F,r=[O (.b h.e),D,E,F])/\aM N k/\∃m:V bq,m.map bq.b=gw (h.a.take j) (gS (h.b.map bq.b))/\am k (a2.d {h with b:=m,a:=(h.a.take j).map bf.d++h.a.drop j,j:=O q}::(((h.a.take j).filterMap (·.a)).map b3.o).flatMap (b3.h)::s)) ⟨⟨_,_,_,I⟩,G,o,K,?_⟩ ?_ ?_ ?_⟩;exact am.x (B:=[]) (u.K) 1;rintro j r G _ ⟨_,_,m,_,u⟩;have:=(a2.f (u.d 0 I)).j;have o:ca ((h.a.take j).map bf.d++h.a.drop j)=ca h.a:=by unfold ca;rw[a6,bz,<-bz];show ca ((h.a.take j).map bf.d)++ca (h.a.drop j)=_;rw[wk];unfold ca;rw[<-a6,gK]
 show G h.i=O (.e q (.b (ca h.a)));rw[<-o];exact this;rintro j zq v r G p ⟨⟨D,E,F,rfl⟩,U,m,K,u⟩;obtain⟨x,P,rfl⟩:∃x,h.a[j]?=O x/\v=.b x.e:=by
  unfold ca at p;rw[bw]at p;cases o:h.a[j]? with
  |none=>rw[o]at p;cases p
  |some x=>rw[o]at p;cases p;exact⟨x,I,I⟩
 have R:=(bu.mp P).1;have zo:=a1 P;have Q:h.a.drop j=x::h.a.drop (j+1):=by obtain⟨R,rfl⟩:=bu.mp P;exact ic R
 have C:h.a.take (j+1)=h.a.take j++[x]:=by rw[en,P];rfl
 have X:((h.a.take j).map bf.d).length=j:=by rw[an,e7];omega
 have A:((h.a.take j).map bf.d++h.a.drop j)[j]?=O x:=by
  rw[Jr (by omega),X,JR,Q]
  rfl
 have zh:=a2.f (u.d 0 I);have za:p7 G x:=zh.c x (a1 A);have zj:((h.a.take j).map bf.d++h.a.drop j).set j x.d=(h.a.take (j+1)).map bf.d++h.a.drop (j+1):=by
  rw[nn A,List.take_left' X,C,Q,a6];have:((h.a.take j).map bf.d++x::h.a.drop (j+1)).drop (j+1)=h.a.drop (j+1):=by
   rw[List.drop_append,X,uk (by omega),show j+1 -j=1 by omega]
   rfl
  rw[this];simp
 refine⟨za.a,zb.k.a,I,?_⟩;cases o:x.a with
 |none=>
  have za:x.d=x:=by unfold bf.d;cases x;simp_all
  refine⟨⟨_,_,_,I⟩,U,m,?_,?_⟩;rw[K,C];unfold gw;rw[mJ];show _=gP _ x;unfold gP;rw[o];have X:((h.a.take j).map bf.d++h.a.drop j)=(h.a.take (j+1)).map bf.d++h.a.drop (j+1):=by rw[<-zj,za,nn A];exact ne A
  have zd:(h.a.take (j+1)).filterMap (·.a)=(h.a.take j).filterMap (·.a):=by rw[C,yP];simp[o]
  rw[X]at u;rw[zd];exact u
 |some t=>
  obtain⟨zr,zs⟩:=zn x zo t o;refine⟨{h with b:=m,a:=(h.a.take j).map bf.d++h.a.drop j,j:=O q},j,x,t,zl+((h.a.take j).map b_).sum,_,I,u,A,o,zr.a U,?_,?_,?_,λX zt zn zo za=>?_⟩;intro zl A;exact(zs zl A).a (by rw[K,vt,r8]);show dy (m.map bq.b) _;rw[K];exact Bp (vA zk);have A:=S3 h.a j P;have P:b_ x=t.a.length:=by unfold b_;rw[o]
  omega;refine⟨⟨_,_,_,I⟩,U.a zo,X,?_,?_⟩;rw[zn,C];unfold gw;rw[mJ];show fP (m.map bq.b) _ _ _=gP _ x;rw[K];unfold gP;rw[o]
  rfl
  have zd:(((h.a.take (j+1)).filterMap (·.a)).map b3.o).flatMap (b3.h)=(((h.a.take j).filterMap (·.a)).map b3.o).flatMap (b3.h)++t.o.h:=by rw[C,yP,a6,g8];congr 1;simp[o]
  have zk:=am.w (za.a 1 I) 1 I;rw[zd];have zd:({h with b:=X,a:=((h.a.take j).map bf.d++h.a.drop j).set j x.d,j:=O q}:a2)={h with b:=X,a:=(h.a.take (j+1)).map bf.d++h.a.drop (j+1),j:=O q}:=by rw[zj]
  rw[<-zd];exact zk
 rintro r G ⟨⟨D,E,F,rfl⟩,U,m,K,u⟩;have X:(ca h.a).length=h.a.length:=by unfold ca;rw[an]
 rw[X,dN]at K u;rw[jv,dM]at u;have zh:=a2.f (u.d 0 I);have zd:G h.i=O (.e q (.b (ca h.a))):=by have:=zh.j;have o:ca (h.a.map bf.d)=ca h.a:=wk _;rw[<-o];exact this
 refine⟨zd,?_⟩;have za:=u.i (L:=a2.o {h with b:=m,a:=h.a.map bf.d,j:=O q});have X:am (al G h.i (.b (ca h.a))) ([a0 h.e dA h.l (f2 h),[(h.m,cw.a (m.map bq.d))],m.flatMap (bq.c),[(h.i,cw.b (ca h.a))],(h.a.map bf.d).flatMap (bf.h),[(h.k,cw.b (dh h.c))],h.c.flatMap (a_.j)]++(((h.a.filterMap (·.a)).map b3.o).flatMap (b3.h)::s)):=za.p 3 I (.b (ca h.a));have zh:aM N (al G h.i (.b (ca h.a))):=U.b zd (λ_ za=>nomatch za);generalize al G h.i (.b (ca h.a))=q at X zh;have u:q h.e=O (.c dA h.l (f2 h)):=X.b 0 I;have U:q h.k=O (.b (dh h.c)):=X.e 5 I;refine⟨h.k,.b (dh h.c),U,trivial,λu=>?_⟩;have G:=X.p 5 I (.e u (.b (dh h.c)));have X:aM N (al q h.k (.e u (.b (dh h.c)))):=zh.b U m';generalize al q h.k (.e u (.b (dh h.c)))=U at G X;refine⟨G.b 0 I,zb.l.c,I,h.k,u,dh h.c,I,G.e 5 I,BF (λj r k=>(∃D E F,r=[O (.b h.e),D,E,F])/\aM N k/\∃i:V a_,i.map a_.i=(h.c.take j).map (λq=>q.i.a)/\i.map (·.e)=(h.c.take j).map (·.e)/\am k ([a0 h.e dA h.l (f2 h),[(h.m,cw.a (m.map bq.d))],m.flatMap (bq.c),[(h.i,cw.b (ca h.a))],(h.a.map bf.d).flatMap (bf.h),[(h.k,cw.e u (.b (dh h.c)))],(i++h.c.drop j).flatMap (a_.j)]++(((h.a.filterMap (·.a)).map b3.o).flatMap (b3.h)::s))) ⟨⟨_,_,_,I⟩,X,[],I,I,G⟩ ?_ ?_ ?_⟩;rintro j r k _ ⟨_,_,i,_,_,q⟩;exact q.e 5 I;rintro j zq v r k p ⟨⟨D,E,F,rfl⟩,M,i,z,w,q⟩;obtain⟨y,S,rfl⟩:∃x,h.c[j]?=O x/\v=.b x.e:=by
  unfold dh at p;rw[bw]at p;cases o:h.c[j]? with
  |none=>rw[o]at p;cases p
  |some x=>rw[o]at p;cases p;exact⟨x,I,I⟩
 have Q:h.c.drop j=y::h.c.drop (j+1):=by obtain⟨R,rfl⟩:=bu.mp S;exact ic R
 have C:h.c.take (j+1)=h.c.take j++[y]:=by rw[en,S];rfl
 rw[Q]at q;have T:=q.D (f:=a_.j) (l1:=i) (l2:=h.c.drop (j+1)) (y:=y) 6 I;have zf:k y.e=O (.c ei y.l (fZ y)):=(a_.o (T.d 0 I)).a;refine⟨zf,I,y,_,I,T,λl2 zm zi p=>?_⟩;let J:a_:={y with n:=l2,d:=y.a}
 refine⟨⟨_,_,_,I⟩,M.a zi,i++[J],?_,?_,?_⟩;rw[C,a6,a6,z];rfl;rw[C,a6,a6,w];rfl;have ze:=am.G (y:=J) (Bs:=[a0 h.e dA h.l (f2 h),[(h.m,cw.a (m.map bq.d))],m.flatMap (bq.c),[(h.i,cw.b (ca h.a))],(h.a.map bf.d).flatMap (bf.h),[(h.k,cw.e u (.b (dh h.c)))],(i++y::h.c.drop (j+1)).flatMap (a_.j)]++(((h.a.filterMap (·.a)).map b3.o).flatMap (b3.h)::s)) 6 I p;have zc:i++[J]++h.c.drop (j+1)=i++J::h.c.drop (j+1):=by simp
 rw[zc];exact ze;rintro r k ⟨⟨D,E,F,rfl⟩,M,i,z,w,q⟩;have k:(dh h.c).length=h.c.length:=by unfold dh;rw[an]
 rw[k,dN]at z w;rw[k,jv,dM]at q;refine⟨q.e 5 I,?_⟩;have p:=q.p 5 I (.b (dh h.c));have u:dh i=dh h.c:=by
  unfold dh;have o:i.map (·.b)=h.c.map (·.b):=by have:=cb (nP m6.g) z;rw[bz,bz]at this;exact this
  apply mH;intro k;rw[bw,bw];have A:=cb (λH=>H[k]?) w;have P:=cb (λH=>H[k]?) o;simp only[bw]at A P;cases r:i[k]? with
  |none=>
   rw[r]at A;cases o:h.c[k]? with|none=>rfl|some y=>rw[o]at A;cases A
  |some za=>
   rw[r]at A P;cases o:h.c[k]? with
   |none=>rw[o]at A;cases A
   |some y=>rw[o]at A P;simp only[lF,kO]at A P;simp[A,P]
 have k:ca (h.a.map bf.d)=ca h.a:=wk _;refine zp m i _ K z w (M.b (q.e 5 I) (λ_ za=>nomatch za)) (am.h (L:=a2.o {h with b:=m,a:=h.a.map bf.d,c:=i}) ?_);show am _ ([a0 h.e dA h.l (f2 h),[(h.m,cw.a (m.map bq.d))],m.flatMap (bq.c),[(h.i,jJ h.j (.b (ca (h.a.map bf.d))))],(h.a.map bf.d).flatMap (bf.h),[(h.k,cw.b (dh i))],i.flatMap (a_.j)]++(((h.a.filterMap (·.a)).map b3.o).flatMap (b3.h)::s));rw[zg,k,u];exact p
end
def je(c:V a_)(d:Nat)(b:a_->a_):V a_:=c.map λa=>if a.b=d then b a else a
noncomputable def i'(d:V a_)(b:fA):V a_:=je d b.a λc=>{c with a:=c.a.modify b.b λd=>eN d b.c}
def vz{b:V a_}{d:Nat}{a:a_}(c:dE b d=O a):a.b=d/\∃e:Nat,b[e]?=O a:=by have a:=yS c;have b:=kN c;exact⟨TF (cj a),hG.mp b⟩
def Do{a:V a_}{e:a_}{f:a_->a_}(k:(a.map (·.b)).Nodup)(g:a[d]?=O e)(i:e.b=c):a.set d (f e)=je a c f:=by
 unfold je;apply mH;intro h;rw[bw,py];by_cases e:d=h;subst e;obtain⟨j,rfl⟩:=bu.mp g;simp[j,i];rw[aw e];cases j:a[h]? with
 |none=>rfl
 |some l=>
  have:l.b≠c:=λl=>e (by
   have e:(a.map (·.b))[d]?=O c:=by rw[bw,g];simp[i]
   have d:(a.map (·.b))[h]?=O c:=by rw[bw,j];simp[l]
   exact(Jt (by rw[an];exact(bu.mp g).1) k).mp (e.trans d.symm))
  simp[this]
def Dn(d:V a_)(e)(c)(f:∀a,(c a).b=a.b):(je d e c).map (·.b)=d.map (·.b):=by
 unfold je;rw[bz];apply ga;intro a _;show(if a.b=e then c a else a).b=a.b;split;exact f a
 rfl
def M1{f:a_->a_}(g:∀a,(f a).b=a.b):dE (je e d f) c=(dE e c).map λa=>if a.b=d then f a else a:=by
 unfold dE je;rw[ru];congr 1;congr 1;funext a;show aq (((if a.b=d then f a else a).b:Int)=c)=aq ((a.b:Int)=c);split;rw[g]
 rfl
def kj(b:V a_)(m:fA):Prop:=∃a,dE b m.a=O a/\m.b<a.a.length
def kj.b(h:kj d g):kj (i' d e) g:=by obtain⟨d,i,g⟩:=h;unfold kj i';rw[M1 (f:=λd=>{d with a:=d.a.modify e.b λh=>eN h e.c}) (λ_=>I),i];refine⟨_,I,?_⟩;dsimp only;split;simp only[j_];exact g;exact g
def eE(gs:V a_)(a:V fA):V a_:=a.foldl i' gs
def NY(a:V a_)(c:V fA):(eE a c).map (·.b)=a.map (·.b):=by
 induction c generalizing a with|nil=>rfl|cons e f d=>exact(d _).trans (Dn _ _ _ λ_=>I)
def kj.c{d:V a_}{f:fA}(g:V fA)(e:kj d f):kj (eE d g) f:=by
 induction g generalizing d with|nil=>exact e|cons i j h=>exact h e.b
def NX(c:V a_)(f:V fA):(eE c f).map (·.e)=c.map (·.e):=by
 induction f generalizing c with|nil=>rfl|cons d i g=>refine(g _).trans ?_;unfold i' je;rw[bz];apply ga;intro b _;show(if b.b=d.a then({b with a:=b.a.modify d.b λh=>eN h d.c}:a_)else b).e=b.e;split<;>rfl
def gQ(a:V b4)(c:V (Nat×Nat)):V b4:=c.foldl (λa b=>hW a b bo.l) a
def m_(a:V b4)(b:V (Nat×Nat)):b2 (gQ a b)=b2 a:=by
 induction b generalizing a with|nil=>rfl|cons d e c=>exact(c _).trans (oF _ _ _)
def r'(c:dy a b):dy (gQ a d) b:=by
 induction d generalizing a with|nil=>exact c|cons a e d=>exact d (c.b (bp b) λe a=>a.i)
section
inductive Sy(vs:V ah)(H:af)(Q:bj)(E:cf):Prop
 |a (s:a2) (i:Nat) (x:bf) (t:b3) (R:V aE):vs=[.b s.e,.b t.k]->am H (s.d::R)->s.a[i]?=O x->x.a=O t->(s.c.map (·.b)).Nodup->(∀m∈t.b,kj s.c m)->(∀H',aM H H'->am H' (a2.d {s with c:=eE s.c t.b}::R)->Q .c H')->Sy vs H Q E
def Pl[q:aJ]:cL 5 61 Sy:=by
 refine cT 2 [] λi j d g h=>?_;obtain⟨g,j,x,t,l,rfl,d,n,m,E,u,G⟩:=h;refine⟨_,au (dY kQ I (bZ (W 1)) (bE 2) (aj (aA 3 (bT ni (W 0) (c3 (c0 2)))) (au (a9 (bT Og (W 3) (c6 (c0 2) (c0 2))))))),?_⟩;have j:=a2.f (d.d 0 I);have k:=a1 n;have h:=(j.c x k).b t m;refine⟨_,I,⟨_,dU.b h.b⟩,ev (xs:=t.b.map fA.d) (λh p j=>(∃w y,p=[O (.b g.e),O (.b t.k),w,y])/\aM i j/\am j (a2.d {g with c:=eE g.c (t.b.take h)}::l)) ⟨⟨_,_,I⟩,aM.c,d⟩ ?_ ?_ ?_⟩;rintro h p j _ ⟨_,_,i⟩;have l:=a2.f (i.d 0 I);exact dU.b ((l.c x k).b t m).b;rintro h d p j n ⟨⟨w,y,rfl⟩,z,i⟩;obtain⟨d,A,rfl⟩:=d2 n;have o:=a1 A;have l:=a2.f (i.d 0 I);have r:=((l.c x k).b t m).e d o;obtain⟨m,n,C⟩:=(u d o).c (t.b.take h);obtain⟨B,F,u⟩:=vz n;refine⟨l.a,I,r,q.s.a,I,{g with c:=eE g.c (t.b.take h)},d.a,I,l,λk o=>?_,λD=>by rw[show dE (eE g.c (t.b.take h)) d.a=aa from D]at n;cases n⟩;obtain rfl:k=m:=by have o:dE (eE g.c (t.b.take h)) d.a=O k:=o;rw[n]at o;exact(bA o).symm
 have n:=l.e k (a1 u);obtain⟨l,o,D⟩:=a2.s (s:={g with c:=eE g.c (t.b.take h)}) u;refine⟨n.a,I,r,q.s.c,I,r,q.s.d,I,k,d.b,d.c,_,I,i.l o,C,λJ H l=>?_⟩;refine⟨⟨_,_,I⟩,z.a H,?_⟩;have n:=l.m (D _ I I);have l:eE g.c (t.b.take (h+1))=(eE g.c (t.b.take h)).set F {k with a:=k.a.modify d.b λg=>eN g d.c}:=by
  rw[Do (f:=λm=>{m with a:=m.a.modify d.b λg=>eN g d.c}) (by rw[NY];exact E) u B];unfold eE;rw[en,A];simp only[J0,mJ,kK,Jp]
  rfl
 rw[l];exact n;rintro p j ⟨⟨w,y,rfl⟩,z,i⟩;rw[an,dN]at i;exact G j z i
structure lV(H:af)(s:a2)(t:b3):Prop where
 b:fO H t.a
 a:∀q∈t.c,fk (s.b.map bq.b) q
 c:∀m∈t.b,kj s.c m
def b3.l(t:b3)(r:Nat):b3:={t with j:=ab,e:=r}
inductive Sa(vs:V ah)(H:af)(Q:bj)(E:cf):Prop
 |a (s:a2) (i:Nat) (x:bf) (t:b3) (j n:Nat) (R:V aE):vs=[.b s.e,.b x.e,.a j]->am H (s.d::R)->s.j=aa->s.h.length<=1000000->s.a[i]?=O x->x.a=O t->(s.c.map (·.b)).Nodup->(∀y∈s.a,∀u,y.a=O u->lV H s u)->dy (s.b.map bq.b) n->n+t.a.length+(s.a.map b_).sum<=1000000->(j<t.a.length->∀bs gs H',bs.map bq.b=gw (s.a.set i {x with a:=O (t.l j)}) (gS (fP (gQ (s.b.map bq.b) t.c) x.c 2 ((t.c.take j).drop t.e)))->gs.map a_.i=(eE s.c t.b).map (λg=>g.i.a)->gs.map (·.e)=s.c.map (·.e)->aM H H'->am H' (a2.d {s with b:=bs,a:=s.a.map bf.d,c:=gs}::(((s.a.set i {x with a:=O (t.l j)}).filterMap (·.a)).map b3.o).flatMap (b3.h)::R)->Q .c H')->(t.a.length<=j->∀bs H',bs.map bq.b=fP (gQ (s.b.map bq.b) t.c) x.c 2 (t.c.drop t.e)->aM H H'->am H' (a2.d {s with b:=bs,a:=s.a.set i x.d,c:=eE s.c t.b}::b3.h (t.l t.a.length)::R)->Q .c H')->Sa vs H Q E
def CA[q:aJ]:cL 9 62 Sa:=by
 refine cT 3 [] λo k e h g=>?_;obtain⟨e,i,x,t,B,C,p,rfl,n,zg,zj,E,y,U,ze,zd,zl,zm,zn⟩:=g;refine⟨_,aj (aA 3 (c0 1)) (aj (dY kQ I (bZ (c0 3)) (bE 4) (aj (aA 5 (bT ja (W 0) (c2 4))) (au (a9 (a' sr (W 5)))))) (aj (b7 (W 3) kE I) (aj (a9 (aP Pl (c6 (W 0) (c0 3)))) (au (bD (c4 kD (c5 (c0 3)) (W 2)) (aj (a9 (aP CG (pn 0 1 2))) (au (a9 (aP v9 (c2 0))))) (au (a9 (aP qb (c7 0 1))))))))),?_⟩;have g:=a2.f (n.d 0 I);have G:=a1 E;have h:=g.c x G;have g:=h.b t y;have k:(b6 x).lookup ("transaction":ac)=O (.b t.g):=by show O (iC x.a)=_;rw[y];rfl
 have w:=ze x G t y;refine⟨h.a,q.k.a,k,g.a,q.o.a,I,_,I,⟨_,dU.b g.c⟩,ev (xs:=t.a.map cg) (λj K k=>(∃N P,K=[O (.b e.e),O (.b x.e),O (.a B),O (.b t.g),N,P])/\aM o k/\∃g:V bq,g.map bq.b=gQ (e.b.map bq.b) ((t.a.take j).map (·.2))/\am k (a2.d {e with b:=g}::p)) ⟨⟨_,_,I⟩,aM.c,e.b,I,n⟩ ?_ ?_ ?_⟩;rintro j K k _ ⟨_,_,g,_,h⟩;have n:=a2.f (h.d 0 I);exact dU.b ((n.c x G).b t y).c;rintro j v K k r ⟨⟨N,P,rfl⟩,J,g,u,h⟩;obtain⟨o,F,rfl⟩:=d2 r;have H:=a1 F;have A:fk (g.map bq.b) o.2:=(w.a o.2 (bm.mpr ⟨o,H,I⟩)).a (by rw[u,m_]);obtain⟨za,M,r,z⟩:=wv A;have n:=a2.f (s:={e with b:=g}) (h.d 0 I);refine⟨n.a,I,{e with b:=g},o.1,o.2.1,o.2.2,I,n,J _ _ (w.b o H),λQ M=>?_,λH=>nh (s:={e with b:=g}) r z H⟩;obtain rfl:=nf (s:={e with b:=g}) r z M;have R:=(n.d za (a1 r)).c Q (a1 z);obtain⟨H,X,zb⟩:=a2.u (s:={e with b:=g}) r z;refine⟨R.b,I,Q,_,I,h.l X,λH zf S T zc M=>?_⟩;refine⟨⟨_,_,I⟩,J.a zc,(a2.g {e with b:=g} o.2.1 o.2.2 H).b,?_,M.m (zb H S)⟩;rw[qh (s:={e with b:=g}) r z (f:=bo.l) T,l9 (λX:Y×Nat×Nat=>X.2) F];unfold gQ;rw[mJ];show hW (g.map bq.b) _ _=_;rw[u]
 rfl
 rintro K k ⟨⟨N,P,rfl⟩,J,g,u,h⟩;rw[an,dN]at u;have n:=a2.f (s:={e with b:=g}) (h.d 0 I);have r:=n.c x G;have z:=r.b t y;obtain⟨n,r,H⟩:=a2.q (s:={e with b:=g}) E;have n:=(h.l r).l (bf.j y);have r:=n.i (L:=t.m);refine⟨z.a,q.o.c,(bJ I),?_⟩;let n:b3:={t with j:=ab}
 let h:bf:={x with a:=O n}
 have M:=am.h (L:=n.m) (r.j 0 I (f3 n));have G:b6 h=b6 x:=by
  unfold b6;show[_,_,(("transaction":ac),ah.b t.g)]=[_,_,(("transaction":ac),iC x.a)];rw[y]
  rfl
 have r:=(M.m (by have:=bf.j (x:=h) (t:=n) I;rw[G]at this;exact this)).m (H h I I);have H:=J.b (o':=.c e0 t.n (f3 n)) z.a bY;have z:al k t.g (.c e0 t.n (ef "is_decided" (.d ab) (f3 t)))=al k t.g (.c e0 t.n (f3 n)):=I;rw[z];generalize al k t.g (.c e0 t.n (f3 n))=z at r H;let k:a2:={e with b:=g,a:=e.a.set i h}
 have K:k.a[i]?=O h:=by show(e.a.set i h)[i]?=_;rw[fK (bu.mp E).1]
 have z:=a2.f (s:=k) (r.d 0 I);have G:=(z.c h (a1 K)).b n I;refine⟨G.a,q.o.b,I,k,i,h,n,p,I,r,K,I,U,w.c,λz M J=>?_⟩;let G:a2:={k with c:=eE e.c t.b}
 have J:am z (G.d::p):=J;have r:=a2.f (s:=G) (J.d 0 I);have k:=(r.c h (a1 K)).b n I;have N:=H.a M;have zb:dy (G.b.map bq.b) C:=by show dy (g.map bq.b) C;rw[u];exact r' zd
 have zh:∀D∈t.c,fk (G.b.map bq.b) D:=λD A=>(w.a D A).a (by show b2 (g.map bq.b)=_;rw[u,m_]);refine⟨k.a,q.o.a,I,_,_,I,.inl (dU.b k.c),_,_,I,I,bG (λz=>?_) (λz=>?_)⟩;have z:B<t.a.length:=by have:=cj z;rw[an]at this;exact Gl.mp this
 refine⟨G,i,h,n,B,C,p,I,J,K,I,w.b.a N,zh,zb,(by show C+t.a.length<=_;omega),λq H Q U r=>?_⟩;let k:bf:={x with a:=O (t.l B)}
 have S:(e.a.set i h).set i k=e.a.set i k:=by rw[kb]
 let M:a2:={e with b:=q,a:=e.a.set i k,c:=eE e.c t.b}
 have r:am H (M.d::p):=by have:am H (a2.d {e with b:=q,a:=(e.a.set i h).set i k,c:=eE e.c t.b}::p):=r;rw[S]at this;exact this
 have P:M.a[i]?=O k:=by show(e.a.set i k)[i]?=_;rw[fK (bu.mp E).1]
 have T:=N.a U;have R:q.map bq.b=fP (gQ (e.b.map bq.b) t.c) x.c 2 ((t.c.take B).drop t.e):=by rw[Q];show fP (g.map bq.b) _ 2 _=_;rw[u]
 have P:b2 (q.map bq.b)=b2 (e.b.map bq.b):=by rw[R,oE,m_]
 have zc:b_ k=b_ x:=by unfold b_;rw[y];rfl
 have zf:((e.a.set i k).map b_).sum=(e.a.map b_).sum:=by rw[i_ E zc]
 have zi:M.h.length=e.h.length:=by
  have zc:∀y:V bq,(y.flatMap (·.a)).length=(b2 (y.map bq.b)).sum:=λy=>by unfold b2;rw[pz,bz];congr 1;apply ga;intro za _;simp[bq.b]
  show(q.flatMap (·.a)).length=(e.b.flatMap (·.a)).length;rw[zc,zc,P]
 refine⟨M,C+t.a.length,p,I,r,zg,(by rw[zi];exact zj),?_,?_,(by rw[show M.a=e.a.set i k from I,zf];exact zl),λza zc M zi zj zk zo y=>?_⟩;intro o F zg zf;rcases iT F with F|rfl;have:=ze o F zg zf;exact⟨this.b.a T,λD A=>(this.a D A).a P⟩;obtain rfl:t.l B=zg:=bA zf;exact⟨w.b.a T,λD A=>(w.a D A).a P⟩;show dy (q.map bq.b) _;rw[R];refine(nd (r' zd)).a ?_;rw[kL,e7,an];omega;refine zm z za zc M ?_ zj (zk.trans (NX _ _)) (T.a zo) ?_;rw[zi];show gw (e.a.set i k) (gS (q.map bq.b))=_;rw[R];have o:(e.a.set i k).map bf.d=e.a.map bf.d:=i_ E I;have y:am M (a2.d {e with b:=za,a:=(e.a.set i k).map bf.d,c:=zc}::(((e.a.set i k).filterMap (·.a)).map b3.o).flatMap (b3.h)::p):=y;rw[o]at y;exact y;have z:t.a.length<=B:=by have:=dH z;rw[an]at this;exact Nat.le_of_not_lt λX=>this (Gl.mpr X)
 refine⟨G,i,h,n,C,p,I,J,K,I,w.b.a N,zh,zb,(by show C+t.a.length<=_;omega),λq H Q U r=>?_⟩;refine zn z q H ?_ (N.a U) ?_;rw[Q];show fP (g.map bq.b) _ 2 _=_;rw[u];have S:(e.a.set i h).set i x.d=e.a.set i x.d:=by rw[kb]
 have r:am H (a2.d {e with b:=q,a:=(e.a.set i h).set i x.d,c:=eE e.c t.b}::b3.h (t.l t.a.length)::p):=r;rw[S]at r;exact r
end
def gW(b:Nat):Nat->V Nat->V (Nat×Nat×Nat)
 |_,[]=>[]
 |a,d::c=>(b,a,d)::gW b (a+1) c
def bo.i(t:bo):V aG:=t.c.flatMap (·.2)++t.k
structure p6(r:aG):Prop where
 e:r.kind<=3
 d:2<=r.kind->r.key=aa/\r.value=aa
 a:∀k,r.key=O k->k<100
 b:∀v,r.value=O v->v.length<=5
 c:r.value=aa->r.kind<=1->r.key.isSome=ab
structure bo.r(m:bo):Prop where
 i:0<m.a
 f:m.j<=m.n
 c:m.n<=m.d
 k:m.d<m.j+m.a
 g:m.i.Pairwise λa b=>a.place<b.place
 e:∀s∈m.c,s.1+m.a<=m.j/\∀r∈s.2,s.1<=r.place/\r.place<s.1+m.a
 h:∀r∈m.k,m.j<=r.place/\r.place<m.d
 d:∀r∈m.i,p6 r
 j:∀s,(cZ m.b s).Pairwise (·<·)/\∀n∈cZ m.b s,n<m.d
def hU(b:Nat)(a:Nat×V aG):wz:=⟨a.1,a.1+b,a.2⟩
structure cv(m:bo)(p:d3):Prop where
 g:p.segs=m.c.map (hU m.a)
 i:p.base=m.j
 k:p.recs=m.k
 c:p.next=m.d
 d:p.disk=m.n
 h:∀s,(p.sent.filter λx=>x.1==s)=gW s 1 (cZ m.b s)
 a:m.r
def Qz(b a d)(c:V Nat):gW b a (c++[d])=gW b a c++[(b,a+c.length,d)]:=by
 induction c generalizing a with|nil=>rfl|cons f e c=>show(b,a,f)::gW b (a+1) (e++[d])=_;rw[c];simp[gW,uv,y5 1]
def Qy(e)(c:V Nat)(a):(gW e (a+1) c).foldl (λd b=>eN d b.2.1) a=a+c.length:=by
 induction c generalizing a with|nil=>rfl|cons b f c=>show(gW e (a+1+1) f).foldl (λd b=>eN d b.2.1) (eN a (a+1))=_;rw[Nat.max_eq_right (mM a),c,cz];omega
def Qx(d)(e:V Nat)(a c)(f:a<=c):((gW d a e).find? λb=>b.2.1==c).map (λb=>b.2.2)=e[c -a]?:=by
 induction e generalizing a with
 |nil=>rfl
 |cons b e g=>
  show(((d,a,b)::gW d (a+1) e).find? λb=>b.2.1==c).map (λb=>b.2.2)=_;rw[hF];by_cases e:a=c;subst e;simp;have f:(a==c)=ae:=by simp[e]
  have e:c -a=(c -(a+1))+1:=by omega
  show((match(a==c)with|true=>O (d,a,b)|false=>_):ar _).map _=_;rw[f,e,yU];exact g (a+1) (by omega)
def Qw(d)(b)(c:V Nat)(a)(i:c.Pairwise (·<·)):(gW d a c).filter (λe=>aq (e.2.2<b))=gW d a (c.filter λf=>aq (f<b)):=by
 induction c generalizing a with
 |nil=>rfl
 |cons e h g=>
  obtain⟨j,c⟩:=lC.mp i;show((d,a,e)::gW d (a+1) h).filter _=_;rw[ig,ig];by_cases a:e<b;simp only[a,decide_true,if_true];rw[g _ c]
  rfl
  simp only[a,decide_false,jl,if_false];rw[g _ c];have:h.filter (λf=>aq (f<b))=[]:=yR.mpr λb a=>by have:=j b a;simp;omega
  rw[this]
  rfl
def B7(c)(b e a):cZ (d7 c b e) a=if a=b then cZ c b++[e]else cZ c a:=by
 induction c with|nil=>show(if b=a then[e]else[])=if a=b then[]++[e]else[];by_cases d:a=b;simp[d];simp[d,df d]|cons c g h=>unfold d7;by_cases d:c.1=b;rw[ay d];show(if c.1=a then c.2++[e]else cZ g a)=if a=b then(if c.1=b then c.2 else cZ g b)++[e]else(if c.1=a then c.2 else cZ g a);by_cases f:a=b;simp[d,f];rw[aw f,d,aw (df f),aw (df f)];rw[aw d];show(if c.1=a then c.2 else cZ (d7 g b e) a)=if a=b then(if c.1=b then c.2 else cZ g b)++[e]else(if c.1=a then c.2 else cZ g a);rw[h,aw d];by_cases f:a=b;subst f;simp[d];simp[f]
def B8(d:V (Nat×V Nat))(e a):cZ (d.map λb=>(b.1,b.2.filter λc=>aq (c<e))) a=(cZ d a).filter λc=>aq (c<e):=by
 induction d with|nil=>rfl|cons b c d=>show(if b.1=a then _ else cZ (c.map _) a)=((if b.1=a then b.2 else cZ c a).filter _);rw[d];split<;>rfl
section
variable{m:bo}{p:d3}
def cv.e(h:cv m p):bU p=m.i:=by
 unfold bU bo.i;rw[h.g,h.k,jx]
 rfl
def cv.w(x:cv m p)(s):sO p s=(cZ m.b s).length:=by unfold sO;rw[x.h,Qy,JV]
def cv.J(R:cv m p)(M x)(S:1<=x):wC p M x=(cZ m.b M)[x -1]?:=by
 unfold wC;have N:(p.sent.find? λs=>s.1==M&&s.2.1==x)=(p.sent.filter λs=>s.1==M).find? λs=>s.2.1==x:=by rw[List.find?_filter];congr 1;funext s;by_cases P:s.1=M<;>by_cases Q:s.2.1=x<;>simp[P,Q]
 rw[N,R.h,Qx _ _ _ _ S]
def cv.z(s:cv m p):(oO p:Int)=match m.c with|[]=>(m.j:Int)|x::_=>(x.1:Int):=by
 unfold oO;rw[s.g,s.i];cases m.c with|nil=>rfl|cons x s=>rfl
def bo.r.l(b:m.r):∀n∈m.i,n.place<m.d:=by intro n a;rcases cU.mp a with a|a;obtain⟨q,o,a⟩:=kM.mp a;have:=b.e q o;have:=this.2 n a;have:=b.f;have:=b.c;omega;exact(b.h n a).2
def cv.t(s:cv m p):cv m.l (jT p):=by refine⟨s.g,s.i,s.k,s.c,s.c,s.h,⟨s.a.i,cu s.a.f s.a.c,bp _,s.a.k,s.a.g,s.a.e,s.a.h,s.a.d,s.a.j⟩⟩
def cv.G(s:cv m p):cv m.p (Dx p):=by
 have Q:∀N∈m.p.i,N∈m.i:=λN x=>by rcases cU.mp x with x|x;exact g9 _ x;exact gb _ (cY.mp x).1
 refine⟨s.g,s.i,?_,?_,s.d,λM=>?_,⟨s.a.i,s.a.f,bp _,lD s.a.c s.a.k,?_,s.a.e,?_,λN x=>s.a.d N (Q N x),λM=>?_⟩⟩;show p.recs.filter _=m.k.filter _;rw[s.k,s.d];show iU p.next p.disk=m.n;rw[s.c,s.d,uy s.a.c];show(p.sent.filter _).filter _=gW M 1 (cZ (m.b.map _) M);rw[B8,<-Qw M m.n _ 1 (s.a.j M).1,<-s.h M,s.d,lz,lz];congr 1;funext Q;exact lg _ _;exact s.a.g.sublist (TN (jw) _);intro N x;obtain⟨Q,R⟩:=cY.mp x;exact⟨(s.a.h N Q).1,cj R⟩;show(cZ (m.b.map _) M).Pairwise _/\∀P∈cZ (m.b.map _) M,P<m.n;rw[B8];exact⟨(s.a.j M).1.sublist jw,λP x=>cj (cY.mp x).2⟩
structure m8(m:bo)(r:aG):Prop where
 a:p6 r
 d:0<r.seq->r.seq=(cZ m.b r.sender).length+1
 b:0<r.seq↔¬(r.sender=0\/r.kind=2\/r.kind=3)
def MF(a k b)(d:V (Nat×V aG)):Dy k b (d.map (hU a))=(d.dropWhile λc=>!aq ((b:Int) -((c.1:Int)+(a:Int))<(k:Int))).map (hU a):=by
 induction d with
 |nil=>rfl
 |cons c r e=>
  show(if c.1+a+k<=b then Dy k b (r.map (hU a))else hU a c::r.map (hU a))=_;rw[List.dropWhile_cons];by_cases d:c.1+a+k<=b;have:¬((b:Int) -((c.1:Int)+(a:Int))<(k:Int)):=by omega
  rw[ay d];simp only[this,decide_false,DN,if_true];exact e;have:(b:Int) -((c.1:Int)+(a:Int))<(k:Int):=by omega
  rw[aw d];simp only[this,decide_true,DO,jl,if_false]
  rfl
def cv.K{r:aG}(s:cv m p)(P:m8 m r):let M:d3:={p with recs:=p.recs++[{r with place:=p.next}],next:=p.next+1,sent:=if r.sender=0\/r.kind=2\/r.kind=3 then p.sent else p.sent++[(r.sender,r.seq,p.next)]}
  M.segs=m.c.map (hU m.a)/\M.base=m.j/\M.recs=(m.g r).k/\M.next=m.d+1/\M.disk=m.n/\∀x,(M.sent.filter λN=>N.1==x)=gW x 1 (cZ (m.g r).b x):=by
 refine⟨s.g,s.i,?_,?_,s.d,λx=>?_⟩;show p.recs++[_]=m.k++[_];rw[s.k,s.c];show p.next+1=_;rw[s.c];show((if r.sender=0\/r.kind=2\/r.kind=3 then p.sent else p.sent++[(r.sender,r.seq,p.next)]).filter _)=gW x 1 (cZ (if 0<r.seq then d7 m.b r.sender m.d else m.b) x);by_cases M:0<r.seq;rw[aw (P.b.mp M),ay M,ie,s.h,B7];by_cases N:x=r.sender;subst N;rw[ay I,Qz];simp only[ig,Jn,beq_self_eq_true,if_true];rw[s.c,y5 1,<-P.d M];have Q:(r.sender==x)=ae:=by simp;exactλx=>N x.symm
 rw[aw N];simp only[ig,Jn,Q,jl,if_false,dM];have N:r.sender=0\/r.kind=2\/r.kind=3:=kv λx=>M (P.b.mpr x);rw[ay N,aw M,s.h]
def A6(m:bo)(r):(m.g r).i=m.i++[{r with place:=m.d}]:=by
 show m.c.flatMap (·.2)++(m.k++[_])=_;rw[<-b8]
 rfl
def m8.c{r:aG}(e:m8 m r)(f):p6 {r with place:=f}:=⟨e.a.e,e.a.d,e.a.a,e.a.b,e.a.c⟩
def BO{r:aG}(c:m.r):(m.g r).i.Pairwise λa b=>a.place<b.place:=by rw[A6,rv];exact⟨c.g,by simp,λa e b d=>by simp at d;subst d;exact c.l a e⟩
def Di{r:aG}(i:m.r)(e):(cZ (m.g r).b e).Pairwise (·<·)/\∀c∈cZ (m.g r).b e,c<m.d+1:=by show(cZ (if 0<r.seq then d7 m.b r.sender m.d else m.b) e).Pairwise (·<·)/\∀c∈cZ (if 0<r.seq then d7 m.b r.sender m.d else m.b) e,c<m.d+1;have d:=i.j e;split;rw[B7];split;rename_i h;subst h;rw[rv];refine⟨⟨d.1,by simp,λg j k f=>by simp at f;subst f;exact d.2 g j⟩,λc a=>?_⟩;rcases cU.mp a with a|a;exact mN (d.2 c a);simp at a;omega;exact⟨d.1,λc a=>mN (d.2 c a)⟩;exact⟨d.1,λc a=>mN (d.2 c a)⟩
def MH(p:a->Bool)(b:a->V c)(l:V a):((l.dropWhile p).flatMap b).Sublist (l.flatMap b):=by
 conv=>rhs;rw[<-JH (p:=p) (l:=l)]
 rw[g8];exact List.sublist_append_right _ _
def cv.o{R:iD}{r:aG}(x:cv m p)(zk:R.segment=m.a)(zg:R.keep=m.f)(P:m8 m r):cv (m.h r) (nx R p r):=by
 obtain⟨zd,X,ze,Q,zl,zf⟩:=x.K P;unfold nx Vblwai.rolled bo.h;generalize{p with recs:=p.recs++[{r with place:=p.next}],next:=p.next+1,sent:=if r.sender=0\/r.kind=2\/r.kind=3 then p.sent else p.sent++[(r.sender,r.seq,p.next)]}=M at zd X ze Q zl zf;have s:=x.a.k;have zj:∀N∈(m.g r).i,p6 N:=λN s=>by rw[A6]at s;rcases cU.mp s with s|s;exact x.a.d N s;rw[dZ.mp s];exact P.c _
 have zi:∀N∈(m.g r).k,m.j<=N.place/\N.place<m.d+1:=λN s=>by rcases cU.mp s with s|s;have:=x.a.h N s;omega;rw[dZ.mp s];have T:=x.a.f;have S:=x.a.c;exact⟨cu T S,ux _⟩
 by_cases zb:m.d+1=m.j+m.a;have zc:¬M.next<M.base+R.segment:=by rw[Q,X,zk];omega
 rw[aw zc,ay zb];have P:(m.g r).m.r:=by
  refine⟨x.a.i,bp _,bp _,?_,?_,?_,?_,?_,Di x.a⟩;show m.d+1<m.d+1+m.a;have:=x.a.i;omega;have:=BO (r:=r) x.a;unfold bo.i bo.m;simp only[g8,ez,um,dM];exact this;intro za U;rcases cU.mp U with U|U;have T:=x.a.e za U;refine⟨?_,T.2⟩;have S:=x.a.f;have S:=x.a.c;show za.1+m.a<=m.d+1;omega;rw[dZ.mp U];refine⟨by show m.j+m.a<=m.d+1;omega,λN s=>?_⟩;have:=zi N s;show m.j<=N.place/\N.place<m.j+m.a;omega;intro N s;cases s;intro N s;refine zj N ?_;have:(m.g r).m.i=(m.g r).i:=by unfold bo.i bo.m;simp only[g8,ez,um,dM]
  rw[this]at s;exact s
 have S:cv (m.g r).m {M with segs:=M.segs++[{from_:=M.base,upto:=M.next,recs:=M.recs}],base:=M.next,recs:=[],disk:=M.next}:=by refine⟨?_,Q,I,Q,Q,zf,P⟩;show M.segs++[_]=(m.c++[(m.j,(m.g r).k)]).map (hU m.a);rw[zd,a6,X,Q,ze];show _=_++[hU m.a (m.j,(m.g r).k)];unfold hU;rw[<-zb]
 have zh:(m.g r).f=R.keep:=zg.symm;cases zg:R.keep with
 |none=>rw[Bd (by rw[zh,zg])];exact S
 |some k=>
  rw[Be (k:=k) (by rw[zh,zg])];have zh:((m.g r).m.s k).c.Sublist (m.g r).m.c:=Jh _;have zg:((m.g r).m.s k).i.Sublist (m.g r).m.i:=by unfold bo.i;exact yI (MH _ _ _) (yJ _)
  refine⟨?_,S.i,S.k,S.c,S.d,S.h,⟨P.i,P.f,P.c,P.k,P.g.sublist zg,λza U=>P.e za (zh.subset U),P.h,λN s=>P.d N (zg.subset s),P.j⟩⟩;show Dy k M.next (M.segs++[_])=_;have T:=S.g;have T:M.segs++[{from_:=M.base,upto:=M.next,recs:=M.recs}]=(m.g r).m.c.map (hU m.a):=T;rw[T,MF,Q]
  rfl
 have zc:M.next<M.base+R.segment:=by rw[Q,X,zk];omega
 rw[ay zc,aw zb];refine⟨zd,X,ze,Q,zl,zf,⟨x.a.i,x.a.f,eZ x.a.c,?_,BO x.a,x.a.e,zi,zj,Di x.a⟩⟩;show m.d+1<m.j+m.a;omega
end
def cv.B(m)(s)(p:0<m):cv (oI m s) qo:=by refine⟨I,I,I,I,I,λ_=>I,⟨p,bp _,bp _,by show 0<0+m;omega,yH,?_,?_,?_,λm=>⟨yH,?_⟩⟩⟩;all_goals(intro p m;cases m)
def r_{a:V e}{c g:e->Bool}(d:∀b∈a,c b=g b):a.find? c=a.find? g:=by
 induction a with|nil=>rfl|cons b a c=>rw[hF,hF,d b cr,c λe a=>d e (cJ _ a)]
def NT(a:V aG)(b):(a.find? λc=>c.sender==b&&(c.kind==2||c.kind==3)).map (·.kind)=ge a b:=by
 induction a with
 |nil=>rfl
 |cons a c g=>
  rw[hF];show _=if hh a=ab/\(b:Int)=a.sender then O a.kind else ge c b;by_cases e:a.sender=b;subst e;by_cases c:hh a=ab;have d:(a.kind==2||a.kind==3)=ab:=c;rw[ay ⟨c,I⟩];simp[d];have d:(a.kind==2||a.kind==3)=ae:=by simpa[hh]using c
  rw[aw (λf=>c f.1)];simp only[d,ku];exact g;have c:(a.sender==b)=ae:=by simp[e]
  rw[aw (λf=>e (by have:=f.2;omega))];simp only[c,jk];exact g
def B_(a:ge e d=O b):b=2\/b=3:=by
 induction e with
 |nil=>cases a
 |cons c h g=>have a:(if hh c=ab/\d=c.sender then O c.kind else ge h d)=O b:=a;split at a;rename_i f;have a:=bA a;have:=f.1;simp only[hh,wH,beq_iff_eq]at this;omega;exact g a
def MB(d:∀c∈a,c.place≠b):d9 a b=aa:=by
 induction a with
 |nil=>rfl
 |cons e a g=>
  have a:=g λc f=>d c (cJ _ f);have c:¬((b:Int)=e.place):=λb=>d e cr (by omega);rw[oD];split;exact a;split;split;first|exact a|(rw[if_neg c];exact a)
  exact a;exact a
def MA(d:∀c∈a,c.place≠b):d9 (a++e) b=d9 e b:=by
 induction a with
 |nil=>rfl
 |cons e a g=>
  have a:=g λc f=>d c (cJ _ f);have c:¬((b:Int)=e.place):=λb=>d e cr (by omega);rw[gJ,oD];split;exact a;split;split;first|exact a|(rw[if_neg c];exact a)
  exact a;exact a
abbrev fz(c:V aG):Prop:=c.Pairwise λa b=>a.place<b.place
def vG{r:aG}(d:fz (b++r::c)):(∀a∈b,a.place<r.place)/\(∀a∈c,r.place<a.place):=by obtain⟨e,b,c⟩:=rv.mp d;exact⟨λa d=>c a d r cr,(lC.mp b).1⟩
def MC{a:aG}(d:fz (c++a::b)):d9 (c++a::b) a.place=if a.kind=1 then ge b a.sender else aa:=by
 obtain⟨e,f⟩:=vG d;have g:d9 b a.place=aa:=MB λd c=>by have:=f d c;omega
 rw[MA λd c=>by have:=e d c;omega,oD,g];by_cases c:a.kind=1;have d:hh a=ae:=by simp[hh,c]
 rw[aw (by rw[d];decide),ay c,ay c];cases ge b a.sender<;>simp;rw[aw c,aw c];split<;>rfl
def Bu{b:aG}(a:fz (d++b::c)):iF (d++b::c) b=match ge c b.sender with
  |none=>0
  |some e=>if e=2 then 1 else 2:=by
 obtain⟨h,i⟩:=vG a;unfold iF;have f:((d++b::c).find? λa=>aq (b.place<a.place)&&(a.sender==b.sender&&(a.kind==2||a.kind==3)))=c.find? λa=>a.sender==b.sender&&(a.kind==2||a.kind==3):=by
  rw[kJ];have g:(d.find? λa=>aq (b.place<a.place)&&(a.sender==b.sender&&(a.kind==2||a.kind==3)))=aa:=j9.mpr λe d=>by have:=h e d;simp;omega
  rw[g,hF];simp only[fV,decide_false,jk,Option.none_or];exact r_ λe d=>by simp[i e d]
 rw[f,<-NT];cases c.find? λa=>a.sender==b.sender&&(a.kind==2||a.kind==3)with|none=>rfl|some a=>rfl
section
variable{l:V aG}{r:aG}
def vo(a:fz l)(c:r∈l):d9 l r.place=if r.kind=1 then(if iF l r=0 then aa else if iF l r=1 then O 2 else O 3)else aa:=by
 obtain⟨d,b,rfl⟩:=yM c;rw[MC a,Bu a];by_cases a:r.kind=1;rw[ay a,ay a];cases c:ge b r.sender with|none=>rfl|some b=>rcases B_ c with rfl|rfl<;>rfl
 rw[aw a,aw a]
def vx(b:fz l)(c:r∈l):iF l r=0\/iF l r=1\/iF l r=2:=by
 obtain⟨d,a,rfl⟩:=yM c;rw[Bu b];cases b:ge a r.sender with|none=>exact .inl I|some a=>rcases B_ b with rfl|rfl;exact .inr (.inl I);exact .inr (.inr I)
def vm(a:fz l)(b:r∈l):r6 l r=jR l r:=by unfold r6 jR;rw[vo a b];rcases vx a b with a|a|a<;>by_cases b:r.kind=1<;>simp[a,b]
def S1(a:fz l)(b:r∈l):lb l r=(r.kind==1&&iF l r==0):=by unfold lb;rw[vo a b];rcases vx a b with a|a|a<;>by_cases b:r.kind=1<;>simp[a,b]
def Nb(a:fz l)(b:r∈l):(d9 l r.place==O 3)=(r.kind==1&&iF l r==2):=by rw[vo a b];rcases vx a b with a|a|a<;>by_cases b:r.kind=1<;>simp[a,b]
end
def na{b:V ba}{f:ba->Bool}{g:aG->Bool}(h:∀c∈b,f c=g c.a):(b.filter f).map (·.a)=(b.map (·.a)).filter g:=by rw[ul];congr 1;exact Jl h
def aN.x(y:aN):y.o=y.a.i:=by
 unfold aN.o aN.g bo.i aN.a;simp only[a6,List.map_flatMap,jx]
 rfl
section
variable{p:aN}{q:d3}
def cv.b(m:cv p.a q):p.g.map (·.a)=bU q:=by rw[m.e,<-aN.x];rfl
def cv.f(m:cv p.a q):fz (bU q):=by rw[m.e];exact m.a.g
def cv.j(s:cv p.a q){m:ba}(x:m∈p.g):m.a∈bU q:=by rw[<-s.b];exact bm.mpr ⟨m,x,I⟩
def cv.l(m:cv p.a q):p.r=fF q:=by
 have x:fF q=iU q.disk ((((bU q).find? λr=>r.kind==1&&iF (bU q) r==0).map λr=>r.place).getD q.next):=I;unfold aN.r sH;have s:p.o=bU q:=m.b;rw[x,s,r_ (g:=λr=>r.kind==1&&iF (bU q) r==0) λx s=>S1 m.f s];have s:q.disk=p.h:=m.d;have s:q.next=p.f:=m.c;have s:p.h<=p.f:=m.a.c;cases(bU q).find? λr=>r.kind==1&&iF (bU q) r==0 with|none=>show p.h=iU q.disk q.next;omega|some r=>show iU r.place p.h=iU q.disk r.place;omega
def cv.r(h:cv p.a q):p.j.map (·.a)=eV q:=by unfold aN.j eV;rw[na (g:=λr=>jR (bU q) r&&aq (r.place<fF q)),h.b];intro m s;have m:p.o=bU q:=h.b;rw[m,vm h.f (h.j s),h.l,lg]
def cv.A(M:cv p.a q)(m)(s:0<=m/\m<=1):(iw p m).map (·.a)=if(m==1)=ab then eV q else(bU q).filter λx=>aq (x.kind<=1):=by
 unfold iw;by_cases s:m=1;subst s;exact M.r;have N:(m==1)=ae:=by simp[s]
 rw[aw s,N];rw[na (g:=λx=>aq (x.kind<=1)),M.b]
 rfl
 intro m _;have:m.a.kind<=1↔m.a.kind=0\/m.a.kind=1:=by omega
 rw[hw];simp[this]
def cv.C(x:cv p.a q)(m):k1 p m=if(m==1)=ab then fF q else q.next:=by
 unfold k1;by_cases s:m=1;subst s;exact x.l;have M:(m==1)=ae:=by simp[s]
 rw[aw s,M];exact x.c.symm
def cv.n(M:cv p.a q)(s x:Nat)(m:Int)(N:0<=m/\m<=1):(ej p s x m).map (·.a)=(eu q s x (m==1)).1:=by unfold ej vC eu;rw[ka,na (g:=λr=>aq (s<=r.place)),M.A m N];intro m _;have:((s:Int)<=(m.a.place:Int))↔s<=m.a.place:=Int.ofNat_le;simp[this]
def cv.u(P:cv p.a q)(x m:Nat)(s:Int)(S:0<=s/\s<=1)(X:1<=m):k8 p x m s=(eu q x m (s==1)).2:=by
 have Q:=P.n x m s S;have T:(ej p x m s).length=((eu q x m (s==1)).1).length:=by rw[<-Q,an]
 have U:(ej p x m s).length<=m:=by unfold ej;rw[e7];omega
 unfold k8;show _=(((if((eu q x m (s==1)).1).length<m then eN x (if(s==1)=ab then fF q else q.next)else(((eu q x m (s==1)).1).getLast?.map λr=>r.place+1).getD x):Nat):Int);rw[P.C,<-T];by_cases M:(ej p x m s).length=m;rw[ay M,aw (by omega),<-Q,Jx];cases N:(ej p x m s).getLast? with|none=>rw[yX]at N;rw[N]at M;simp at M;omega|some za=>simp
 have R:(ej p x m s).length<m:=by omega
 rw[aw M,ay R];omega
def Bx(a:c->Bool)(b:V c):b.find? a=(b.filter a).head?:=by rw[List.head?_filter]
def A7{b:V c}(d:b.any a=ae):b.find? a=aa:=by rw[j9];intro b a c;have:=pt.mp d b a;exact this c
def C8{c:V wz}(f:∀a∈c,d a=a.recs.any b)(e:V aG):
  (match c.find? d with|some a=>a.recs.find? b|none=>e.find? b)=(c.flatMap (λa=>a.recs)++e).find? b:=by
 induction c with
 |nil=>rfl
 |cons a c d=>
  have c:=f a cr;rw[hF,ez,b8,kJ,c];have d:=d λe c=>f e (cJ _ c);cases f:a.recs.any b with
  |true=>
   show a.recs.find? b=_;obtain⟨e,c,h⟩:=ib.mp f;cases g:a.recs.find? b with|none=>exact a7 h (by have:=j9.mp g e c;exact this)|some a=>rfl
  |false=>rw[A7 f];exact d
def cv.D(M:cv p.a q)(m):Dz q m=((bU q).filter λr=>aq (m<=r.place)).head?:=by
 rw[<-Bx];unfold Dz bU;refine C8 (λs x=>?_) _;rw[M.g]at x;obtain⟨s,Q,rfl⟩:=bm.mp x;show(aq (m<s.1+p.a.a)&&s.2.any λr=>aq (m<=r.place))=s.2.any λr=>aq (m<=r.place);cases N:s.2.any λr=>aq (m<=r.place)with
 |false=>exact ku _
 |true=>
  obtain⟨r,P,x⟩:=ib.mp N;have x:=cj x;have:=((M.a.e s Q).2 r P).2;have:m<s.1+p.a.a:=by omega
  simp[this]
def BZ(d:V aG)(b c):c<=d.foldl (λe a=>eN e a.time) b↔c<=b\/∃a∈d,c<=a.time:=by
 induction d generalizing b with|nil=>simp|cons h a d=>rw[kK,d];constructor;rintro(g|⟨e,a,d⟩);by_cases f:c<=b;exact .inl f;exact .inr ⟨h,cr,by omega⟩;exact .inr ⟨e,cJ _ a,d⟩;rintro(g|⟨e,a,d⟩);exact .inl (by omega);rcases bW.mp a with rfl|a;exact .inl (by omega);exact .inr ⟨e,a,d⟩
def M3(a):DA q a=((bU q).filter λr=>aq (a<=r.time)).head?:=by
 rw[<-Bx];unfold DA bU;refine C8 (λb _=>?_) _;cases g:b.recs.any λr=>aq (a<=r.time)with
 |true=>
  obtain⟨r,d,c⟩:=ib.mp g;have c:=cj c;have f:a<=Tx b.recs:=(BZ _ 0 a).mpr (.inr ⟨r,d,c⟩);have e:b.recs.isEmpty=ae:=by cases h:b.recs with|nil=>rw[h]at d;cases d|cons _ _=>rfl
  simp[f,e]
 |false=>
  have h:=pt.mp g;by_cases e:b.recs=[];simp[e];have f:¬a<=Tx b.recs:=by intro b;rcases(BZ _ 0 a).mp b with b|⟨r,d,c⟩;obtain⟨b,a⟩:=List.exists_mem_of_ne_nil _ e;exact h b a (dm (by omega));exact h r d (dm c)
  simp[f]
end
def Ng(e:Nat)(f:V ba)(b:Nat):(bx (fY e f) (.inl (b:Int))).isSome=f.any λa=>aq (a.a.place<e)&&a.a.place==b:=by
 suffices g:∀c:V (aU×ah),(bx (f.foldl (λc a=>if a.a.place<e then cH c (.inl (a.a.place:Int)) (.d ab)else c) c) (.inl (b:Int))).isSome=((bx c (.inl (b:Int))).isSome||f.any λa=>aq (a.a.place<e)&&a.a.place==b)from g []
 induction f with
 |nil=>intro c;simp
 |cons a g f=>
  intro c;rw[kK,f,nN];by_cases c:a.a.place<e;rw[ay c,rn];by_cases e:a.a.place=b;subst e;simp[c];have f:¬((bb (b:Int):aU)=.inl (a.a.place:Int)):=λg=>e (by have:=jQ g;omega);have g:(a.a.place==b)=ae:=by simp[e]
  rw[aw f,g];simp;rw[aw c];simp[c]
def le{a:V (aU×ah)}{k:aU}:bx a k=aa↔k∉a.map (·.1):=by
 induction a with|nil=>simp[bx]|cons c a b=>by_cases a:c.1=k;rw[g7 a];simp[a];rw[g6 a,b];simp[df a]
def wi(c:V (aU×ah))(b)(e):(cH c b e).map (·.1)=if(bx c b).isSome then c.map (·.1)else c.map (·.1)++[b]:=by
 cases d:bx c b with
 |none=>rw[pf e d];simp
 |some j=>
  have:b∈c.map (·.1):=kv λi=>by rw[le.mpr i]at d;cases d
  unfold cH;have g:(c.any λa=>aq (a.1=b))=ab:=by obtain⟨a,h,rfl⟩:=bm.mp this;exact ib.mpr ⟨a,h,by simp⟩
  simp only[uz,if_true];split;rw[bz];apply ga;intro a _;show(if a.1=b then(a.1,e)else a).1=a.1;split<;>rfl;rename_i f;exact a7 g (by simpa using f)
def Nf(f)(e:V ba):((fY f e).map (·.1)).Nodup:=by
 suffices a:∀b:V (aU×ah),(b.map (·.1)).Nodup->((e.foldl (λb c=>if c.a.place<f then cH b (.inl (c.a.place:Int)) (.d ab)else b) b).map (·.1)).Nodup from a [] (by simp)
 induction e with
 |nil=>exactλ_ a=>a
 |cons c f e=>
  intro b a;rw[kK];refine e _ ?_;split;rw[wi];cases e:bx b (.inl (c.a.place:Int))with|some _=>exact a|none=>simp only[JY,jl,if_false];rw[jA];exact⟨a,by simp,λg c h b f=>le.mp e (by simp at b;rw[<-b,<-f];exact c)⟩
  exact a
def Nc(g)(h:V ba):∀c∈(fY g h).map (·.1),∃b∈h,b.a.place<g/\c=.inl (b.a.place:Int):=by
 suffices a:∀e:V (aU×ah),∀c∈(h.foldl (λe b=>if b.a.place<g then cH e (.inl (b.a.place:Int)) (.d ab)else e) e).map (·.1),c∈e.map (·.1)\/∃b∈h,b.a.place<g/\c=.inl (b.a.place:Int)fromλc f=>(a [] c f).elim (λi=>by simp at i) id
 induction h with|nil=>exactλe c f=>.inl f|cons b i h=>intro e c f;rw[kK]at f;rcases h _ c f with a|⟨h,f,e⟩;by_cases c:b.a.place<g;rw[ay c,wi]at a;split at a;exact .inl a;rcases cU.mp a with a|a;exact .inl a;exact .inr ⟨b,cr,c,by simpa using a⟩;rw[aw c]at a;exact .inl a;exact .inr ⟨h,cJ _ f,e⟩
def No{f:V aG}(j:fz f){b c:aG}(k:b∈f)(l:c∈f)(m:b.place=c.place):b=c:=by obtain⟨d,g,rfl⟩:=JC.mp k;obtain⟨e,h,rfl⟩:=JC.mp l;have i:=JF.mp j;rcases JO d e with a|a|a;have:=i d e g h a;omega;subst a;rfl;have:=i e d h g a;omega
def vj{ls:V ba}{c:ba->Bool}{G:aG->Bool}{r:aG}(j:fz (ls.map (·.a)))(h:r∈ls.map (·.a))(g:∀b∈ls,c b=G b.a):((ls.filter c).any λb=>b.a.place==r.place)=G r:=by
 obtain⟨b,c,rfl⟩:=bm.mp h;cases d:G b.a with|true=>exact ib.mpr ⟨b,cY.mpr ⟨c,by rw[g b c];exact d⟩,by simp⟩|false=>refine pt.mpr λc i k=>?_;obtain⟨e,f⟩:=cY.mp i;have i:c.a=b.a:=No j (bm.mpr ⟨c,e,I⟩) h (by simpa using k);rw[g c e,i,d]at f;cases f
def vL(b:ar Nat)(a:Nat):(c_ b==(a:Int))=(b==O a):=by
 cases b with
 |none=>simp[c_]
 |some b=>
  simp only[c_];by_cases c:b=a;simp[c];have d:((b:Int)==(a:Int))=ae:=by simp;omega
  have e:(O b==O a)=ae:=by simp[c]
  rw[d,e]
def Np{ls:V ba}{d c:ba}(e:fz (ls.map (·.a)))(g:ls.getLast?=O d)(b:c∈ls):c.a.place<=d.a.place:=by obtain⟨f,rfl⟩:∃f,ls=f++[d]:=Jw.mp g;rcases cU.mp b with b|b;rw[a6,fz,rv]at e;exact pB (e.2.2 c.a (bm.mpr ⟨c,b,I⟩) d.a (by simp));simp at b;rw[b];exact bp _
section
variable{p:aN}{q:d3}{r:aG}
def cv.H(M:cv p.a q)(Q:r∈bU q):((k9 p).any λU=>U.a.place==r.place)=((jR (bU q) r&&aq (r.place<fF q))&&DF (bU q) (fF q) r):=by
 have x:=M.b;have P:fz (p.g.map (·.a)):=by rw[x];exact M.f
 unfold k9;generalize N:fc p.j=m;unfold aN.j;rw[lz,lz];rw[vj (ls:=p.g) (r:=r) (G:=λr=>((match m (c_ r.key)with|some s=>aq (r.place<s.a.place)|none=>ae)&&(m (c_ r.key)).isSome)&&(aq (r.place<fF q)&&jR (bU q) r)) P (by rw[x];exact Q)];subst N;cases m:(jR (bU q) r&&aq (r.place<fF q))with
 |false=>rw[lg]at m;rw[m];simp
 |true=>
  have x:=m;rw[lg]at x;rw[x];simp only[DL,gg];unfold DF;cases m:r.key with
  |none=>
   have:fc p.j (c_ aa)=aa:=by
    unfold fc;have:p.j.filter (gx (c_ aa))=[]:=yR.mpr λm _=>by unfold gx dq;cases m.a.key<;>simp[c_]
    rw[this]
    rfl
   rw[this]
   rfl
  |some N=>
   have Q:=M.r;have T:∀m:ba,gx (c_ (O N)) m=(m.a.key==O N):=λm=>by unfold gx dq;show(_&&(c_ m.a.key==(N:Int)))=_;rw[vL];cases m.a.key<;>simp
   have x:fz (p.j.map (·.a)):=by unfold aN.j;exact P.sublist (Jd _ jw)
   have X:fz ((p.j.filter (gx (c_ (O N)))).map (·.a)):=x.sublist (Jd _ jw);have za:∀m:aG,m∈bU q->jR (bU q) m=ab->m.place<fF q->∃S∈p.j,S.a=m:=λm x P R=>by have:m∈eV q:=cY.mpr ⟨x,by rw[P,dm R];rfl⟩;rw[<-Q]at this;exact bm.mp this
   rw[hw];constructor;intro s;cases x:fc p.j (c_ (O N))with
   |none=>rw[x]at s;cases s
   |some P=>
    rw[x]at s;have s:aq (r.place<P.a.place)=ab:=by simpa using s
    have s:=cj s;have zc:=uq x;obtain⟨zb,R⟩:=cY.mp zc;rw[T]at R;have zc:P.a∈eV q:=by rw[<-Q];exact bm.mpr ⟨P,zb,I⟩
    obtain⟨zb,Q⟩:=cY.mp zc;obtain⟨Q,zc⟩:=(fe _ _).mp Q;exact ib.mpr ⟨P.a,zb,by rw[dm s,zc,R,Q];rfl⟩
   intro s;obtain⟨m,zb,Q⟩:=ib.mp s;obtain⟨Q,s⟩:=(fe _ _).mp Q;obtain⟨s,R⟩:=(fe _ _).mp s;obtain⟨R,zc⟩:=(fe _ _).mp R;obtain⟨S,zd,rfl⟩:=za m zb zc (cj s);have m:S∈p.j.filter (gx (c_ (O N))):=cY.mpr ⟨zd,by rw[T];exact R⟩;cases x:fc p.j (c_ (O N))with
   |none=>unfold fc at x;rw[yX]at x;rw[x]at m;cases m
   |some P=>have:=Np X x m;have Q:=cj Q;simp;omega
 intro U s;have m:p.o=bU q:=M.b;rw[m,vm M.f (M.j s),M.l]
 rfl
def cv.E(m:cv p.a q)(s:r∈bU q):((k4 p).any λM=>M.a.place==r.place)=(aq (r.place<fF q)&&(r.kind==1&&iF (bU q) r==2)):=by
 have x:=m.b;have N:fz (p.g.map (·.a)):=by rw[x];exact m.f
 unfold k4;rw[lz];rw[vj (ls:=p.g) (r:=r) (G:=λr=>(d9 (bU q) r.place==O 3)&&aq (r.place<fF q)) N (by rw[x];exact s)];rw[Nb m.f s,lg];intro M s;have s:p.o=bU q:=m.b;rw[s,m.l]
def cv.L(s:cv p.a q)(M:r∈bU q):((l8 p).any λza=>za.a.place==r.place)=((jR (bU q) r&&aq (r.place<fF q))&&(r.value.isNone&&(r.key.isSome&&!((bU q).any λm=>aq (m.place<r.place)&&(m.key==r.key&&aq (m.kind<=1)))))):=by
 have x:=s.b;have N:fz (p.g.map (·.a)):=by rw[x];exact s.f
 unfold l8;conv=>lhs;unfold aN.j
 rw[lz,lz];rw[vj (ls:=p.g) (r:=r) (G:=λr=>((((bU q).find? λm=>c_ m.key==c_ r.key).map (·.place)==O r.place)&&r.value.isNone)&&((aq (r.place<fF q)&&jR (bU q) r))) N (by rw[x];exact M)];cases x:(jR (bU q) r&&aq (r.place<fF q))with
 |false=>rw[lg]at x;rw[x];simp
 |true=>
  have N:=x;rw[lg]at N;rw[N];cases N:r.value with
  |some Q=>simp
  |none=>
   have R:=s.a.d r (by rw[<-s.e];exact M);have Q:r.kind<=1:=by have:=((fe _ _).mp x).1;unfold jR at this;simp at this;omega
   have S:=R.c N Q;obtain⟨x,R⟩:=nV.mp S;rw[R];simp only[Option.isNone_none,uz,DL,gg];have S:(λm:aG=>c_ m.key==c_ (O x))=λm=>m.key==O x:=by funext m;exact vL m.key x
   rw[S];obtain⟨Q,T,N⟩:=yM M;have M:=s.f;rw[N]at M;obtain⟨X,zd⟩:=vG M;have M:(r.key==O x)=ab:=by rw[R];simp
   cases R:Q.any λm=>m.key==O x with
   |false=>
    have:(bU q).find? (λm=>m.key==O x)=O r:=by
     rw[N,kJ,A7 R,hF,M]
     rfl
    rw[this];have T:((bU q).any λm=>aq (m.place<r.place)&&(m.key==O x&&aq (m.kind<=1)))=ae:=by refine pt.mpr λm M zb=>?_;obtain⟨zc,U⟩:=(fe _ _).mp zb;obtain⟨U,ze⟩:=(fe _ _).mp U;have zc:=cj zc;rw[N]at M;rcases cU.mp M with M|M;exact pt.mp R m M U;rcases bW.mp M with rfl|M;omega;have:=zd m M;omega
    rw[T];simp
   |true=>
    obtain⟨m,U,M⟩:=ib.mp R;have R:m∈bU q:=by rw[N];exact g9 _ U
    have zd:m.kind<=1:=by have zc:=s.a.d m (by rw[<-s.e];exact R);refine kv λzb=>?_;have:=(zc.d (by omega)).1;rw[this]at M;simp at M
    have T:((bU q).any λm=>aq (m.place<r.place)&&(m.key==O x&&aq (m.kind<=1)))=ab:=
     ib.mpr ⟨m,R,by rw[dm (X m U),M,dm zd];rfl⟩
    rw[T];have R:∃P∈Q,(bU q).find? (λm=>m.key==O x)=O P:=by
     rw[N,kJ];cases N:Q.find? (λm=>m.key==O x)with|none=>exact a7 M (by have:=j9.mp N m U;exact this)|some P=>exact⟨P,kN N,I⟩
    obtain⟨P,m,x⟩:=R;rw[x];have:=X P m;simp;omega
 intro za m;have S:p.o=bU q:=s.b;rw[S,vm s.f (s.j m),s.l];congr 2;unfold hP;rw[<-s.b,ru,JZ]
 rfl
def cv.F(s:cv p.a q)(m:r∈p.a.c.flatMap (·.2)):(bx (fY p.b.a (eD p)) (.inl (r.place:Int))).isSome=(aq (r.place<fF q)&&DE (bU q) (fF q) r):=by
 have x:r∈bU q:=by rw[s.e];exact g9 _ m
 have N:r.place<p.b.a:=by obtain⟨Q,P,m⟩:=kM.mp m;have M:=s.a.e Q P;have P:=(M.2 r m).2;have m:p.a.j=p.b.a:=I;omega
 rw[Ng];have P:((eD p).any λm=>aq (m.a.place<p.b.a)&&m.a.place==r.place)=(eD p).any λm=>m.a.place==r.place:=by
  congr 1;funext m;by_cases M:m.a.place=r.place;simp[M,N];have N:(m.a.place==r.place)=ae:=by simp[M]
  rw[N,ku]
 rw[P];unfold eD DE;rw[Jf,Jf,s.H x,s.E x,s.L x];cases jR (bU q) r<;>cases aq (r.place<fF q)<;>cases DF (bU q) (fF q) r<;>cases(r.kind==1&&iF (bU q) r==2)<;>simp
def NL(b:d->Bool)(a:V d):(a.filter b).length+(a.filter λc=>!b c).length=a.length:=by
 induction a with|nil=>rfl|cons c r a=>rw[ig,ig];cases b c<;>simp<;>omega
def cv.y(m:cv p.a q):cv (p.a.q (fY p.b.a (eD p))) (jV q)/\(fY p.b.a (eD p)).length+(bU (jV q)).length=(bU q).length:=by
 have N:=λ(r:aG)(M:r∈p.a.c.flatMap (·.2))=>m.F M;have Q:=Nc p.b.a (eD p);have R:=Nf p.b.a (eD p);generalize x:fY p.b.a (eD p)=s at N Q R;have S:(jV q).segs=(p.a.q s).c.map (hU p.a.a):=by show(q.segs.map λx=>{x with recs:=x.recs.filter λr=>!(aq (r.place<fF q)&&DE (bU q) (fF q) r)})=(p.a.c.map (k5 s)).map (hU p.a.a);rw[m.g,bz,bz];apply ga;intro x P;show(⟨x.1,x.1+p.a.a,x.2.filter _⟩:wz)=⟨x.1,x.1+p.a.a,x.2.filter _⟩;congr 1;apply Jl;intro r M;rw[<-N r (kM.mpr ⟨x,P,M⟩)];cases bx s (.inl (r.place:Int))<;>rfl
 have T:(p.a.q s).i.Sublist p.a.i:=by
  unfold bo.i;refine yI ?_ (yJ _);show((p.a.c.map (k5 s)).flatMap (·.2)).Sublist _;rw[jx];generalize p.a.c=N;induction N with|nil=>exact yJ _|cons x r U=>rw[ez,ez];exact yI (jw) U
 refine⟨⟨S,m.i,m.k,m.c,m.d,m.h,⟨m.a.i,m.a.f,m.a.c,m.a.k,m.a.g.sublist T,?_,m.a.h,λr M=>m.a.d r (T.subset M),m.a.j⟩⟩,?_⟩;intro x P;obtain⟨U,T,rfl⟩:=bm.mp P;exact⟨(m.a.e U T).1,λr M=>(m.a.e U T).2 r (cY.mp M).1⟩;have T:bU (jV q)=((p.a.c.flatMap (·.2)).filter λr=>(bx s (.inl (r.place:Int))).isNone)++p.a.k:=by
  show(jV q).segs.flatMap (λx=>x.recs)++q.recs=_;rw[S,m.k,jx];congr 1;show(p.a.c.map (k5 s)).flatMap (·.2)=_;rw[jx,List.filter_flatMap]
  rfl
 have S:s.length=((p.a.c.flatMap (·.2)).filter λr=>!(bx s (.inl (r.place:Int))).isNone).length:=by
  have U:(s.map (·.1)).Perm (((p.a.c.flatMap (·.2)).filter λr=>!(bx s (.inl (r.place:Int))).isNone).map λr=>(bb (r.place:Int):aU)):=by
   have x:fz ((p.a.c.flatMap (·.2)).filter λr=>!(bx s (.inl (r.place:Int))).isNone):=(m.a.g.sublist (List.sublist_append_left _ _)).sublist jw;rw[List.perm_ext_iff_of_nodup R (by rw[JE,uu];exact x.imp λM P=>by have:=jQ P;omega)]
   intro R;constructor;intro P;obtain⟨N,x,X,rfl⟩:=Q R P;have Q:N∈p.g:=by unfold eD at x;rcases cU.mp x with x|x;rcases cU.mp x with x|x;exact CK x;exact BI x;exact Dh x
   have x:N.a∈p.a.c.flatMap (·.2):=by have:=m.j Q;rw[m.e]at this;rcases cU.mp this with M|M;exact M;have:=(m.a.h N.a M).1;have Q:p.a.j=p.b.a:=I;omega
   refine bm.mpr ⟨N.a,cY.mpr ⟨x,?_⟩,I⟩;cases x:bx s (.inl (N.a.place:Int))with|none=>exact a7 P (le.mp x)|some _=>rfl
   intro P;obtain⟨r,N,rfl⟩:=bm.mp P;have x:=(cY.mp N).2;exact kv λM=>by rw[le.mpr M]at x;cases x
  have:=U.length_eq;rw[an,an]at this;exact this
 rw[T,m.e,S];unfold bo.i;rw[bH,bH];have:=NL (λr:aG=>(bx s (.inl (r.place:Int))).isNone) (p.a.c.flatMap (·.2));omega
end
def b3.d(t:b3):gy:=⟨t.c.drop t.e,t.b.map λm=>(m.a,m.e,m.b,m.c),t.j⟩
def bf.b(x:bf):gf:=⟨x.c,x.f,x.a.map b3.d⟩
def m6.h(j:m6):mb:=⟨j.g,j.e,j.i,j.c,j.d,j.b,j.f⟩
def a_.c(t:a_):mb:=t.i.h
structure i2(b:b4)(k:iD)(ps:V d3):Prop where
 j:k.name=b.e
 g:k.segment=b.d
 h:k.tight=b.c
 e:k.keep=b.b
 l:b.e.length<=8/\b.d<=50/\∀z,b.b=O z->z<=500
 c:k.parts=b.a.length
 n:0<b.a.length
 f:b.a.length<=4
 a:ps.length=b.a.length
 d:∀(i:Nat) m p,b.a[i]?=O m->ps[i]?=O p->cv m p/\m.a=b.d/\m.f=b.b
structure dp(bs:V b4)(S:bt):Prop where
 c:S.books.length=bs.length
 d:S.parts.length=bs.length
 e:bs.length<=4
 f:∀(i:Nat) b k ps,bs[i]?=O b->S.books[i]?=O k->S.parts[i]?=O ps->i2 b k ps
def dp.a{S i:bt}(b:dp k S)(s:i.books=S.books)(t:i.parts=S.parts):dp k i:=⟨by rw[s];exact b.c,by rw[t];exact b.d,b.e,by rw[s,t];exact b.f⟩
def qi{b g:Type}{l:V b}{m:V g}{a:Nat}{e:b}(c:m.length=l.length)(d:l[a]?=O e):∃f,m[a]?=O f:=
 ⟨m[a]'(by rw[c];exact(bu.mp d).1),eM _⟩
section
variable{bs:V b4}{S:bt}
def dp.j{k:Nat}{s:b4}(t:dp bs S)(u:bs[k]?=O s):∃b i,S.books[k]?=O b/\S.parts[k]?=O i/\i2 s b i:=by obtain⟨b,w⟩:=qi t.c u;obtain⟨i,x⟩:=qi t.d u;exact⟨b,i,w,x,t.f k s b i u w x⟩
def p9(c:S.books[a]?=O b):fn S a=b:=by
 unfold fn;rw[pw,c]
 rfl
def wd(e:S.parts[c]?=O b)(f:b[a]?=O d):bP S c a=d:=by
 unfold bP;rw[e];show(b[a]?).getD _=_;rw[f]
 rfl
def dp.l{i j:Nat}{b:b4}{m:bo}(t:dp bs S)(u:bs[i]?=O b)(s:b.a[j]?=O m):cv m (bP S i j)/\(fn S i).segment=m.a/\(fn S i).keep=m.f/\(fn S i).parts=b.a.length:=by obtain⟨w,x,y,z,k⟩:=t.j u;obtain⟨A,t⟩:=qi k.a s;obtain⟨u,w,x⟩:=k.d j m A s t;rw[wd z t,p9 y];exact⟨u,by rw[w];exact k.g,by rw[x];exact k.e,k.c⟩
def dp.g{b:b4}{m:bo}{f:bo->bo}(y:dp bs S)(x:bs[s]?=O b)(C:b.a[i]?=O m)(N:cv (f m) A)(P:(f m).a=m.a)(M:(f m).f=m.f):dp (hW bs (s,i) f) (gB S s i A):=by refine⟨?_,?_,?_,λz D G J t w u=>?_⟩;show S.books.length=(bs.modify s _).length;rw[j_];exact y.c;show(S.parts.modify s _).length=(bs.modify s _).length;rw[j_,j_];exact y.d;show(bs.modify s _).length<=4;rw[j_];exact y.e;have t:(bs.modify s λb=>{b with a:=b.a.modify i f})[z]?=O D:=t;have u:(S.parts.modify s λl=>l.set i A)[z]?=O J:=u;rw[mK]at t u;by_cases E:s=z;subst E;rw[x]at t;obtain⟨K,L,B,F,k⟩:=y.j x;have w:S.books[s]?=O G:=w;rw[B]at w;rw[F]at u;simp only[if_true,uA,lF,kO]at t w u;subst t w u;refine⟨k.j,k.g,k.h,k.e,k.l,?_,?_,?_,?_,λB H Q s x=>?_⟩;show K.parts=(b.a.modify i f).length;rw[j_];exact k.c;show 0<(b.a.modify i f).length;rw[j_];exact k.n;show(b.a.modify i f).length<=4;rw[j_];exact k.f;show(L.set i A).length=(b.a.modify i f).length;rw[j_,j'];exact k.a;have s:(b.a.modify i f)[B]?=O H:=s;rw[mK]at s;rw[py]at x;by_cases A:i=B;subst A;obtain⟨R,F⟩:=qi k.a C;have K:=(bu.mp F).1;rw[C]at s;simp only[if_true,uA,lF,kO,K]at s x;subst s x;obtain⟨_,K,L⟩:=k.d i m R C F;exact⟨N,P.trans K,M.trans L⟩;simp only[A,if_false,uA,Option.map_id_fun',id_eq]at s x;exact k.d B H Q (by simpa using s) x;simp only[E,if_false,uA]at t u;exact y.f z D G J (by simpa using t) w (by simpa using u)
def Dr(d:fk bs c):∃b a,bs[c.1]?=O b/\b.a[c.2]?=O a:=by
 obtain⟨e,a,f⟩:=d;unfold b2 at a;rw[bw]at a;cases d:bs[c.1]? with
 |none=>rw[d]at a;cases a
 |some b=>rw[d]at a;have a:b.a.length=e:=bA a;exact⟨b,b.a[c.2]'(by omega),I,eM _⟩
def Mr(a:bo):a.o.a=a.a/\a.o.f=a.f:=by unfold bo.o;split<;>exact⟨I,I⟩
def jb(b:bo)(r):(b.h r).a=b.a/\(b.h r).f=b.f:=by unfold bo.h;split;exact Mr _;exact⟨I,I⟩
def NS(a)(d)(c:b=2\/b=3):m8 a (k6 d b):=by refine⟨⟨?_,λ_=>⟨I,I⟩,λd a=>(by cases a),λd a=>(by cases a),λ_ a=>?_⟩,λa=>?_,⟨λa=>?_,λa=>?_⟩⟩;show b<=3;omega;have a:b<=1:=a;omega;exact a7 a (fV 0);exact a7 a (fV 0);exact a7 (Or.inr c) a
def dp.r(u:dp bs S)(z:fk bs k)(y:b=2\/b=3):dp (hW bs k λs=>(s.h (k6 i b)).l) (hY S i b k):=by obtain⟨A,k,w,x⟩:=Dr z;obtain⟨z,A,B,_⟩:=u.l w x;exact u.g w x (f:=λs=>(s.h (k6 i b)).l) ((z.o A B (NS k i y)).t) (jb k _).1 (jb k _).2
def dp.h{qs:V (Nat×Nat)}{num k:Nat}(s:dp bs S)(t:∀i∈qs,fk bs i)(u:k=2\/k=3):dp (fP bs num k qs) (qs.foldl (λw i=>hY w num k i) S):=by
 induction qs generalizing bs S with|nil=>exact s|cons i k w=>exact w (s.r (t i cr) u) λx k=>(t x (cJ _ k)).b
def jK(qs:V (Nat×Nat))(num b)(S:bt):(qs.foldl (λs a=>hY s num b a) S).books=S.books/\(qs.foldl (λs a=>hY s num b a) S).senders=S.senders/\(qs.foldl (λs a=>hY s num b a) S).groups=S.groups:=by
 induction qs generalizing S with|nil=>exact⟨I,I,I⟩|cons a r c=>exact c (hY S num b a)
def dp.p(i:dp bs S)(s:fk bs b):dp (hW bs b bo.l) (gB S b.1 b.2 (jT (bP S b.1 b.2))):=by obtain⟨t,u,b,k⟩:=Dr s;obtain⟨s,t,u,_⟩:=i.l b k;exact i.g b k (f:=bo.l) s.t I I
def dp.n{k:V (Nat×Nat)}(s:dp bs S)(t:∀i∈k,fk bs i):dp (gQ bs k) (k.foldl (λu i=>gB u i.1 i.2 (jT (bP u i.1 i.2))) S):=by
 induction k generalizing bs S with|nil=>exact s|cons i k u=>exact u (s.p (t i cr)) λw k=>(t w (cJ _ k)).b
def BD(c:V (Nat×Nat))(S:bt):let b:=c.foldl (λd a=>gB d a.1 a.2 (jT (bP d a.1 a.2))) S
  b.books=S.books/\b.senders=S.senders/\b.groups=S.groups:=by
 induction c generalizing S with|nil=>exact⟨I,I,I⟩|cons a c b=>exact b (gB S a.1 a.2 (jT (bP S a.1 a.2)))
def dp.o{b:bt}(x:dp bs S)(E:∀t w,cv t w->cv (s t) (A w)/\(s t).a=t.a/\(s t).f=t.f)(z:b.books=S.books)(B:b.parts=S.parts.map λk=>k.map A):dp (bs.map λi=>{i with a:=i.a.map s}) b:=by
 refine⟨?_,?_,?_,λy b D F k C u=>?_⟩;rw[z,an];exact x.c;rw[B,an,an];exact x.d;rw[an];exact x.e;rw[bw]at k;rw[z]at C;rw[B,bw]at u;cases b:bs[y]? with
 |none=>rw[b]at k;cases k
 |some i=>
  rw[b]at k;cases z:S.parts[y]? with
  |none=>rw[z]at u;cases u
  |some B=>
   rw[z]at u;obtain rfl:=bA k;obtain rfl:=bA u;have k:=x.f y i D B b C z;refine⟨k.j,k.g,k.h,k.e,k.l,?_,?_,?_,?_,λx y z b u=>?_⟩;show D.parts=(i.a.map s).length;rw[an];exact k.c;show 0<(i.a.map s).length;rw[an];exact k.n;show(i.a.map s).length<=4;rw[an];exact k.f;show(B.map A).length=(i.a.map s).length;rw[an,an];exact k.a;have b:(i.a.map s)[x]?=O y:=b;rw[bw]at b u;cases s:i.a[x]? with
   |none=>rw[s]at b;cases b
   |some t=>
    rw[s]at b;cases i:B[x]? with
    |none=>rw[i]at u;cases u
    |some w=>rw[i]at u;obtain rfl:=bA b;obtain rfl:=bA u;obtain⟨b,u,y⟩:=k.d x t w s i;obtain⟨i,k,s⟩:=E t w b;exact⟨i,k.trans u,s.trans y⟩
def dp.q{b:bt}(s:dp bs S)(i:b.books=S.books)(k:b.parts=S.parts.map λt=>t.map Dx):dp (gS bs) b:=
 s.o (λt u b=>⟨b.G,I,I⟩) i k
end
section
variable{S:bt}{n:V bf}{gl:V a_}
def wl(d:S.senders=n.map bf.b)(a:Int):(if a<0 then aa else DG S a.toNat)=(eQ n a).map bf.b:=by
 unfold eQ;by_cases c:a<0;rw[ay c];have:(n.find? λb=>aq ((b.c:Int)=a))=aa:=j9.mpr λb _=>by simp;omega
 rw[this]
 rfl
 rw[aw c];unfold DG;rw[d,ru];congr 1;refine r_ λb _=>?_;show(b.c==a.toNat)=aq ((b.c:Int)=a);rw[hw];simp;omega
def se(d:S.groups=gl.map a_.c)(a:Int):(if a<0 then aa else nv S a.toNat)=(dE gl a).map a_.c:=by
 unfold dE;by_cases c:a<0;rw[ay c];have:(gl.find? λb=>aq ((b.b:Int)=a))=aa:=j9.mpr λb _=>by simp;omega
 rw[this]
 rfl
 rw[aw c];unfold nv;rw[d,ru];congr 1;refine r_ λb _=>?_;show(b.b==a.toNat)=aq ((b.b:Int)=a);rw[hw];simp;omega
def Qv(a:S.senders=n.map bf.b)(i):DG S i=(eQ n i).map bf.b:=by have:=wl a (i:Int);rw[aw (by omega),eX]at this;exact this
def sg(a:S.groups=gl.map a_.c)(i):nv S i=(dE gl i).map a_.c:=by have:=se a (i:Int);rw[aw (by omega),eX]at this;exact this
def nc{x:bf}(a:eQ n b=O x):(x.c:Int)=b/\∃i:Nat,n[i]?=O x:=by have b:=yS a;have c:=kN a;exact⟨cj b,hG.mp c⟩
def oG{x:a_}(a:dE gl b=O x):(x.b:Int)=b/\∃c:Nat,gl[c]?=O x:=by have b:=yS a;have c:=kN a;exact⟨cj b,hG.mp c⟩
def so{f:Type}{b:V f}{a:f->Nat}{d e:Nat}{c h:f}(k:(b.map a).Nodup)(g:b[d]?=O c)(j:b[e]?=O h)(i:a c=a h):d=e:=by
 have f:(b.map a)[d]?=O (a c):=by rw[bw,g];rfl
 have d:(b.map a)[e]?=O (a c):=by rw[bw,j,i];rfl
 exact(Jt (by rw[an];exact(bu.mp g).1) k).mp (f.trans d.symm)
def C9{e m:Type}{a:V e}{f:e->Nat}{c:e->m}{id:m->Nat}{h:Nat}{l b:e}(k:∀i,id (c i)=f i)(o:(a.map f).Nodup)(g:a[h]?=O l)(j:f b=f l):((a.map c).map λd=>if id d=f b then c b else d)=(a.set h b).map c:=by
 apply mH;intro e;rw[bw,bw,bw,py];by_cases c:h=e;subst c;have h:=(bu.mp g).1;rw[g];simp[h,k,j];rw[aw c];cases h:a[e]? with|none=>rfl|some d=>have:f d≠f b:=λa=>c (so o g h (by rw[a,j]));simp[k,this]
def jf{i:Nat}{x x':bf}(b:S.senders=n.map bf.b)(g:(n.map (·.c)).Nodup)(e:n[i]?=O x)(d:x'.c=x.c):(dt S x'.b).senders=(n.set i x').map bf.b:=by show(S.senders.map λa=>if a.id=x'.b.id then x'.b else a)=_;rw[b];exact C9 (f:=bf.c) (id:=Vf) (λ_=>I) g e d
def wx{x x':a_}(c:S.groups=gl.map a_.c)(g:(gl.map (·.b)).Nodup)(e:gl[a]?=O x)(d:x'.b=x.b):(hv S x'.c).groups=(gl.set a x').map a_.c:=by show(S.groups.map λa=>if a.id=x'.c.id then x'.c else a)=_;rw[c];exact C9 (f:=a_.b) (id:=Ve) (λ_=>I) g e d
end
structure i3(bs:V b4)(g:m6):Prop where
 b:(b2 bs)[g.e]?=O g.d.length
 a:g.b.length=g.d.length
 f:g.f.length=g.d.length
 c:g.c.Pairwise (·<·)
 e:∀m∈g.c,m<6
def i3.d(g:i3 i k)(l:b2 j=b2 i):i3 j k:=⟨by rw[l];exact g.b,g.a,g.f,g.c,g.e⟩
structure bI(H:af)(s:a2)(S:bt)(k:Nat):Prop where
 a:s.j=aa
 b:dp (s.b.map bq.b) S
 h:S.senders=s.a.map bf.b
 e:S.groups=s.c.map a_.c
 f:∀x∈s.a,∀t,x.a=O t->t.j=ae/\t.e=0/\lV H s t/\t.b.length<=k
 j:(s.a.map (·.c)).Nodup
 A:∀x∈s.a,1<=x.c
 m:(s.c.map (·.b)).Nodup
 d:∀g∈s.c,i3 (s.b.map bq.b) g.i
 c:dy (s.b.map bq.b) (1000*k)
 i:(s.a.map b_).sum<=k
 E:s.a.length<=k
 C:s.c.length<=k
 r:k<=900
def gR(a:a_):Nat×Nat:=(a.b,a.a.length)
def kj.a{f e:V a_}{m:fA}(d:kj f m)(i:e.map gR=f.map gR):kj e m:=by
 obtain⟨g,j,h⟩:=d;have h:∀l:V a_,(dE l m.a).map (λg=>g.a.length)=((l.map gR).find? λd=>aq ((d.1:Int)=m.a)).map (·.2):=λl=>by
  rw[ru,JZ]
  rfl
 have d:=h f;rw[<-i,<-h e,j]at d;cases f:dE e m.a with
 |none=>rw[f]at d;cases d
 |some e=>rw[f]at d;have d:g.a.length=e.a.length:=bA d;exact⟨e,f,by omega⟩
def lV.d{s f:a2}(e:lV g s i)(l:aM g h)(j:b2 (f.b.map bq.b)=b2 (s.b.map bq.b))(k:f.c.map gR=s.c.map gR):lV h f i:=
 ⟨e.b.a l,λh g=>(e.a h g).a j,λm f=>(e.c m f).a k⟩
def bI.n{s g:a2}{S ze:bt}{k:Nat}(H:bI zg s S k)(zn:k+1<=900)(t:aM zg zf)
  (zs:g.j=aa) (zg:dp (g.b.map bq.b) ze) (zo:b2 (g.b.map bq.b)=b2 (s.b.map bq.b)) (zk:dy (g.b.map bq.b) (1000*(k+1)))
  (zt:ze.senders=g.a.map bf.b) (zh:g.a.map (·.c)=s.a.map (·.c))
  (zv:∀x∈g.a,∀t,x.a=O t->(∃y∈s.a,y.a=O t)\/(t.j=ae/\t.e=0/\lV zf g t/\t.b.length<=k+1))
  (zu:(g.a.map b_).sum<=k+1)
  (zm:ze.groups=g.c.map a_.c) (zi:g.c.map gR=s.c.map gR) (zl:∀zj∈g.c,i3 (g.b.map bq.b) zj.i):bI zf g ze (k+1):=by
 have ze:g.c.map (·.b)=s.c.map (·.b):=by have:=cb (nP rz) zi;rw[bz,bz]at this;exact this
 have zq:g.a.length=s.a.length:=by have:=cb fu zh;rw[an,an]at this;exact this
 have zr:g.c.length=s.c.length:=by have:=cb fu ze;rw[an,an]at this;exact this
 refine⟨zs,zg,zt,zm,λx zf zj zp=>?_,by rw[zh];exact H.j,λx zf=>?_,by rw[ze];exact H.m,zl,zk,zu,by rw[zq];exact eZ H.E,by rw[zr];exact eZ H.C,zn⟩;rcases zv x zf zj zp with⟨y,zg,ze⟩|zn;obtain⟨zk,b,zl,zm⟩:=H.f y zg zj ze;exact⟨zk,b,zl.d t zo zi,eZ zm⟩;exact zn;have:x.c∈g.a.map (·.c):=bm.mpr ⟨x,zf,I⟩;rw[zh]at this;obtain⟨y,zg,ze⟩:=bm.mp this;rw[<-ze];exact H.A y zg
def jI{k:Nat}(b:dy a (1000*k)):dy a (1000*(k+1)):=b.a (by omega)
def bI.p{S:bt}{k:Nat}(g:bI s x S k)(H:k+1<=900)(ze:aM s t):bI t x S (k+1):=
 g.n H ze g.a g.b I (jI g.c) g.h I (λx t zf s=>.inl ⟨x,t,s⟩) (eZ g.i) g.e I g.d
def bI.B{s:a2}{S:bt}(g:bI k s S ze)(t:aM k H):bI H s S ze:=
 ⟨g.a,g.b,g.h,g.e,λx hx zg zf=>let⟨a,k,H,ze⟩:=g.f x hx zg zf;⟨a,k,H.d t I I,ze⟩,g.j,g.A,g.m,g.d,g.c,g.i,g.E,g.C,g.r⟩
def k2(a:bt)(b:gf):bt:=match b.deal with|none=>a|some c=>if c.decided=ab then Tv a b else gz a b
def MS{b:bf}(c:b.a=aa):k2 a b.b=a:=by
 unfold k2 bf.b;rw[c]
 rfl
def MT{b:bf}{a:b3}(d:b.a=O a):k2 c b.b=dt ((a.c.drop a.e).foldl (λf e=>hY f b.c a.i e) c) b.d.b:=by unfold k2 bf.b bf.d;rw[d];unfold b3.i Tv gz;show(if a.j=ab then _ else _)=_;split<;>rfl
def NA(a:b3):a.i=2\/a.i=3:=by unfold b3.i;split;exact .inl I;exact .inr I
def jP(b:V bf)(a:gf):gf:=if(b.any λc=>c.c==a.id)=ab then{a with deal:=aa}else a
def MU(f:V bf):∀(e:bt)(h:V b4),dp h e->(∀b∈f,∀g,b.a=O g->∀k∈g.c,fk h k)->(∀b∈f,∀c∈e.senders,c.id=b.c->c.epoch=b.f/\(b.a=aa->c.deal=aa))->
  dp (gw f h) ((f.map bf.b).foldl k2 e)/\((f.map bf.b).foldl k2 e).senders=e.senders.map (jP f)/\((f.map bf.b).foldl k2 e).groups=e.groups/\((f.map bf.b).foldl k2 e).books=e.books:=by
 induction f with
 |nil=>
  intro e h p _ _;refine⟨p,?_,I,I⟩;show e.senders=e.senders.map (jP []);have:jP []=id:=by funext c;rfl
  rw[this,yY]
 |cons b f F=>
  intro e h p A n;rw[b1,kK];have E:∀c:gf,jP (b::f) c=if b.c=c.id then{c with deal:=aa}else jP f c:=λc=>by
   unfold jP;rw[nN];by_cases d:b.c=c.id;simp[d];have y:(b.c==c.id)=ae:=by simp[d]
   rw[y,aw d,sW]
  cases l:b.a with
  |none=>
   rw[MS l];obtain⟨s,t,u,w⟩:=F e h p (λi j=>A i (cJ _ j)) (λi j=>n i (cJ _ j));refine⟨?_,?_,u,w⟩;have:gw (b::f) h=gw f h:=by show gw f (gP h b)=_;unfold gP;rw[l]
   rw[this];exact s;rw[t];apply ga;intro c o;rw[E];by_cases d:b.c=c.id;rw[ay d];have:=(n b cr c o d.symm).2 l;unfold jP;have K:({c with deal:=aa}:gf)=c:=by cases c;simp_all
   rw[K];split<;>rfl;rw[aw d]
  |some g=>
   rw[MT l];have P:=A b cr g l;have C:=p.h (qs:=g.c.drop g.e) (num:=b.c) (λk z=>P k (ur z)) (NA g);obtain⟨G,H,J⟩:=jK (g.c.drop g.e) b.c g.i e;generalize S:(g.c.drop g.e).foldl (λQ k=>hY Q b.c g.i k) e=q at C G H J;have M:dp (gP h b) (dt q b.d.b):=by unfold gP;rw[l];exact C.a I I
   have D:(dt q b.d.b).senders=e.senders.map λc=>if c.id=b.c then b.d.b else c:=by show(q.senders.map λc=>if c.id=b.c then b.d.b else c)=_;rw[H]
   obtain⟨s,t,u,w⟩:=F (dt q b.d.b) (gP h b) M (λi j R N k z=>(A i (cJ _ j) R N k z).a (Bq _ _)) (λi j c o m=>by rw[D]at o;obtain⟨r,B,rfl⟩:=bm.mp o;by_cases d:r.id=b.c;have x:=(n b cr r B d).1;rw[ay d]at m⊢;have m:b.c=i.c:=m;have y:=n i (cJ _ j) r B (d.trans m);exact⟨x.symm.trans y.1,λ_=>I⟩;rw[aw d]at m⊢;exact n i (cJ _ j) r B m)
   refine⟨s,?_,u.trans J,w.trans G⟩;rw[t,D,bz];apply ga;intro c o;show jP f (if c.id=b.c then b.d.b else c)=_;rw[E];by_cases d:c.id=b.c;rw[ay d,ay d.symm];have x:=(n b cr c o d).1;have L:b.d.b={c with deal:=aa}:=by
    cases c;simp only[bf.b,bf.d]at*;subst d x
    rfl
   rw[L];unfold jP;split<;>rfl;rw[aw d,aw (df d)]
def CU{S:bt}{d:V bf}(j:dp f S)(h:S.senders=d.map bf.b)(t:(d.map (·.c)).Nodup)(s:∀b∈d,∀e,b.a=O e->∀i∈e.c,fk f i):
  dp (gw d (gS f)) (jU S)/\(jU S).senders=(d.map bf.d).map bf.b/\(jU S).groups=S.groups.map (λg=>{g with reading:=g.places})/\(jU S).books=S.books:=by
 let e:bt:={S with parts:=S.parts.map (λl=>l.map Dx),groups:=S.groups.map λg=>{g with reading:=g.places}}
 have p:jU S=(d.map bf.b).foldl k2 e:=by
  rw[<-h]
  rfl
 have q:dp (gS f) e:=j.q I I;obtain⟨k,m,n,o⟩:=MU d e (gS f) q (λb g u r i j=>(s b g u r i j).a (r8 _)) (λb g q e f=>by have e:q∈S.senders:=e;rw[h]at e;obtain⟨i,q,rfl⟩:=bm.mp e;have f:i.c=b.c:=f;obtain⟨e,j⟩:=hG.mp g;obtain⟨r,e⟩:=hG.mp q;have:=so t j e f.symm;subst this;rw[j]at e;obtain rfl:=bA e;exact⟨I,λe=>by show b.a.map _=aa;rw[e];rfl⟩)
 rw[p];refine⟨k,?_,n,o⟩;rw[m];show S.senders.map _=_;rw[h,bz,bz];apply ga;intro b g;show jP d b.b=b.d.b;unfold jP;have:(d.any λi=>i.c==b.b.id)=ab:=ib.mpr ⟨b,g,by show(b.c==b.c)=ab;simp⟩;rw[ay this]
 rfl
def BL(a:V bf):(a.map bf.d).map (·.c)=a.map (·.c):=by
 rw[bz]
 rfl
def BM{b:V bf}:∀a∈b.map bf.d,a.a=aa:=λa b=>by
 obtain⟨a,_,rfl⟩:=bm.mp b
 rfl
def BK(a:V bf):((a.map bf.d).map b_).sum=0:=by
 induction a with
 |nil=>rfl
 |cons c b a=>
  simp only[b1,ik,a]
  rfl
def NW{f:bt}{gl:V a_}(g:f.groups=gl.map a_.c)(j:(gl.map (·.b)).Nodup)(d:fA):
  (match nv f d.a with
   |none=>f
   |some c=>hv f {c with places:=c.places.modify d.b λe=>eN e d.c})={f with groups:=(i' gl d).map a_.c}:=by
 rw[sg g];unfold i';cases h:dE gl d.a with
 |none=>
  have:je gl d.a (λc=>{c with a:=c.a.modify d.b λe=>eN e d.c})=gl:=by
   unfold je;conv=>rhs;rw[<-yY gl]
   apply ga;intro c i;have:=j9.mp h c i;have:¬c.b=d.a:=λe=>this (by rw[e];simp);rw[aw this]
   rfl
  rw[this,<-g]
  rfl
 |some c=>
  obtain⟨k,l,i⟩:=vz h;rw[<-Do j i k];show hv f (a_.c {c with a:=c.a.modify d.b λe=>eN e d.c})=_;rw[<-wx (x':={c with a:=c.a.modify d.b λe=>eN e d.c}) g j i I]
  rfl
def Du{gl:V a_}(e:V fA):∀(S:bt),S.groups=gl.map a_.c->(gl.map (·.b)).Nodup->∀d:gy,d.places=e.map (λc=>(c.a,c.e,c.b,c.c))->TA S d={S with groups:=(eE gl e).map a_.c}:=by
 intro S f h d g;unfold TA;rw[g];clear g d;induction e generalizing S gl with|nil=>show S={S with groups:=gl.map a_.c};rw[<-f]|cons c i g=>rw[b1,kK];have e:=NW f h c;exact(cb (λd=>Jo _ d (nP (λc:fA=>(c.a,c.e,c.b,c.c)) i)) e).trans (g (gl:=i' gl c) {S with groups:=(i' gl c).map a_.c} I (by unfold i';rw[Dn gl c.a (λd=>{d with a:=d.a.modify c.b λe=>eN e c.c}) (λ_=>I)];exact h))
def Ce(d:V a_)(f:V fA):(eE d f).map gR=d.map gR:=by
 induction f generalizing d with
 |nil=>rfl
 |cons c h g=>
  refine(g _).trans ?_;unfold i' je;rw[bz];apply ga;intro b _;show gR (if b.b=c.a then({b with a:=b.a.modify c.b λe=>eN e c.c}:a_)else b)=gR b;split;show(b.b,(b.a.modify c.b λe=>eN e c.c).length)=_;rw[j_]
  rfl
  rfl
def Cd{gl:V a_}(c)(f:∀b∈gl,i3 e b.i):∀b∈eE gl c,i3 e b.i:=by
 induction c generalizing gl with|nil=>exact f|cons d g c=>refine c (gl:=i' gl d) λb g=>?_;unfold i' je at g;obtain⟨c,h,rfl⟩:=bm.mp g;have b:=f c h;show i3 e (if c.b=d.a then({c with a:=c.a.modify d.b λe=>eN e d.c}:a_)else c).i;split;refine⟨b.b,?_,b.f,b.c,b.e⟩;show(c.a.modify d.b λe=>eN e d.c).length=_;rw[j_];exact b.a;exact b
def ci(x:bt×gn):V Int:=x.2.value::(x.2.more++x.2.rows.flatMap λr=>(r.length:Int)::r)
def gd(r:eh)(ws:V Int):Prop:=∃a,r.e.drop r.c=ws++a
abbrev eh.a(r:eh)(j:Nat):eh:={r with c:=r.c+j}
def gd.a{r:eh}{w:Int}{ws:V Int}(e:gd r (w::ws)):r.e[r.c]?=O w:=by obtain⟨f,e⟩:=e;have:=cb (λl:V Int=>l[0]?) e;simpa[Js]using this
def gd.b{r:eh}{w:Int}{ws:V Int}(e:gd r (w::ws)):gd {r with c:=r.c+1} ws:=by
 obtain⟨f,e⟩:=e;refine⟨f,?_⟩;show r.e.drop (r.c+1)=_;rw[<-uj,e]
 rfl
def gd.d{r:eh}{e ws:V Int}(f:gd r ((e.length:Int)::(e++ws))):r.c+1+e.length<=r.e.length/\(r.e.drop (r.c+1)).take e.length=e/\gd {r with c:=r.c+1+e.length} ws:=by obtain⟨g,f⟩:=f.b;have f:r.e.drop (r.c+1)=e++ws++g:=f;refine⟨?_,?_,g,?_⟩;have:=cb fu f;rw[kL]at this;simp only[bH]at this;by_cases g:e.length=0;have g:=(bu.mp (gd.a (r:=r) (w:=(e.length:Int)) (ws:=e++ws) (by assumption))).1;omega;omega;rw[f,b8,List.take_left];show r.e.drop (r.c+1+e.length)=_;rw[<-uj,f,b8,Ji]
section
def gm{r:eh}{R:V aE}(d:am a (r.b::R)):a r.d=O (.c hN r.g (kn r)):=(d.i (L:=r.f)).b 0 I
def ct{r:eh}{f:L2.aQ}{i:Nat}(j:am e (r.b::h))(n:gd r (l::m))(k:∀d,aM e d->am d (eh.b {r with c:=r.c+1}::h)->gd {r with c:=r.c+1} m->o g (f.set i (O (.a l))) d)(h:f[1]?=O (O (.b r.d)):=by rfl):
  ft (pj (mC hN "take_number" Db [] p (j8 1) j7) (mo i)) o g f e:=
 uh h ⟨gm j,I,r,_,_,I,j,n.a,λd f e=>k d f e n.b⟩
inductive eP(c:kt)(ws:V Int)(vs:V ah)(H:af)(Q:bj)(E:cf):Prop
 |a (s:a2) (S:bt) (k:Nat) (r:eh) (R:V aE):vs=[.b s.e,.b r.d]->am H (r.b::s.d::R)->bI H s S k->k+1<=900->gd r ws->r.e.length<=16000->(ci (bi S c)).length<=10000000->(∀l s' H',s'.e=s.e->bI H' s' (bi S c).1 (k+1)->am H' ([(l,.a (bg (ci (bi S c))))]::eh.b (r.a ws.length)::s'.d::R)->Q (.b l) H')->(∀n H',bi S c=dS S n->aM H H'->am H' (eh.b (r.a ws.length)::s.d::R)->dO ak cE E H' n)->eP c ws vs H Q E
end
section
variable{H:af}{s:a2}{S:bt}{k:Nat}
def bI.l(t:bI H s S k)(g:Int):DB S g=(s.n g).isSome:=by unfold DB a2.n;rw[t.b.c,an];by_cases t:0<=g;rw[ay t,dm t,gg];by_cases x:g.toNat<s.b.length;rw[dm x,eM x];rfl;rw[da x,px (by omega)];rfl;rw[aw t,da t];rfl
def bI.q{g:Nat}{b:bq}(ze:bI H s S k)(zf:s.b[g]?=O b):∃t x,S.books[g]?=O t/\S.parts[g]?=O x/\i2 b.b t x:=ze.b.j (by rw[bw,zf];rfl)
def bI.w(x:bI H s S k)(t g:Int):DD S t g=(s.p t g).isSome:=by
 unfold DD;rw[x.l,sz];cases ze:s.n t with|none=>rfl|some k=>obtain⟨zf,t⟩:=jE ze;obtain⟨zg,zh,ze,zf,r⟩:=x.q t;rw[p9 ze,r.c];show(ab&&(aq (0<=g)&&aq (g.toNat<(k.a.map aN.a).length)))=(k.m g).isSome;rw[an,gg];unfold bq.m;by_cases t:0<=g;rw[ay t,dm t,gg];by_cases x:g.toNat<k.a.length;rw[dm x,eM x];rfl;rw[da x,px (by omega)];rfl;rw[aw t,da t];rfl
def bI.o{i j:Nat}{b:bq}{g:aN}(t:bI H s S k)(x:s.b[i]?=O b)(ze:b.a[j]?=O g):cv g.a (bP S i j)/\(fn S i).segment=g.m/\(fn S i).keep=g.s/\(fn S i).parts=b.a.length:=by have:=t.b.l (i:=i) (j:=j) (b:=b.b) (m:=g.a) (by rw[bw,x];rfl) (by show(b.a.map aN.a)[j]?=_;rw[bw,ze];rfl);obtain⟨g,t,x,ze⟩:=this;exact⟨g,t,x,by rw[ze];show(b.a.map aN.a).length=_;rw[an]⟩
def bI.G{zg j:Nat}{t:bq}{x:aN}(g:bI H s S k)(ze:s.b[zg]?=O t)(zf:t.a[j]?=O x):x.a.e 999999:=(g.c.c ze zf).c (by have:=g.r;omega)
def bI.y{zg j:Nat}{g:bq}{t:aN}(x:bI H s S k)(ze:s.b[zg]?=O g)(zf:g.a[j]?=O t):t.p:=Fit.b (x.G ze zf) (by omega)
def bI.u{ze:Nat}{g:bq}(t:bI H s S k)(x:s.b[ze]?=O g):0<g.a.length/\g.a.length<=4:=by
 obtain⟨zg,zh,ze,zf,r⟩:=t.q x;have t:=r.n;have t:=r.f;have t:g.b.a.length=g.a.length:=by show(g.a.map aN.a).length=_;rw[an]
 omega
end
def dp.m{t:V b4}{k b:bt}(s:dp t k)(B:t[i]?=O A)(C:k.books[i]?=O w)(D:i2 u w z)(x:b.books=k.books)(y:b.parts=k.parts.set i z):dp (t.set i u) b:=by
 refine⟨by rw[x,j'];exact s.c,by rw[y,j',j'];exact s.d,by rw[j'];exact s.e,λw z A E t u b=>?_⟩;rw[x]at u;rw[y]at b;rw[py]at t b;by_cases x:i=w;subst x;have y:=(bu.mp B).1;have B:i<k.parts.length:=by rw[s.d];exact y
 simp only[if_true,y,B,kO]at t b;subst t b;rw[C]at u;obtain rfl:=bA u;exact D;rw[aw x]at t b;exact s.f w z A E t u b
def i2.q{i:b4}{x:iD}{u:V d3}{f:bo->bo}{w:d3->d3}(b:i2 i x u)(y:∀k s,cv k s->cv (f k) (w s)/\(f k).a=k.a/\(f k).f=k.f):i2 {i with a:=i.a.map f} x (u.map w):=by
 refine⟨b.j,b.g,b.h,b.e,b.l,?_,?_,?_,?_,λt z A m p=>?_⟩;show x.parts=(i.a.map f).length;rw[an];exact b.c;show 0<(i.a.map f).length;rw[an];exact b.n;show(i.a.map f).length<=4;rw[an];exact b.f;show(u.map w).length=(i.a.map f).length;rw[an,an];exact b.a;have m:(i.a.map f)[t]?=O z:=m;rw[bw]at m p;cases w:i.a[t]? with
 |none=>rw[w]at m;cases m
 |some k=>
  rw[w]at m;cases i:u[t]? with
  |none=>rw[i]at p;cases p
  |some s=>rw[i]at p;obtain rfl:=bA m;obtain rfl:=bA p;obtain⟨m,p,u⟩:=b.d t k s w i;obtain⟨b,i,t⟩:=y k s m;exact⟨b,i.trans p,t.trans u⟩
def i2.o{k:bq}{ps:V d3}(w:i2 k.b i ps):hj k=(f4 (ps.map λb=>b.next -b.disk):Int):=by
 unfold hj f4;have p:ps.length=k.a.length:=by have:=w.a;show ps.length=_;rw[this];show(k.a.map aN.a).length=_;rw[an]
 have u:∀(m:Nat) i b,k.a[m]?=O i->ps[m]?=O b->cv i.a b:=λm i b s t=>(w.d m i.a b (by show(k.a.map aN.a)[m]?=_;rw[bw,s];rfl) t).1;clear w;generalize k.a=x at p u;induction x generalizing ps with
 |nil=>
  cases ps with|nil=>rfl|cons _ _=>cases p
 |cons i x w=>
  cases ps with
  |nil=>cases p
  |cons b ps=>have k:=u 0 i b I I;have w:=w (ps:=ps) (by simpa using p) (λm i b s t=>u (m+1) i b s t);have m:b.next=i.f:=k.c;have p:b.disk=i.h:=k.d;have b:i.h<=i.f:=k.a.c;simp only[b1,ik,yT];rw[w,m,p];omega
section
abbrev RA:aB:=eP .clear []
def Oz[b:aJ]:b' 3 89 RA:=by
 refine cF 0 [] λf h b d e=>?_;obtain⟨b,k,q,s,j,rfl,d,h,n,m,l,p,o,r⟩:=e;refine⟨_,aj (a9 (a' Cx (W 0))) (c1 (bC (c3 a5))),?_⟩;have k:=a2.f (d.d 1 I);have e:=(d.a 1 I).i (L:=b.o);refine⟨k.a,I,b.e,b.l,f2 b,_,I,.inr ⟨_,_,_,I⟩,e,λl p m h q j=>?_⟩;refine⟨c9,λe d=>?_⟩;have k:=j.f d (.a [.a 0]);have j:aM f (al h e (.a [.a 0])):=q.a (aW.a d).c;refine o e ⟨b.e,b.l,l,p,m,[],[],[],aa⟩ _ I ?_ ?_
 ·refine⟨I,⟨I,I,by show 0<=4;omega,λe d f h b=>?_⟩,I,I,?_,nT,?_,nT,?_,?_,co _,co _,co _,n⟩
  ·simp at b
  all_goals(intro d b;cases b)
 ·have b:=(((((((k.g 2 I).g 2 I).g 2 I).g 2 I).g 2 I).g 2 I));exact(b.a 2 I).a 1 I
def RH:aB:=λe c d b=>∃a,eP (.flush a) [a] e c d b
def OG[e:aJ]:cL 5 95 RH:=by
 refine cT 2 [] λs h e g r=>?_;obtain⟨g,j,k,q,n,u,rfl,h,e,A,m,o,p,t,x⟩:=r;refine⟨_,aj (aA 2 (bT lZ (W 0) (c3 (a' bO (W 1))))) (aj (aA 3 (a' Ch (W 2))) (aj (a9 (a' N_ (W 2))) (c1 (bC (c2 3))))),?_⟩;have o:=a2.f (h.d 1 I);refine⟨o.a,I,gm h,I,n,_,_,I,h,m.a,λo q p=>?_⟩;have h:=m.b;have y:aM s o:=q;have m:am o (eh.b (n.a 1)::j.d::u):=p;have q:=a2.f (m.d 1 I);refine⟨j,g,I,q,λh w=>?_,λo=>x (-2) _ (by show(if _ then _ else _)=_;rw[e.l,o];rfl) y m⟩;obtain⟨p,o⟩:=jE w;obtain⟨p,x⟩:=e.u o;have p:=q.d h (a1 o);refine⟨p.a,I,h,I,p,by omega,λx q=>?_⟩;have z:am x (eh.b (n.a 1)::j.d::u):=m.o λn x u=>q n x u;obtain⟨m,n,C⟩:=a2.t o;have m:=(z.a 1 I).l n;refine⟨(p.e q).a,I,h,_,I,m,λn u z B D x=>?_⟩;have p:=x.m (C n z);refine⟨c9,λx m=>?_⟩;have z:=p.f m (.a [.a (hj h)]);have C:aM s (al u x (.a [.a (hj h)])):=((y.a q.c).a D).a (aW.a m).c;obtain⟨m,p,y,s,u⟩:=e.q o;have q:bi k (.flush g)=({k with parts:=k.parts.set g.toNat (p.map jT)},{value:=(f4 (p.map λm=>m.next -m.disk):Int)}):=by
  show(if _ then _ else _)=_;rw[e.l,w,s]
  rfl
 rw[q]at t;have q:ci (({k with parts:=k.parts.set g.toNat (p.map jT)},{value:=(f4 (p.map λm=>m.next -m.disk):Int)}):bt×gn)=[hj h]:=by
  rw[u.o]
  rfl
 rw[q]at t;have q:(j.b.set g.toNat n).map bq.b=(j.b.map bq.b).set g.toNat {h.b with a:=h.b.a.map bo.l}:=by rw[nR,B]
 have s:(j.b.map bq.b)[g.toNat]?=O h.b:=by rw[bw,o];rfl
 have w:dp ((j.b.set g.toNat n).map bq.b) {k with parts:=k.parts.set g.toNat (p.map jT)}:=by rw[q];exact e.b.m s y (u.q (f:=bo.l) λk m r=>⟨r.t,I,I⟩) I I
 have p:b2 ((j.b.set g.toNat n).map bq.b)=b2 (j.b.map bq.b):=by rw[q];unfold b2;exact i_ s (by show(h.b.a.map bo.l).length=h.b.a.length;rw[an])
 refine t x {j with b:=j.b.set g.toNat n} _ I (e.n A C e.a w p ?_ e.h I (λo k r u=>.inl ⟨o,k,u⟩) (eZ e.i) e.e I (λr t=>(e.d r t).d p)) (z.a 2 I|>.a 1 I);intro o k m p;have k:o∈(j.b.set g.toNat n).map bq.b:=k;rw[q]at k;rcases iT k with k|rfl;exact(jI e.c) o k m p;obtain⟨j,g,rfl⟩:=bm.mp p;exact((jI e.c) h.b (a1 s) j g).i
end
def qd{e:a2}{b c:Int}(f:e.p b c=O d):∃a,0<=b/\0<=c/\e.b[b.toNat]?=O a/\a.a[c.toNat]?=O d:=by obtain⟨a,_,b,c,d,e⟩:=PI f;exact⟨a,b,d,c,e⟩
def p6.f{g:aG}(h:p6 g):ox g.value:=λi g=>by have:=h.b i g;omega
def cv.q{s:aN}(m:cv s.a M){p:ba}(x:p∈s.g):ox p.a.value:=(m.a.d p.a (by rw[<-m.e];exact m.j x)).f
def PS{a:aG}(c:ox a.value):(hu a).length<=1007:=by
 rw[C0,bH];cases b:a.value with|none=>simp[l']|some a=>have:=c a b;simp[l'];omega
section
inductive SS(vs:V ah)(H:af)(Q:bj)(E:cf):Prop
 |a (r:eh) (b p:Int) (ws:V Int) (R:V aE):vs=[.b r.d]->am H (r.b::R)->gd r (b::p::ws)->(∀l H',aM H H'->H' l=O (.d [.a b,.a p])->am H' (eh.b (r.a 2)::R)->Q (.b l) H')->SS vs H Q E
def sy[b:aJ]:b' 3 141 SS:=by refine cF 2 [] λb g e f d=>?_;obtain⟨r,h,i,j,g,rfl,b,e,f⟩:=d;refine⟨_,aj (aA 1 (a' bO (W 0))) (aj (aA 2 (a' bO (W 0))) (c1 (js (c7 1 2)))),gm b,I,_,_,_,I,b,e.a,λh g d=>?_⟩;have b:=e.b;refine⟨gm (r:=r.a 1) d,I,r.a 1,_,_,I,d,b.a,λi h e=>?_⟩;refine⟨n1,λd b=>?_⟩;exact f d _ ((g.a h).a (aW.a b).c) az (e.o (aW.a b))
inductive Sf(vs:V ah)(H:af)(Q:bj)(E:cf):Prop
 |a (a:Y) (ls:V ba):vs=[.b a]->H a=O (.a (ls.map ba.b))->(∀l∈ls,cD H (l.f)/\ox l.a.value)->(∀r,(ls.map (·.a)).head?=O r->gj H Q (bg ((r.place:Int)::((hu r).length:Int)::hu r)))->(ls=[]->∀H',aW H H'->dO ak cE E H' (-6))->Sf vs H Q E
def CB[g:aJ]:cL 4 142 Sf:=by
 refine cT 0 [] λf i d h c=>?_;obtain⟨k,m,rfl,h,i,q,l⟩:=c;refine⟨_,aj (bD (c4 (wa ak d.a) (W 0) (bC ai)) (au (f0 g.zg)) bQ) (c1 (aP l0 (c6 (bC (c3 (n4 (c8 (W 0) a5)))) (bC (c3 (aP v' (c3 (c8 (W 0) a5)))))))),co _,λk c=>?_⟩;have d:aW f (al f k (.a [])):=aW.a c;refine⟨_,_,_,I,I,dU.b (d _ _ h),dU.b az,?_⟩;cases m with|nil=>exact(l I _ d)|cons c r=>obtain⟨l,m⟩:=i c cr;obtain⟨s,_⟩:=ba.d (l.c d);refine⟨_,_,_,_,I,I,dU.b (d _ _ h),dJ (j:=0) I,s,g.c.a,I,c9,λn p=>?_⟩;have g:aW f (al (al f k (.a [])) n (.a [.a c.a.place])):=d.b (aW.a p);refine⟨_,_,_,_,I,I,dU.b (g _ _ h),dJ (j:=0) I,c,I,l.c g,m,λh d f p k=>?_⟩;refine⟨c9,λs l=>?_⟩;have d:=aW.a (o:=.a [.b h]) l;refine⟨n,s,[(c.a.place:Int)],[(h,hu c.a)],I,d _ _ (f _ _ az),az,λl p=>?_,?_,λn h s i l=>?_⟩;rw[dZ.mp p];exact d _ _ k;have:=PS m;simp only[fm,ez,um,dM,cz,f'];rw[bn];omega;have:=q c.a I n h (g.b (f.b (d.b s))) ((g.b (f.b d)).e i);refine this ?_;rw[l];simp[fm]
def RF:aB:=λg e f d=>∃a c b,eP (.find a c b) [a,c,b] g e f d
def OE[A:aJ]:cL 6 143 RF:=by
 refine cT 4 ["record"] λk d b e h=>?_;obtain⟨j,m,b,t,f,q,r,l,rfl,n,i,C,d,o,p,x,s⟩:=h;refine⟨_,aj (aA 2 (aP sy (c2 1))) (aj (aA 3 (a' bO (W 1))) (aj (aA 4 (bT ja (W 0) (c2 2))) (aj (a9 (aP v3 (c2 3))) (c1 (aP CB (c3 (aS.a (dX I e (bZ (a' k7 (W 4))) (own:=[("record",5)]) (dn I) (λ_ _ _ _ _=>bE 5) (λ_ _ _ _ _=>fU (c4 q5 (c0 5) (W 3))) (λ_ _ _ _ _=>(W 5)))))))))),r,j,m,[b],_,I,n,d,λw o u q e=>?_⟩;have p:gd (r.a 2) [b]:=d.b.b;refine⟨gm (r:=r.a 2) e,I,r.a 2,_,_,I,e,p.a,λd o n=>?_⟩;have p:aM k d:=u.a o;have k:am d (eh.b (r.a 3)::t.d::l):=n;have l:=a2.f (k.d 1 I);refine⟨l.a,I,t,w,j,m,I,l,o _ _ q,λn u=>?_,λd=>s (-2) _ (by show(if _ then _ else _)=_;rw[i.w,d];rfl) p k⟩;obtain⟨q,o,w,d,e⟩:=qd u;have o:=(l.d q (a1 d)).c n (a1 e);have w:=i.y d e;have q:=(i.o d e).1;have e:bi f (.find j m b)=if b<0 then dS f (-1)else match Dz (bP f j.toNat m.toNat) b.toNat with
   |none=>dS f (-6)
   |some r=>(f,{value:=(r.place:Int),rows:=[hu r]}):=by
  show(if _ then _ else _)=_;rw[i.w,u]
  rfl
 refine⟨b,I,λd=>?_,λd=>s (-1) _ (by rw[e,ay d]) p k⟩;rw[aw (by omega)]at e;refine⟨o.b,I,n,I,o,w,λd z y l u=>?_⟩;refine⟨_,I,⟨_,dU.b u⟩,λz B=>?_⟩;refine eR n.g ba.b ba.b (λd:ba=>aq (b<=(d.a.place:Int))) B u (gX w) ?_ (λF E D=>?_);intro G B H F J K u w;obtain⟨H,_⟩:=ba.d (((o.a y).a F).c G B);exact⟨I,H,A.c.a,I,_,_,I,I,bG (λh=>w h _ aW.d) (λh=>u h _ aW.d)⟩;have h:=y.b E;have u:(n.g.filter λd:ba=>aq (b<=(d.a.place:Int))).map (·.a)=(bU (bP f j.toNat m.toNat)).filter λr=>aq (b.toNat<=r.place):=by
  rw[na (g:=λr=>aq (b.toNat<=r.place)),q.b];intro d _;have:b<=(d.a.place:Int)↔b.toNat<=d.a.place:=by omega
  exact decide_eq_decide.mpr this
 rw[q.D,<-u]at e;refine⟨z,_,I,D,λd l=>?_,λm n d f b j u=>?_,λm f b=>?_⟩;have l:=(cY.mp l).1;exact⟨(o.a h).c d l,q.q l⟩;rw[n]at e;rw[e]at x;exact x d t f I (i.p C (p.a (h.b b).c)) (k.q (h.b b) (h.e j) (by rw[u];simp[ci]));rw[m]at e;exact s (-6) _ e (p.a (h.b b).c) (k.o (h.b b))
def RG:aB:=λg e f d=>∃a c b,eP (.findTime a c b) [a,c,b] g e f d
def OF[A:aJ]:cL 6 144 RG:=by
 refine cT 4 ["record"] λk d b e h=>?_;obtain⟨j,m,b,s,f,t,r,l,rfl,n,i,C,d,o,p,x,q⟩:=h;refine⟨_,aj (aA 2 (aP sy (c2 1))) (aj (aA 3 (a' bO (W 1))) (aj (aA 4 (bT ja (W 0) (c2 2))) (aj (a9 (aP v3 (c2 3))) (c1 (aP CB (c3 (aS.a (dX I e (bZ (a' k7 (W 4))) (own:=[("record",5)]) (dn I) (λ_ _ _ _ _=>bE 5) (λ_ _ _ _ _=>fU (c4 q5 (c0 5) (W 3))) (λ_ _ _ _ _=>(W 5)))))))))),r,j,m,[b],_,I,n,d,λw o t u e=>?_⟩;have p:gd (r.a 2) [b]:=d.b.b;refine⟨gm (r:=r.a 2) e,I,r.a 2,_,_,I,e,p.a,λd o n=>?_⟩;have p:aM k d:=t.a o;have k:am d (eh.b (r.a 3)::s.d::l):=n;have l:=a2.f (k.d 1 I);refine⟨l.a,I,s,w,j,m,I,l,o _ _ u,λn t=>?_,λd=>q (-2) _ (by show(if _ then _ else _)=_;rw[i.w,d];rfl) p k⟩;obtain⟨u,o,w,d,e⟩:=qd t;have o:=(l.d u (a1 d)).c n (a1 e);have w:=i.y d e;have u:=(i.o d e).1;have e:bi f (.findTime j m b)=if b<0 then dS f (-1)else match DA (bP f j.toNat m.toNat) b.toNat with
   |none=>dS f (-6)
   |some r=>(f,{value:=(r.place:Int),rows:=[hu r]}):=by
  show(if _ then _ else _)=_;rw[i.w,t]
  rfl
 refine⟨b,I,λd=>?_,λd=>q (-1) _ (by rw[e,ay d]) p k⟩;rw[aw (by omega)]at e;refine⟨o.b,I,n,I,o,w,λd z y l t=>?_⟩;refine⟨_,I,⟨_,dU.b t⟩,λz B=>?_⟩;refine eR n.g ba.b ba.b (λd:ba=>aq (b<=(d.a.time:Int))) B t (gX w) ?_ (λF E D=>?_);intro G B H F J K t w;obtain⟨H,_⟩:=ba.d (((o.a y).a F).c G B);exact⟨I,H,A.c.g,I,_,_,I,I,bG (λh=>w h _ aW.d) (λh=>t h _ aW.d)⟩;have h:=y.b E;have t:(n.g.filter λd:ba=>aq (b<=(d.a.time:Int))).map (·.a)=(bU (bP f j.toNat m.toNat)).filter λr=>aq (b.toNat<=r.time):=by
  rw[na (g:=λr=>aq (b.toNat<=r.time)),u.b];intro d _;have:b<=(d.a.time:Int)↔b.toNat<=d.a.time:=by omega
  exact decide_eq_decide.mpr this
 rw[M3,<-t]at e;refine⟨z,_,I,D,λd l=>?_,λm n d f b j t=>?_,λm f b=>?_⟩;have l:=(cY.mp l).1;exact⟨(o.a h).c d l,u.q l⟩;rw[n]at e;rw[e]at x;exact x d s f I (i.p C (p.a (h.b b).c)) (k.q (h.b b) (h.e j) (by rw[t];simp[ci]));rw[m]at e;exact q (-6) _ e (p.a (h.b b).c) (k.o (h.b b))
end
def sJ{b:V (Y×V Int)}{a:V (V Int)}(c:b.map (·.2)=a):fm b=a.flatMap λr=>(r.length:Int)::r:=by
 rw[<-c,jx]
 rfl
def sn{d:Type}{s:Y}{C:eH}{G:dV}{F:aY}{o:V Nat}{u:L2.aQ}{l:af}{k:Y}{B:af->Prop}(n:V d)(A:d->ah)(q:d->V Int)(D:l k=aa)(J:l s=O (.a (n.map A)))(e:n.length<aH)
  (K:∀r∈n,∀d,aW l d->∀(h:af->Prop)(e:bj),(∀m i,aW d i->d m=aa->i m=O (.a (bg (q r)))->e (.b m) i)->C (A r) (b0 u o) d λg w=>b0 g o=b0 u o/\G g w λz p=>if z=ab then F g p e else h p)
  (H:∀d(h:V (Y×V Int)),aW l d->d k=O (.a (h.map λe=>ah.b e.1))->(∀e∈h,d e.1=O (.a (bg e.2)))->h.map (·.2)=n.map q->B d):
  ∃y:Nat->Nat->af->Prop,(∃t,y 0 t (al l k (.a [])))/\∀j t d,y j t d->
   ((gt ak s).b j d/\B d)\/((gt ak s).a j d/\∃x:af->Prop,(∀i,x i->∃E,E<t/\y (j+1) E i)/\∀e i,(gt ak s).c j d e i->C e (b0 u o) i λg w=>b0 g o=b0 u o/\G g w λz p=>if z=ab then F g p λs o=>∃g,o k=O (.a g)/\g.length<aH/\x (al o k (.a (g++[s])))else x p):=by
 refine o_ (xs:=n.map A) (λj d=>aW l d/\∃h:V (Y×V Int),d k=O (.a (h.map λe=>ah.b e.1))/\(∀e∈h,d e.1=O (.a (bg e.2))/\e.1≠k)/\h.map (·.2)=(n.take j).map q) ⟨aW.a D,[],by simp[az],(by intro e g;cases g),I⟩ (λj d _ s=>dU.b (s.1 _ _ J)) ?_ (λd s=>?_);rintro j e d g ⟨p,h,o,l,n⟩;obtain⟨r,j,rfl⟩:=d2 g;have w:=a1 j;refine K r w d p _ _ (λm i t u x=>⟨_,t _ _ o,?_,(p.b t).f D,h++[(m,q r)],?_,?_,?_⟩);have:=cb fu n;rw[an,an,e7]at this;rw[an];have:=(bu.mp j).1;omega;rw[az,a6]
 rfl
 have i:m≠k:=λk=>by rw[k,o]at u;cases u
 intro e g;rcases cU.mp g with g|g;exact⟨(aL (l e g).2).trans (t _ _ (l e g).1),(l e g).2⟩;rw[dZ.mp g];exact⟨(aL i).trans x,i⟩;rw[a6,n,l9 q j]
 rfl
 obtain⟨p,h,o,l,n⟩:=s;rw[an,dN]at n;exact H d h p o (λe g=>(l e g).1) n
def Bv(d)(c a)(b):((eu d c a b).1).length<=a:=by unfold eu;rw[e7];omega
section
def RQ:aB:=λh f g e=>∃a d o c b,eP (.read a d o c b) [a,d,o,c,b] h f g e
def OS[M:aJ]:cL 7 145 RQ:=by
 refine cT 7 ["record"] λzi z1 zZ zH zr=>?_;obtain⟨i,j,o,k,d,A,h,z0,r,zl,rfl,zm,p,zu,zc,zW,za,F,x⟩:=zr;refine⟨_,aj (aA 2 (aP sy (c2 1))) (aj (aA 3 (a' bO (W 1))) (aj (aA 4 (a' bO (W 1))) (aj (aA 5 (a' bO (W 1))) (aj (aA 6 (bT ja (W 0) (c2 2))) (aj (a9 (aP v3 (c2 3))) (aj (a9 (aP v4 (c2 4))) (aj (a9 (aP Cy (c2 5))) (aj (aA 7 (aP v_ (n8 6 3 4 5))) (c1 (aP l0 (c6 (bC (c3 (c0 7))) (aS.a (dX I zH (bZ (c0 7)) (own:=[("record",8)]) (dn I) (λ_ _ _ _ _=>bE 8) (λ_ _ _ _ _=>f_) (λ_ _ _ _ _=>(aP v' (c2 8)))))))))))))))),r,i,j,[o,k,d],_,I,zm,zc,λzd zN zI zy N=>?_⟩;have J:gd (r.a 2) [o,k,d]:=zc.b.b;refine⟨gm (r:=r.a 2) N,I,r.a 2,_,_,I,N,J.a,λzO ze P=>?_⟩;refine⟨gm (r:=r.a 3) P,I,r.a 3,_,_,I,P,J.b.a,λzP zf Q=>?_⟩;refine⟨gm (r:=r.a 4) Q,I,r.a 4,_,_,I,Q,J.b.b.a,λB zg zn=>?_⟩;have s:aM zi B:=((zI.a ze).a zf).a zg;change ft _ _ _ [O (.b A.e),O (.b r.d),O (.b zd),O (.a o),O (.a k),O (.a d),aa,aa,aa] B;have m:am B (eh.b (r.a 5)::A.d::zl):=zn;have E:=a2.f (m.d 1 I);refine⟨E.a,I,A,zd,i,j,I,E,((ze.a zf).a zg) _ _ zy,λt S=>?_,λq=>x (-2) _ (by show(if _ then _ else _)=_;rw[p.w,q];rfl) s m⟩;obtain⟨zo,zV,zY,C,D⟩:=qd S;have T:=(E.d zo (a1 C)).c t (a1 D);have zx:=p.y C D;have u:=(p.o C D).1;have l:bi h (.read i j o k d)=if(aq (0<=o)&&(cW k 1 20&&cW d 0 1))=ae then dS h (-1)else(h,{value:=((eu (bP h i.toNat j.toNat) o.toNat k.toNat (d==1)).2:Int),rows:=(eu (bP h i.toNat j.toNat) o.toNat k.toNat (d==1)).1.map hu}):=by
  show(if _ then _ else _)=_;rw[p.w,S]
  rfl
 refine⟨o,I,λX=>?_,λX=>x (-1) _ (by rw[l,ay (by simp[cW];omega)]) s m⟩;refine⟨k,I,λq=>?_,λq=>x (-1) _ (by rw[l,ay (by simp[cW];omega)]) s m⟩;refine⟨d,I,λw=>?_,λw=>x (-1) _ (by rw[l,ay (by simp[cW];omega)]) s m⟩;obtain⟨g,rfl⟩:=fQ X;obtain⟨f,rfl⟩:=fQ (show(0:Int)<=k by omega);rw[aw (by simp[cW];omega)]at l;simp only[eX]at l;have R:1<=f:=by omega
 refine⟨t,g,f,d,I,R,T,zx,λK zU y zQ zB _ _ n U=>?_⟩;rw[u.u g f d w R]at n;refine⟨n,M.u.a,I,c9,λzG zv=>?_⟩;have z:=aW.a (o:=.a [.a ((eu (bP h i.toNat j.toNat) g f (d==1)).2:Int)]) zv;have G:=zB.b z;refine⟨z _ _ n,M.u.b,I,_,I,⟨_,dU.b (z _ _ U)⟩,λzh zs=>?_⟩;have zX:(ej t g f d).length<=20:=by have:=cb fu (u.n g f d w);rw[an]at this;have:=Bv (bP h i.toNat j.toNat) g f (d==1);omega
 refine sn (ej t g f d) ba.b (λy=>hu y.a) zs (z _ _ U) (by rw[bn];omega) ?_ (λzR L H zJ zK zL=>?_);intro K n zM zD zS zT zt;refine⟨I,K,I,((T.a G).a zD).c K (p' n),u.q (p' n),λy zj zE q zz=>zt y zj zE q zz⟩;have zq:L.map (·.2)=(eu (bP h i.toNat j.toNat) g f (d==1)).1.map hu:=by rw[zL,<-u.n g f d w,bz];rfl
 have zp:ci (bi h (.read i j g f d))=[((eu (bP h i.toNat j.toNat) g f (d==1)).2:Int)]++fm L:=by
  rw[l,sJ zq]
  rfl
 rw[zp]at za F;refine⟨zG,zh,[((eu (bP h i.toNat j.toNat) g f (d==1)).2:Int)],L,I,H _ _ az,zJ,zK,?_,λzC zk zF zw zA=>?_⟩;rw[bH]at za;rw[bn];omega;rw[l]at F;have zb:=G.b (H.b zF);exact F zC A zk I (p.p zu (s.a zb.c)) (m.q zb ((G.b H).e zw) zA)
def jc(b:V he)(c:Nat):V Int:=b.flatMap λa=>[(a.a:Int),(a.a:Int)+(c:Int),(a.b.length:Int)]
inductive SN(vs:V ah)(H:af)(Q:bj)(E:cf):Prop
 |a (p:aN):vs=[.b p.c]->fN H p->p.d.length<=1000000->gj H Q (bg (jc p.d p.m))->SN vs H Q E
def Pw[n:aJ]:b' 3 146 SN:=by
 refine cF 2 [] λe i d h g=>?_;obtain⟨d,rfl,j,h,t⟩:=g;refine⟨_,aj (aA 1 (bC ai)) (aj (dY e_ I (bZ (c0 0)) (bE 2) (au (a9 (eY e9 mQ nY mw (W 1) (c3 (bC (n0 (c0 2) (bT vZ (W 0) (c2 2)) (c5 (c0 2))))))))) (c1 (W 1))),co _,λl p=>?_⟩;have g:aW e (al e l (.a [])):=aW.a p;refine⟨g _ _ j.b,n.d.c,I,_,I,⟨_,dU.b (g _ _ j.e)⟩,ev (xs:=d.d.map he.d) (λk m h=>(∃o,m=[O (.b d.c),O (.b l),o])/\aW e h/\h l=O (.a (bg (jc (d.d.take k) d.m)))) ⟨⟨_,I⟩,g,by simp[az,jc]⟩ ?_ ?_ ?_⟩;rintro k m h _ ⟨_,g,_⟩;exact dU.b (g _ _ j.e);rintro k e m h q ⟨⟨o,rfl⟩,g,i⟩;obtain⟨e,s,rfl⟩:=d2 q;obtain⟨q,w,_⟩:=he.i ((j.f e (a1 s)).c g);have r:=j.a g;refine⟨.inl ⟨I,_,dU.b i⟩,q,n.p.b,I,r.b,I,d.c,d.k,e.e,e.f,_,_,e.a,d.m,I,r.b,I,q,I,q,n.p.a,I,_,_,I,.inl (dU.b w),Vg,λu j=>?_⟩;have n:=aW.a (o:=.a [.a (e.a:Int),.a ((e.a:Int)+(d.m:Int)),.a ((e.b.map ba.b).length:Nat)]) j;have q:l≠u:=cX i j;have j:jc (d.d.take (k+1)) d.m=jc (d.d.take k) d.m++[(e.a:Int),(e.a:Int)+(d.m:Int),(e.b.length:Int)]:=by unfold jc;rw[en,s,g8];simp
 have k:∀e:V he,(jc e d.m).length=3*e.length:=λe=>by
  unfold jc;induction e with|nil=>rfl|cons e q d=>rw[ez,bH,d];simp only[cz,f'];omega
 refine⟨_,_,_,_,I,I,n _ _ i,az,?_,?_⟩;rw[an,k,e7,bn];simp only[cz,f'];omega;refine⟨⟨_,I⟩,(g.b n).f p,?_⟩;rw[az,j];simp;rintro m h ⟨⟨o,rfl⟩,g,i⟩;rw[an,dN]at i;exact t l h g p i
def RN:aB:=λf d e c=>∃a b,eP (.part a b) [a,b] f d e c
def OP[m:aJ]:cL 6 147 RN:=by
 refine cT 2 [] λd h f g i=>?_;obtain⟨f,g,z,h,s,p,j,rfl,d,l,D,n,q,x,r,k⟩:=i;refine⟨_,aj (aA 2 (bT ja (W 0) (c3 (aP sy (c2 1))))) (aj (aA 3 (bC (Z (a' Oi (W 2)) (n2 (n4 (c0 2)) (c0 2) (c0 2) (aP sx (c2 2)))))) (c1 (aP l0 (c6 (ey h7 (W 3) (bC (c3 (c5 (a' k7 (W 2)))))) (bC (c3 (aP Pw (c2 2)))))))),?_⟩;have i:=a2.f (d.d 1 I);refine⟨i.a,I,p,f,g,[],_,I,d,n,λt s A j q=>?_⟩;have i:=a2.f (q.d 1 I);refine⟨z,t,f,g,I,i,j,λd s=>?_,λj=>k (-2) _ (by show(if _ then _ else _)=_;rw[l.w,j];rfl) A q⟩;obtain⟨k,j,t,n,p⟩:=qd s;have j:=(i.d k (a1 n)).c d (a1 p);have w:=l.y n p;have k:=(l.o n p).1;obtain⟨y,_,_⟩:=he.i j.d;have t:bi h (.part f g)=(h,{value:=(oO (bP h f.toNat g.toNat):Int),more:=cd [(bP h f.toNat g.toNat).base,(bP h f.toNat g.toNat).next,(bP h f.toNat g.toNat).disk,fF (bP h f.toNat g.toNat),(bU (bP h f.toNat g.toNat)).length],rows:=[(bP h f.toNat g.toNat).segs.flatMap λi=>cd [i.from_,i.upto,i.recs.length]]}):=by
  show(if _ then _ else _)=_;rw[l.w,s]
  rfl
 have u:Q6.match_1 (λH=>Int) d.d (λ_=>(d.b.a:Int)) (λs B=>(s.a:Int))=(oO (bP h f.toNat g.toNat):Int):=by
  rw[k.z];show _=match d.d.map he.h with|[]=>(d.b.a:Int)|s::_=>(s.1:Int)
  cases d.d<;>rfl
 refine⟨j.b,I,d,I,j,j.b,m.d.d,I,y,m.p.b,I,j.b,m.d.a,I,j.b,m.d.b,I,d,I,j,w,λs B=>?_⟩;refine⟨Vm,λm y=>?_⟩;rw[u];generalize u:([.a (oO (bP h f.toNat g.toNat):Int),.a (d.b.a:Int),.a (d.f:Int),.a (d.h:Int),.a (d.r:Int)]:V ah)=s;have m:=B.b (aW.a (o:=.a s) y);refine⟨(j.a m).b,I,d,I,j.a m,w,λF C y E B=>?_⟩;have w:=m.b y;refine⟨_,_,I,.inl (dU.b B),c9,λC m=>?_⟩;have B:=w.b (aW.a (o:=.a [.a ((d.g.map ba.b).length:Nat)]) m);refine⟨_,_,_,_,I,I,(aW.a m) _ _ (y _ _ az),az,(by rw[<-u];show 6<=aH;decide),λF m=>?_⟩;have w:=B.b (aW.a (o:=.a (s++[.a ((d.g.map ba.b).length:Nat)])) m);refine⟨d,I,j.a w,?_,λm y s B E=>?_⟩;have:=(l.G n p).e;simp only[aN.a,an]at this;omega;refine⟨c9,λG j=>?_⟩;have n:=w.b (s.b (aW.a (o:=.a [.b m]) j));have C:jc d.d d.m=(bP h f.toNat g.toNat).segs.flatMap λi=>cd [i.from_,i.upto,i.recs.length]:=by rw[k.g];show _=((d.d.map he.h).map (hU d.m)).flatMap _;rw[jx,jx];unfold jc;congr 1;funext i;show _=[((i.a:Nat):Int),((i.a+d.m:Nat):Int),(((i.b.map (·.a)).length:Nat):Int)];rw[an];simp
 have B:ci (bi h (.part f g))=([(oO (bP h f.toNat g.toNat):Int),(d.b.a:Int),(d.f:Int),(d.h:Int),(d.r:Int),(d.g.length:Int)]++fm [(m,jc d.d d.m)]):=by
  have i:(bP h f.toNat g.toNat).base=d.b.a:=k.i;have p:(bP h f.toNat g.toNat).next=d.f:=k.c;have w:(bP h f.toNat g.toNat).disk=d.h:=k.d;have y:(bU (bP h f.toNat g.toNat)).length=d.g.length:=by rw[<-k.b,an]
  rw[t,<-C,i,p,w,y,<-k.l]
  rfl
 rw[B]at x r;refine⟨F,G,[(oO (bP h f.toNat g.toNat):Int),(d.b.a:Int),(d.f:Int),(d.h:Int),(d.r:Int),(d.g.length:Int)],[(m,jc d.d d.m)],I,(aW.a j) _ _ (s _ _ (by rw[az,<-u,an];rfl)),az,λH d=>?_,?_,λi f k g h=>?_⟩;rw[dZ.mp d];exact(aW.a j) _ _ E;rw[bH]at x;rw[bn];omega;rw[t]at r;have d:=n.b k;exact r i z f I (l.p D (A.a d.c)) (q.q d (n.e g) h)
end
def Tt{c:V aN}{ps:V d3}(e:ps.length=c.length)(g:∀(d:Nat) b a,c[d]?=O b->ps[d]?=O a->cv b.a a):(c.map λa=>a.g.length).sum=f4 (ps.map λa=>(bU a).length):=by
 induction c generalizing ps with
 |nil=>
  cases ps with|nil=>rfl|cons _ _=>cases e
 |cons b c f=>
  cases ps with
  |nil=>cases e
  |cons a ps=>
   have h:=g 0 b a I I;have f:=f (ps:=ps) (by simpa using e) (λd b a c i=>g (d+1) b a c i);have c:(bU a).length=b.g.length:=by rw[<-h.b,an]
   rw[b1,ik,f,b1,c]
   rfl
def Dj(a b):f4 (a++b)=f4 a+f4 b:=by
 unfold f4;induction a with|nil=>simp|cons c b a=>simp only[gJ,yT,a];omega
def S2{bs:V bq}{Ps:V (V d3)}(h:Ps.length=bs.length)(j:∀(e:Nat) b c,bs[e]?=O b->Ps[e]?=O c->c.length=b.a.length/\∀(k:Nat) l d,b.a[k]?=O l->c[k]?=O d->cv l.a d):
  ((bs.flatMap (·.a)).map λd=>d.g.length).sum=f4 (Ps.flatMap λm=>m.map λd=>(bU d).length):=by
 induction bs generalizing Ps with
 |nil=>
  cases Ps with|nil=>rfl|cons _ _=>cases h
 |cons b bs i=>
  cases Ps with
  |nil=>cases h
  |cons c Ps=>obtain⟨f,g⟩:=j 0 b c I I;have i:=i (Ps:=Ps) (by simpa using h) (λe b c f g=>j (e+1) b c f g);rw[ez,a6,rx,i,Tt f g,ez,Dj]
def NZ(a:V Nat):((a.map λb:Nat=>(b:Int)).sum)=((a.sum:Nat):Int):=by
 induction a with|nil=>rfl|cons c b a=>simp only[b1,ik,a];omega
def B4{b:V Nat}(a:c∈b):c<=b.sum:=by
 induction b with
 |nil=>cases a
 |cons d c b=>rw[ik];rcases bW.mp a with rfl|a;omega;have:=b a;omega
def bI.F{s:a2}{S:bt}(t:bI g s S H):s.h.length<=16:=by
 have H:∀g:V bq,(∀k∈g,k.a.length<=4)->(g.flatMap (·.a)).length<=4*g.length:=λg=>by
  induction g with|nil=>intro _;simp|cons k r zf=>intro g;have ze:=g k cr;have ze:=zf λx ze=>g x (cJ _ ze);rw[ez,bH,cz];omega
 have g:=H s.b λk g=>by obtain⟨i,k⟩:=hG.mp g;exact(t.u k).2
 have g:=t.b.e;rw[an]at g;unfold a2.h;omega
section
inductive Rx(vs:V ah)(H:af)(Q:bj)(E:cf):Prop
 |a (t:b3):vs=[.b t.g]->lU H t->fO H t.a->t.a.length<=1000000->gj H Q (bg (t.c.flatMap λq=>[(q.1:Int),(q.2:Int)]))->Rx vs H Q E
def Ov[c:aJ]:b' 2 158 Rx:=by
 refine cF 2 [] λe i g h d=>?_;obtain⟨m,rfl,g,n,h,p⟩:=d;refine⟨_,aj (aA 1 (bC ai)) (aj (dY e_ I (bZ (c0 0)) (bE 2) (au (a9 (eY e9 mQ nY mw (W 1) (c3 (pa tM (by rfl) c.y rA (c2 2))))))) (c1 (W 1))),co _,λh j=>?_⟩;have l:aW e (al e h (.a [])):=aW.a j;refine⟨l _ _ g.a,c.o.a,I,_,I,⟨_,dU.b (l _ _ g.c)⟩,ev (xs:=m.a.map cg) (λk i d=>(∃o,i=[O (.b m.g),O (.b h),o])/\aW e d/\d h=O (.a (bg ((m.a.take k).flatMap λc=>[(c.2.1:Int),(c.2.2:Int)])))) ⟨⟨_,I⟩,l,by simp[az]⟩ ?_ ?_ ?_⟩;rintro k i d _ ⟨_,e,_⟩;exact dU.b (e _ _ g.c);rintro k l i d m ⟨⟨o,rfl⟩,e,g⟩;obtain⟨k,l,rfl⟩:=d2 m;have m:=e _ _ (n k (a1 l));refine⟨.inl ⟨I,_,dU.b g⟩,_,_,I,.inr (kA.b m),λq n=>?_⟩;have m:=aW.a (o:=.a [.a (k.2.1:Int),.a (k.2.2:Int)]) n;have k:∀c:V (Y×Nat×Nat),(c.flatMap λc=>[(c.2.1:Int),(c.2.2:Int)]).length=2*c.length:=λc=>by
  induction c with|nil=>rfl|cons n q c=>rw[ez,bH,c];simp only[cz,f'];omega
 refine⟨_,_,_,_,I,I,m _ _ g,az,?_,?_⟩;rw[an,k,e7,bn];simp only[cz,f'];omega;refine⟨⟨_,I⟩,(e.b m).f j,?_⟩;rw[az,en,l];simp;rintro i d ⟨⟨o,rfl⟩,e,g⟩;rw[an,dN]at g;refine p h d e j ?_;rw[g,jx]
inductive Sz(vs:V ah)(H:af)(Q:bj)(E:cf):Prop
 |a (t:b3):vs=[.b t.g]->lU H t->t.b.length<=1000000->gj H Q (bg (t.b.flatMap λm=>[(m.a:Int),(m.e:Int),(m.b:Int),(m.c:Int)]))->Sz vs H Q E
def Pm[g:aJ]:b' 2 159 Sz:=by
 refine cF 2 [] λe i d h c=>?_;obtain⟨k,rfl,j,d,r⟩:=c;refine⟨_,aj (aA 1 (bC ai)) (aj (dY e_ I (bZ (c0 0)) (bE 2) (au (a9 (eY e9 mQ nY mw (W 1) (c3 (bC (n2 (c0 2) (c0 2) (c0 2) (c0 2)))))))) (c1 (W 1))),co _,λl n=>?_⟩;have h:aW e (al e l (.a [])):=aW.a n;refine⟨h _ _ j.a,g.o.b,I,_,I,⟨_,dU.b (h _ _ j.b)⟩,ev (xs:=k.b.map fA.d) (λi m d=>(∃o,m=[O (.b k.g),O (.b l),o])/\aW e d/\d l=O (.a (bg ((k.b.take i).flatMap λc=>[(c.a:Int),(c.e:Int),(c.b:Int),(c.c:Int)])))) ⟨⟨_,I⟩,h,by simp[az]⟩ ?_ ?_ ?_⟩;rintro i m d _ ⟨_,e,_⟩;exact dU.b (e _ _ j.b);rintro i p m d k ⟨⟨o,rfl⟩,e,h⟩;obtain⟨i,p,rfl⟩:=d2 k;have k:=e _ _ (j.e i (a1 p));refine⟨.inl ⟨I,_,dU.b h⟩,k,g.s.a,I,k,g.s.b,I,k,g.s.c,I,k,g.s.d,I,Vh,λc q=>?_⟩;have j:=aW.a (o:=.a [.a (i.a:Int),.a (i.e:Int),.a (i.b:Int),.a (i.c:Int)]) q;have i:∀g:V fA,(g.flatMap λc=>[(c.a:Int),(c.e:Int),(c.b:Int),(c.c:Int)]).length=4*g.length:=λg=>by
  induction g with|nil=>rfl|cons g k c=>rw[ez,bH,c];simp only[cz,f'];omega
 refine⟨_,_,_,_,I,I,j _ _ h,az,?_,?_⟩;rw[an,i,e7,bn];simp only[cz,f'];omega;refine⟨⟨_,I⟩,(e.b j).f n,?_⟩;rw[az,en,p];simp;rintro m d ⟨⟨o,rfl⟩,e,h⟩;rw[an,dN]at h;exact r l d e n h
def RU:aB:=λe c d b=>∃a,eP (.senderAt a) [a] e c d b
def OW[t:aJ]:cL 5 160 RU:=by
 refine cT 2 [] λi g d f e=>?_;obtain⟨k,l,h,q,g,m,rfl,d,j,x,f,p,y,n,r⟩:=e;refine⟨_,aj (aA 2 (bT Cw (W 0) (c3 (a' bO (W 1))))) (aj (aA 3 (c0 2)) (aj (bD (eI (mz (W 3))) (c1 (bC (c6 (c0 2) a5))) bQ) (c1 (aP l0 (c6 (bC (c6 (c0 2) a5)) (bC (c6 (aP Ov (c2 3)) (aP Pm (c2 3))))))))),?_⟩;have e:=a2.f (d.d 1 I);refine⟨e.a,I,gm d,I,g,_,_,I,d,f.a,λe p q=>?_⟩;have d:=f.b;have s:aM i e:=p;have p:am e (eh.b (g.a 1)::l.d::m):=q;have e:=a2.f (p.d 1 I);have i:bi h (.senderAt k)=match(eQ l.a k).map bf.b with
   |none=>dS h (-5)
   |some f=>(h,match f.deal with
    |none=>{value:=(f.epoch:Int),more:=[0]}
    |some q=>{value:=(f.epoch:Int),more:=[1],rows:=[q.parts.flatMap λd=>cd [d.1,d.2],q.places.flatMap λd=>cd [d.1,d.2.1,d.2.2.1,d.2.2.2]]}):=by
  rw[<-wl j.h]
  rfl
 refine⟨l,k,I,e,j.a,λf g=>?_,λm=>r (-5) _ (by rw[i,m];rfl) s p⟩;rw[g]at i;have u:=kN g;have r:=e.c f u;refine⟨r.a,t.k.a,I,?_⟩;cases m:f.a with
 |none=>
  refine⟨r.a,t.k.b,I,n1,λg e=>?_⟩;have i:bi h (.senderAt k)=(h,{value:=(f.f:Int),more:=[0]}):=by
   rw[i];show(h,match f.a.map b3.d with|none=>_|some q=>_)=_;rw[m]
   rfl
  rw[i]at n;exact n g l _ I (j.p x (s.a (aW.a e).c)) (p.q (aW.a e) e az)
 |some g=>
  have w:=r.b g m;obtain⟨e,z,B,A⟩:=j.f f u g m;have i:bi h (.senderAt k)=(h,{value:=(f.f:Int),more:=[1],rows:=[g.c.flatMap λd=>cd [d.1,d.2],(g.b.map λe=>(e.a,e.e,e.b,e.c)).flatMap λd=>cd [d.1,d.2.1,d.2.2.1,d.2.2.2]]}):=by
   rw[i];show(h,match f.a.map b3.d with|none=>_|some q=>_)=_;rw[m];show(h,({value:=(f.f:Int),more:=[1],rows:=[(g.c.drop g.e).flatMap λd=>cd [d.1,d.2],(g.b.map λe=>(e.a,e.e,e.b,e.c)).flatMap λd=>cd [d.1,d.2.1,d.2.2.1,d.2.2.2]]}:gn))=_;rw[z]
   rfl
  refine⟨r.a,t.k.b,I,n1,λe q=>?_⟩;have r:=aW.a (o:=.a [.a (f.f:Int),.a 1]) q;have t:g.a.length<=1000000:=by
   have q:b_ f<=(l.a.map b_).sum:=B4 (bm.mpr ⟨f,u,I⟩);have q:b_ f=g.a.length:=by unfold b_;rw[m]
   have:=j.i;have:=j.r;omega
  refine⟨g,I,w.d r,(B.b.a s).a r.c,t,λq m z u A=>?_⟩;have m:=r.b z;refine⟨g,I,w.d m,(by have:=j.r;omega),λt u r w B=>?_⟩;have w:=m.b r;refine⟨n1,λC u=>?_⟩;have m:=aW.a (o:=.a [.b q,.b t]) u;have u:=w.b m;have w:ci (bi h (.senderAt k))=[(f.f:Int),1]++fm [(q,g.c.flatMap λd=>[(d.1:Int),(d.2:Int)]),(t,g.b.flatMap λe=>[(e.a:Int),(e.e:Int),(e.b:Int),(e.c:Int)])]:=by
   have h:((g.b.map λe=>(e.a,e.e,e.b,e.c)).flatMap λd=>cd [d.1,d.2.1,d.2.2.1,d.2.2.2])=g.b.flatMap λe=>[(e.a:Int),(e.e:Int),(e.b:Int),(e.c:Int)]:=by rw[jx];rfl
   rw[i,h]
   rfl
  rw[w]at y n;refine⟨e,C,[(f.f:Int),1],[(q,g.c.flatMap λd=>[(d.1:Int),(d.2:Int)]),(t,g.b.flatMap λe=>[(e.a:Int),(e.e:Int),(e.b:Int),(e.c:Int)])],I,m _ _ (r _ _ (z _ _ az)),az,λf d=>?_,?_,λh e k f g=>?_⟩;rcases bW.mp d with rfl|d;exact m _ _ (r _ _ A);rw[dZ.mp d];exact m _ _ B;rw[bH]at y;rw[bn];omega;rw[i]at n;have d:=u.b k;exact n h l e I (j.p x (s.a d.c)) (p.q d (u.e f) g)
inductive SE(vs:V ah)(H:af)(Q:bj)(E:cf):Prop
 |a (g:a_):vs=[.b g.e]->kY H g->g.h.length<=1000000->gj H Q (bg (g.h.map c_))->SE vs H Q E
def Po[b:aJ]:b' 2 135 SE:=by
 refine cF 1 ["owner"] λa f c e d=>?_;obtain⟨c,rfl,a,g,f⟩:=d;refine⟨_,c1 (dX I e (bZ (c0 0)) (own:=[("owner",1)]) (dn I) (λ_ _ _ _ _=>bE 1) (λ_ _ _ _ _=>f_) (λ_ _ _ _ _=>(x6 (eI (mz (W 1))) (di b.zQ) (W 1)))),a.a,b.h.e,I,_,I,⟨_,dU.b a.e⟩,λe d=>?_⟩;refine eR c.h dj (λo=>ah.a (c_ o)) (λ_=>ab) d a.e (by rw[bn];omega) ?_ (λa g b=>f e a g d ?_);intro o h d i e f g a;cases o with|none=>exact⟨I,(a I _ aW.d)⟩|some d=>exact⟨I,(a I _ aW.d)⟩
 rw[b,nb];show _=O (cw.a ((c.h.map c_).map ah.a));rw[bz]
 rfl
def RK:aB:=λe c d b=>∃a,eP (.groupAt a) [a] e c d b
def OJ[e:aJ]:cL 5 136 RK:=by
 refine cT 2 [] λl g c f d=>?_;obtain⟨k,g,i,s,j,m,rfl,c,h,w,f,p,r,n,q⟩:=d;refine⟨_,aj (aA 2 (bT ni (W 0) (c3 (a' bO (W 1))))) (aj (aA 3 (bC (n2 (c0 2) (aP Po (c2 2)) (c0 2) (c0 2)))) (c1 (aP l0 (c6 (bC (c6 (c0 2) (c0 2))) (W 3))))),?_⟩;have d:=a2.f (c.d 1 I);refine⟨d.a,I,gm c,I,j,_,_,I,c,f.a,λd s p=>?_⟩;have c:=f.b;have u:aM l d:=s;have l:am d (eh.b (j.a 1)::g.d::m):=p;have p:=a2.f (l.d 1 I);have j:bi i (.groupAt k)=match(dE g.c k).map a_.c with
   |none=>dS i (-4)
   |some c=>(i,{value:=(c.gen:Int),more:=[(c.book:Int)],rows:=[cd c.members,c.owners.map c_,cd c.places,cd c.reading]}):=by
  rw[<-se h.e]
  rfl
 refine⟨g,k,I,p,λc d=>?_,λf=>q (-4) _ (by rw[j,f];rfl) u l⟩;rw[d]at j;have m:=kN d;have f:=p.e c m;have s:=h.d c m;refine⟨f.a,e.h.d,I,c,I,f,?_,λq d p m x=>?_⟩;have d:=s.b;unfold b2 at d;rw[bz,bw]at d;cases m:g.b[c.i.e]? with
 |none=>rw[m]at d;cases d
 |some s=>rw[m]at d;have t:=(h.u m).2;have m:(s.a.map aN.a).length=c.h.length:=bA d;rw[an]at m;omega
 have d:=f.c p;refine⟨d.a,e.h.a,I,d.a,e.h.f,I,Vh,λy m=>?_⟩;have t:=aW.a (o:=.a [.b c.p,.b q,.b c.q,.b c.n]) m;have s:=p.b t;have d:=f.c s;refine⟨d.a,e.h.c,I,d.a,e.h.b,I,n1,λz m=>?_⟩;have p:=aW.a (o:=.a [.a (c.g:Int),.a (c.k:Int)]) m;have m:=s.b p;have e:=f.c m;have d:ci (bi i (.groupAt k))=[(c.g:Int),(c.k:Int)]++fm [(c.p,cd c.f),(q,c.h.map c_),(c.q,cd c.a),(c.n,cd c.d)]:=by
  rw[j]
  rfl
 rw[d]at r n;have f:∀d:V Nat,a4 d=bg (cd d):=λd=>by
  show _=(d.map λi:Nat=>(i:Int)).map ah.a;rw[bz]
  rfl
 refine⟨z,y,[(c.g:Int),(c.k:Int)],[(c.p,cd c.f),(q,c.h.map c_),(c.q,cd c.a),(c.n,cd c.d)],I,az,p _ _ az,λi d=>?_,?_,λs i y k q=>?_⟩;simp only[bW,Vk,or_false]at d;rcases d with rfl|rfl|rfl|rfl;rw[<-f];exact e.d;exact p _ _ (t _ _ x);rw[<-f];exact e.b;rw[<-f];exact e.f;rw[bH]at r;rw[bn];omega;rw[j]at n;have c:=m.b y;exact n s g i I (h.p w (u.a c.c)) (l.q c (m.e k) q)
abbrev RB:aB:=eP .counts []
def OA[g:aJ]:b' 3 100 RB:=by
 refine cF 2 ["part"] λd f e h b=>?_;obtain⟨d,f,l,p,i,rfl,q,e,y,n,j,k,s,m⟩:=b;refine⟨_,aj (aA 2 (bM (qY I) (by rfl) g.J uE (c3 (dX I h (bZ (a' Cv (W 0))) (own:=[("part",3)]) (dn I) (λ_ _ _ _ _=>bE 3) (λ_ _ _ _ _=>f_) (λ_ _ _ _ _=>(c5 (a' k7 (W 3)))))))) (c1 (bC (n2 (c5 (c0 0)) (bM nB (by rfl) g.e cC (c3 (c0 0))) (bM nB (by rfl) g.e cC (c3 (c0 0))) (W 2)))),?_⟩;have j:=a2.f (q.d 1 I);have b:=e.F;refine⟨j.a,I,d,I,j,by omega,λn b t i h=>?_⟩;refine⟨_,I,⟨_,dU.b h⟩,λb i=>?_⟩;refine eR d.h aN.i (λb=>ah.a (b.g.length:Int)) (λ_=>ab) i h (by rw[bn];omega) ?_ (λh A l=>?_);intro b k h B i m p u;obtain⟨i,p,r⟩:=kM.mp k;obtain⟨z,w⟩:=hG.mp p;obtain⟨m,x⟩:=hG.mp r;have h:=(((j.d i p).c b r).a t).a B;refine⟨I,h.b,I,b,I,h,e.y w x,λn B r _ p=>?_⟩;refine⟨_,_,I,.inl (dU.b p),?_⟩;rw[an];exact u I _ r;have p:=t.b A;have h:=j.h p;rw[nb]at l;have j:(d.h.map λb=>ah.a (b.g.length:Int))=(d.h.map λb=>(b.g.length:Int)).map ah.a:=by rw[bz];rfl
 rw[j]at l;refine⟨_,_,I,dU.b l,h.a,g.l.a,I,_,_,I,.inl (dU.b h.f),h.a,g.l.b,I,_,_,I,h.g e.a,h.a,g.l.c,I,_,_,I,h.i,Vh,λl j=>?_⟩;have g:=aW.a (o:=.a [.a ((d.b.map bq.d).length:Nat),.a ((ca d.a).length:Nat),.a ((dh d.c).length:Nat),.a ((d.h.map λb=>(b.g.length:Int)).sum)]) j;have r:=p.b g;have w:((d.h.map λb=>(b.g.length:Int)).sum)=(f4 (f.parts.flatMap λn=>n.map λb=>(bU b).length):Int):=by
  have n:=S2 (bs:=d.b) (Ps:=f.parts) (by have:=e.b.d;rw[an]at this;exact this) (λz i g t h=>by obtain⟨z,A,x,u,g⟩:=e.q t;rw[u]at h;obtain rfl:=bA h;have h:=g.a;refine⟨by rw[h];show(i.a.map aN.a).length=_;rw[an],λm l b j k=>?_⟩;exact(g.d m l.a b (by show(i.a.map aN.a)[m]?=_;rw[bw,j];rfl) k).1)
  rw[<-n,<-NZ,bz]
  rfl
 have i:ci (bi f .counts)=[(d.b.length:Int),(d.a.length:Int),(d.c.length:Int),((d.h.map λb=>(b.g.length:Int)).sum)]:=by
  have b:f.books.length=d.b.length:=by rw[e.b.c,an]
  have g:f.senders.length=d.a.length:=by rw[e.h,an]
  have h:f.groups.length=d.c.length:=by rw[e.e,an]
  rw[w,<-b,<-g,<-h]
  rfl
 rw[i]at s;refine s l d _ I (e.p y r.c) (q.q r (p.e j) ?_);rw[az];simp[ca,dh]
end
def gd.c{r:eh}{v:V Int}(f:gd r ((v.length:Int)::v)):r.c+1+v.length<=r.e.length/\(r.e.drop (r.c+1)).take v.length=v:=by
 have e:gd r ((v.length:Int)::(v++[])):=by rw[dM];exact f
 exact⟨e.d.1,e.d.2.1⟩
def vE(r:eh)(a b):({(r.a a)with c:=(r.a a).c+1+b}:eh)=r.a (b+(a+1)):=by show(⟨r.d,r.g,r.h,r.i,r.e,r.c+a+1+b⟩:eh)=⟨r.d,r.g,r.h,r.i,r.e,r.c+(b+(a+1))⟩;congr 1;omega
def Ni(r:eh)(a):({r with c:=r.c+1+a}:eh)=r.a (a+1):=vE r 0 a
def bI.zb{s:a2}(g:bI zh s zj ze)(zo:ze+1<=900)(zr:aM zh zi){b:bq}{k S:aN}{f:bo->bo}(zk:s.b[x]?=O b)(zl:b.a[t]?=O k)(zf:S.a=f k.a)(zg:cv (f k.a) H)(zq:(f k.a).a=k.a.a)(zp:(f k.a).f=k.a.f)(zn:∀(m:bo) zm,m.e zm->(f m).e (zm+1)):bI zi (s.g x t S) (gB zj x t H) (ze+1):=by
 have ze:=qh (s:=s) zk zl zf;have zh:b2 ((s.g x t S).b.map bq.b)=b2 (s.b.map bq.b):=by rw[ze,oF]
 refine g.n zo zr g.a ?_ zh ?_ g.h I (λH zg x zi=>.inl ⟨H,zg,zi⟩) (eZ g.i) g.e I (λx S=>(g.d x S).d zh);rw[ze];exact g.b.g (b:=b.b) (m:=k.a) (by rw[bw,zk];rfl) (by show(b.a.map aN.a)[t]?=_;rw[bw,zl];rfl) zg zq zp;rw[ze];exact g.c.b (by omega) λm zf=>(zn m _ zf).c (by omega)
def sF{c:a2}{d:bq}(h:c.b[e]?=O d):c.g e g f={c with b:=c.b.set e {d with a:=d.a.set g f}}:=by unfold a2.g;rw[lY h]
def L9(b:Nat->Nat)(c:Nat):let d:=(ij c).foldl (λe a=>if b a<b e then a else e) 0
  (d=0\/d<c)/\(∀a,a<c->b d<=b a)/\∀a,a<d->b d<b a:=by
 induction c with
 |zero=>exact⟨.inl I,λa f=>(by omega),λa f=>(by cases f)⟩
 |succ c i=>simp only[List.range_succ,mJ,kK,Jp];obtain⟨h,f,g⟩:=i;generalize(ij c).foldl (λe a=>if b a<b e then a else e) 0=d at h f g;by_cases e:b c<b d;rw[ay e];refine⟨.inr (by omega),λa d=>?_,λa d=>?_⟩;by_cases b:a=c;subst b;exact bp _;have:=f a (by omega);omega;have:=f a d;omega;rw[aw e];refine⟨by omega,λa d=>?_,g⟩;by_cases b:a=c;subst b;omega;exact f a (by omega)
def Ns{a:V Nat}{f:Nat->Nat}(h:p3 a d)(k:∀b g,a[b]?=O g->f b=g):(ij a.length).foldl (λc e=>if f e<f c then e else c) 0=d:=by
 obtain⟨c,i,l,m⟩:=h;obtain⟨j,g,h⟩:=L9 f a.length;generalize(ij a.length).foldl (λc e=>if f e<f c then e else c) 0=b at j g h;have n:=(bu.mp i).1;have j:b<a.length:=by omega
 have e:a[b]?=O a[b]:=eM j;have o:=k b _ e;have o:=k d _ i;have i:=g d n;have g:=l a[b] (Ju j);have g:a[b]=c:=by omega
 rcases JO b d with a|a|a;exact a7 (by rw[e,g]) (m b a);exact a;have:=h d a;omega
def nu(a):cW a 0 sM=aq (0<=a/\a<=1000000000):=by have:((sM:Nat):Int)=1000000000:=I;unfold cW;rw[this,hw];simp
def qa(v):qq v=ab↔m7 v:=by unfold qq m7;rw[fe,hE];constructor;rintro⟨a,b⟩;refine⟨cj a,λd c=>?_⟩;have:=b d c;simp at this;exact this;rintro⟨a,b⟩;refine⟨dm a,λd c=>?_⟩;have:=b d c;simp;exact this
def hR(a:ar Nat)(time:Nat)(v:ar (V Int)):aG:={place:=0,time:=time,key:=a,value:=v,sender:=0,seq:=0,kind:=0}
def qe(a:bq)(c:ar Nat)(b:Nat):Prop:=match c with|some c=>b=c%a.a.length|none=>p3 (a.a.map (·.f)) b
def CN{e:a2}{S:bt}(g:bI i e S k){a:bq}(h:e.b[d]?=O a){key:ar Nat}{j:Nat}(b:qe a key j):Tz S d key=j/\j<a.a.length:=by
 obtain⟨k,l,i,e,r⟩:=g.q h;have e:(fn S d).parts=a.a.length:=by rw[p9 i,r.c];show(a.a.map aN.a).length=_;rw[an]
 obtain⟨k,i⟩:=g.u h;unfold Tz;cases key with
 |some i=>have b:j=i%a.a.length:=b;subst b;refine⟨?_,y6 _ k⟩;show i%(fn S d).parts=_;rw[e]
 |none=>
  have b:p3 (a.a.map (·.f)) j:=b;refine⟨?_,?_⟩;show(ij (fn S d).parts).foldl _ 0=j;rw[e,<-an (f:=λi:aN=>i.f) (as:=a.a)];refine Ns (f:=λi=>(bP S d i).next) b λk l e=>?_;rw[bw]at e;cases d:a.a[k]? with
  |none=>rw[d]at e;cases e
  |some a=>rw[d]at e;obtain rfl:=bA e;exact(g.o h d).1.c
  obtain⟨d,a,_⟩:=b;have:=(bu.mp a).1;rw[an]at this;exact this
def N1(h){a:ar Nat}{time:Nat}(f:∀c,a=O c->c<100)(g:∀d,b=O d->d.length<=5)(e:b=aa->a.isSome=ab):m8 h (hR a time b):=by refine⟨⟨co _,λa=>?_,f,g,λa _=>e a⟩,λa=>?_,⟨λa=>?_,λa=>?_⟩⟩;have a:2<=0:=a;omega;exact a7 a (fV 0);exact a7 a (fV 0);exact a7 (y9 I) a
section
inductive De(vs:V ah)(H:af)(Q:bj)(E:cf):Prop
 |a (b:bq) (key:ar Nat) (time:Nat) (va:Y) (v:ar (V Int)) (R:V aE):vs=[.b b.e,.a (c_ key),.a time,qm va v]->am H (b.c::gZ va v::R)->0<b.a.length->b.a.length<=4->(∀p∈b.a,p.w)->(∀(j:Nat)(P P':aN) l H',qe b key j->b.a[j]?=O P->P'.c=P.c->P'.a=P.a.h (hR key time v)->aM H H'->am H' ([(l,.a [.a (j:Nat),.a (P.f:Nat)])]::bq.c {b with a:=b.a.set j P'}::R)->Q (.b l) H')->De vs H Q E
def CI[A:aJ]:b' 6 92 De:=by
 refine cF 3 [] λb h e g d=>?_;obtain⟨b,s,m,h,v,z,rfl,M,g,e,zb,zc⟩:=d;refine⟨_,aj (aA 4 (bT Ci (W 0) (c2 1))) (aj (aA 5 (c8 (c0 0) (W 4))) (aj (aA 6 (bT v0 (W 5) (c3 (hQ A.R v1 (Z (W 2) (Z (W 1) (n2 (W 3) a5 a5 (di A.D)))))))) (c1 (bC (c7 4 6))))),?_⟩;have n:=bq.q (M.d 0 I);have za:∀i,qe b s i->∃d,b.a[i]?=O d:=λi k=>by
  have:i<b.a.length:=by
   cases s with|some e=>have k:i=e%b.a.length:=k;subst k;exact y6 _ g|none=>have k:p3 (b.a.map (·.f)) i:=k;obtain⟨l,j,_⟩:=k;have:=(bu.mp j).1;rw[an]at this;exact this
  exact⟨_,eM this⟩
 refine⟨n.a,I,b,c_ s,I,n,g,by omega,λN=>?_,λN i g R k=>?_⟩;cases s with
 |none=>exact a7 I N
 |some e=>
  obtain⟨d,g⟩:=za (e%b.a.length) I;have j:(c_ (O e))%(b.a.length:Int)=((e%b.a.length:Nat):Int):=by show(e:Int)%_=_;omega
  rw[j];generalize zf:e%b.a.length=i at g;have K:=n.c d (a1 g);refine⟨n.a,A.n.a,I,_,_,_,_,I,I,dU.b n.d,dJ (v:=d.i) (by rw[bw,g];rfl),K.b,I,λl j y w x=>?_⟩;have B:=M.t (C:=d8) y w x;refine⟨l,j,h,hR (O e) m v,_,I,B,λo U D=>⟨I,?_⟩⟩;let u:ba:=⟨l,j,h,hR (O e) m v⟩
  have E:am o (b.c::u.h::z):=by have J:am o ([a0 l d8 j (et .c (hR (O e) m v) h),gZ h v]++(b.c::z)):=(D.a 2 I).a 1 I;exact(am.h (L:=[a0 l d8 j (et .c (hR (O e) m v) h),gZ h v]) J).a 1 I
  obtain⟨ze,S,T⟩:=bq.p g;have F:=((E.l S).a 2 I).a 1 I;refine⟨d,u,_,I,F,zb d (a1 g),λp zd q P X G=>?_⟩;have H:=G.m (T p q);refine⟨n1,λQ r=>?_⟩;exact zc i d p Q _ zf.symm g q P ((((gU y w x).c.a U).a X).a (aW.a r).c) (H.f r _)
 cases s with
 |some e=>exact a7 N (by show¬((e:Int)=-1);omega)
 |none=>
  obtain⟨d,g⟩:=za i k;have e:=n.e R;have K:=e.c d (a1 g);refine⟨e.a,A.n.a,I,_,_,_,_,I,I,dU.b e.d,dJ (v:=d.i) (by rw[bw,g];rfl),K.b,I,λl j y w x=>?_⟩;have B:=(M.o R).t (C:=d8) y w x;refine⟨l,j,h,hR aa m v,_,I,B,λo U D=>⟨I,?_⟩⟩;let u:ba:=⟨l,j,h,hR aa m v⟩
  have E:am o (b.c::u.h::z):=by have J:am o ([a0 l d8 j (et .c (hR aa m v) h),gZ h v]++(b.c::z)):=(D.a 2 I).a 1 I;exact(am.h (L:=[a0 l d8 j (et .c (hR aa m v) h),gZ h v]) J).a 1 I
  obtain⟨ze,S,T⟩:=bq.p g;have F:=((E.l S).a 2 I).a 1 I;refine⟨d,u,_,I,F,zb d (a1 g),λp zd q P X G=>?_⟩;have H:=G.m (T p q);refine⟨n1,λQ r=>?_⟩;exact zc i d p Q _ k g q P (((R.c.a ((gU y w x).c.a U)).a X).a (aW.a r).c) (H.f r _)
def CV{l:a2}(i:bI m l b g)(t:g+1<=900)(y:aM m n){j:bq}(k:l.b[a]?=O j){d:ar Nat}{time:Nat}{h o:aN}(s:qe j d c)(p:j.a[c]?=O h)(w:o.a=h.a.h (hR d time e))(u:∀g,d=O g->g<100)(x:∀q,e=O q->q.length<=5)(r:e=aa->d.isSome=ab):
  bI n (l.g a c o) (oP b a d time e).1 (g+1)/\(oP b a d time e).2={value:=(c:Int),more:=[(h.f:Int)]}:=by
 obtain⟨g,j⟩:=CN i k s;obtain⟨j,n,o,_⟩:=i.o k p;have m:=N1 h.a (time:=time) u x r;have l:oP b a d time e=(gB b a c (nx (fn b a) (bP b a c) (hR d time e)),{value:=(c:Int),more:=[((bP b a c).next:Int)]}):=by
  unfold oP;rw[g]
  rfl
 rw[l];refine⟨i.zb t y k p (f:=λg=>g.h (hR d time e)) w (j.o n o m) (jb _ _).1 (jb _ _).2 (λg k i=>i.h _),?_⟩;have:(bP b a c).next=h.f:=j.c;rw[this]
def bI.za{t:af}{s:a2}{H:bt}{zf:Nat}(x:bI t s H zf){S:Nat}{g:bq}(ze:s.b[S]?=O g):∀k∈g.a,k.w:=λk s=>by obtain⟨k,g⟩:=hG.mp s;exact Fit.a (x.G ze g) (by omega)
def RP:aB:=λh f g e=>∃b c d a,eP (.put b c d a) (b::c::d::(a.length:Int)::a) h f g e
def OR[f:aJ]:cL 7 93 RP:=by
 refine cT 5 [] λi e c d D=>?_;obtain⟨n,d,e,c,F,x,p,r,J,rfl,g,C,zb,h,j,k,U,A⟩:=D;refine⟨_,aj (aA 2 (a' bO (W 1))) (aj (aA 3 (a' bO (W 1))) (aj (aA 4 (a' bO (W 1))) (aj (aA 5 (a' vY (W 1))) (aj (aA 6 (bT lZ (W 0) (c2 2))) (aj (bD (c4 j6 (W 3) (di f.z)) (au (a9 (aP v5 (c2 3)))) bQ) (aj (a9 (aP v6 (c2 4))) (aj (a9 (aP Cz (c2 5))) (c1 (aP CI (n8 6 3 4 5)))))))))),ct g h λk o f j=>?_⟩;refine ct (r:=r.a 1) f j λh s g k=>ct (r:=r.a 2) g k λj u f h=>?_;obtain⟨j,k⟩:=gd.c (r:=r.a 3) h;refine⟨gm (r:=r.a 3) f,I,r.a 3,c.length,_,I,f,gd.a h,j,λq t w g=>?_⟩;rw[k,vE r 3]at g;have y:aM i t:=(((o.a s).a u).a w);change ft _ _ _ [O (.b F.e),O (.b r.d),O (.a n),O (.a d),O (.a e),O (.b q),aa] t;have G:am t ([(q,.a (bg c))]::eh.b (r.a (c.length+4))::F.d::J):=g;have z:=G.g 0 I;have g:=a2.f (G.d 2 I);refine⟨g.a,I,F,n,I,g,λw f=>?_,λg=>A (-2) _ (by show(if _ then _ else _)=_;rw[C.l,g];rfl) y z⟩;obtain⟨g,E⟩:=jE f;obtain⟨zc,zd⟩:=C.u E;have T:t q=O (.a (bg c)):=G.e 0 I;have h:bi x (.put n d e c)=match hX d with
   |none=>dS x (-1)
   |some g=>if(cW e 0 sM&&qq c)=ae then dS x (-1)else oP x n.toNat g e.toNat (O c):=by
  show(if _ then _ else _)=_;rw[C.l,f]
  rfl
 have M:∀f,d=c_ f->hX d=O f->(∀p,f=O p->p<100)->∀(H:Prop),((∀(i:0<=e/\e<=1000000000)(g:m7 c) j(u k:aN) B s,qe w f j->w.a[j]?=O u->k.c=u.c->k.a=u.a.h (hR f e.toNat (O c))->aM t s->am s ([(B,.a [.a (j:Nat),.a (u.f:Nat)])]::eh.b (r.a (c.length+4))::a2.d (F.g n.toNat j k)::J)->(n3 kq (f1 (aI 93)++[]) (aI 93) 6 5 RP).a (.b B) s)->H)->H:=by
  intro f K o L H D;refine D λi g j u k B s P N S Q R H=>?_;rw[o]at h;have h:bi x (.put n d e c)=oP x n.toNat f e.toNat (O c):=by rw[h];show(if _ then _ else _)=_;rw[aw];have x:=(qa c).mpr g;rw[x];rw[nu];simp;omega
  obtain⟨X,za⟩:=CV C zb (y.a R) E P N Q L (λze x=>by obtain rfl:=bA x;exact g.1) (λx=>by cases x);rw[h]at U;refine U B (F.g n.toNat j k) s I X ?_;unfold ci;rw[za];exact H
 have n:∀f,d=c_ f->hX d=O f->(∀p,f=O p->p<100)->0<=e/\e<=1000000000->m7 c->De [.b w.e,.a d,.a e,.b q] t (n3 kq (f1 (aI 93)++[]) (aI 93) 6 5 RP).a mh:=by intro f K o L i g;refine M f K o L _ λM=>?_;obtain⟨F,U,X⟩:=a2.t E;have L:=((G.a 2 I).l U);have G:am t (w.c::[(q,cw.a (bg c))]::F::eh.b (r.a (c.length+4))::J):=(L.a 2 I).a 1 I;refine⟨w,f,e.toNat,q,O c,_,by rw[K,jn i.1];rfl,G,zc,zd,C.za E,λj u k B s P N S Q R H=>?_⟩;refine M i g j u k B s P N S Q R ?_;have f:=(H.a 1 I).a 2 I;have s:=(f.a 1 I).m (X {w with a:=w.a.set j k} I);rw[sF E];exact(s.a 2 I).a 2 I
 by_cases f:d=-1;subst f;refine⟨I,?_⟩;have o:hX (-1)=O aa:=I;rw[o]at h;refine⟨e,I,λi=>?_,λi=>A (-1) _ (by rw[h];show(if _ then _ else _)=_;rw[ay (by rw[nu];simp[cW];omega)]) y z⟩;refine⟨q,c,I,T,λg=>?_,λg=>A (-1) _ (by rw[h];show(if _ then _ else _)=_;rw[ay];have:qq c=ae:=DM.mpr λj=>g ((qa c).mp j);rw[this,ku]) y z⟩
 exact n aa I I (λp x=>nomatch x) i g;refine⟨I,bG (λ_=>?_) (λD=>a7 (by simpa using D) f)⟩;refine⟨d,I,λk=>?_,λk=>A (-1) _ (by rw[h];unfold hX;rw[aw f,aw (by simp[cW];omega)]) y z⟩
 have o:hX d=O (O d.toNat):=by unfold hX;rw[aw f,ay (by simp[cW];omega)]
 rw[o]at h;refine⟨e,I,λi=>?_,λi=>A (-1) _ (by rw[h];show(if _ then _ else _)=_;rw[ay (by rw[nu];simp[cW];omega)]) y z⟩;refine⟨q,c,I,T,λg=>?_,λg=>A (-1) _ (by rw[h];show(if _ then _ else _)=_;rw[ay];have:qq c=ae:=DM.mpr λj=>g ((qa c).mp j);rw[this,ku]) y z⟩
 exact n (O d.toNat) (by show d=(d.toNat:Int);omega) o (λp x=>by have:=bA x;omega) i g
def RR:aB:=λg e f d=>∃a b c,eP (.remove a b c) [a,b,c] g e f d
def OT[c:aJ]:cL 7 94 RR:=by
 refine cT 4 [] λg e c d j=>?_;obtain⟨f,c,d,k,o,z,r,i,rfl,h,e,x,n,q,t,s,p⟩:=j;refine⟨_,aj (aA 2 (a' bO (W 1))) (aj (aA 3 (a' bO (W 1))) (aj (aA 4 (a' bO (W 1))) (aj (aA 5 (bT lZ (W 0) (c2 2))) (aj (a9 (aP v5 (c2 3))) (aj (a9 (aP v6 (c2 4))) (c1 (aP CI (n2 (W 5) (W 3) (W 4) kF)))))))),ct h n λt u j q=>?_⟩;refine ct (r:=r.a 1) j q λh w n t=>ct (r:=r.a 2) n t λh q j y=>?_;have n:aM g h:=((u.a w).a q);change ft _ _ _ [O (.b k.e),O (.b r.d),O (.a f),O (.a c),O (.a d),aa] h;have g:am h (eh.b (r.a 3)::k.d::i):=j;have i:=a2.f (g.d 1 I);refine⟨i.a,I,k,f,I,i,λh q=>?_,λi=>p (-2) _ (by show(if _ then _ else _)=_;rw[e.l,i];rfl) n g⟩;obtain⟨j,i⟩:=jE q;obtain⟨C,D⟩:=e.u i;have j:bi o (.remove f c d)=if(cW c 0 99&&cW d 0 sM)=ae then dS o (-1)else oP o f.toNat (O c.toNat) d.toNat aa:=by
  show(if _ then _ else _)=_;rw[e.l,q]
  rfl
 refine⟨c,I,λo=>?_,λo=>p (-1) _ (by rw[j,ay (by simp[cW];omega)]) n g⟩;refine⟨d,I,λq=>?_,λq=>p (-1) _ (by rw[j,ay (by rw[nu];simp[cW];omega)]) n g⟩;rw[aw (by rw[nu];simp[cW];omega)]at j;obtain⟨p,t,E⟩:=a2.t i;have p:=((g.a 1 I).l t);refine⟨h,O c.toNat,d.toNat,0,aa,_,(by show[ah.b h.e,ah.a c,ah.a d,ah.c]=[ah.b h.e,ah.a (c.toNat:Int),ah.a (d.toNat:Int),ah.c];rw[jn o.1,jn q.1]),am.x (B:=[]) (p.K) 1,C,D,e.za i,λg c d A o w u q y F t=>?_⟩;obtain⟨p,q⟩:=CV e x (n.a F) i w u y (λz c=>by have:=bA c;omega) (λe c=>by cases c) (λ_=>I);rw[j]at s;refine s A (k.g f.toNat g d) o I p ?_;unfold ci;rw[q];have c:=(t.a 1 I).a 2 I;have e:=(c.a 1 I).m (E {h with a:=h.a.set g d} I);rw[sF i];exact(e.a 2 I).a 2 I
end
def nt{l:V bf}{i:Nat}{x x':bf}(a:l[i]?=O x):((l.set i x').map b_).sum+b_ x=(l.map b_).sum+b_ x':=by
 rw[nn a];conv=>rhs;rw[ne a]
 simp only[a6,b1,rx,ik];omega
def oJ{e:Type}{a:V e}{c:Nat}{d:e}(b:a[c]?=O d):a.set c d=a:=by rw[nn b];exact(ne b).symm
def ko{l:V bf}{i:Nat}{x x':bf}(b:l[i]?=O x)(a:x'.c=x.c):(l.set i x').map (·.c)=l.map (·.c):=i_ b a
def bI.X{s:a2}{S x:bt}(t:bI zl s S zg)(zq:zg+1<=900)(k:aM zl zi){H j:Nat}{b:bq}{g zf:aN}{f:bo->bo}{ze:d3}{zh:V bf}(zm:s.b[H]?=O b)(zn:b.a[j]?=O g)(zj:zf.a=f g.a)(zk:cv (f g.a) ze)(zs:(f g.a).a=g.a.a)(zr:(f g.a).f=g.a.f)(zp:∀(m:bo) zo,m.e zo->(f m).e (zo+1))
  (zw:x.books=S.books) (zx:x.parts=(gB S H j ze).parts) (zy:x.groups=S.groups) (zz:x.senders=zh.map bf.b) (zo:zh.map (·.c)=s.a.map (·.c))
  (zu:∀ze∈zh,∀k,ze.a=O k->(∃zv∈s.a,zv.a=O k)\/(k.j=ae/\k.e=0/\lV zi s k/\k.b.length<=zg+1)) (zt:(zh.map b_).sum<=zg+1):bI zi {s.g H j zf with a:=zh} x (zg+1):=by
 have zg:=qh (s:=s) zm zn zj;have zh:b2 ((s.g H j zf).b.map bq.b)=b2 (s.b.map bq.b):=by rw[zg,oF]
 refine t.n zq k t.a ?_ zh ?_ zz zo (λze zk zv zl=>?_) zt (zy.trans t.e) I (λk zi=>(t.d k zi).d zh);show dp ((s.g H j zf).b.map bq.b) x;rw[zg];exact(t.b.g (b:=b.b) (m:=g.a) (by rw[bw,zm];rfl) (by show(b.a.map aN.a)[j]?=_;rw[bw,zn];rfl) zk zs zr).a zw zx;show dy ((s.g H j zf).b.map bq.b) _;rw[zg];exact t.c.b (by omega) λm zj=>(zp m _ zj).c (by omega);rcases zu ze zk zv zl with x|⟨g,b,k,t⟩;exact .inl x;exact .inr ⟨g,b,k.d aM.c zh I,t⟩
def bI.D{g:a2}{S:bt}(t:bI s g S H)(i k)(f):nw S i k f=match eQ g.a i with
  |none=>dS S (-5)
  |some x=>if(x.f:Int)=k then f x.b else dS S (-8):=by
 unfold nw;rw[wl t.h];cases eQ g.a i with|none=>rfl|some x=>rfl
def bI.z{s:a2}{S:bt}{k:Nat}(H:bI g s S k){x:bf}{t:b3}(zf:x∈s.a)(ze:x.a=O t):t.a.length<=k:=by
 have g:b_ x<=(s.a.map b_).sum:=B4 (bm.mpr ⟨x,zf,I⟩);have g:b_ x=t.a.length:=by unfold b_;rw[ze]
 have:=H.i;omega
def Dl{b:bf}(d:b.a=c):({b with a:=c}:bf)=b:=by rw[<-d]
def Cg(b:b3)(c):(b.f c).a.length<=b.a.length+1:=by unfold b3.f;split;omega;show(b.a++[c]).length<=_;rw[bH];simp
def N8{b:a2}{e:b3}(c:lV a b e)(i:fO a [d])(h:fk (b.b.map bq.b) d.2):lV a b (e.f d):=by unfold b3.f;split;exact c;refine⟨λg b=>?_,λf a=>?_,c.c⟩;rcases cU.mp b with b|b;exact c.b g b;exact i g b;have a:f∈(e.a++[d]).map (·.2):=a;rw[a6]at a;rcases cU.mp a with a|a;exact c.a f a;simp at a;rw[a];exact h
def N9{a:b3}(b:Y×Nat×Nat)(e:a.e=0):(a.f b).d=if a.d.parts.contains b.2=ab then a.d else{a.d with parts:=a.d.parts++[b.2]}:=by
 have c:a.d.parts=a.c:=by show a.c.drop a.e=_;rw[e];rfl
 rw[c];unfold b3.f;by_cases c:(a.a.map (·.2)).contains b.2=ab;rw[ay c,ay c];rw[aw c,aw c];unfold b3.d;show(⟨((a.a++[b]).map (·.2)).drop a.e,_,_⟩:gy)=⟨a.c++[b.2],_,_⟩;rw[e,a6]
 rfl
def vV(t:b3)(a):(t.f a).j=t.j/\(t.f a).e=t.e/\(t.f a).b=t.b:=by unfold b3.f;split<;>exact⟨I,I,I⟩
def Ds{s:a2}{a j:Nat}{b:bq}(d:s.b[a]?=O b)(e:b.a[j]?=O c):fk (s.b.map bq.b) (a,j):=by refine⟨b.a.length,?_,(bu.mp e).1⟩;unfold b2;rw[bz,bw,d];show O (b.a.map aN.a).length=_;rw[an]
section
def RS:aB:=λj h i g=>∃c b e a d f v,eP (.send c b e a d f v) (c::b::e::a::d::f::(v.length:Int)::v) j h i g
def OU[zx:aJ]:cL 7 153 RS:=by
 refine cT 12 [] λzg zab Z6 Z8 N=>?_;obtain⟨Q,L,C,zk,w,x,v,t,S,zC,r,zG,rfl,z4,i,zB,ZC,Z5,F,zt,G⟩:=N;refine⟨_,aj (aA 2 (a' bO (W 1))) (aj (aA 3 (a' bO (W 1))) (aj (aA 4 (a' bO (W 1))) (aj (aA 5 (a' bO (W 1))) (aj (aA 6 (a' bO (W 1))) (aj (aA 7 (a' bO (W 1))) (aj (aA 8 (a' vY (W 1))) (aj (aA 9 (bT sv (W 0) (c7 2 3))) (aj (aA 10 (bT lZ (W 0) (c2 5))) (aj (a9 (aP hS (n0 (W 4) a5 (di zx.zN)))) (aj (a9 (aP v5 (c2 6))) (aj (a9 (aP v6 (c2 7))) (aj (a9 (aP Cz (c2 8))) (aj (aA 11 (bT Ci (W 10) (c2 6))) (aj (aA 12 (bT Cq (c8 (c0 10) (W 11)) (c2 2))) (aj (bD (c4 kD (W 4) (ey mx (c5 (W 12)) a5)) (au (f0 zx.zk)) bQ) (aj (bD (c4 h8 (W 4) (c5 (W 12))) (c1 (bC (n0 (W 11) (c8 (W 12) (ey q7 (W 4) a5)) a5))) bQ) (aj (aA 13 (aP CJ (Z (W 0) (Z (W 9) (n2 (js (c7 5 11)) (W 6) (W 7) (W 8)))))) (c1 (bC (n0 (W 11) (W 13) a5)))))))))))))))))))),ct z4 ZC λZV ZM z5 ZD=>?_⟩;refine ct (r:=r.a 1) z5 ZD λZW ZN z8 ZE=>ct (r:=r.a 2) z8 ZE λZX ZO z9 ZF=>ct (r:=r.a 3) z9 ZF λZY ZP Za ZG=>ct (r:=r.a 4) Za ZG λZZ ZQ Zb ZH=>ct (r:=r.a 5) Zb ZH λZ0 ZR zI zZ=>?_;obtain⟨ZI,ZJ⟩:=gd.c (r:=r.a 6) zZ;refine⟨gm (r:=r.a 6) zI,I,r.a 6,v.length,_,I,zI,gd.a zZ,ZI,λT zi ZS zJ=>?_⟩;rw[ZJ,vE r 6]at zJ;have J:aM zg zi:=((((((ZM.a ZN).a ZO).a ZP).a ZQ).a ZR).a ZS);change ft _ _ _ [O (.b t.e),O (.b r.d),O (.a Q),O (.a L),O (.a C),O (.a zk),O (.a w),O (.a x),O (.b T),aa,aa,aa,aa,aa] zi;have zm:am zi ([(T,.a (bg v))]::eh.b (r.a (v.length+7))::t.d::zG):=zJ;have K:=zm.g 0 I;have ze:=a2.f (zm.d 2 I);have p:bi S (.send Q L C zk w x v)=nw S Q L _:=I;rw[i.D]at p;refine⟨ze.a,I,t,Q,L,I,ze,i.a,λe zq zA=>?_,λe zq zA=>G (-8) _ (by rw[p,zq];exact aw zA) J K,λu=>G (-5) _ (by rw[p,u]) J K⟩;rw[zq]at p;have p:=p.trans (ay zA);obtain⟨ZA,zs,R⟩:=nc zq;have zr:=a1 R;refine⟨ze.a,I,t,zk,I,ze,λE zN=>?_,λu=>G (-2) _ (by rw[p];show(if _ then _ else _)=_;rw[i.l,u];rfl) J K⟩;obtain⟨Zp,z⟩:=jE zN;obtain⟨zY,Z9⟩:=i.u z;have Zz:zi T=O (.a (bg v)):=zm.e 0 I;have p:=p.trans (aw (by rw[i.l,zN];exactλh=>nomatch h));have zl:¬((1<=C/\C<=1000000)/\(0<=w/\w<=99)/\(0<=x/\x<=1000000000)/\m7 v)->bi S (.send Q L C zk w x v)=dS S (-1):=by
  intro N;rw[p];by_cases U:w=-1;have zc:hX w=O aa:=by unfold hX;rw[ay U]
  rw[zc];by_cases X:cW w 0 99=ab;have zc:hX w=O (O w.toNat):=by unfold hX;rw[aw U,ay X]
  rw[zc];dsimp only;rw[aw];intro h;obtain⟨ZT,zv⟩:=(fe _ _).mp h;obtain⟨zv,ZU⟩:=(fe _ _).mp zv;rw[nu]at zv;simp[cW]at ZT X;exact N ⟨by omega,by omega,cj zv,(qa v).mp ZU⟩;have zc:hX w=aa:=by unfold hX;rw[aw U,aw X]
  rw[zc]
 refine⟨C,1,1000000,I,λu=>?_,λu=>G (-1) _ (zl λh=>u h.1) J K⟩;refine⟨w,I,λZs=>?_,λu=>G (-1) _ (zl λh=>u h.2.1) J K⟩;refine⟨x,I,λZx=>?_,λu=>G (-1) _ (zl λh=>u h.2.2.1) J K⟩;refine⟨T,v,I,Zz,λzU=>?_,λu=>G (-1) _ (zl λh=>u h.2.2.2) J K⟩;obtain⟨m,rfl⟩:=fQ Zs.1;obtain⟨l,rfl⟩:=fQ (show(0:Int)<=C by omega);obtain⟨y,rfl⟩:=fQ Zx.1;obtain⟨g,rfl⟩:=fQ Zp;rw[eX]at z;have zO:=y6 m zY;generalize Zr:m%E.a.length=j at zO;have B:E.a[j]?=O E.a[j]:=eM zO;generalize E.a[j]=k at B;obtain⟨Zl,_⟩:=CN i z (key:=O m) (j:=j) Zr.symm;obtain⟨zu,ZK,ZL,_⟩:=i.o z B;have Zu:hX (m:Int)=O (O m):=by
  unfold hX;rw[aw (by omega),ay (by simp[cW];omega)]
  rfl
 have Zq:(cW (l:Int) 1 1000000&&(cW (y:Int) 0 sM&&qq v))=ab:=by rw[nu,(qa v).mpr zU];simp[cW];omega
 rw[Zu]at p;dsimp only at p;rw[ay Zq]at p;dsimp only at p;have zP:sO (bP S g j) e.c=(cZ k.a.b e.c).length:=zu.w e.c;have za:=ze.d E (a1 z);have zM:=za.c k (a1 B);refine⟨za.a,I,E,(m:Int),I,za,zY,by omega,λ_=>?_,λh=>by omega⟩;have Zm:(m:Int)%(E.a.length:Int)=((j:Nat):Int):=by omega
 rw[Zm];refine⟨za.a,zx.n.a,I,_,_,_,_,I,I,dU.b za.d,dJ (v:=k.i) (by rw[bw,B];rfl),zM.b,I,k,e.c,by rw[ZA];rfl,zM,λzaa zj zW zo=>?_⟩;have Zi:((a4 (cZ k.a.b e.c)).length:Int)=((cZ k.a.b e.c).length:Int):=by rw[an]
 generalize zL:cZ k.a.b e.c=D at zo zP Zi;have A:bi S (.send Q L (l:Int) (g:Int) (m:Int) (y:Int) v)=if l<=D.length then(match wC (bP S g j) e.c l with|some o=>(S,{value:=(j:Int),more:=cd [o,1]})|none=>dS S (-6))
   else if D.length+1<l then dS S (-6)
   else
    (match e.b.deal with|none=>gB S g j (nx (fn S g) (bP S g j) {place:=0,time:=y,key:=O m,value:=O v,sender:=e.c,seq:=l,kind:=if e.b.deal.isSome=ab then 1 else 0})|some zn=>dt (gB S g j (nx (fn S g) (bP S g j) {place:=0,time:=y,key:=O m,value:=O v,sender:=e.c,seq:=l,kind:=if e.b.deal.isSome=ab then 1 else 0})) {e.b with deal:=O (if zn.parts.contains (g,j)=ab then zn else{zn with parts:=zn.parts++[(g,j)]})},
     {value:=(j:Int),more:=cd [(bP S g j).next,0]}):=by
  rw[p,<-zP];dsimp only;simp only[eX,Zl]
  rfl
 have zz:am zj ([(T,.a (bg v))]::eh.b (r.a (v.length+7))::t.d::zG):=zm.o zW;have zD:aM zg zj:=J.a zW.c;refine⟨_,_,I,.inl (dU.b zo),_,_,I,I,_,_,I,I,bG (λzb=>?_) (λzb=>?_)⟩;have zb:=cj zb;refine G (-6) _ ?_ zD (zz.g 0 I);rw[A,aw (by omega),ay (by omega)];have zb:=dH zb;refine⟨_,_,I,.inl (dU.b zo),_,_,I,I,bG (λzd=>?_) (λzd=>?_)⟩;have zd:=cj zd;have Zt:l -1<D.length:=by omega
 have zR:D[l -1]?=O D[l -1]:=eM Zt;have Zj:((l:Int) -1)=((l -1:Nat):Int):=by omega
 refine⟨_,_,I,I,_,_,_,_,I,I,dU.b zo,(by rw[Zj];exact dJ (v:=.a (D[l -1]:Nat)) (by rw[bw,zR];rfl)),Vg,λH P=>?_⟩;have Zv:wC (bP S g j) e.c l=O D[l -1]:=by rw[zu.J e.c l (by omega),zL];exact zR
 rw[ay (by omega),Zv]at A;rw[A]at zt;exact zt H t _ I (i.p zB (zD.a (aW.a P).c)) ((zz.g 0 I).q (aW.a P) P az);have zd:=dH zd;have Zw:l=D.length+1:=by omega
 refine⟨n1,λs Zy=>?_⟩;have zX:=aW.a (o:=.d [.a (g:Int),.a (j:Int)]) Zy;have Zc:=zz.o zX;have zV:fO (al zj s (.d [.a (g:Int),.a (j:Int)])) [(s,g,j)]:=λh F=>by rw[dZ.mp F];exact az
 have z1:aM zg (al zj s (.d [.a (g:Int),.a (j:Int)])):=zD.a zX.c;refine⟨t,zs,e,(s,g,j),E,k,O m,y,T,v,_,I,(Zc.a 2 I).a 1 I|>.a 1 I,R,λn zT=>?_,zV,z,B,Fit.a (i.G z B) (by omega),λzw zh Z4 zQ z0 z6=>?_⟩;obtain⟨_,_,Zd,_⟩:=i.f e zr n zT;exact⟨Zd.b.a z1,by have:=i.z zr zT;have:=i.r;omega⟩;refine⟨Vg,λH P=>?_⟩;rw[aw (by omega),aw (by omega)]at A;have Zn:({place:=0,time:=y,key:=O m,value:=O v,sender:=e.c,seq:=l,kind:=if e.b.deal.isSome=ab then 1 else 0}:aG)=hV e k (O m) y v:=by unfold hV;rw[zL,<-Zw];congr 1;show(if(e.a.map b3.d).isSome=ab then 1 else 0)=_;rw[lE]
 rw[Zn]at A;have ZB:m8 k.a (hV e k (O m) y v):=by have Z7:=i.A e zr;refine⟨⟨?_,λh=>?_,λzC h=>?_,λzF h=>?_,λh=>by cases h⟩,λ_=>I,⟨λ_ h=>?_,λ_=>JU _⟩⟩;show(if e.a.isSome=ab then 1 else 0)<=3;split<;>omega;have h:2<=(if e.a.isSome=ab then 1 else 0):=h;split at h<;>omega;have:=bA h;omega;obtain rfl:=bA h;exact zU.1;have h:e.c=0\/(if e.a.isSome=ab then 1 else 0)=2\/(if e.a.isSome=ab then 1 else 0)=3:=h;rcases h with h|h|h;omega;split at h<;>omega;split at h<;>omega
 have zS:=zu.o ZK ZL ZB;have zE:aM zg (al zh H (.a [.a (j:Int),.a (k.f:Int),.a 0])):=(z1.a z0).a (aW.a P).c;have Zk:(bP S g j).next=k.f:=zu.c;have zK:∀zy,bi S (.send Q L (l:Int) (g:Int) (m:Int) (y:Int) v)=(zy,{value:=(j:Int),more:=cd [(bP S g j).next,0]})->bI (al zh H (.a [.a (j:Int),.a (k.f:Int),.a 0])) {t.g g j zw with a:=t.a.set zs {e with a:=e.a.map λx=>x.f (s,g,j)}} zy (zC+1)->(n3 kq (f1 (aI 153)++[]) (aI 153) 6 12 RS).a (.b H) (al zh H (.a [.a (j:Int),.a (k.f:Int),.a 0])):=by intro zy Zg Zo;rw[Zg]at zt;refine zt H ({t.g g j zw with a:=t.a.set zs {e with a:=e.a.map λx=>x.f (s,g,j)}}:a2) _ I Zo ?_;have z7:=z6.f P (.a [.a (j:Int),.a (k.f:Int),.a 0]);unfold ci;rw[Zk];exact(z7.a 2 I).a 1 I
 cases M:e.a with
 |none=>
  rw[show e.b.deal=aa by show e.a.map b3.d=_;rw[M];rfl]at A;refine zK _ A ?_;have Zf:({e with a:=e.a.map λx=>x.f (s,g,j)}:bf)=e:=by rw[M];exact Dl M
  rw[Zf,oJ R];exact i.X zB zE z B (f:=λzf=>zf.h (hV e k (O m) y v)) zQ zS (jb _ _).1 (jb _ _).2 (λzf C N=>N.h _) I I I i.h I (λh F zF zp=>.inl ⟨h,F,zp⟩) (eZ i.i)
 |some n=>
  obtain⟨z2,zH,z3,Z1⟩:=i.f e zr n M;rw[show e.b.deal=O n.d by show e.a.map b3.d=_;rw[M];rfl]at A;refine zK _ A ?_;rw[M];obtain⟨U,X,Ze⟩:=vV n (s,g,j);have Zh:({e.b with deal:=O (if n.d.parts.contains (g,j)=ab then n.d else{n.d with parts:=n.d.parts++[(g,j)]})}:gf)=bf.b {e with a:=O (n.f (s,g,j))}:=by show(⟨e.c,e.f,_⟩:gf)=⟨e.c,e.f,O (n.f (s,g,j)).d⟩;rw[N9 _ zH]
  refine wI (cb (λh=>bI (al zh H (.a [.a (j:Int),.a (k.f:Int),.a 0])) ({t.g g j zw with a:=t.a.set zs {e with a:=O (n.f (s,g,j))}}:a2) (dt (gB S g j (nx (fn S g) (bP S g j) (hV e k (O m) y v))) h) (zC+1)) Zh) (i.X zB zE z B (f:=λzf=>zf.h (hV e k (O m) y v)) zQ zS (jb _ _).1 (jb _ _).2 (λzf C N=>N.h _) I I I (jf (x':={e with a:=O (n.f (s,g,j))}) (S:=gB S g j _) i.h i.j R I) (ko R I) (λh F zF zp=>?_) ?_);rcases iT F with F|rfl;exact .inl ⟨h,F,zp⟩;obtain rfl:n.f (s,g,j)=zF:=bA zp;refine .inr ⟨U.trans z2,X.trans zH,N8 (z3.d zE I I) (zV.a (z0.a (aW.a P).c)) (Ds z B),by rw[Ze];omega⟩;have Z2:=nt (x':={e with a:=O (n.f (s,g,j))}) R;have Z3:b_ {e with a:=O (n.f (s,g,j))}<=b_ e+1:=by
   have:b_ e=n.a.length:=by unfold b_;rw[M]
   rw[this];exact Cg n _
  have:=i.i;omega
end
def bI.N{s:a2}{S U:bt}{k:Nat}(g:bI zh s S k)(zn:k+1<=900)(zq:aM zh zi){i:Nat}{x x':bf}{t:b3}{H:V bq}(zg:s.a[i]?=O x)(zj:x.a=O t)(zf:H.map bq.b=fP (s.b.map bq.b) x.c ze t.c)(zp:ze=2\/ze=3)(zo:x'.c=x.c)(zk:x'.a=aa)
  (zr:U.books=S.books) (zs:U.parts=(t.c.foldl (λs zh=>hY s x.c ze zh) S).parts) (zt:U.groups=S.groups) (zu:U.senders=(s.a.set i x').map bf.b):bI zi {s with b:=H,a:=s.a.set i x'} U (k+1):=by
 have zl:=a1 zg;obtain⟨ze,zh,zm,zi⟩:=g.f x zl t zj;have zi:b2 (H.map bq.b)=b2 (s.b.map bq.b):=by rw[zf,oE]
 refine g.n zn zq g.a ?_ zi ?_ zu (ko zg zo) (λzv zh zw ze=>?_) ?_ (zt.trans g.e) I (λzn zo=>(g.d zn zo).d zi);show dp (H.map bq.b) U;rw[zf];exact(g.b.h zm.a zp).a (zr.trans (jK _ _ _ _).1.symm) zs;show dy (H.map bq.b) _;rw[zf];refine(nd g.c).a ?_;have:=g.z zl zj;rw[an];omega;rcases iT zh with zh|rfl;exact .inl ⟨zv,zh,ze⟩;rw[zk]at ze;cases ze;have H:=nt (x':=x') zg;have H:b_ x'=0:=by unfold b_;rw[zk]
 have:=g.i;show((s.a.set i x').map b_).sum<=_;omega
def oH{S:bt}{x:bf}{t:b3}(a:x.a=O t)(b:t.e=0):gz S x.b=dt (t.c.foldl (λs c=>hY s x.c 3 c) S) x.d.b:=by
 unfold gz;have:x.b.deal=O t.d:=by show x.a.map b3.d=_;rw[a];rfl
 rw[this];show dt ((t.c.drop t.e).foldl _ S) _=_;rw[b]
 rfl
def NB{c:V bq}{Ps:V (V d3)}(f:Ps.length=c.length)(g:∀(e:Nat) a b,c[e]?=O a->Ps[e]?=O b->hj a=(f4 (b.map λd=>d.next -d.disk):Int)):
  (c.map hj).sum=(f4 (Ps.flatMap λh=>h.map λd=>d.next -d.disk):Int):=by
 induction c generalizing Ps with
 |nil=>
  cases Ps with|nil=>rfl|cons _ _=>cases f
 |cons a c d=>
  cases Ps with
  |nil=>cases f
  |cons b Ps=>have c:=g 0 a b I I;have d:=d (Ps:=Ps) (by simpa using f) (λe a b c h=>g (e+1) a b c h);rw[b1,ik,d,c,ez,Dj];omega
def C5{b c:V a_}{S:bt}(d:S.groups=c.map a_.c)(e:b.map a_.i=c.map λa=>a.i.a):(S.groups.map λa=>{a with reading:=a.places})=b.map a_.c:=by
 have:b.map a_.c=(b.map a_.i).map m6.h:=by rw[bz];rfl
 rw[this,e,d,bz,bz]
 rfl
def C7{c b:V a_}(d:c.map a_.i=b.map λa=>a.i.a):c.map gR=b.map gR:=by
 have b:∀l:V a_,l.map gR=(l.map a_.i).map λa=>(a.g,a.b.length):=λl=>by rw[bz];rfl
 rw[b,d,bz]
 rfl
def C6{b d:V a_}(e:b.map a_.i=d.map λa=>a.i.a)(f:∀a∈d,i3 c a.i):∀a∈b,i3 c a.i:=λa c=>by have:a.i∈b.map a_.i:=bm.mpr ⟨a,c,I⟩;rw[e]at this;obtain⟨c,d,b⟩:=bm.mp this;have a:=f c d;rw[<-b];exact⟨a.b,a.a,a.a,a.c,a.e⟩
def bI.R{s:a2}{S:bt}(g:bI zh s S zg)(zj:zg+1<=900)(zo:aM zh zi){k:V bq}{gs:V a_}(ze:k.map bq.b=gw s.a (gS (s.b.map bq.b)))(H:gs.map a_.i=s.c.map λzf=>zf.i.a):bI zi {s with b:=k,a:=s.a.map bf.d,c:=gs} (jU S) (zg+1):=by
 obtain⟨zk,zl,zm,zg⟩:=CU g.b g.h g.j (λx zg t zi zn zh=>(g.f x zg t zi).2.2.1.a zn zh);have zh:b2 (k.map bq.b)=b2 (s.b.map bq.b):=by rw[ze,vt,r8]
 refine g.n zj zo g.a ?_ zh ?_ zl (BL _) (λx zg zn zi=>?_) ?_ ?_ (C7 H) (C6 H λzf zj=>(g.d zf zj).d zh);show dp (k.map bq.b) _;rw[ze];exact zk;show dy (k.map bq.b) _;rw[ze];refine(Bp (vA g.c)).a ?_;have:=g.i;omega;rw[BM x zg]at zi;cases zi;show((s.a.map bf.d).map b_).sum<=_;rw[BK];omega;rw[zm];exact C5 g.e H
section
def Ry:aB:=λf d e c=>∃b a,eP (.begin_ b a) [b,a] f d e c
def Ow[d:aJ]:cL 6 154 Ry:=by
 refine cT 3 [] λt f d e j=>?_;obtain⟨k,f,i,o,p,r,g,rfl,e,d,B,m,n,h,x,s⟩:=j;refine⟨_,aj (aA 2 (a' bO (W 1))) (aj (aA 3 (a' bO (W 1))) (aj (aA 4 (bT sv (W 0) (c7 2 3))) (aj (a9 (a' Cu (W 4))) (c1 (bC (c3 a5)))))),ct e m λq p j n=>?_⟩;refine ct (r:=r.a 1) j n λe q m u=>?_;have n:aM t e:=(p.a q);change ft _ _ _ [O (.b i.e),O (.b r.d),O (.a k),O (.a f),aa] e;have j:am e (eh.b (r.a 2)::i.d::g):=m;have q:=a2.f (j.d 1 I);have e:bi o (.begin_ k f)=nw o k f _:=I;rw[d.D]at e;refine⟨q.a,I,i,k,f,I,q,d.a,λg m p=>?_,λg m p=>s (-8) _ (by rw[e,m];exact aw p) n j,λf=>s (-5) _ (by rw[e,f]) n j⟩;rw[m]at e;have e:=e.trans (ay p);obtain⟨f,w,k⟩:=nc m;have p:=a1 k;obtain⟨f,m,D⟩:=a2.q k;have f:=(j.a 1 I).l m;have m:=q.c g p;have u:g.b.deal.isSome=g.a.isSome:=by show(g.a.map b3.d).isSome=_;rw[lE]
 refine⟨m.a,I,g,_,I,f,λC=>s (-7) _ (by rw[e];exact ay (by rw[u];exact C)) n j,λA f z m p q s E y=>?_⟩;have e:=e.trans (aw (by rw[u,A];exactλj=>nomatch j));let x':bf:={g with a:=O f}
 have A:=y.m (D x' I I);refine⟨c9,λy u=>?_⟩;have C:aM t (al z y (.a [.a 0])):=(n.a E).a (aW.a u).c;rw[e]at x;have n:f.d=({parts:=[],places:=[],decided:=ae}:gy):=by
  unfold b3.d;show(⟨(f.a.map (·.2)).drop f.e,f.b.map _,f.j⟩:gy)=_;rw[m,p,q,s]
  rfl
 have e:x'.b={g.b with deal:=O {parts:=[],places:=[],decided:=ae}}:=by
  show(⟨g.c,g.f,O f.d⟩:gf)=_;rw[n]
  rfl
 refine x y {i with a:=i.a.set w x'} _ I ?_ ((A.f u (.a [.a 0])).a 2 I|>.a 1 I);show bI _ _ (dt o _) _;rw[<-e];refine d.n B C d.a (d.b.a I I) I (jI d.c) (jf d.h d.j k I) (ko k I) (λj h g e=>?_) ?_ d.e I d.d;rcases iT h with h|rfl;exact .inl ⟨j,h,e⟩;obtain rfl:f=g:=bA e;refine .inr ⟨q,s,⟨λj h=>?_,λj e=>?_,λn g=>?_⟩,by rw[p];simp⟩;rw[m]at h;cases h;have e:j∈f.a.map (·.2):=e;rw[m]at e;cases e;rw[p]at g;cases g;have e:=nt (x':=x') k;have e:b_ x'=0:=by show f.a.length=0;rw[m];rfl
 have:=d.i;show((i.a.set w x').map b_).sum<=_;omega
def RI:aB:=λf d e c=>∃b a,eP (.giveUp b a) [b,a] f d e c
def OH[w:aJ]:cL 8 157 RI:=by
 refine cT 4 [] λe i d g h=>?_;obtain⟨q,n,l,j,F,r,g,rfl,d,i,D,k,m,p,A,u⟩:=h;refine⟨_,aj (aA 2 (a' bO (W 1))) (aj (aA 3 (a' bO (W 1))) (aj (aA 4 (bT v2 (W 0) (c7 2 3))) (aj (aA 5 (c5 (n4 (c0 4)))) (aj (a9 (aP qb (c7 0 4))) (c1 (bC (c2 5))))))),ct d k λs p h m=>?_⟩;refine ct (r:=r.a 1) h m λd t k s=>?_;have s:aM e d:=(p.a t);change ft _ _ _ [O (.b l.e),O (.b r.d),O (.a q),O (.a n),aa,aa] d;have m:am d (eh.b (r.a 2)::l.d::g):=k;have t:=a2.f (m.d 1 I);have g:bi j (.giveUp q n)=nw j q n _:=I;rw[i.D]at g;refine⟨t.a,I,l,q,n,I,t,i.a,λd e k p h=>?_,λd k p h=>u (-7) _ (by
  rw[g,k];refine(ay p).trans ?_;show(match d.a.map b3.d with|none=>_|some C=>_)=_;rw[h]
  rfl) s m,λd k p=>u (-8) _ (by rw[g,k];exact aw p) s m,λx=>u (-5) _ (by rw[g,x]) s m⟩
 rw[k]at g;have g:=g.trans (ay p);obtain⟨u,z,p⟩:=nc k;have u:=a1 p;obtain⟨B,k,x,y⟩:=i.f d u e h;have y:=t.c d u;have t:=y.b e h;have E:(b6 d).lookup ("transaction":ac)=O (.b e.g):=by show O (iC d.a)=_;rw[h];rfl
 have g:bi j (.giveUp q n)=(gz j d.b,{value:=(e.a.length:Int)}):=by rw[g];show(match d.a.map b3.d with|none=>_|some C=>_)=_;rw[h];show(gz j d.b,({value:=((e.c.drop e.e).length:Int)}:gn))=_;rw[k];show(gz j d.b,({value:=((e.a.map (·.2)).length:Int)}:gn))=_;rw[an]
 refine⟨y.a,w.k.a,E,t.a,w.o.a,I,_,_,I,.inl (dU.b t.c),?_⟩;have n:=i.z u h;have n:=i.r;refine⟨l,z,d,e,1000*F,_,I,m.a 1 I,p,h,x.b.a s,x.a,i.c,by omega,λt u n w q=>?_⟩;refine⟨c9,λu m=>?_⟩;have x:=(s.a w).a (aW.a (o:=.a [.a ((e.a.map cg).length:Nat)]) m).c;rw[g]at A;have g:e.i=3:=by unfold b3.i;rw[B];rfl
 rw[g,k]at n;have g:=((q.g 1 I).f m (.a [.a ((e.a.map cg).length:Nat)])).a 2 I|>.a 1 I;refine A u {l with b:=t,a:=l.a.set z d.d} _ I ?_ ?_;show bI _ _ (gz j d.b) _;rw[oH h k];exact i.N D x p h n (.inr I) (x':=d.d) I I (jK _ _ _ _).1 I (jK _ _ _ _).2.2 (jf (x':=d.d) ((jK _ _ _ _).2.1.trans i.h) i.j p I);have h:ci (gz j d.b,({value:=(e.a.length:Int)}:gn))=[((e.a.map cg).length:Int)]:=by rw[an];rfl
 rw[h];exact g
abbrev RC:aB:=eP .cut []
def OB[h:aJ]:cL 9 96 RC:=by
 refine cT 2 ["book"] λd k g j i=>?_;obtain⟨g,m,s,t,k,rfl,n,d,w,r,l,p,y,q⟩:=i;refine⟨_,aj (aA 2 (bM (qY I) (by rfl) h.J uE (c3 (aS.a (dX I j (bZ (c0 0)) (own:=[("book",3)]) (dn I) (λ_ _ _ _ _=>bE 3) (λ_ _ _ _ _=>f_) (λ_ _ _ _ _=>(a' Ch (W 3)))))))) (aj (a9 (aP v9 (c2 0))) (c1 (bC (c2 2)))),?_⟩;have j:=a2.f (n.d 1 I);have i:g.b.length<=4:=by have:=d.b.e;rw[an]at this;exact this
 refine⟨j.a,h.l.a,I,_,I,⟨_,dU.b j.f⟩,λk i=>?_⟩;refine eR g.b bq.d (λh=>ah.a (hj h)) (λ_=>ab) i j.f (by rw[bn];omega) ?_ (λi l k=>?_);intro h i p t r u x q;obtain⟨x,r⟩:=hG.mp i;have p:=(j.d h i).e t;exact⟨I,p.a,I,h,I,p,(by have:=(d.u r).2;omega),λp j=>q I _ j⟩;rw[nb]at k;have j:(g.b.map λh=>ah.a (hj h))=(g.b.map hj).map ah.a:=by rw[bz];rfl
 rw[j]at k;refine⟨_,_,I,dU.b k,?_⟩;have j:=d.F;have j:=d.r;have j:=d.i;refine⟨g,1000*s,_,I,(n.o l).a 1 I,d.a,by omega,λq k p j=>⟨(d.f q k p j).2.2.1.b.a l.c,(d.f q k p j).2.2.1.a⟩,d.c,by omega,λr u A t s B z n=>?_⟩;refine⟨c9,λj k=>?_⟩;have A:=(l.c.a z).a (aW.a (o:=.a [.a ((g.b.map hj).sum)]) k).c;have p:((g.b.map hj).sum)=(f4 (m.parts.flatMap λj=>j.map λl=>l.next -l.disk):Int):=by refine NB (by have:=d.b.d;rw[an]at this;exact this) λx h q i l=>?_;obtain⟨z,B,x,q,h⟩:=d.q i;rw[q]at l;obtain rfl:=bA l;exact h.o
 refine y j {g with b:=r,a:=g.a.map bf.d,c:=u} _ I (d.R w A t s) ?_;have d:ci (bi m .cut)=[(g.b.map hj).sum]:=by rw[p];rfl
 rw[d];exact((n.g 1 I).f k (.a [.a ((g.b.map hj).sum)])).a 2 I|>.a 1 I
end
instance(a:a_) (c b:Int):Decidable (k_ a c b):=by unfold k_;infer_instance
def bI.L{s:a2}(zf:bI g s k zg)(S x H t:Int)(ze):qr k S x H t ze=match dE s.c S with
  |none=>dS k (-4)
  |some g=>if(g.g:Int)=H then(if k_ g t x then ze g.c t.toNat else dS k (-9))else dS k (-8):=by
 unfold qr sR;rw[se zf.e];cases dE s.c S with
 |none=>rfl
 |some g=>
  show(if(g.g:Int)≠H then _ else if t<0\/x<0\/(g.h[t.toNat]?).join≠O x.toNat then _ else _)=_;by_cases zf:(g.g:Int)=H;rw[aw (λk=>k zf)];show _=if(g.g:Int)=H then _ else _;rw[ay zf];by_cases S:k_ g t x;obtain⟨zg,zh,ze⟩:=S;rw[aw,ay ⟨zg,zh,ze⟩];rintro(k|k|k);omega;omega;rw[ze]at k;exact k I;rw[aw S,ay];refine kv λk=>S ?_;have S:¬t<0:=λze=>k (.inl ze);have S:¬x<0:=λze=>k (.inr (.inl ze));have S:(g.h[t.toNat]?).join=O x.toNat:=kv λze=>k (.inr (.inr ze));refine⟨by omega,by omega,?_⟩;cases k:g.h[t.toNat]? with
  |none=>rw[k]at S;cases S
  |some o=>rw[k]at S;have S:o=O x.toNat:=S;rw[S]
  rw[ay zf];show _=if(g.g:Int)=H then _ else _;rw[aw zf]
def bI.J{s:a2}(S:bI H s ze zh){g:a_}{k zi:Int}(zf:g∈s.c)(zg:k_ g k zi):∃t x,s.b[g.k]?=O t/\t.a[k.toNat]?=O x/\k.toNat<g.a.length/\k.toNat<g.d.length:=by obtain⟨H,zh,ze⟩:=zg;have H:=S.d g zf;have zf:=(bu.mp ze).1;have ze:=H.b;have S:g.i.d.length=g.h.length:=I;have S:g.i.b.length=g.a.length:=I;have S:g.i.f.length=g.d.length:=I;obtain⟨t,x,S,zg⟩:=wv (l:=s.b) (q:=(g.k,k.toNat)) ⟨_,ze,zf⟩;have:=H.a;have:=H.f;exact⟨t,x,S,zg,by omega,by omega⟩
def Bh{x:bf}{t:b3}(a:x.a=O t):x.b.deal=O t.d:=by show x.a.map b3.d=_;rw[a];rfl
def nr{a:b3}(b:a.e=0):a.d.parts=a.c:=by show a.c.drop a.e=_;rw[b];rfl
def bI.P{s:a2}{S:bt}(k:bI zg s S g)(zs:g+1<=900)(zt:aM zg zh){i:Nat}{x:bf}{t:b3}{H:V bq}(zf:s.a[i]?=O x)(zj:x.a=O t){j:Nat}(zr:t.a.length<=j)(ze:H.map bq.b=fP (gQ (s.b.map bq.b) t.c) x.c 2 (t.c.drop t.e)):
  bI zh {s with b:=H,a:=s.a.set i x.d,c:=eE s.c t.b} (jS S x.b t.d j) (g+1):=by
 have g:=a1 zf;obtain⟨zg,zi,zl,zh⟩:=k.f x g t zj;have zg:=k.z g zj;rw[zi]at ze;have ze:H.map bq.b=fP (gQ (s.b.map bq.b) t.c) x.c 2 t.c:=ze;have zn:b2 (H.map bq.b)=b2 (s.b.map bq.b):=by rw[ze,oE,m_]
 let zg:bf:={x with a:=O {t with j:=ab}}
 generalize zj:t.c.foldl (λs g=>gB s g.1 g.2 (jT (bP s g.1 g.2))) S=zh;obtain⟨zo,zm,zk⟩:=BD t.c S;rw[zj]at zo zm zk;have zo:dp (gQ (s.b.map bq.b) t.c) zh:=by rw[<-zj];exact k.b.n zl.a
 have zp:=Du t.b zh (zk.trans k.e) k.m t.d I;let zk:bt:={zh with groups:=(eE s.c t.b).map a_.c}
 let C:bt:=dt zk zg.b
 have zq:C.senders=(s.a.set i zg).map bf.b:=jf (S:=zk) (x':=zg) (zm.trans k.h) k.j zf I;have zk:t.d.parts.length<=j:=by rw[nr zi,an];exact zr
 have zm:jS S x.b t.d j=dt (t.c.foldl (λs g=>hY s x.c 2 g) C) x.d.b:=by
  unfold jS;rw[ay zk];have zk:(t.d.parts.foldl (λs g=>gB s g.1 g.2 (jT (bP s g.1 g.2))) S)=zh:=by rw[nr zi];exact zj
  rw[zk,zp];show dt (t.d.parts.foldl (λs g=>hY s x.c 2 g) (dt {zh with groups:=(eE s.c t.b).map a_.c} zg.b)) x.d.b=_;rw[nr zi]
 rw[zm];obtain⟨zh,zm,zp⟩:=jK t.c x.c 2 C;refine k.n zs zt k.a ?_ zn ?_ ?_ (ko zf I) (λzr zh zj zi=>?_) ?_ zp (Ce _ _) (Cd _ λzj zk=>(k.d zj zk).d zn);show dp (H.map bq.b) _;rw[ze];exact(dp.h (S:=C) (zo.a I I) (λg zj=>(zl.a g zj).a (m_ _ _)) (.inl I)).a I I;show dy (H.map bq.b) _;rw[ze];refine(nd (r' k.c)).a ?_;rw[an];omega;have:=jf (S:=t.c.foldl (λs g=>hY s x.c 2 g) C) (x':=x.d) (x:=zg) (i:=i) (zm.trans zq) (by rw[ko (x':=zg) zf I];exact k.j) (by rw[fK (bu.mp zf).1]) I;rw[kb]at this;exact this;rcases iT zh with zh|rfl;exact .inl ⟨zr,zh,zi⟩;cases zi;have g:=nt (x':=x.d) zf;have g:b_ x.d=0:=I;have:=k.i;show((s.a.set i x.d).map b_).sum<=_;omega
def jd(a:bf):Nat:=match a.a with|none=>0|some a=>a.a.length -a.e
def MQ{l:V bf}(d:dy b c):dy (gw l b) (c+(l.map jd).sum):=by
 induction l generalizing b c with
 |nil=>exact d
 |cons e f g=>
  have f:dy (gP b e) (c+jd e):=by
   unfold gP jd;cases e.a with|none=>exact d|some b=>refine(nd d).a ?_;rw[kL,an];exact bp _
  have:=g f;rw[b1,ik,<-uv];exact this
def NJ{l:V bf}{c x':bf}(a:l[b]?=O c):((l.set b x').map jd).sum+jd c=(l.map jd).sum+jd x':=by
 rw[nn a];conv=>rhs;rw[ne a]
 simp only[a6,b1,rx,ik];omega
def NI{l:V bf}(d:∀b∈l,∀a,b.a=O a->a.e=0):(l.map jd).sum=(l.map b_).sum:=by
 congr 1;apply ga;intro b e;unfold jd b_;cases c:b.a with|none=>rfl|some a=>have:=d b e a c;show a.a.length -a.e=a.a.length;omega
def bI.Q{s:a2}{S:bt}(k:bI H s S g)(zx:g+1<=900)(zA:aM H ze){i:Nat}{x:bf}{t:b3}{zg:V bq}{gs:V a_}(zi:s.a[i]?=O x)(zr:x.a=O t){j:Nat}(zf:j<t.a.length)(zh:zg.map bq.b=gw (s.a.set i {x with a:=O (t.l j)}) (gS (fP (gQ (s.b.map bq.b) t.c) x.c 2 ((t.c.take j).drop t.e))))(zo:gs.map a_.i=(eE s.c t.b).map (λzp=>zp.i.a)):
  bI ze {s with b:=zg,a:=s.a.map bf.d,c:=gs} (jS S x.b t.d j) (g+1):=by
 have g:=a1 zi;obtain⟨H,zf,zn,ze⟩:=k.f x g t zr;have H:=k.z g zr;rw[zf]at zh;let H:bf:={x with a:=O (t.l j)}
 have zh:zg.map bq.b=gw (s.a.set i H) (gS (fP (gQ (s.b.map bq.b) t.c) x.c 2 (t.c.take j))):=zh;have zq:b2 (fP (gQ (s.b.map bq.b) t.c) x.c 2 (t.c.take j))=b2 (s.b.map bq.b):=by rw[oE,m_]
 have zt:b2 (zg.map bq.b)=b2 (s.b.map bq.b):=by rw[zh,vt,r8,zq]
 generalize zk:t.c.foldl (λs g=>gB s g.1 g.2 (jT (bP s g.1 g.2))) S=ze;obtain⟨zl,zs,zj⟩:=BD t.c S;rw[zk]at zl zs zj;have zl:dp (gQ (s.b.map bq.b) t.c) ze:=by rw[<-zk];exact k.b.n zn.a
 have zu:=Du t.b ze (zj.trans k.e) k.m t.d I;let zj:bt:={ze with groups:=(eE s.c t.b).map a_.c}
 let C:bt:=(t.c.take j).foldl (λs g=>hY s x.c 2 g) zj
 obtain⟨zm,zy,zz⟩:=jK (t.c.take j) x.c 2 zj;have zv:dp (fP (gQ (s.b.map bq.b) t.c) x.c 2 (t.c.take j)) C:=dp.h (S:=zj) (zl.a I I) (λg zm=>(zn.a g (y0 zm)).a (m_ _ _)) (.inl I);let zl:bt:=dt C H.b
 have zw:zl.senders=(s.a.set i H).map bf.b:=jf (S:=C) (x':=H) (zy.trans (zs.trans k.h)) k.j zi I;have zj:¬t.d.parts.length<=j:=by rw[nr zf,an];omega
 have zs:jS S x.b t.d j=jU zl:=by
  unfold jS;rw[aw zj];have zj:(t.d.parts.foldl (λs g=>gB s g.1 g.2 (jT (bP s g.1 g.2))) S)=ze:=by rw[nr zf];exact zk
  rw[zj,zu,nr zf]
  rfl
 rw[zs];obtain⟨zu,zs,zy,ze⟩:=CU (S:=zl) (zv.a I I) zw (by rw[ko (x':=H) zi I];exact k.j) (λzk zf zj ze g zm=>by rcases iT zf with zf|rfl;exact((k.f zk zf zj ze).2.2.1.a g zm).a zq;obtain rfl:t.l j=zj:=bA ze;exact(zn.a g zm).a zq)
 have g:(s.a.set i H).map bf.d=s.a.map bf.d:=i_ zi I;rw[g]at zs;refine k.n zx zA k.a ?_ zt ?_ zs (BL _) (λzk zf zj ze=>?_) ?_ ?_ ((C7 zo).trans (Ce _ _)) (C6 zo (Cd _ λzp g=>(k.d zp g).d zt));show dp (zg.map bq.b) _;rw[zh];exact zu;show dy (zg.map bq.b) _;rw[zh];refine(MQ (vA (nd (r' k.c)))).a ?_;have g:=NJ (x':=H) zi;have g:=NI (l:=s.a) λzk zf zj ze=>(k.f zk zf zj ze).2.1;have g:jd x=t.a.length:=by unfold jd;rw[zr];show t.a.length -t.e=_;omega
 have g:jd H=t.a.length -j:=I;rw[e7,an];have:=k.i;omega;rw[BM zk zf]at ze;cases ze;show((s.a.map bf.d).map b_).sum<=_;rw[BK];omega;rw[zy];exact C5 (S:=zl) zz zo
section
def RO:aB:=λj h i g=>∃c a b d e f o,eP (.place c a b d e f o) [c,a,b,d,e,f,o] j h i g
def OQ[y:aJ]:cL 7 155 RO:=by
 refine cT 10 [] λzK ZP ZH ZN zZ=>?_;obtain⟨S,G,H,T,X,za,o,k,q,ZM,r,zn,rfl,zQ,h,z6,Zd,ZF,ZK,zD,u⟩:=zZ;refine⟨_,aj (aA 2 (a' bO (W 1))) (aj (aA 3 (a' bO (W 1))) (aj (aA 4 (a' bO (W 1))) (aj (aA 5 (a' bO (W 1))) (aj (aA 6 (a' bO (W 1))) (aj (aA 7 (a' bO (W 1))) (aj (aA 8 (a' bO (W 1))) (aj (aA 9 (n4 (bT v2 (W 0) (c7 2 3)))) (aj (aA 10 (bT su (W 0) (n8 4 5 6 7))) (aj (aA 11 (bT ja (W 0) (c3 (js (c6 (c0 10) (W 7)))))) (aj (a9 (bT Cm (W 10) (n0 (W 7) (W 8) (c0 11)))) (aj (a9 (eY e9 gL ha gG (c0 9) (c3 (hQ y.zn Cp (n8 4 6 7 8))))) (c1 (bC (c3 (c5 (c0 9)))))))))))))))),ct zQ Zd λZy Zp zR Ze=>?_⟩;refine ct (r:=r.a 1) zR Ze λZz Zq zS Zf=>ct (r:=r.a 2) zS Zf λE Zr F Zg=>ct (r:=r.a 3) F Zg λZA Zs zc Zh=>ct (r:=r.a 4) zc Zh λZB Zt zg Zi=>ct (r:=r.a 5) zg Zi λZC Zu zh Zj=>ct (r:=r.a 6) zh Zj λze Zv zi ZO=>?_;have w:aM zK ze:=((((((Zp.a Zq).a Zr).a Zs).a Zt).a Zu).a Zv);change ft _ _ _ [O (.b k.e),O (.b r.d),O (.a S),O (.a G),O (.a H),O (.a T),O (.a X),O (.a za),O (.a o),aa,aa,aa] ze;have n:am ze (eh.b (r.a 7)::k.d::zn):=zi;have i:=a2.f (n.d 1 I);have e:bi q (.place S G H T X za o)=nw q S G _:=I;rw[h.D]at e;refine⟨i.a,I,k,S,G,I,i,h.a,λx t A J j=>?_,λx A J j=>u (-7) _ (by
  rw[e,A];refine(ay J).trans ?_;show(match x.a.map b3.d with|none=>_|some ZD=>_)=_;rw[j]
  rfl) w n,λx A J=>u (-8) _ (by rw[e,A];exact aw J) w n,λN=>u (-5) _ (by rw[e,N]) w n⟩
 rw[A]at e;have e:=e.trans (ay J);obtain⟨ZJ,zC,K⟩:=nc A;have zz:=a1 K;obtain⟨zN,zO,zf,zP⟩:=h.f x zz t j;have zu:=i.c x zz;have z4:=zu.b t j;have z7:(b6 x).lookup ("transaction":ac)=O (.b t.g):=by show O (iC x.a)=_;rw[j];rfl
 rw[Bh j]at e;have e:bi q (.place S G H T X za o)=qr q H T X za _:=e;rw[h.L]at e;refine⟨zu.a,y.k.a,z7,i.a,I,k,H,T,X,za,I,i,λg s z P=>?_,λg s z P=>u (-9) _ (by rw[e,s];exact(ay z).trans (aw P)) w n,λg s z=>u (-8) _ (by rw[e,s];exact aw z) w n,λN=>u (-4) _ (by rw[e,N]) w n⟩;rw[s]at e;have e:=e.trans ((ay z).trans (ay P));obtain⟨zB,ZL,z5⟩:=oG s;have zA:=a1 z5;obtain⟨zT,zm,zd,Q,zk,zv⟩:=h.J zA P;have zr:=i.e g zA;obtain⟨p,rfl⟩:=fQ P.1;rw[eX]at Q zk zv e;have z1:=(i.d zT (a1 zd)).c zm (a1 Q);have z3:=(h.o zd Q).1;have zq:(bP q g.k p).disk=zm.h:=z3.d;refine⟨i.a,I,zr.a,y.h.b,I,n1,λZn Zb=>?_⟩;have B:=aW.a (o:=.d [.a (g.k:Int),.a (p:Int)]) Zb;have z9:=i.h B;refine⟨k,Zn,(g.k:Int),(p:Int),I,z9,az,λzL z0=>?_,λN=>nh zd Q N⟩;obtain rfl:=nf zd Q z0;have zs:=zr.c B;have z2:=z1.a B;have zI:=w.a B.c;have zo:=n.o B;refine⟨zs.a,I,z2.b,y.d.b,I,g,p,o,zL.h,I,zs,zk,zv,λR=>?_,λR=>u (-1) _ (by rw[e];refine ay ?_;refine kv λf=>R ?_;have Zw:=λzb=>f (.inl zb);have Zx:=λzb=>f (.inr zb);unfold qf;rw[<-zq];exact⟨qN.mp Zw,qN.mp Zx⟩) zI zo⟩
 have e:=e.trans (aw (by rintro(f|f);exact a7 R.1 (qM.mpr f);have zj:=R.2;rw[<-zq]at zj;exact a7 zj (qM.mpr f)))
 have z8:0<=o:=by have:=R.1;omega
 obtain⟨o',rfl⟩:=fQ z8;have zt:=z4.d B;refine⟨zt.a,y.o.b,I,.inl ⟨I,_,dU.b zt.b⟩,λf zp zH zF zG=>?_⟩;obtain⟨zM,Zk,Zl⟩:=a2.q K;have zU:=((zo.a 1 I).l Zk).l (bf.j j);have zV:=(zU.i (L:=t.m)).t (C:=kk) zH zF zG;refine⟨f,zp,g.b,g.g,p,o',_,by rw[zB,z];rfl,zV,λE Zm F=>⟨I,?_⟩⟩;let U:fA:=⟨f,zp,g.b,g.g,p,o'⟩
 have zx:E t.k=O (.a (t.b.map fA.d)):=F.e 3 I;have ZI:E t.g=O (.c e0 t.n (f3 t)):=F.b 1 I;have ZG:=h.r;refine⟨_,_,_,I,I,zx,(by rw[an,bn];omega),?_⟩;let D:b3:={t with b:=t.b++[U]}
 let x':bf:={x with a:=O D}
 have zc:=F.p 3 I (.a (t.b.map fA.d++[.b f]));have zg:=am.w zc 3 I;have zh:am (al E t.k (.a (t.b.map fA.d++[.b f]))) (D.m++(a0 x.e dD x.g (b6 x)::zM::eh.b (r.a 7)::zn)):=by show am _ ([a0 t.g e0 t.n (f3 D),[(t.p,.a (t.a.map cg))],[(t.k,.a ((t.b++[U]).map fA.d))],(t.b++[U]).flatMap (fA.f)]++_);rw[a6,i7];exact zg
 have zX:b6 x'=b6 x:=by
  unfold b6;show[_,_,(("transaction":ac),ah.b t.g)]=[_,_,(("transaction":ac),iC x.a)];rw[j]
  rfl
 have zi:=((am.h (L:=D.m) zh).m (by have:=bf.j (x:=x') (t:=D) I;rw[zX]at this;exact this)).m (Zl x' I I);have Za:al E t.k (.a (t.b.map fA.d++[.b f])) t.g=O (.c e0 t.n (f3 t)):=zc.b 1 I;refine⟨Za,y.o.b,I,_,_,I,.inl (dU.b az),c9,λzE zw=>?_⟩;have zJ:=((zI.a ((gU (C:=kk) zH zF zG).c.a Zm)).b (o':=.a (t.b.map fA.d++[.b f])) zx iz).a (aW.a (o:=.a [.a ((t.b.map fA.d++[ah.b f]).length:Nat)]) zw).c;have zY:x'.b={x.b with deal:=O {t.d with places:=t.d.places++[(g.c.id,g.c.gen,p,(o':Int).toNat)]}}:=by
  show(⟨x.c,x.f,O ⟨t.c.drop t.e,(t.b++[U]).map _,t.j⟩⟩:gf)=⟨x.c,x.f,O ⟨t.c.drop t.e,t.b.map _++[_],t.j⟩⟩;rw[a6]
  rfl
 rw[e]at zD;refine zD zE {k with a:=k.a.set zC x'} _ I ?_ ?_;refine Eq.mp (cb (λf=>bI _ _ (dt q f) _) zY) (h.n z6 zJ h.a (h.b.a I I) I (jI h.c) (jf h.h h.j K I) (ko K I) (λzb zl Zo zy=>?_) ?_ h.e I h.d);rcases iT zl with zl|rfl;exact .inl ⟨zb,zl,zy⟩;obtain rfl:D=Zo:=bA zy;refine .inr ⟨zN,zO,⟨zf.b.a zJ,zf.a,λZc M=>?_⟩,?_⟩;rcases cU.mp M with M|M;exact zf.c Zc M;rw[dZ.mp M];exact⟨g,by show dE k.c (g.b:Int)=_;rw[zB];exact s,zk⟩;show(t.b++[U]).length<=_;rw[bH];simp;exact zP;have ZE:=nt (x':=x') K;have zj:b_ x'=b_ x:=by unfold b_;rw[j]
 have:=h.i;show((k.a.set zC x').map b_).sum<=_;omega;have zW:ci (dt q {x.b with deal:=O {t.d with places:=t.d.places++[(g.c.id,g.c.gen,p,(o':Int).toNat)]}},({value:=(t.d.places.length:Int)+1}:gn))=[((t.b.map fA.d++[ah.b f]).length:Int)]:=by
  show[((t.b.map _).length:Int)+1]=_;rw[bH,an,an]
  rfl
 exact wI (cb (λf=>am _ ([(zE,cw.a (bg f))]::_)) zW) ((zi.f zw (.a [.a ((t.b.map fA.d++[ah.b f]).length:Nat)])).a 2 I|>.a 1 I)
end
def M2{x:bf}(b:eQ a x.c=aa):eQ (a++[x]) x.c=O x:=by unfold eQ at*;rw[kJ,b];simp
section
def RT:aB:=λd b c a=>∃i,eP (.sender i) [i] d b c a
def OV[n:aJ]:cL 8 152 RT:=by
 refine cT 2 [] λG e g d p=>?_;obtain⟨i,d,S,k,D,J,rfl,j,e,zh,r,u,h,R,q⟩:=p;refine⟨_,aj (aA 2 (a' bO (W 1))) (aj (a9 (aP hS (n0 (W 2) a5 (di n.zO)))) (aj (bD (eI (my (cN g) (W 2) (c0 0))) (au (jt (cN g) (c0 0) (W 2) (hQ n.zz Op (c2 2)) I)) bQ) (aj (aA 3 (g5 (cN g) (c0 0) (W 2) (λ_ _=>I))) (aj (bD (eI (nF (c0 3))) (au (a9 (aP qb (c7 0 3)))) bQ) (aj (pd (W 3) a5 mq) (c1 (bC (c3 (c0 3))))))))),ct j r λH p g u=>?_⟩;have zc:aM G H:=p;change ft _ _ _ [O (.b d.e),O (.b D.d),O (.a i),aa] H;have M:am H (eh.b (D.a 1)::d.d::J):=g;have P:=a2.f (M.d 1 I);refine⟨i,1,8,I,λg=>?_,λg=>q (-1) _ (by show(if _ then _ else _)=_;rw[ay (by simp[cW];omega)]) zc M⟩;obtain⟨j,rfl⟩:=fQ (show(0:Int)<=i by omega);have g:=e.r;have g:=e.E;have zd:bi S (.sender (j:Int))=match eQ d.a (j:Int)with
   |none=>({S with senders:=S.senders++[{id:=j,epoch:=1,deal:=aa}]},{value:=1})
   |some x=>(dt (gz S x.b) {x.b with deal:=aa,epoch:=x.f+1},{value:=(x.f:Int)+1}):=by
  show(if _ then _ else _)=_;rw[aw (by simp[cW];omega)];simp only[eX];rw[Qv e.h j];cases eQ d.a (j:Int)<;>rfl
 refine⟨P.a,n.l.b,I,_,_,I,fg.a (k:=bb (j:Int)) (P.g e.a),?_⟩;rw[sC];have w:∀E,jJ d.j E=E:=λE=>by rw[e.a];rfl
 cases A:eQ d.a (j:Int)with
 |none=>
  rw[A]at zd;refineλx y B u z=>?_;have g:=((M.a 1 I).i (L:=d.o)).t (C:=dD) B u z;refine⟨x,y,j,_,I,g,λp Q q=>⟨I,?_⟩⟩;have K:p d.e=O (.c dA d.l (f2 d)):=q.b 1 I;have r:p d.i=O (.b (ca d.a)):=(q.e 4 I).trans (by rw[w]);let g:bf:=⟨x,y,j,0,aa⟩
  have N:bx (ca d.a) (.inl (j:Int))=aa:=by rw[sC,A];rfl
  have F:cH (ca d.a) (.inl (j:Int)) (.b x)=ca (d.a++[g]):=by
   rw[pf _ N];unfold ca;rw[a6]
   rfl
  refine⟨K,n.l.b,I,_,_,I,qO.a (k:=bb (j:Int)) r (by unfold ca;rw[an,bn];omega),?_⟩;rw[F];have zg:=q.p 4 I (.b (ca (d.a++[g])));have K:=am.w zg 4 I;have ze:aM G (al p d.i (.b (ca (d.a++[g])))):=((zc.a (gU (C:=dD) B u z).c).a Q).b r m';generalize al p d.i (.b (ca (d.a++[g])))=u at K ze;let r:a2:={d with a:=d.a++[g]}
  have q:am u (r.d::eh.b (D.a 1)::J):=by refine am.h (L:=r.o) ?_;show am u ([a0 d.e dA d.l (f2 d),[(d.m,cw.a (d.b.map bq.d))],d.b.flatMap (bq.c),[(d.i,jJ d.j (.b (ca (d.a++[g]))))],(d.a++[g]).flatMap (bf.h),[(d.k,.b (dh d.c))],d.c.flatMap (a_.j)]++(eh.b (D.a 1)::J));rw[w,i7];exact K
  have Q:=a2.f (q.d 0 I);have z:eQ r.a (j:Int)=O g:=M2 (x:=g) A;have p:r.a[d.a.length]?=O g:=by show(d.a++[g])[d.a.length]?=_;simp
  have w:=Q.c g (a1 p);refine⟨Q.a,n.l.b,I,_,_,I,vq (Q.g e.a) z,w.a,n.k.a,I,?_⟩;obtain⟨zf,U,X⟩:=a2.q (s:=r) p;have N:=(q.l U).i (L:=g.i);refine⟨w.a,n.k.b,I,_,_,I,I,_,_,w.a,(bJ I),?_⟩;let q:bf:=⟨x,y,j,1,aa⟩
  have z:=(am.h (L:=q.i) (N.j 0 I (b6 q))).m (X q I I);have za:aM G (al u x (.c dD y (b6 q))):=ze.b w.a bY;have y:u g.e=O (.c dD g.g (b6 g)):=w.a;refine⟨az,n.k.b,I,c9,λT y=>?_⟩;rw[zd]at R;let B:a2:={d with a:=d.a++[q]}
  have F:({r with a:=r.a.set d.a.length q}:a2)=B:=by show({d with a:=(d.a++[g]).set d.a.length q}:a2)={d with a:=d.a++[q]};congr 1;simp
  rw[F]at z;have zb:=za.a (aW.a (o:=.a [.a 1]) y).c;have zl:=j9.mp A;refine R T B _ I ?_ ((z.f y (.a [.a 1])).a 2 I|>.a 1 I);refine⟨e.a,e.b.a I I,?_,e.e,λF h E B=>?_,?_,λF h=>?_,e.m,e.d,jI e.c,?_,?_,eZ e.C,zh⟩;show S.senders++[_]=(d.a++[q]).map bf.b;rw[a6,e.h]
  rfl
  rcases cU.mp h with h|h;obtain⟨zi,g,zj,zk⟩:=e.f F h E B;exact⟨zi,g,zj.d zb I I,eZ zk⟩;rw[dZ.mp h]at B;cases B;show((d.a++[q]).map (·.c)).Nodup;rw[a6,jA];refine⟨e.j,by simp,λzi zk g zj F=>?_⟩;obtain⟨zm,zi,rfl⟩:=bm.mp zk;have zj:g=j:=by simpa using zj
  have:=zl zm zi;simp only[decide_eq_true_eq]at this;omega;rcases cU.mp h with h|h;exact e.A F h;rw[dZ.mp h];show 1<=j;omega;show((d.a++[q]).map b_).sum<=_;rw[a6,rx];have:=e.i;show _+(0+0)<=_;omega;show(d.a++[q]).length<=_;rw[bH];simp;exact e.E
 |some x=>
  rw[A]at zd;obtain⟨j,g,p⟩:=nc A;have zi:=a1 p;have q:=P.c x zi;refine⟨P.a,n.l.b,I,_,_,I,vq (P.g e.a) A,q.a,n.k.a,I,?_⟩;let x':bf:={x with a:=aa,f:=x.f+1}
  rw[zd]at R;have zd:((x.f:Int)+1)=(((x.f+1:Nat)):Int):=by omega
  have zj:ci (dt (gz S x.b) {x.b with deal:=aa,epoch:=x.f+1},({value:=(x.f:Int)+1}:gn))=[(((x.f+1:Nat)):Int)]:=by rw[<-zd];rfl
  cases j:x.a with
  |none=>
   obtain⟨zf,U,X⟩:=a2.q p;have N:=((M.a 1 I).l U).i (L:=x.i);refine⟨q.a,n.k.b,I,_,_,I,I,_,_,q.a,(bJ I),?_⟩;have P:ef "epoch" (.a ((x.f:Int)+1)) (b6 x)=b6 x':=by
    unfold b6;show[_,(("epoch":ac),ah.a ((x.f:Int)+1)),(("transaction":ac),iC x.a)]=[_,(("epoch":ac),ah.a (((x.f+1:Nat)):Int)),(("transaction":ac),ah.c)];rw[j,zd]
    rfl
   rw[P];have zk:l_ x.a=l_ x'.a:=by rw[j]
   have A:am (al H x.e (.c dD x.g (b6 x'))) (x'.i++(zf::eh.b (D.a 1)::J)):=by show am _ ([a0 x.e dD x.g (b6 x'),l_ x'.a]++_);rw[<-zk];exact N.j 0 I (b6 x')
   have z:=(am.h (L:=x'.i) A).m (X x' I I);have za:aM G (al H x.e (.c dD x.g (b6 x'))):=zc.b q.a bY;refine⟨az,n.k.b,I,c9,λT y=>?_⟩;have zb:=za.a (aW.a (o:=.a [.a (((x.f+1:Nat)):Int)]) y).c;refine R T {d with a:=d.a.set g x'} _ I ?_ ?_;have q:gz S x.b=S:=by unfold gz;rw[show x.b.deal=aa by show x.a.map b3.d=_;rw[j];rfl]
   show bI _ _ (dt (gz S x.b) _) _;rw[q];refine e.n zh zb e.a (e.b.a I I) I (jI e.c) (jf (x':=x') e.h e.j p I) (ko p I) (λF h E B=>?_) ?_ e.e I e.d;rcases iT h with h|rfl;exact .inl ⟨F,h,B⟩;cases B;have h:=nt (x':=x') p;have h:b_ x'=0:=I;have:=e.i;show((d.a.set g x').map b_).sum<=_;omega;rw[zj];exact(z.f y (.a [.a (((x.f+1:Nat)):Int)])).a 2 I|>.a 1 I
  |some q=>
   obtain⟨F,B,h,A⟩:=e.f x zi q j;have A:=e.z zi j;refine⟨d,g,x,q,1000*k,_,I,M.a 1 I,p,j,h.b.a zc,h.a,e.c,by omega,λA u E ze zg=>?_⟩;let h:bf:={x with a:=aa}
   let r:a2:={d with b:=A,a:=d.a.set g h}
   have K:am u (r.d::eh.b (D.a 1)::J):=zg.g 1 I;have D:r.a[g]?=O h:=by show(d.a.set g h)[g]?=_;rw[fK (bu.mp p).1]
   have Q:=a2.f (K.d 0 I);have w:=Q.c h (a1 D);obtain⟨zf,U,X⟩:=a2.q D;have N:=(K.l U).i (L:=h.i);refine⟨w.a,n.k.b,I,_,_,I,I,_,_,w.a,(bJ I),?_⟩;have P:ef "epoch" (.a ((x.f:Int)+1)) (b6 h)=b6 x':=by unfold b6;show[_,(("epoch":ac),ah.a ((x.f:Int)+1)),(("transaction":ac),ah.c)]=[_,(("epoch":ac),ah.a (((x.f+1:Nat)):Int)),(("transaction":ac),ah.c)];rw[zd]
   have D:al u x.e (.c dD x.g (ef "epoch" (.a ((x.f:Int)+1)) (b6 h)))=al u x.e (.c dD x.g (b6 x')):=by rw[P]
   refine wI (cb _ D) ?_;have z:=(am.h (L:=x'.i) (N.j 0 I (b6 x'))).m (X x' I I);have za:aM G (al u x.e (.c dD x.g (b6 x'))):=(zc.a ze).b w.a bY;refine⟨az,n.k.b,I,c9,λT y=>?_⟩;have zb:=za.a (aW.a (o:=.a [.a (((x.f+1:Nat)):Int)]) y).c;have n:({r with a:=r.a.set g x'}:a2)={d with b:=A,a:=d.a.set g x'}:=by show({d with b:=A,a:=(d.a.set g h).set g x'}:a2)=_;rw[kb]
   rw[n]at z;have h:q.i=3:=by unfold b3.i;rw[F];rfl
   rw[h,B]at E;refine R T {d with b:=A,a:=d.a.set g x'} _ I ?_ ?_;show bI _ _ (dt (gz S x.b) _) _;rw[oH j B];obtain⟨h,d,n⟩:=jK q.c x.c 3 S;have u:=jf (S:=q.c.foldl (λs r=>hY s x.c 3 r) S) (x':=x.d) (d.trans e.h) e.j p I;have d:=jf (x':=x') (i:=g) (x:=x.d) u (by rw[ko (x':=x.d) p I];exact e.j) (by rw[fK (bu.mp p).1]) I;rw[kb]at d;exact e.N zh zb p j E (.inr I) (x':=x') I I h I n d;rw[zj];exact(z.f y (.a [.a (((x.f+1:Nat)):Int)])).a 2 I|>.a 1 I
def RD:aB:=λf d e c=>∃i a b,eP (.done i a b) [i,a,b] f d e c
def OC[q:aJ]:cL 10 156 RD:=by
 refine cT 7 [] λzq z9 z2 z6 zA=>?_;obtain⟨i,x,ze,m,o,zG,r,zr,rfl,zu,k,zp,zI,zX,z5,H,J⟩:=zA;refine⟨_,aj (aA 2 (a' bO (W 1))) (aj (aA 3 (a' bO (W 1))) (aj (aA 4 (a' bO (W 1))) (aj (aA 5 (bT v2 (W 0) (c7 2 3))) (aj (a9 (aP hS (n0 (W 4) a5 (di q.zs)))) (aj (aA 6 (c0 5)) (aj (dY kQ I (bZ (c0 6)) (bE 7) (aj (aA 8 (bT ni (W 0) (c3 (c0 7)))) (au (a9 (bT Ck (W 8) (c3 (c0 7))))))) (aj (a9 (aP CA (pn 0 5 4))) (c1 (bC (c6 (c5 (c0 6)) (c5 (c0 6)))))))))))),ct zu zI λzQ zM zv zJ=>?_⟩;refine ct (r:=r.a 1) zv zJ λzR zN zw zK=>ct (r:=r.a 2) zw zK λM zO zx z7=>?_;have u:aM zq M:=((zM.a zN).a zO);change ft _ _ _ [O (.b m.e),O (.b r.d),O (.a i),O (.a x),O (.a ze),aa,aa,aa,aa] M;have w:am M (eh.b (r.a 3)::m.d::zr):=zx;have A:=a2.f (w.d 1 I);have h:bi o (.done i x ze)=nw o i x _:=I;rw[k.D]at h;refine⟨A.a,I,m,i,x,I,A,k.a,λj e B D p=>?_,λj B D p=>J (-7) _ (by
  rw[h,B];refine(ay D).trans ?_;show(match j.a.map b3.d with|none=>_|some zU=>_)=_;rw[p]
  rfl) u w,λj B D=>J (-8) _ (by rw[h,B];exact aw D) u w,λzb=>J (-5) _ (by rw[h,zb]) u w⟩
 rw[B]at h;have h:=h.trans (ay D);obtain⟨z4,Q,F⟩:=nc B;have zc:=a1 F;obtain⟨zS,zs,zt,zT⟩:=k.f j zc e p;have zm:=A.c j zc;have N:=zm.b e p;have zC:(b6 j).lookup ("transaction":ac)=O (.b e.g):=by show O (iC j.a)=_;rw[p];rfl
 rw[Bh p]at h;refine⟨ze,0,100,I,λzo=>?_,λzo=>J (-1) _ (by rw[h];exact ay (by simp[cW];omega)) u w⟩;have h:=h.trans (aw (by simp[cW];omega));obtain⟨n,rfl⟩:=fQ zo.1;refine⟨zm.a,q.k.a,zC,N.a,q.o.b,I,_,I,⟨_,dU.b N.b⟩,ev (xs:=e.b.map fA.d) (λzi R L=>L=M/\(∃zg zh,R=[O (.b m.e),O (.b r.d),O (.a i),O (.a x),O (.a (n:Int)),O (.b j.e),O (.b e.g),zg,zh])/\∀g∈e.b.take zi,∃l,dE m.c g.a=O l/\l.g=g.e) ⟨I,⟨_,_,I⟩,by intro g y;cases y⟩ ?_ ?_ ?_⟩;rintro zi R L _ ⟨rfl,_⟩;exact dU.b N.b;rintro zi z8 R L zF ⟨rfl,⟨zg,zh,rfl⟩,P⟩;obtain⟨g,y,rfl⟩:=d2 zF;have za:=a1 y;have zl:=N.e g za;obtain⟨l,t,zY⟩:=zt.c g za;refine⟨A.a,I,zl,q.s.a,I,m,(g.a:Int),I,A,λzW zn=>?_,λzb=>by rw[zb]at t;cases t⟩;rw[t]at zn;obtain rfl:=bA zn;have zk:=A.e l (kN t);refine⟨zk.a,I,zl,q.s.b,I,l,(g.e:Int),I,zk,λE=>?_,λE=>J (-8) _ ?_ u w⟩;refine⟨I,⟨_,_,I⟩,λzH z=>?_⟩;rw[en,y]at z;rcases cU.mp z with z|z;exact P zH z;rw[dZ.mp z];exact⟨l,t,by omega⟩;rw[h];refine ay (List.all_eq_false.mpr ⟨(g.a,g.e,g.b,g.c),bm.mpr ⟨g,za,I⟩,?_⟩);show¬((nv o g.a).any λl=>l.gen==g.e)=ab;rw[sg k.e,t];show¬(l.g==g.e)=ab;simp;omega;rintro R L ⟨rfl,⟨zg,zh,rfl⟩,P⟩;rw[an,dN]at P;have h:=h.trans (aw (by
  have:(e.d.places.all λK=>(nv o K.1).any λl=>l.gen==K.2.1)=ab:=by refine hE.mpr λK zd=>?_;obtain⟨g,y,rfl⟩:=bm.mp zd;obtain⟨l,t,E⟩:=P g y;show((nv o g.a).any λl=>l.gen==g.e)=ab;rw[sg k.e,t];show(l.g==g.e)=ab;simp[E]
  rw[this];exactλzP=>nomatch zP))
 have h:bi o (.done i x (n:Int))=(jS o j.b e.d n,{value:=(e.a.length:Int),more:=[(e.b.length:Int)]}):=by rw[h];show(jS o j.b e.d n,({value:=(e.d.parts.length:Int),more:=[((e.b.map _).length:Int)]}:gn))=_;rw[nr zs,an,an]
 rw[h]at H;have z0:=k.z zc p;have zZ:=k.r;have z3:=k.i;have z1:=k.F;refine⟨m,Q,j,e,n,1000*zG,_,I,w.a 1 I,k.a,by omega,F,p,k.m,λK zd zL zE=>(k.f K zd zL zE).2.2.1.d u I I,k.c,by omega,λzD T zz S X zy zV zj C=>?_,λE T S X zj C=>?_⟩;have zB:b3.o (e.l n)∈(((m.a.set Q {j with a:=O (e.l n)}).filterMap (·.a)).map b3.o):=by refine bm.mpr ⟨e.l n,uo.mpr ⟨{j with a:=O (e.l n)},?_,I⟩,I⟩;exact a1 (i:=Q) (by rw[fK (bu.mp F).1])
 have s:lU S (b3.o (e.l n)):=b3.q (cD.d.mp (C.d 1 I) _ zB);refine⟨s.a,q.o.a,I,_,_,I,.inl (dU.b s.c),s.a,q.o.b,I,_,_,I,.inl (dU.b s.b),n1,λzf G=>?_⟩;have U:ci (jS o j.b e.d n,({value:=(e.a.length:Int),more:=[(e.b.length:Int)]}:gn))=[((e.a.map cg).length:Int),((e.b.map fA.d).length:Int)]:=by rw[an,an];rfl
 rw[U]at H;exact H zf {m with b:=T,a:=m.a.map bf.d,c:=zz} _ I (k.Q zp ((u.a zj).a (aW.a G).c) F p zD X zy) (((C.g 1 I).f G (.a [.a ((e.a.map cg).length:Nat),.a ((e.b.map fA.d).length:Nat)])).a 2 I|>.a 1 I);have s:lU S (e.l e.a.length):=b3.q (C.d 1 I);refine⟨s.a,q.o.a,I,_,_,I,.inl (dU.b s.c),s.a,q.o.b,I,_,_,I,.inl (dU.b s.b),n1,λzf G=>?_⟩;have U:ci (jS o j.b e.d n,({value:=(e.a.length:Int),more:=[(e.b.length:Int)]}:gn))=[((e.a.map cg).length:Int),((e.b.map fA.d).length:Int)]:=by rw[an,an];rfl
 rw[U]at H;exact H zf {m with b:=T,a:=m.a.set Q j.d,c:=eE m.c e.b} _ I (k.P zp ((u.a zj).a (aW.a G).c) F p E X) (((C.g 1 I).f G (.a [.a ((e.a.map cg).length:Nat),.a ((e.b.map fA.d).length:Nat)])).a 2 I|>.a 1 I)
end
def vO{m:Nat}{w:eH}{A:dV}{z:aY}{j:V Nat}{o:L2.aQ}{k:af}{i:Y}{u:af->Prop}(t:ah)(x:k i=aa)(d:m<aH)
  (D:∀e:Nat,∀d,aW k d->∀(q:af->Prop)(n:bj),(∀g,aW d g->n t g)->w (.a ((0:Int)+(e:Int))) (b0 o j) d λh p=>b0 h j=b0 o j/\A h p λs l=>if s=ab then z h l n else q l)
  (C:∀d,aW k d->d i=O (.a (cA m t))->u d):
  ∃r:Nat->Nat->af->Prop,(∃n,r 0 n (al k i (.a [])))/\∀e n d,r e n d->
   ((kz 0 m).b e d/\u d)\/((kz 0 m).a e d/\∃q:af->Prop,(∀g,q g->∃y,y<n/\r (e+1) y g)/\∀B g,(kz 0 m).c e d B g->w B (b0 o j) g λh p=>b0 h j=b0 o j/\A h p λs l=>if s=ab then z h l λm j=>∃h,j i=O (.a h)/\h.length<aH/\q (al j i (.a (h++[m])))else q l):=by
 refine xT (λe d=>aW k d/\d i=O (.a (cA e t))) ⟨aW.a x,az⟩ ?_ (λd h=>C d h.1 h.2);rintro e d h ⟨i,j⟩;refine D e d i _ _ λg h=>⟨_,h _ _ j,?_,(i.b h).f x,?_⟩;rw[jy];omega;rw[az,<-JG]
def bI.K{s:a2}(g:bI H s ze x)(zk:x+1<=900)(zn:aM H S){t k:a_}(zg:s.c[zi]?=O t)(zh:k.b=t.b)(zl:k.a.length=t.a.length)(zm:i3 (s.b.map bq.b) k.i)(zj:zf=hv ze k.c):bI S {s with c:=s.c.set zi k} zf (x+1):=by subst zj;refine g.n zk zn g.a (g.b.a I I) I (jI g.c) g.h I (λze S x H=>.inl ⟨ze,S,H⟩) (eZ g.i) (wx g.e g.m zg zh) (i_ zg ?_) (λzf x=>?_);show(k.b,k.a.length)=(t.b,t.a.length);rw[zh,zl];rcases iT x with x|rfl;exact g.d zf x;exact zm
section
def RE:aB:=λj h i g=>∃c d e f a b,eP (.fetch c d e f a b) [c,d,e,f,a,b] j h i g
def OD[R:aJ]:cL 7 133 RE:=by
 refine cT 10 ["record"] λzJ Z1 ZW Zo zY=>?_;obtain⟨G,N,P,w,B,f,p,n,ZZ,r,F,rfl,zN,E,z8,Zs,ZU,x,zs,za⟩:=zY;refine⟨_,aj (aA 2 (a' bO (W 1))) (aj (aA 3 (a' bO (W 1))) (aj (aA 4 (a' bO (W 1))) (aj (aA 5 (a' bO (W 1))) (aj (aA 6 (a' bO (W 1))) (aj (aA 7 (a' bO (W 1))) (aj (aA 8 (bT su (W 0) (n8 2 3 4 5))) (aj (a9 (aP v4 (c2 6))) (aj (a9 (aP Cy (c2 7))) (aj (aA 9 (bT ja (W 0) (c3 (js (c6 (c0 8) (W 5)))))) (aj (aA 10 (aP v_ (n2 (W 9) (c8 (c0 8) (W 5)) (W 6) (W 7)))) (aj (a9 (bT Co (W 8) (c6 (W 5) (c0 10)))) (c1 (aP l0 (c6 (bC (c3 (c0 10))) (aS.a (dX I Zo (bZ (c0 10)) (own:=[("record",11)]) (dn I) (λ_ _ _ _ _=>bE 11) (λ_ _ _ _ _=>f_) (λ_ _ _ _ _=>(aP v' (c2 11))))))))))))))))))),ct zN Zs λZM ZC zO Zt=>?_⟩;refine ct (r:=r.a 1) zO Zt λZN ZD zP Zu=>ct (r:=r.a 2) zP Zu λZO ZE zQ Zv=>ct (r:=r.a 3) zQ Zv λZP ZF zR Zw=>ct (r:=r.a 4) zR Zw λzw ZG zS Zx=>ct (r:=r.a 5) zS Zx λC ZH zg Z0=>?_;have Q:aM zJ C:=(((((ZC.a ZD).a ZE).a ZF).a ZG).a ZH);change ft _ _ _ [O (.b p.e),O (.b r.d),O (.a G),O (.a N),O (.a P),O (.a w),O (.a B),O (.a f),aa,aa,aa,aa] C;have A:am C (eh.b (r.a 6)::p.d::F):=zg;have J:=a2.f (A.d 1 I);have k:bi n (.fetch G N P w B f)=qr n G N P w (λq w=>if(cW B 1 20&&cW f 0 1)=ae then dS n (-1)else(hv n {q with reading:=q.reading.set w (eu (bP n q.book w) (q.reading.getD w 0) B.toNat (f==1)).2},{value:=((eu (bP n q.book w) (q.reading.getD w 0) B.toNat (f==1)).2:Int),rows:=(eu (bP n q.book w) (q.reading.getD w 0) B.toNat (f==1)).1.map hu})):=I;rw[E.L]at k;refine⟨J.a,I,p,G,N,P,w,I,J,λh K T X=>?_,λh K T X=>za (-9) _ (by rw[k,K];exact(ay T).trans (aw X)) Q A,λh K T=>za (-8) _ (by rw[k,K];exact aw T) Q A,λU=>za (-4) _ (by rw[k,U]) Q A⟩;rw[K]at k;have k:=k.trans ((ay T).trans (ay X));obtain⟨ZY,zr,zo⟩:=oG K;have zq:=a1 zo;obtain⟨zx,zM,H,D,z9,zp⟩:=E.J zq X;have zk:=J.e h zq;obtain⟨i,rfl⟩:=fQ X.1;rw[eX]at D z9 zp k;have z3:=(J.d zx (a1 H)).c zM (a1 D);have zl:=(E.o H D).1;have Ze:=E.y H D;refine⟨B,I,λz7=>?_,λz7=>za (-1) _ (by rw[k];exact ay (by simp[cW];omega)) Q A⟩;refine⟨f,I,λzm=>?_,λzm=>za (-1) _ (by rw[k];exact ay (by simp[cW];omega)) Q A⟩;have k:=k.trans (aw (by simp[cW];omega));obtain⟨j,rfl⟩:=fQ (show(0:Int)<=B by omega);refine⟨J.a,I,zk.a,R.h.b,I,n1,λZB Zf=>?_⟩;have M:=aW.a (o:=.d [.a (h.k:Int),.a (i:Int)]) Zf;have Zc:=J.h M;refine⟨p,ZB,(h.k:Int),(i:Int),I,Zc,az,λy z2=>?_,λU=>nh H D U⟩;obtain rfl:=nf H D z2;have zC:=zk.c M;have z4:=z3.a M;have zi:h.d[i]?=O h.d[i]:=eM zp;have zA:h.d.getD i 0=h.d[i]:=by rw[pw,zi];rfl
 generalize ZX:h.d[i]=u at zi zA;have zB:1<=j:=by omega
 refine⟨zC.a,R.h.f,I,_,_,_,_,I,I,dU.b zC.f,dJ (v:=.a (u:Nat)) (by rw[bw,zi];rfl),y,(u:Int),j,f,I,zB,z4,Ze,λq zh t zw Zj Zq Zp ze zD=>?_⟩;generalize zj:eu (bP n h.k i) u j (f==1)=m;have zF:=zl.u u j f zm zB;have zn:=zl.n u j f zm;rw[zj]at zF zn;rw[zF]at ze;have k:bi n (.fetch G N P (i:Int) (j:Int) f)=(hv n {h.c with reading:=h.c.reading.set i m.2},{value:=(m.2:Int),rows:=m.1.map hu}):=by
  rw[k];have zd:eu (bP n h.c.book i) (h.c.reading.getD i 0) ((j:Int).toNat) (f==1)=m:=by show eu (bP n h.k i) (h.d.getD i 0) ((j:Int).toNat) (f==1)=m;rw[zA,eX];exact zj
  dsimp only;rw[zd]
 have zt:=M.b Zj;have Zr:q≠t:=kC ze zD (by intro z;cases z);obtain⟨ZR,Zy,Zz⟩:=a2.s zo;have zU:am zw ([(q,.c jF zh [("records",.b t),("goes_on",.a (m.2:Int))])]::[(t,.a ((ej y u j f).map ba.b))]::eh.b (r.a 6)::p.d::F):=by have zz:=A.q zt (M.e Zp) zD;refine⟨λz x=>?_,?_⟩;have x:z∈(q,cw.c jF zh [("records",.b t),("goes_on",.a (m.2:Int))])::([(t,cw.a ((ej y u j f).map ba.b))]::eh.b (r.a 6)::p.d::F).flatten:=x;rcases bW.mp x with rfl|x;exact ze;exact zz.s z x;show(q::(([(t,cw.a ((ej y u j f).map ba.b))]::eh.b (r.a 6)::p.d::F).flatten.map (·.1))).Nodup;refine g_.mpr ⟨λz=>?_,zz.u⟩;obtain⟨zy,S,zd⟩:=bm.mp z;have S:zy∈(t,cw.a ((ej y u j f).map ba.b))::(eh.b (r.a 6)::p.d::F).flatten:=S;rcases bW.mp S with rfl|S;exact Zr zd.symm;have:=A.s zy S;rw[zd,M.e Zq]at this;cases this
 have zV:=(zU.a 3 I).l Zy;refine⟨(zk.c zt).a,I,ze,R.u.a,I,h,i,m.2,_,I,zV,zp,λC ZA zg=>?_⟩;let zf:a_:={h with d:=h.d.set i m.2}
 have zc:=zg.m (Zz zf I I);have zG:C q=O (.c jF zh [("records",.b t),("goes_on",.a (m.2:Int))]):=zc.e 1 I;have zE:C t=O (.a ((ej y u j f).map ba.b)):=zc.e 2 I;have Zd:=a2.f (s:={p with c:=p.c.set zr zf}) (zc.d 0 I);have z5:=(Zd.d zx (a1 H)).c y (a1 D);have zT:am C (eh.b (r.a 6)::a2.d {p with c:=p.c.set zr zf}::F):=((zc.g 1 I).g 1 I).a 1 I;refine⟨zG,R.u.a,I,c9,λZn Za=>?_⟩;have L:=aW.a (o:=.a [.a (m.2:Int)]) Za;refine⟨L _ _ zG,R.u.b,I,_,I,⟨_,dU.b (L _ _ zE)⟩,λzI z1=>?_⟩;have ZV:(ej y u j f).length<=20:=by have zZ:=cb fu zn;rw[an]at zZ;have z0:=Bv (bP n h.k i) u j (f==1);rw[zj]at z0;omega
 refine sn (ej y u j f) ba.b (λt=>hu t.a) z1 (L _ _ zE) (by rw[bn];omega) ?_ (λZQ zv zu ZI ZJ ZK=>?_);intro z x ZL Zk ZS ZT z6;exact⟨I,z,I,((z5.a L).a Zk).c z (p' x),zl.q (p' x),λt zK Zl U Zg=>z6 t zK Zl U Zg⟩;have zX:zv.map (·.2)=m.1.map hu:=by rw[ZK,<-zn,bz];rfl
 have zW:ci (bi n (.fetch G N P (i:Int) (j:Int) f))=[(m.2:Int)]++fm zv:=by
  rw[k,sJ zX]
  rfl
 rw[zW]at x zs;refine⟨Zn,zI,[(m.2:Int)],zv,I,zu _ _ az,ZI,ZJ,?_,λZi zL Zm Zb Zh=>?_⟩;rw[bH]at x;rw[bn];omega;rw[k]at zs;have zH:=L.b (zu.b Zm);have zb:=E.d h zq;refine zs Zi {p with c:=p.c.set zr zf} zL I (E.K z8 (((Q.a zt.c).a ZA).a zH.c) zo I I ⟨zb.b,zb.a,?_,zb.c,zb.e⟩ I) (zT.q zH ((L.b zu).e Zb) Zh);show(h.d.set i m.2).length=_;rw[j'];exact zb.f
def RL:aB:=λh f g e=>∃a b c d o,eP (.keep a b c d o) [a,b,c,d,o] h f g e
def OL[R:aJ]:cL 6 134 RL:=by
 refine cT 7 [] λzf z6 z0 z4 zs=>?_;obtain⟨B,E,F,g,o,m,i,z3,r,zh,rfl,zi,p,zx,zD,zZ,z2,zc,D⟩:=zs;refine⟨_,aj (aA 2 (a' bO (W 1))) (aj (aA 3 (a' bO (W 1))) (aj (aA 4 (a' bO (W 1))) (aj (aA 5 (a' bO (W 1))) (aj (aA 6 (a' bO (W 1))) (aj (aA 7 (bT su (W 0) (n8 2 3 4 5))) (aj (aA 8 (bT ja (W 0) (c3 (js (c6 (c0 7) (W 5)))))) (aj (a9 (bT Cm (W 7) (n0 (W 5) (W 6) (c0 8)))) (aj (a9 (bT Oe (W 7) (c7 5 6))) (c1 (bC (c2 6))))))))))),ct zi zD λzT zM zj zE=>?_⟩;refine ct (r:=r.a 1) zj zE λzU zN zk zF=>ct (r:=r.a 2) zk zF λzV zO zl zG=>ct (r:=r.a 3) zl zG λzW zP zm zH=>ct (r:=r.a 4) zm zH λH zQ zn z5=>?_;have G:aM zf H:=((((zM.a zN).a zO).a zP).a zQ);change ft _ _ _ [O (.b m.e),O (.b r.d),O (.a B),O (.a E),O (.a F),O (.a g),O (.a o),aa,aa] H;have q:am H (eh.b (r.a 5)::m.d::zh):=zn;have j:=a2.f (q.d 1 I);have f:bi i (.keep B E F g o)=qr i B E F g (λA g=>if o<((A.places.getD g 0:Nat):Int)\/((iU (A.reading.getD g 0) (bP i A.book g).disk:Nat):Int)<o then dS i (-1)
  else(hv i {A with places:=A.places.set g o.toNat},{value:=o})):=I
 rw[p.L]at f;refine⟨j.a,I,m,B,E,F,g,I,j,λe k s t=>?_,λe k s t=>D (-9) _ (by rw[f,k];exact(ay s).trans (aw t)) G q,λe k s=>D (-8) _ (by rw[f,k];exact aw s) G q,λM=>D (-4) _ (by rw[f,M]) G q⟩;rw[k]at f;have f:=f.trans ((ay s).trans (ay t));obtain⟨z1,zB,K⟩:=oG k;have N:=a1 K;obtain⟨zq,Q,C,u,L,za⟩:=p.J N t;have X:=j.e e N;obtain⟨h,rfl⟩:=fQ t.1;rw[eX]at u L za f;have zu:=(j.d zq (a1 C)).c Q (a1 u);have zw:=(p.o C u).1;have T:(bP i e.k h).disk=Q.h:=zw.d;refine⟨j.a,I,X.a,R.h.b,I,n1,λzL zA=>?_⟩;have x:=aW.a (o:=.d [.a (e.k:Int),.a (h:Int)]) zA;have zz:=j.h x;refine⟨m,zL,(e.k:Int),(h:Int),I,zz,az,λzg zt=>?_,λM=>nh C u M⟩;obtain rfl:=nf C u zt;have J:=X.c x;have zv:=zu.a x;have zd:=G.a x.c;have S:=q.o x;refine⟨J.a,I,zv.b,R.d.b,I,e,h,o,zg.h,I,J,L,za,λw=>?_,λw=>D (-1) _ (by rw[f];refine ay ?_;refine kv λn=>w ?_;have zR:=λP=>n (.inl P);have zS:=λP=>n (.inr P);unfold qf;rw[<-T];exact⟨qN.mp zR,qN.mp zS⟩) zd S⟩
 have f:=f.trans (aw (by rintro(n|n);exact a7 w.1 (qM.mpr n);have U:=w.2;rw[<-T]at U;exact a7 U (qM.mpr n)))
 have zy:0<=o:=by have:=w.1;omega
 obtain⟨y,rfl⟩:=fQ zy;obtain⟨zY,zI,zJ⟩:=a2.s K;have zr:=(S.a 1 I).l zI;refine⟨J.a,I,e,h,y,_,I,zr,L,λzX zK zo=>?_⟩;let ze:a_:={e with a:=e.a.set h y}
 have zp:=zo.m (zJ ze I I);refine⟨c9,λzC zb=>?_⟩;rw[f]at zc;have z:=p.d e N;refine zc zC {m with c:=m.c.set zB ze} _ I (p.K zx ((zd.a zK).a (aW.a zb).c) K I (by show(e.a.set h y).length=_;rw[j']) ⟨z.b,?_,z.f,z.c,z.e⟩ I) ((zp.f zb (.a [.a (y:Int)])).a 2 I|>.a 1 I);show(e.a.set h y).length=_;rw[j'];exact z.a
end
def NM{c:a2}{k:Nat}(f:bI e c d k){b:Int}{a:bq}(g:c.n b=O a):0<=b/\c.b[b.toNat]?=O a/\(fn d b.toNat).parts=a.a.length/\(b2 (c.b.map bq.b))[b.toNat]?=O a.a.length:=by obtain⟨c,b⟩:=jE g;obtain⟨g,h,d,e,r⟩:=f.q b;refine⟨c,b,?_,?_⟩;rw[p9 d,r.c];show(a.a.map aN.a).length=_;rw[an];unfold b2;rw[bz,bw,b];show O (a.a.map aN.a).length=_;rw[an]
section
inductive Q0(vs:V ah)(H:af)(Q:bj)(E:cf):Prop
 |a (x dx:Y) (bk n:Nat) (R:V aE):vs=[.b x,.a bk,.a n]->n<=1000->am H (a0 x ei dx []::R)->(∀ma oa ka ra H',aM H H'->(∀num,am H' (a_.j ⟨x,dx,ma,oa,ka,ra,num,bk,0,[],cA n aa,cA n 0,cA n 0⟩::R))->Q .c H')->Q0 vs H Q E
def Od[l:aJ]:dz 2 109 0 Q0:=by
 refine dF 1 ["index"] λh e d f j=>?_;obtain⟨m,i,e,d,p,rfl,n,g,k⟩:=j;refine⟨_,aj (b7 (W 0) (W 1) I) (aj (b7 (W 0) a5 I) (aj (b7 (W 0) (bC ai) I) (aj (b7 (W 0) (dX I f (q9 I l.H (c2 2)) (own:=[("index",3)]) (dn I) (λ_ _ _ _ _=>bE 3) (λ_ _ _ _ _=>f_) (λ_ _ _ _ _=>kF)) I) (aj (b7 (W 0) (dX I f (q9 I l.H (c2 2)) (own:=[("index",3)]) (dn I) (λ_ _ _ _ _=>bE 3) (λ_ _ _ _ _=>f_) (λ_ _ _ _ _=>a5)) I) (au (b7 (W 0) (dX I f (q9 I l.H (c2 2)) (own:=[("index",3)]) (dn I) (λ_ _ _ _ _=>bE 3) (λ_ _ _ _ _=>f_) (λ_ _ _ _ _=>a5)) I)))))),?_⟩;have q:d<aH:=by rw[bn];omega
 refine⟨g.b 0 I,l.h.b,(bJ I),?_⟩;have f:=g.n [("book",.a e)];refine⟨f.b 0 I,l.h.c,(bJ I),?_⟩;have j:=f.n [("book",.a e),("generation",.a 0)];have n:aM h (al (al h m (.c ei i [("book",.a e)])) m (.c ei i [("book",.a e),("generation",.a 0)])):=(aM.c.b (g.b 0 I) bY).b (f.b 0 I) bY;refine⟨co _,λf h=>?_⟩;have g:=j.f h (.a []);have j:=n.a (aW.a (o:=.a []) h).c;refine⟨g.b 1 I,l.h.d,(bJ I),?_⟩;have x:=g.j 1 I [("book",.a e),("generation",.a 0),("members",.b f)];have A:=j.b (o':=.c ei i [("book",.a e),("generation",.a 0),("members",.b f)]) (g.b 1 I) bY;refine⟨(d:Int),I,(by omega),(by omega),λg j=>?_⟩;refine vO ah.c j q (λw r y s t n=>⟨I,n _ aW.d⟩) (λh u z=>?_);have h:=x.q u j z;refine⟨h.b 2 I,l.h.e,(bJ I),?_⟩;have z:=h.j 2 I [("book",.a e),("generation",.a 0),("members",.b f),("owners",.b g)];have B:=(A.a u.c).b (o':=.c ei i [("book",.a e),("generation",.a 0),("members",.b f),("owners",.b g)]) (h.b 2 I) bY;refine⟨(d:Int),I,(by omega),(by omega),λh u=>?_⟩;refine vO (ah.a 0) u q (λw r y s t n=>⟨I,n _ aW.d⟩) (λj x A=>?_);have j:=z.q x u A;refine⟨j.b 3 I,l.h.a,(bJ I),?_⟩;have z:=j.j 3 I [("book",.a e),("generation",.a 0),("members",.b f),("owners",.b g),("kept",.b h)];have A:=(B.a x.c).b (o':=.c ei i [("book",.a e),("generation",.a 0),("members",.b f),("owners",.b g),("kept",.b h)]) (j.b 3 I) bY;refine⟨(d:Int),I,(by omega),(by omega),λj u=>?_⟩;refine vO (ah.a 0) u q (λw r y s t n=>⟨I,n _ aW.d⟩) (λs q r=>?_);have n:=z.q q u r;refine⟨n.b 4 I,l.h.f,(bJ I),?_⟩;have r:=n.j 4 I [("book",.a e),("generation",.a 0),("members",.b f),("owners",.b g),("kept",.b h),("read_up_to",.b j)];have s:=(A.a q.c).b (o':=.c ei i [("book",.a e),("generation",.a 0),("members",.b f),("owners",.b g),("kept",.b h),("read_up_to",.b j)]) (n.b 4 I) bY;refine k f g h j _ s λl=>am.h (L:=a_.m ⟨m,i,f,g,h,j,l,e,0,[],cA d aa,cA d 0,cA d 0⟩) ?_;show am _ ([a0 m ei i (fZ ⟨m,i,f,g,h,j,l,e,0,[],cA d aa,cA d 0,cA d 0⟩),[(f,.a [])],[(g,.a ((cA d aa).map dj))],[(h,.a ((cA d 0).map λd:Nat=>ah.a (d:Int)))],[(j,.a ((cA d 0).map λd:Nat=>ah.a (d:Int)))]]++p);rw[JB,JB];refine r.k ?_;show([[(j,cw.a (cA d (ah.a 0)))],[(h,cw.a (cA d (ah.a 0)))],[(g,cw.a (cA d ah.c))],[(f,cw.a [])],a0 m ei i [("book",.a e),("generation",.a 0),("members",.b f),("owners",.b g),("kept",.b h),("read_up_to",.b j)]]++p).flatten.Perm ([a0 m ei i [("book",.a e),("generation",.a 0),("members",.b f),("owners",.b g),("kept",.b h),("read_up_to",.b j)],[(f,.a [])],[(g,.a (cA d ah.c))],[(h,.a (cA d (ah.a 0)))],[(j,.a (cA d (ah.a 0)))]]++p).flatten;rw[lA,lA];exact ly _ (TM (List.reverse_perm _).symm)
def RJ:aB:=λf d e c=>∃b a,eP (.group b a) [b,a] f d e c
def OI[s:aJ]:cL 5 130 RJ:=by
 refine cT 3 [] λN z3 zg zZ zu=>?_;obtain⟨F,h,d,g,k,r,y,rfl,zm,e,zz,zM,zW,p,zh,H⟩:=zu;refine⟨_,aj (aA 2 (a' bO (W 1))) (aj (aA 3 (a' bO (W 1))) (aj (a9 (aP hS (n0 (W 2) a5 (di s.zI)))) (aj (aA 4 (bT lZ (W 0) (c2 3))) (aj (bD (eI (t4 (cN zg) (W 2) (c0 0))) (au (f0 s.C)) bQ) (aj (jt (cN zg) (c0 0) (W 2) (hQ s.zx Od (c6 (W 3) (c5 (c0 4)))) I) (c1 (bC (c3 (c5 (c0 4)))))))))),ct zm zM λzV zS zn zN=>?_⟩;refine ct (r:=r.a 1) zn zN λm zT u z2=>?_;have D:aM N m:=(zS.a zT);change ft _ _ _ [O (.b d.e),O (.b r.d),O (.a F),O (.a h),aa] m;have w:am m (eh.b (r.a 2)::d.d::y):=u;have x:=a2.f (w.d 1 I);have zY:=e.r;have zX:=e.C;refine⟨F,0,3,I,λzd=>?_,λzd=>H (-1) _ (by show(if _ then _ else _)=_;rw[ay (by simp[cW];omega)]) D w⟩;obtain⟨j,rfl⟩:=fQ zd.1;have n:bi g (.group (j:Int) h)=if DB g h=ae then dS g (-2)else if(nv g j).isSome=ab then dS g (-3)else({g with groups:=g.groups++[{id:=j,book:=h.toNat,gen:=0,members:=[],owners:=cA (fn g h.toNat).parts aa,places:=cA (fn g h.toNat).parts 0,reading:=cA (fn g h.toNat).parts 0}]},{value:=((fn g h.toNat).parts:Int)}):=by show(if _ then _ else _)=_;rw[aw (by simp[cW];omega)];simp only[eX]
 refine⟨x.a,I,d,h,I,x,λf zb=>?_,λzA=>H (-2) _ (by rw[n,e.l,zA];rfl) D w⟩;obtain⟨zy,A,zC,zc⟩:=NM e zb;obtain⟨z0,z1⟩:=e.u A;rw[e.l,zb,aw (λq=>nomatch q),sg e.e j,zC]at n;obtain⟨z,rfl⟩:=fQ zy;rw[eX]at n A zc;have U:=x.d f (a1 A);refine⟨x.a,s.l.c,I,_,_,I,fg.a (k:=bb (j:Int)) x.i,?_⟩;rw[sd];cases B:dE d.c (j:Int)with
 |some F=>exact(H (-3) _ (by rw[n,B];rfl) D w)
 |none=>
  rw[B]at n;have n:=n.trans (aw (λq=>nomatch q));refine⟨U.a,s.n.a,I,_,_,I,.inl (dU.b U.d),λM T zk zi zj=>?_⟩;have zp:=((w.a 1 I).i (L:=d.o)).t (C:=ei) zk zi zj;refine⟨M,T,z,f.a.length,_,by rw[an];rfl,by omega,zp,λzK zL zI zO m zP u=>⟨I,?_⟩⟩;let l:a_:=⟨M,T,zK,zL,zI,zO,j,z,0,[],cA f.a.length aa,cA f.a.length 0,cA f.a.length 0⟩
  have u:am m (l.j::(d.o++(eh.b (r.a 2)::y))):=u j;have zE:m d.e=O (.c dA d.l (f2 d)):=u.b 1 I;have ze:m d.k=O (.b (dh d.c)):=u.e 6 I;have zG:bx (dh d.c) (.inl (j:Int))=aa:=by rw[sd,B];rfl
  have zr:cH (dh d.c) (.inl (j:Int)) (.b M)=dh (d.c++[l]):=by
   rw[pf _ zG];unfold dh;rw[a6]
   rfl
  refine⟨zE,s.l.c,I,_,_,I,qO.a (k:=bb (j:Int)) ze (by unfold dh;rw[an,bn];omega),?_⟩;rw[zr];have zo:=u.p 6 I (.b (dh (d.c++[l])));have R:=am.w zo 6 I;have zl:aM N (al m d.k (.b (dh (d.c++[l])))):=((D.a (gU (C:=ei) zk zi zj).c).a zP).b ze m';generalize al m d.k (.b (dh (d.c++[l])))=P at R zl;let K:a2:={d with c:=d.c++[l]}
  have S:am P (K.d::eh.b (r.a 2)::y):=by refine am.h (L:=K.o) ?_;show am P ([a0 d.e dA d.l (f2 d),[(d.m,cw.a (d.b.map bq.d))],d.b.flatMap (bq.c),[(d.i,jJ d.j (.b (ca d.a)))],d.a.flatMap (bf.h),[(d.k,.b (dh (d.c++[l])))],(d.c++[l]).flatMap (a_.j)]++(eh.b (r.a 2)::y));rw[i7];exact R
  have zD:=a2.f (S.d 0 I);have X:=zD.d f (a1 A);refine⟨X.a,s.n.a,I,_,_,I,.inl (dU.b X.d),c9,λzJ zf=>?_⟩;have zs:ci (({g with groups:=g.groups++[{id:=j,book:=z,gen:=0,members:=[],owners:=cA f.a.length aa,places:=cA f.a.length 0,reading:=cA f.a.length 0}]},{value:=(f.a.length:Int)}):bt×gn)=[((f.a.map aN.i).length:Int)]:=by rw[an];rfl
  rw[n,zs]at zh;have zQ:=zl.a (aW.a (o:=.a [.a ((f.a.map aN.i).length:Nat)]) zf).c;have zB:=j9.mp B;refine zh zJ K _ I ?_ ((S.f zf (.a [.a ((f.a.map aN.i).length:Nat)])).a 2 I|>.a 1 I);refine⟨e.a,e.b.a I I,e.h,?_,λq p zR zF=>?_,e.j,e.A,?_,λq p=>?_,jI e.c,eZ e.i,eZ e.E,?_,zz⟩;show g.groups++[_]=(d.c++[l]).map a_.c;rw[a6,e.e]
  rfl
  obtain⟨Q,h,E,zq⟩:=e.f q p zR zF;refine⟨Q,h,⟨E.b.a zQ,E.a,λJ G=>?_⟩,eZ zq⟩;obtain⟨zt,zv,zw⟩:=E.c J G;refine⟨zt,?_,zw⟩;show dE (d.c++[l]) J.a=_;unfold dE at*;rw[kJ,zv]
  rfl
  show((d.c++[l]).map (·.b)).Nodup;rw[a6,jA];refine⟨e.m,by simp,λQ zx h za q=>?_⟩;obtain⟨zU,zH,rfl⟩:=bm.mp zx;have za:h=j:=by simpa using za
  have:=zB zU zH;simp only[decide_eq_true_eq]at this;omega;rcases cU.mp p with p|p;exact e.d q p;rw[dZ.mp p];refine⟨?_,?_,?_,yH,λJ G=>by cases G⟩;show(b2 (d.b.map bq.b))[z]?=O (cA f.a.length (aa:ar Nat)).length;rw[jy];exact zc;show(cA f.a.length 0).length=(cA f.a.length (aa:ar Nat)).length;rw[jy,jy];show(cA f.a.length 0).length=(cA f.a.length (aa:ar Nat)).length;rw[jy,jy];show(d.c++[l]).length<=_;rw[bH];simp;exact e.C
end
def jH(a:V aG)(k:Nat):Nat:=(a.filter λb=>b.key==O k).length
def gT(a:V aG):V (Nat×Nat):=a.zipIdx.filterMap λx=>x.1.key.map λk=>(k,jH (a.take (x.2+1)) k)
def BE{a:V f}(e:∀b∈a,c b=d b):a.filterMap c=a.filterMap d:=by
 induction a with|nil=>rfl|cons b a c=>rw[mI,mI,e b cr,c λd a=>e d (cJ _ a)]
def vT(a:V aG)(b:aG):gT (a++[b])=gT a++(match b.key with|none=>[]|some k=>[(k,jH (a++[b]) k)]):=by
 unfold gT;rw[List.zipIdx_append,yP];congr 1;refine BE λd c=>?_;have:d.2<a.length:=by obtain⟨a,d,e⟩:=JD c;omega
 rw[y3 (by omega)];simp only[List.zipIdx_cons,List.zipIdx_nil,mI,List.filterMap_nil,JV];rw[mL (by simp)];cases b.key<;>rfl
def Ts(b):wE b=(gT b).map λa=>(a.1,[(a.2:Int)]):=by unfold wE gT;rw[List.map_filterMap];congr 1;funext a;cases a.1.key<;>rfl
def NO(a:V aG):(gT a).length=(a.filter λc=>c.key.isSome).length:=by
 suffices h:∀b,b<=a.length->(gT (a.take b)).length=((a.take b).filter λc=>c.key.isSome).length by have:=h a.length (bp _);rw[dN]at this;exact this
 intro b;induction b with|zero=>intro _;rfl|succ b d=>intro c;have c:a[b]?=O a[b]:=eM (by omega);rw[en,c];simp only[J0];rw[vT,bH,d (by omega),ie,bH];cases c:a[b].key<;>simp[c]
def jG(b:V aG)(a:Int):ar Nat:=if 0<=a/\jH b a.toNat≠0 then O (jH b a.toNat)else aa
def vl(b)(a:aG)(k):jH (b++[a]) k=jH b k+(if a.key=O k then 1 else 0):=by
 unfold jH;rw[ie,bH];congr 1;by_cases b:a.key=O k;simp[b];have:(a.key==O k)=ae:=by simp[b]
 simp[this,b]
def Ms{c:aG}(d:c.key=aa)(b):jG (a++[c]) b=jG a b:=by unfold jG;rw[vl,d];simp
def Mt{c:aG}{k:Nat}(d:c.key=O k)(a:Int):jG (b++[c]) a=if a=(k:Int)then O (jH b k+1)else jG b a:=by
 unfold jG;rw[vl,d];by_cases b:a=(k:Int);subst b;simp;rw[aw b];by_cases b:0<=a;have:¬(k=a.toNat):=by omega
 simp[this];simp[b]
def A2(f:af)(g:bj)(h:V (Nat×Nat)):Prop:=∀d(e:V (Y×Nat×Nat)) c,aW f c->f d=aa->c d=O (.a (e.map cg))->fO c e->e.map (·.2)=h->g (.b d) c
section
inductive Ss(vs:V ah)(H:af)(Q:bj)(E:cf):Prop
 |a (a:Y) (rs:V ba):vs=[.b a]->H a=O (.a (rs.map ba.b))->(∀r∈rs,cD H (r.f))->rs.length<=1000000->A2 H Q (gT (rs.map (·.a)))->Ss vs H Q E
def CF[w:aJ]:b' 2 122 Ss:=by
 refine cF 3 [] λz i e g h=>?_;obtain⟨s,r,rfl,g,x,y,k⟩:=h;refine⟨_,aj (aA 1 jr) (aj (aA 2 (bC ai)) (aj (dY e_ I (bZ (W 0)) (bE 3) (au (bD (c4 j6 (c0 3) (di w.z)) (aj (jt (cN e) (W 1) (c0 3) (ey mx (x5 (cN e) (W 1) (c0 3) a5 ⟨I,I,I,I⟩) a5) I) (au (a9 (eY e9 gL ha gG (W 2) (c3 (js (c6 (c0 3) (g5 (cN e) (W 1) (c0 3) (λ_ _=>I))))))))) bQ))) (c1 (W 2)))),λj H=>?_⟩;have h:aW z (al z j (.b [])):=aW.a H;refine⟨co _,λq e=>?_⟩;have i:=h.b (aW.a (o:=.a []) e);have S:z q=aa:=h.e e;have P:j≠q:=λl=>by rw[<-l,az]at e;cases e
 refine⟨_,I,⟨_,dU.b (i _ _ g)⟩,ev (xs:=r.map ba.b) (λm J h=>(∃o,J=[O (.b s),O (.b j),O (.b q),o])/\aW z h/\∃p n,h j=O (.b p)/\p.length<=m/\iv p (jG ((r.take m).map (·.a)))/\h q=O (.a (n.map cg))/\fO h n/\n.map (·.2)=gT ((r.take m).map (·.a))/\n.length<=m) ⟨⟨_,I⟩,i,[],[],(aL P).trans az,bp _,λT=>by simp[jG,jH,bx],az,(by intro i e;cases e),I,bp _⟩ ?_ ?_ ?_⟩;rintro m J h _ ⟨_,t,_⟩;exact dU.b (t _ _ g);rintro m i J h e ⟨⟨o,rfl⟩,t,p,n,s,X,E,C,G,A,za⟩;obtain⟨g,i,rfl⟩:=d2 e;have e:m<r.length:=(bu.mp i).1;obtain⟨u,_⟩:=ba.d ((x g (a1 i)).c t);have F:(r.take (m+1)).map (·.a)=(r.take m).map (·.a)++[g.a]:=by rw[l9 (λl:ba=>l.a) i]
 refine⟨u,w.c.b,I,I,?_⟩;cases x:g.a.key with
 |none=>refine⟨⟨_,I⟩,t,p,n,s,by omega,E.a λT=>?_,C,G,?_,by omega⟩;rw[F,Ms x];rw[F,vT,x,A,dM]
 |some e=>
  have B:(aq (ah.a (c_ (O e))=ah.a (-1)))=ae:=da λl=>by injection l with l;have l:(e:Int)=-1:=l;omega
  have i:(!aq (ah.a (c_ (O e))=ah.a (-1)))=ab:=by rw[B];rfl
  change lq (.d (!aq (ah.a (c_ (O e))=ah.a (-1)))) _;rw[i];have u:h g.e=O (.c d8 g.g (et (.a g.a.place) g.a g.c)):=u;have B:(et (.a g.a.place) g.a g.c).lookup ("key":ac)=O (.a (e:Int)):=by
   show O (ah.a (c_ g.a.key))=_;rw[x]
   rfl
  refine⟨_,I,.inl ⟨_,.inl s⟩,u,w.c.b,B,_,fg.a (k:=bb (e:Int)) s,?_⟩;rw[E (e:Int)];generalize M:jH ((r.take m).map (·.a)) e=i;have K:((jG ((r.take m).map (·.a)) (e:Int)).map λk:Nat=>ah.a (k:Int)).getD (ah.a 0)=ah.a (i:Int):=by unfold jG;rw[eX,M];by_cases D:i=0;simp[D];simp[D]
  rw[K];refine⟨_,_,I,I,u,w.c.b,B,_,_,I,qO.a (k:=bb (e:Int)) (v:=ah.a ((i+1:Nat):Int)) s (by rw[bn];omega),?_⟩;have N:aW z (al h j (.b (cH p (.inl (e:Int)) (.a ((i+1:Nat):Int))))):=t.f H;have R:aM h (al h j (.b (cH p (.inl (e:Int)) (.a ((i+1:Nat):Int))))):=aM.c.b s m';have H:al h j (.b (cH p (.inl (e:Int)) (.a ((i+1:Nat):Int)))) g.e=O (.c d8 g.g (et (.a g.a.place) g.a g.c)):=(aL (kC u s (by intro l;cases l))).trans u;have u:al h j (.b (cH p (.inl (e:Int)) (.a ((i+1:Nat):Int)))) q=O (.a (n.map cg)):=(aL (df P)).trans C;have Q:=(E.b (e:Int) (i+1));generalize U:cH p (.inl (e:Int)) (.a ((i+1:Nat):Int))=D at N R H u Q;have L:al h j (.b D) j=O (.b D):=az;generalize al h j (.b D)=K at N R H u L;have z:=fg.a (k:=bb (e:Int)) L;rw[Q (e:Int)]at z;have z:fg K j (dC (bb (e:Int))) (y7 (λk:Nat=>ah.a (k:Int)) (if(e:Int)=e then O (i+1)else jG ((r.take m).map (·.a)) e)):=z;rw[ay I]at z;refine⟨.inl ⟨I,_,dU.b u⟩,H,w.c.b,B,H,w.c.b,B,j,ah.a ((i+1:Nat):Int),I,z,n1,λm r=>?_⟩;have j:=aW.a (o:=.d [.a (e:Int),.a ((i+1:Nat):Int)]) r;refine⟨_,_,_,I,I,j _ _ u,(by rw[an,bn];omega),?_⟩;have w:m≠q:=λl=>by rw[l,u]at r;cases r
  have r:al K m (.d [.a (e:Int),.a ((i+1:Nat):Int)]) q=O (.a (n.map cg)):=j _ _ u;refine⟨⟨_,I⟩,(N.b j).f S,D,n++[(m,e,i+1)],(aL P).trans (j _ _ L),?_,Q.a λT=>?_,?_,?_,?_,?_⟩;rw[<-U];exact cu (j5 _ _ _) (by omega);rw[F,Mt x,M];rw[az,a6]
  rfl
  have u:aM h (al (al K m (.d [.a (e:Int),.a ((i+1:Nat):Int)])) q (.a (n.map cg++[.b m]))):=(R.a j.c).b r iz;intro l y;rcases cU.mp y with y|y;exact u _ _ (G l y);rw[dZ.mp y];exact(aL w).trans az;rw[a6,A,F,vT,x];show _=_++[(e,jH (_++[g.a]) e)];rw[vl,M,x];simp;rw[bH];simp;omega
 rintro J h ⟨⟨o,rfl⟩,t,p,n,s,X,E,C,G,A,za⟩;rw[an,dN]at A;exact k q n h t S C G A
inductive Sr(vs:V ah)(H:af)(Q:bj)(E:cf):Prop
 |a (p:aN) (kp on:Nat):vs=[.b p.c,.a kp,.a on]->fN H p->p.p->A2 H Q ((gT ((p.j.filter λl=>aq (l.a.place<on)).map (·.a))).drop (gT ((p.j.filter λl=>aq (l.a.place<kp)).map (·.a))).length)->Sr vs H Q E
def Pg[p:aJ]:b' 5 123 Sr:=by
 refine cF 4 ["record"] λd g f e b=>?_;obtain⟨d,s,on,rfl,f,g,E⟩:=b;refine⟨_,aj (aA 3 (aP qc (c2 0))) (aj (aA 4 (aP CF (c3 (dX I e (bZ (W 3)) (own:=[("record",6)]) (dn I) (λ_ _ _ _ _=>bE 6) (λ_ _ _ _ _=>fU (c4 gH (c0 6) (W 1))) (λ_ _ _ _ _=>(W 6)))))) (aj (aA 5 (aP CF (c3 (dX I e (bZ (W 3)) (own:=[("record",6)]) (dn I) (λ_ _ _ _ _=>bE 6) (λ_ _ _ _ _=>fU (c4 gH (c0 6) (W 2))) (λ_ _ _ _ _=>(W 6)))))) (c1 (lu lw (W 5) (iO (c5 (W 4))) q_)))),d,I,f,g,λe h j i k=>?_⟩;have r:d.j.length<aH:=gX (cu (k' d) g);refine⟨_,I,⟨_,dU.b k⟩,λu h=>?_⟩;refine eR d.j ba.b ba.b (λe:ba=>aq (e.a.place<s)) h k r ?_ (λi w y=>?_);intro x l z m A B h i;obtain⟨o,_⟩:=ba.d (((f.a j).a m).c x (ho l));refine⟨I,o,p.c.a,I,_,_,I,I,bG (λb=>i (dm (by have:=cj b;omega)) _ aW.d) (λb=>h (da (by have:=dH b;omega)) _ aW.d)⟩;have t:=j.b w;have q:∀j,(d.j.filter λe:ba=>aq (e.a.place<j)).length<=1000000:=λj=>cu (fv _ _) (cu (k' d) g);refine⟨u,_,I,y,λn j=>(f.a t).c n (ho (cY.mp j).1),q s,λG g u y F D H C=>?_⟩;have u:=t.b y;have s:=y _ _ (w _ _ k);refine⟨_,I,⟨_,dU.b s⟩,λt w=>?_⟩;refine eR d.j ba.b ba.b (λe:ba=>aq (e.a.place<on)) w s r ?_ (λd k y=>?_);intro x l z m A B h i;obtain⟨o,_⟩:=ba.d (((f.a u).a m).c x (ho l));refine⟨I,o,p.c.a,I,_,_,I,I,bG (λb=>i (dm (by have:=cj b;omega)) _ aW.d) (λb=>h (da (by have:=dH b;omega)) _ aW.d)⟩;have d:=u.b k;refine⟨t,_,I,y,λn j=>(f.a d).c n (ho (cY.mp j).1),q on,λp b e h o l m i=>?_⟩;have e:=d.b h;refine⟨_,_,I,.inl (dU.b (h _ _ (k _ _ D))),_,I,_,_,I,dU.b l,λj d=>?_⟩;have h:f9 (b.map cg) (O (((g.map cg).length:Nat):Int)) aa=(b.drop g.length).map cg:=by unfold f9;rw[HT.mc,HT.s4,an,an];rw[<-jz,<-ka];congr 1;rw[mL (by rw[kL];omega)];by_cases f:g.length<=b.length;rw[pC f];rw[uy (by omega),jv,uk (by omega)]
 rw[h];refine E j (b.drop g.length) _ (e.b (aW.a d)) (e.e d) az (λh f=>(aW.a d) _ _ (m h (ur f))) ?_;rw[jz,i,<-C,an]
end
def kp(num:Nat)(b:bo)(a:Nat×Nat):aG:={place:=0,time:=0,key:=O a.1,value:=O [(a.2:Int)],sender:=num,seq:=(cZ b.b num).length+1,kind:=1}
def iA(num:Nat)(m:bo)(l:V (Nat×Nat)):bo:=l.foldl (λm a=>m.h (kp num m a)) m
def PQ(a)(c)(b)(d):iA a c (b++[d])=(iA a c b).h (kp a (iA a c b) d):=by
 unfold iA;rw[mJ]
 rfl
def CW{m:bo}(l:V (Nat×Nat))(b:m.e a):(iA c m l).e (a+l.length):=by
 induction l generalizing m a with|nil=>exact b|cons g d f=>have:=f (b.h (kp c m g));rw[cz,show a+(d.length+1)=a+1+d.length by omega];exact this
def CY(c)(m:bo)(l):(iA c m l).a=m.a/\(iA c m l).f=m.f:=by
 induction l generalizing m with|nil=>exact⟨I,I⟩|cons g d e=>obtain⟨d,b⟩:=e (m.h (kp c m g));exact⟨d.trans (jb _ _).1,b.trans (jb _ _).2⟩
def Cc(b:V c)(a)(d e:c->c):(b.modify a d).modify a e=b.modify a (λf=>e (d f)):=by
 apply mH;intro c;rw[mK,mK,mK];cases b[c]? with|none=>rfl|some f=>by_cases b:a=c<;>simp[b]
def QA{c:a2}{a j:Nat}{P1 P2:aN}(e:c.b[a]?=O d):(c.g a j P1).g a j P2=c.g a j P2:=by unfold a2.g;show({c with b:=(c.b.modify a _).modify a _}:a2)=_;rw[Cc];simp only[kb]
def QC{a:a2}{d j:Nat}{c:bq}(f:a.b[d]?=O c)(g:c.a[j]?=O e):a.g d j e=a:=by rw[sF f,oJ g];show({a with b:=a.b.set d c}:a2)=a;rw[oJ f]
def QB{e:a2}{d j:Nat}{c:bq}{h P':aN}(g:e.b[d]?=O c)(i:c.a[j]?=O h):∃f,(e.g d j P').b[d]?=O f/\f.a[j]?=O P':=by refine⟨{c with a:=c.a.set j P'},?_,?_⟩;rw[sF g];show(e.b.set d _)[d]?=_;rw[fK (bu.mp g).1];show(c.a.set j P')[j]?=_;rw[fK (bu.mp i).1]
def N7(b:b3)(a:Y×Nat×Nat):(b.f a).f a=b.f a:=by unfold b3.f;by_cases c:(b.a.map (·.2)).contains a.2=ab;rw[ay c,ay c];rw[aw c];refine ay ?_;show((b.a++[a]).map (·.2)).contains a.2=ab;simp
def dQ(t:b3)(a:Y×Nat×Nat)(l:V (Nat×Nat)):b3:=if l=[]then t else t.f a
def N6(c)(b)(a)(d):(dQ c b a).f b=dQ c b (a++[d]):=by unfold dQ;by_cases b:a=[];rw[ay b,aw (by simp)];rw[aw b,aw (by simp),N7]
def N5(b:b3)(c)(d):(dQ b c d).a.length<=b.a.length+1:=by unfold dQ;split;omega;exact Cg b c
section
inductive SH(vs:V ah)(H:af)(Q:bj)(E:cf):Prop
 |a (s:a2) (i:Nat) (x:bf) (t:b3) (y:Y×Nat×Nat) (b:bq) (P:aN) (n:Nat) (ml:Y) (ys:V (Y×Nat×Nat)) (R:V aE):vs=[.b s.e,.b x.e,.b y.1,.b ml]->am H (s.d::[(ml,.a (ys.map cg))]::R)->s.a[i]?=O x->x.a=O t->fO H t.a->t.a.length<=1000->fO H [y]->fO H ys->s.b[y.2.1]?=O b->b.a[y.2.2]?=O P->P.a.e n->n+ys.length<=999999->(∀(P':aN) H',P'.c=P.c->P'.a=iA x.c P.a (ys.map (·.2))->aM H H'->am H' (a2.d {s.g y.2.1 y.2.2 P' with a:=s.a.set i {x with a:=O (dQ t y (ys.map (·.2)))}}::[(ml,.a (ys.map cg))]::R)->Q .c H')->SH vs H Q E
def Pr[d:aJ]:cL 7 124 SH:=by
 refine cT 1 [] λi g d e l=>?_;obtain⟨e,g,x,t,d,m,P1,w,s,h,y,rfl,k,r,q,B,n,G,C,A,p,K,u,Q⟩:=l;refine⟨_,au (dY kQ I (bZ (W 3)) (bE 4) (au (a9 (aP CJ (Z (W 0) (Z (W 1) (n2 (W 2) (dL mr (W 4) a5 (λ_ _=>I)) a5 (bC (c3 (dL mr (W 4) a5 (λ_ _=>I))))))))))),_,I,⟨_,dU.b (k.e 1 I)⟩,ev (xs:=h.map cg) (λj w m=>(∃o,w=[O (.b e.e),O (.b x.e),O (.b d.1),O (.b s),o])/\aM i m/\∃P':aN,P'.c=P1.c/\P'.a=iA x.c P1.a ((h.take j).map (·.2))/\am m (a2.d {e.g d.2.1 d.2.2 P' with a:=e.a.set g {x with a:=O (dQ t d ((h.take j).map (·.2)))}}::[(s,.a (h.map cg))]::y)) ⟨⟨_,I⟩,aM.c,P1,I,I,?_⟩ ?_ ?_ ?_⟩;have l:({e.g d.2.1 d.2.2 P1 with a:=e.a.set g {x with a:=O (dQ t d [])}}:a2)=e:=by rw[QC A p];have n:({x with a:=O (dQ t d [])}:bf)=x:=Dl q;rw[n,oJ r]
 show am i (a2.d {e.g d.2.1 d.2.2 P1 with a:=e.a.set g {x with a:=O (dQ t d [])}}::_);rw[l];exact k;rintro j w m _ ⟨_,_,P',_,_,n⟩;exact dU.b (n.e 1 I);rintro j v w m l ⟨⟨o,rfl⟩,u,P',z,q,n⟩;obtain⟨k,i,rfl⟩:=d2 l;have l:=u _ _ (C k (a1 i));have C:=(bu.mp i).1;have H:(h.take (j+1)).map (·.2)=(h.take j).map (·.2)++[k.2]:=l9 (λC:Y×Nat×Nat=>C.2) i;refine⟨_,_,_,_,I,I,kA.b l,dJ (j:=0) I,_,_,_,_,I,I,kA.b l,dJ (j:=1) I,c9,λD F=>?_⟩;have N:=aW.a (o:=.a [.a (k.2.2:Int)]) F;let i:bf:={x with a:=O (dQ t d ((h.take j).map (·.2)))}
 let l:a2:={e.g d.2.1 d.2.2 P' with a:=e.a.set g i}
 have P:l.a[g]?=O i:=by show(e.a.set g i)[g]?=_;rw[fK (bu.mp r).1]
 obtain⟨E,r,M⟩:=QB (P':=P') A p;have r:l.b[d.2.1]?=O E:=r;have J:am (al m D (.a [.a (k.2.2:Int)])) (l.d::[(D,.a (bg [(k.2.2:Int)]))]::[(s,.a (h.map cg))]::y):=(n.f F (.a [.a (k.2.2:Int)])).a 1 I;have L:P'.a.e 999999:=by rw[q];refine(CW _ K).c ?_;rw[an,e7];omega
 have p:=u.a N.c;refine⟨l,g,i,d,E,P',O k.2.1,0,D,[(k.2.2:Int)],_,I,J,P,λR N=>?_,G.a p,r,M,Fit.a L (by omega),λP2 E J K P F=>?_⟩;obtain rfl:dQ t d ((h.take j).map (·.2))=R:=bA N;refine⟨?_,by have:=N5 t d ((h.take j).map (·.2));omega⟩;unfold dQ b3.f;split;exact B.a p;split;exact B.a p;intro D r;rcases cU.mp r with r|r;exact(B.a p) D r;exact(G.a p) D r;refine⟨⟨_,I⟩,p.a P,P2,J.trans z,?_,?_⟩;have p:hV i P' (O k.2.1) 0 [(k.2.2:Int)]=kp x.c P'.a k.2:=I;rw[K,p,H,PQ,<-q];have p:({l.g d.2.1 d.2.2 P2 with a:=l.a.set g {i with a:=i.a.map λt=>t.f d}}:a2)={e.g d.2.1 d.2.2 P2 with a:=e.a.set g {x with a:=O (dQ t d ((h.take (j+1)).map (·.2)))}}:=by
  have r:(l.g d.2.1 d.2.2 P2)={e.g d.2.1 d.2.2 P2 with a:=e.a.set g i}:=by have:=cb (λC:a2=>({C with a:=e.a.set g i}:a2)) (QA (P1:=P') (P2:=P2) (j:=d.2.2) A);exact this
  rw[r];show({e.g d.2.1 d.2.2 P2 with a:=(e.a.set g i).set g {x with a:=O ((dQ t d ((h.take j).map (·.2))).f d)}}:a2)=_;rw[kb,H,N6 t d _ k.2]
 have e:am E (a2.d {l.g d.2.1 d.2.2 P2 with a:=l.a.set g {i with a:=i.a.map λt=>t.f d}}::[(s,.a (h.map cg))]::y):=F;rw[p]at e;exact e;rintro w m ⟨⟨o,rfl⟩,u,P',z,q,n⟩;rw[an,dN]at q n;exact Q P' m z q u n
inductive R6(vs:V ah)(H:af)(Q:bj)(E:cf):Prop
 |a (s:a2) (g:a_) (t:Y) (b p:Int):vs=[.b s.e,.b g.e,.b t]->iu H s->kY H g->H t=O (.d [.a b,.a p])->((s.p b p).isSome=ab->b≠g.k->Q .c H)->((s.p b p=aa\/b=g.k)->dO ak cE E H (-2))->R6 vs H Q E
def O4[b:aJ]:cL 6 137 R6:=by refine cT 0 [] λc f d e a=>?_;obtain⟨l,h,m,f,k,rfl,c,g,d,i,e⟩:=a;refine⟨_,aj (a9 (bT ja (W 0) (c2 2))) (au (bD (c4 gh (dL mr (W 2) a5 (λ_ _=>I)) (c0 1)) (au (f0 b.A)) bQ)),c.a,I,l,m,f,k,I,c,d,λn h=>?_,λc=>e (.inl c)⟩;refine⟨_,_,_,_,I,I,kA.b d,dJ (j:=0) I,g.a,b.h.b,I,I,bG (λa=>?_) (λa=>?_)⟩;exact e (.inr (by have:=cj a;injection this));exact i (by rw[h];rfl) (λb=>dH a (by rw[b]))
end
def hn(a:gy)(b:Nat×Nat):gy:=if a.parts.contains b=ab then a else{a with parts:=a.parts++[b]}
def N3(b:gy)(a):(hn b a).parts.contains a=ab:=by unfold hn;split;assumption;show(b.parts++[a]).contains a=ab;simp
def N4(b)(a):hn (hn b a) a=hn b a:=by exact ay (N3 b a)
abbrev jg(b c:Nat)(a:bt×gf×gy)(v:Nat×V Int):bt×gf×gy:=sS a.1 a.2.1 a.2.2 b c 0 (O v.1) (O v.2)
def Tq{num:Nat}(a)(d:1<=num)(c:b.1<100):m8 a (kp num a b):=by refine⟨⟨by show 1<=3;omega,λa=>?_,λb a=>?_,λb a=>?_,λa=>(by cases a)⟩,λ_=>I,⟨λ_ a=>?_,λ_=>JU _⟩⟩;have a:2<=1:=a;omega;have:=bA a;omega;obtain rfl:=bA a;simp;have a:num=0\/1=2\/1=3:=a;omega
def Tr(b c num)(y:1<=num):∀(f:V (Nat×Nat))(S:bt)(e:gf) d(m:bo) h(j:V d3),e.id=num->(∀a∈f,a.1<100)->cv m h->S.parts[b]?=O j->j[c]?=O h->(fn S b).segment=m.a->(fn S b).keep=m.f->
  ∃p,cv (iA num m f) p/\((f.map λa=>(a.1,[(a.2:Int)])).foldl (jg b c) (S,e,d)).1.parts=S.parts.modify b (λl=>l.set c p)/\((f.map λa=>(a.1,[(a.2:Int)])).foldl (jg b c) (S,e,d)).1.books=S.books/\((f.map λa=>(a.1,[(a.2:Int)])).foldl (jg b c) (S,e,d)).1.groups=S.groups/\
   ((f.map λa=>(a.1,[(a.2:Int)])).foldl (jg b c) (S,e,d)).2.2=(if f=[]then d else hn d (b,c))/\({((f.map λa=>(a.1,[(a.2:Int)])).foldl (jg b c) (S,e,d)).2.1 with deal:=O (if f=[]then d else hn d (b,c))}:gf)={e with deal:=O (if f=[]then d else hn d (b,c))}/\
   (dt ((f.map λa=>(a.1,[(a.2:Int)])).foldl (jg b c) (S,e,d)).1 {e with deal:=O (if f=[]then d else hn d (b,c))}).senders=S.senders.map λg=>if g.id=num then{e with deal:=O (if f=[]then d else hn d (b,c))}else g:=by
 intro f;induction f with
 |nil=>intro S e d m h j o _ r n q _ _;refine⟨h,r,?_,I,I,I,I,?_⟩;show S.parts=_;rw[lY n,oJ q,oJ n];show(S.senders.map λf=>if f.id=e.id then _ else f)=_;rw[o]
 |cons a H F=>
  intro S e d m h j o t r n q w u;have z:bP S b c=h:=wd n q;let k:gy:=hn d (b,c)
  let f:gf:={e with deal:=O k}
  let i:=nx (fn S b) h (kp num m a)
  let s:=dt (gB S b c i) f
  have B:jg b c (S,e,d) (a.1,[(a.2:Int)])=(s,f,k):=by
   show sS S e d b c 0 (O a.1) (O [(a.2:Int)])=_;have x:({place:=0,time:=0,key:=O a.1,value:=O [(a.2:Int)],sender:=e.id,seq:=sO h e.id+1,kind:=1}:aG)=kp num m a:=by unfold kp;rw[o,r.w]
   have h:sS S e d b c 0 (O a.1) (O [(a.2:Int)])=(dt (gB S b c (nx (fn S b) (bP S b c) {place:=0,time:=0,key:=O a.1,value:=O [(a.2:Int)],sender:=e.id,seq:=sO (bP S b c) e.id+1,kind:=1})) f,f,k):=I;rw[h,z,x]
  have C:s.parts[b]?=O (j.set c i):=by show(S.parts.modify b λl=>l.set c i)[b]?=_;rw[lY n,fK (bu.mp n).1]
  have D:(j.set c i)[c]?=O i:=fK (bu.mp q).1;have G:=Tq (num:=num) m y (t a cr);obtain⟨p,x,y,z,A,h,n,q⟩:=F s f k (m.h (kp num m a)) i (j.set c i) o (λJ E=>t J (cJ _ E)) (r.o w u G) C D (w.trans (jb _ _).1.symm) (u.trans (jb _ _).2.symm);have a:(if H=[]then k else hn k (b,c))=hn d (b,c):=by
   split
   rfl
   exact N4 d (b,c)
  rw[a]at h n q;rw[b1,kK,B,aw (by simp)];refine⟨p,x,?_,z,A,h,n,?_⟩;rw[y];show(S.parts.modify b λl=>l.set c i).modify b (λl=>l.set c p)=_;rw[Cc];congr 1;funext l;rw[kb];refine wJ q ?_;show(S.senders.map λg=>if g.id=e.id then f else g).map _=_;rw[bz];apply ga;intro g _;show(if(if g.id=e.id then f else g).id=num then _ else _)=_;rw[o];by_cases a:g.id=num;rw[ay a,ay a];show(if e.id=num then _ else _)=_;rw[ay o];rw[aw a,aw a]
def NK{f g h:d->Bool}(b:V d)(c:∀a∈b,f a=ab->g a=ab\/h a=ab):(b.filter f).length<=(b.filter g).length+(b.filter h).length:=by
 induction b with
 |nil=>simp
 |cons a d b=>
  have b:=b λe d=>c e (cJ _ d);have b:=c a cr;clear c;rw[ig,ig,ig];cases c:f a<;>cases d:g a<;>cases e:h a;case true.false.false=>rw[d,e]at b;exact a7 (b c) (by simp)
  all_goals(simp only[jl,if_true,if_false,cz];omega)
def Qu{b:aN}(h:cv b.a a):fz (eV a):=h.f.sublist jw
def N0(g:fz (eV d))(c b)(e:1<=b):((eV d).filter λa=>aq (c<=a.place)&&aq (a.place<(eu d c b ab).2)).length<=b:=by
 have e:(eu d c b ab).2=(if(((eV d).filter λa=>aq (c<=a.place)).take b).length<b then eN c (fF d)else(((((eV d).filter λa=>aq (c<=a.place)).take b).getLast?.map λa=>a.place+1).getD c)):=I;rw[e];have f:∀e,((eV d).filter λa=>aq (c<=a.place)&&aq (a.place<e))=((eV d).filter λa=>aq (c<=a.place)).filter λa=>aq (a.place<e):=λe=>by rw[lz];congr 1;funext a;exact lg _ _
 rw[f];have f:fz ((eV d).filter λa=>aq (c<=a.place)):=g.sublist jw;generalize(eV d).filter (λa=>aq (c<=a.place))=d at f;by_cases h:(d.take b).length<b;rw[e7]at h;refine cu (fv _ _) ?_;omega;rw[aw h];have c:(d.take b).length=b:=by
  have:(d.take b).length<=b:=by rw[e7];omega
  omega
 cases e:(d.take b).getLast? with
 |none=>rw[yX]at e;rw[e]at c;simp at c;omega
 |some c=>
  show(d.filter λa=>aq (a.place<c.place+1)).length<=b;obtain⟨g,i⟩:=Jw.mp e;have i:c∈d.take b:=uq e;conv=>lhs;rw[<-gK b d]
  rw[ie,bH];have e:(d.drop b).filter (λa=>aq (a.place<c.place+1))=[]:=yR.mpr λj g=>by rw[<-gK b d]at f;have:=(rv.mp f).2.2 c i j g;simp;omega
  rw[e];have:=fv (λa:aG=>aq (a.place<c.place+1)) (d.take b);simp;omega
def PO{U:bt}{c:V a_}{g:Nat}{a:a_}(f:U.groups=c.map a_.c)(h:(c.map (·.b)).Nodup)(e:c[g]?=O a)(d):jU (hv U {a.c with reading:=d})=jU U:=by
 unfold jU;have g:((hv U {a.c with reading:=d}).groups.map λa=>({a with reading:=a.places}:Vblwai.Group))=U.groups.map λa=>{a with reading:=a.places}:=by show((U.groups.map λc=>if c.id=a.b then({a.c with reading:=d}:mb)else c).map λa=>({a with reading:=a.places}:Vblwai.Group))=_;rw[f,bz,bz,bz];apply ga;intro c f;show(λa:mb=>({a with reading:=a.places}:mb)) (if c.b=a.b then({a.c with reading:=d}:mb)else c.c)={c.c with reading:=c.c.places};by_cases d:c.b=a.b;obtain⟨j,a⟩:=hG.mp f;have:=so h a e d;subst this;rw[a]at e;obtain rfl:=bA e;rw[ay d];rw[aw d]
 dsimp only;rw[g]
 rfl
def Bw{c:V a_}{e:Nat}{a:a_}(f:(c.map (·.b)).Nodup)(d:c[e]?=O a):dE c (a.b:Int)=O a:=by
 cases e:dE c (a.b:Int)with|none=>have:=j9.mp e a (a1 d);simp at this|some a=>obtain⟨c,j,a⟩:=vz e;have:=so f a d c;subst this;rw[d]at a;exact a.symm
noncomputable def oL(S:bt)(x:mb)(g:gf)(b f d:Nat)(j:Int):bt×gn:=
 let a:=bP S x.book b
 let c:=eu a (x.places.getD b 0) d ab
 let d:=((eV a).filter λr=>aq (r.place<x.places.getD b 0)&&r.key.isSome).length
 let e:=(wE ((eV a).filter λr=>aq (r.place<c.2))).drop d
 let a:=e.foldl (λ(d:bt×gf×gy) v=>sS d.1 d.2.1 d.2.2 f b 0 (O v.1) (O v.2)) (S,g,{parts:=[],places:=[(x.id,x.gen,b,c.2)],decided:=ae})
 let f:=dt a.1 {a.2.1 with deal:=O a.2.2}
 let d:=hv f {x with reading:=x.reading.set b c.2}
 (if j=-1 then jU d else if j=-2 then gz f {a.2.1 with deal:=O a.2.2}else jS d {a.2.1 with deal:=O a.2.2} a.2.2 j.toNat,{value:=(e.length:Int),more:=cd [c.2]})
def NP{k:aN}(h:cv k.a c)(d e)(n:1<=e):let i:=(gT ((k.j.filter λj=>aq (j.a.place<(eu c d e ab).2)).map (·.a))).drop (gT ((k.j.filter λj=>aq (j.a.place<d)).map (·.a))).length
  (wE ((eV c).filter λb=>aq (b.place<(eu c d e ab).2))).drop ((eV c).filter λb=>aq (b.place<d)&&b.key.isSome).length=i.map (λv=>(v.1,[(v.2:Int)]))/\i.length<=e/\∀v∈i,v.1<100:=by
 have l:∀i,(k.j.filter λj=>aq (j.a.place<i)).map (·.a)=(eV c).filter λb=>aq (b.place<i):=λi=>by
  rw[na (g:=λb=>aq (b.place<i)),h.r];intro j _
  rfl
 have j:∀i,(gT ((eV c).filter λb=>aq (b.place<i))).length=((eV c).filter λb=>aq (b.place<i)&&b.key.isSome).length:=λi=>by rw[NO,lz];congr 2;funext b;exact lg _ _
 simp only[l,j];refine⟨?_,?_,?_⟩;rw[Ts,jz];rw[kL,j];have m:=N0 (Qu h) d e n;have n:=NK (f:=λb:aG=>aq (b.place<(eu c d e ab).2)&&b.key.isSome) (g:=λb=>aq (b.place<d)&&b.key.isSome) (h:=λb=>aq (d<=b.place)&&aq (b.place<(eu c d e ab).2)) (eV c) (λb _ j=>by obtain⟨i,k⟩:=(fe _ _).mp j;by_cases l:b.place<d;exact .inl (by rw[dm l,k];rfl);exact .inr (by rw[dm (show d<=b.place by omega),i];rfl))
 omega;intro v k;have k:=ur k;obtain⟨x,l,i⟩:=uo.mp k;have k:x.1∈(eV c).filter λb=>aq (b.place<(eu c d e ab).2):=by obtain⟨m,n,b⟩:=JD l;rw[b];exact Ju _
 have j:x.1∈bU c:=(cY.mp (cY.mp k).1).1;cases b:x.1.key with
 |none=>rw[b]at i;cases i
 |some c=>rw[b]at i;obtain rfl:=bA i;exact(h.a.d x.1 (by rw[<-h.e];exact j)).a c b
def bI.zd{s:a2}{S:bt}(zf:bI zh s S zr)(zN:zr+1<=900)(zT:aM zh zg){zq zn b g:Nat}{x:bf}{H:a_}{zi:bq}{zk zj:aN}{t:b3}{k:V (Nat×Nat)}{mv:fA}{on:Nat}{gs:V a_}{U:bt}
  (zo:s.a[zq]?=O x) (zQ:x.a=aa) (zM:s.c[zn]?=O H) (zl:s.b[b]?=O zi) (zm:zi.a[g]?=O zk) (zx:zj.a=iA x.c zk.a k) (zh:k.length<=20) (zD:∀v∈k,v.1<100) (zO:g<H.a.length)
  (zv:t.a=[]) (zw:t.b=[]) (zy:t.j=ae) (zz:t.e=0) (zP:zg ze=O (.d [.a (b:Int),.a (g:Int)])) (zp:(mv.a,mv.e,mv.b,mv.c)=(H.b,H.g,g,on))
  (zn:U=dt ((k.map λv=>(v.1,[(v.2:Int)])).foldl (jg b g) (S,x.b,{parts:=[],places:=[(H.b,H.g,g,on)],decided:=ae})).1 (bf.b {x with a:=O {dQ t (ze,b,g) k with b:=(dQ t (ze,b,g) k).b++[mv]}}))
  (zh:bt) (zU:zh.books=U.books) (zV:zh.parts=U.parts) (zW:zh.senders=U.senders) (zX:zh.groups=gs.map a_.c) (zF:gs.map gR=s.c.map gR) (zY:∀zu∈gs,i3 (s.b.map bq.b) zu.i):
  bI zg {s.g b g zj with a:=s.a.set zq {x with a:=O {dQ t (ze,b,g) k with b:=(dQ t (ze,b,g) k).b++[mv]}},c:=gs} zh (zr+1)/\U.groups=S.groups/\
   (b3.d {dQ t (ze,b,g) k with b:=(dQ t (ze,b,g) k).b++[mv]})=((k.map λv=>(v.1,[(v.2:Int)])).foldl (jg b g) (S,x.b,{parts:=[],places:=[(H.b,H.g,g,on)],decided:=ae})).2.2/\
   (bf.b {x with a:=O {dQ t (ze,b,g) k with b:=(dQ t (ze,b,g) k).b++[mv]}})={((k.map λv=>(v.1,[(v.2:Int)])).foldl (jg b g) (S,x.b,{parts:=[],places:=[(H.b,H.g,g,on)],decided:=ae})).2.1 with deal:=O ((k.map λv=>(v.1,[(v.2:Int)])).foldl (jg b g) (S,x.b,{parts:=[],places:=[(H.b,H.g,g,on)],decided:=ae})).2.2}:=by
 have zE:=a1 zo;obtain⟨zt,zR,zS,_⟩:=zf.o zl zm;obtain⟨zB,zs,zr,zg,zA⟩:=zf.q zl;obtain⟨zL,zr⟩:=qi (m:=zs) (l:=zi.b.a) zA.a (by show(zi.a.map aN.a)[g]?=O zk.a;rw[bw,zm];rfl);have zA:=wd zg zr;rw[zA]at zt;obtain⟨zA,zG,zH,zI,zC,zB,zJ,zK⟩:=Tr b g x.c (zf.A x zE) k S x.b {parts:=[],places:=[(H.b,H.g,g,on)],decided:=ae} zk.a zL zs I zD zt zg zr zR zS;obtain⟨zD,zE,zA⟩:(dQ t (ze,b,g) k).j=ae/\(dQ t (ze,b,g) k).e=0/\(dQ t (ze,b,g) k).b=[]:=by unfold dQ;split;exact⟨zy,zz,zw⟩;obtain⟨zg,zr,zs⟩:=vV t (ze,b,g);exact⟨zg.trans zy,zr.trans zz,zs.trans zw⟩
 have zr:(dQ t (ze,b,g) k).a=if k=[]then[]else[(ze,b,g)]:=by
  unfold dQ;split;exact zv;unfold b3.f;rw[zv]
  rfl
 generalize zs:dQ t (ze,b,g) k=zg at*;let zs:b3:={zg with b:=zg.b++[mv]}
 let ze:bf:={x with a:=O zs}
 have zw:zs.d=(if k=[]then{parts:=[],places:=[(H.b,H.g,g,on)],decided:=ae}else hn {parts:=[],places:=[(H.b,H.g,g,on)],decided:=ae} (b,g)):=by
  show(⟨(zg.a.map (·.2)).drop zg.e,(zg.b++[mv]).map _,zg.j⟩:gy)=_;rw[zD,zE,zA,zr];split;show(⟨[],[(mv.a,mv.e,mv.b,mv.c)],ae⟩:gy)=_;rw[zp];show(⟨[(b,g)],[(mv.a,mv.e,mv.b,mv.c)],ae⟩:gy)=_;rw[zp]
  rfl
 have zy:ze.b={x.b with deal:=O (if k=[]then{parts:=[],places:=[(H.b,H.g,g,on)],decided:=ae}else hn {parts:=[],places:=[(H.b,H.g,g,on)],decided:=ae} (b,g))}:=by
  show(⟨x.c,x.f,O zs.d⟩:gf)=_;rw[zw]
  rfl
 have zL:U.senders=(s.a.set zq ze).map bf.b:=by rw[zn];show(dt _ ze.b).senders=_;rw[zy,zK,<-zy];exact jf (S:=S) (x':=ze) zf.h zf.j zo I
 have zt:=qh (s:=s) (f:=λm=>iA x.c m k) zl zm zx;have zv:b2 ((s.g b g zj).b.map bq.b)=b2 (s.b.map bq.b):=by rw[zt,oF]
 refine⟨?_,by rw[zn];exact zC,by rw[zB];exact zw,?_⟩;refine zf.n zN zT zf.a ?_ zv ?_ (zW.trans zL) (ko zo I) (λzR zz zK zC=>?_) ?_ zX zF (λzu zw=>(zY zu zw).d zv);show dp ((s.g b g zj).b.map bq.b) zh;rw[zt];refine(zf.b.g (b:=zi.b) (m:=zk.a) (f:=λm=>iA x.c m k) (by rw[bw,zl];rfl) (by show(zi.a.map aN.a)[g]?=_;rw[bw,zm];rfl) zG (CY _ _ _).1 (CY _ _ _).2).a ?_ ?_;rw[zU,zn];exact zI;rw[zV,zn];exact zH;show dy ((s.g b g zj).b.map bq.b) _;rw[zt];exact zf.c.b (by omega) λm zx=>(CW k zx).c (by omega);rcases iT zz with zz|rfl;exact .inl ⟨zR,zz,zC⟩;obtain rfl:zs=zK:=bA zC;refine .inr ⟨zD,zE,⟨λzh k=>?_,λzh k=>?_,λzh k=>?_⟩,?_⟩;have k:zh∈zg.a:=k;rw[zr]at k;split at k;cases k;rw[dZ.mp k];exact zP;have k:zh∈zg.a.map (·.2):=k;rw[zr]at k;split at k;cases k;have:zh=(b,g):=by simpa using k
 rw[this];exact(Ds zl zm).a zv;have k:zh∈zg.b++[mv]:=k;rw[zA]at k;rw[dZ.mp k];have zw:mv.a=H.b:=cb (λk:Nat×Nat×Nat×Nat=>k.1) zp;have zh:mv.b=g:=cb (λk:Nat×Nat×Nat×Nat=>k.2.2.1) zp;have:kj s.c mv:=⟨H,by rw[zw];exact Bw zf.m zM,by rw[zh];exact zO⟩;exact this.a zF;show(zg.b++[mv]).length<=_;rw[zA];simp;have g:=nt (x':=ze) zo;have g:b_ x=0:=by unfold b_;rw[zQ]
 have g:b_ ze<=1:=by show zg.a.length<=1;rw[zr];split<;>simp
 have:=zf.i;show((s.a.set zq ze).map b_).sum<=_;omega;show ze.b=_;rw[zB,zJ];exact zy
section
inductive S0(vs:V ah)(H:af)(Q:bj)(E:cf):Prop
 |a (s:a2) (S:bt) (k iy:Nat) (y:a_) (ix:Nat) (x:bf) (ty:Y) (b p c:Nat) (j:Int) (bk:bq) (Pt:aN) (gb:bq) (Pg:aN) (R:V aE):vs=[.b s.e,.a y.b,.b ty,.b x.e,.a c,.a j]->am H (s.d::R)->bI H s S k->k+2<=900->s.c[iy]?=O y->p<y.a.length->p<y.d.length->s.a[ix]?=O x->H ty=O (.d [.a (b:Int),.a (p:Int)])->s.b[b]?=O bk->bk.a[p]?=O Pt->s.b[y.k]?=O gb->gb.a[p]?=O Pg->1<=c->c<=20->-2<=j->(x.a.isSome=ab->dO ak cE E H (-7))->(x.a=aa->∀l s' H',s'.e=s.e->bI H' s' (oL S y.c x.b p b c j).1 (k+2)->am H' ([(l,.a (bg (ci (oL S y.c x.b p b c j))))]::s'.d::R)->Q (.b l) H')->S0 vs H Q E
def PD[M:aJ]:cL 10 125 S0:=by
 refine cT 6 [] λZF zbj zbf zbi Z5=>?_;obtain⟨p,S,zq,zY,e,k,x,za,w,h,N,j,ZT,ZJ,Z4,zaP,Q,rfl,Zm,r,zba,zi,Zr,zah,zo,Zu,zR,zV,zy,zz,zS,zaY,zaZ,zat,B⟩:=Z5;refine⟨_,aj (a9 (a' Cu (W 3))) (aj (aA 6 (bT ni (W 0) (c2 1))) (aj (aA 7 (dL mr (W 2) a5 (λ_ _=>I))) (aj (aA 8 (bT ja (W 0) (c3 (js (c6 (c0 6) (W 7)))))) (aj (aA 9 (c8 (c0 6) (W 7))) (aj (aA 10 (n4 (aP v_ (n2 (W 8) (W 9) (W 4) a5)))) (aj (aA 11 (aP Pg (pn 8 9 10))) (aj (a9 (aP Pr (n8 0 3 2 11))) (aj (a9 (eY e9 gL ha gG (n4 (c0 3)) (c3 (hQ M.zn Cp (n2 (W 1) (c0 6) (W 7) (W 10)))))) (aj (bD (c4 gh (W 5) (di M.zG)) (au (a9 (aP v9 (c2 0)))) (au (bD (c4 gh (W 5) (di M.zr)) (au (a9 (aP qb (c7 0 3)))) (aj (a9 (bT Co (W 6) (c7 7 10))) (au (a9 (aP CA (pn 0 3 5)))))))) (c1 (bC (c6 (c5 (W 11)) (W 10))))))))))))),?_⟩;have zaj:=a2.f (Zm.d 0 I);have zap:=a1 zo;have zG:=a1 zi;obtain⟨zaQ,zaz,zaA⟩:=a2.q zo;refine⟨(zaj.c x zap).a,I,x,_,I,Zm.l zaz,zat,λZw t ZG z3 z5 zaB zaC ZE ZN=>?_⟩;have B:=B Zw;let zb:bf:={x with a:=O t}
 let z:a2:={p with a:=p.a.set k zb}
 have Zb:am ZG (z.d::Q):=ZN.m (zaA zb I I);have zp:=a2.f (Zb.d 0 I);have zac:z.a[k]?=O zb:=by show(p.a.set k zb)[k]?=_;rw[fK (bu.mp zo).1]
 have Zn:dE z.c (e.b:Int)=O e:=Bw r.m zi;refine⟨zp.a,I,z,(e.b:Int),I,zp,λzaO Zx=>?_,λzD=>by rw[Zn]at zD;cases zD⟩;obtain rfl:e=zaO:=by rw[Zn]at Zx;exact bA Zx
 have Zh:=zp.e e zG;have Zv:=ZE _ _ Zu;refine⟨_,_,_,_,I,I,kA.b Zv,dJ (j:=1) I,zp.a,I,Zh.a,M.h.b,I,n1,λzaD zal=>?_⟩;have zH:=aW.a (o:=.d [.a (e.k:Int),.a (h:Int)]) zal;refine⟨z,zaD,(e.k:Int),(h:Int),I,zp.h zH,az,λzd Z9=>?_,λzD=>nh (s:=z) zy zz zD⟩;obtain rfl:=nf (s:=z) zy zz Z9;have Zj:=((zp.d Z4 (a1 zy)).c zd (a1 zz)).a zH;have Zi:=Zh.c zH;have zN:e.a[h]?=O e.a[h]:=eM Zr;have Zf:e.a.getD h 0=e.a[h]:=by rw[pw,zN];rfl
 generalize zbc:e.a[h]=F at zN Zf;refine⟨Zi.a,M.h.a,I,_,_,_,_,I,I,dU.b Zi.b,dJ (v:=.a (F:Nat)) (by rw[bw,zN];rfl),?_⟩;have zQ:=(r.o zy zz).1;have Zt:=r.y zy zz;generalize zai:bP S e.k h=z2 at zQ;refine⟨zd,(F:Int),N,1,I,zS,Zj,Zt,λzbk zaS zbh ZI Zz _ _ zW zbd=>?_⟩;have zU:=zQ.u F N 1 ⟨by omega,by omega⟩ zS;have zU:k8 zd F N 1=((eu z2 F N ab).2:Int):=zU;rw[zU]at zW;obtain⟨z0,ZA,z1⟩:=NP zQ F N zS;generalize Z6:(eu z2 F N ab).2=on at zW z0 ZA z1;refine⟨zW,M.u.a,I,?_⟩;change ft _ _ _ [O (.b p.e),O (.a (e.b:Int)),O (.b za),O (.b x.e),O (.a (N:Int)),O (.a j),O (.b e.e),O (.a (h:Int)),O (.b zd.c),O (.a (F:Int)),O (.a (on:Int)),aa] ZI;have Zy:=zH.b Zz;refine⟨zd,F,on,I,Zj.a Zz,Zt,λH n z7 zau zag zao zaH zO=>?_⟩;generalize zbe:(gT ((zd.j.filter λG=>aq (G.a.place<on)).map (·.a))).drop (gT ((zd.j.filter λG=>aq (G.a.place<F)).map (·.a))).length=T at z0 ZA z1 zO;have zar:n.length=T.length:=by have:=cb fu zO;rw[an]at this;exact this
 have zZ:=Zy.b zau;have ZS:am z7 (z.d::[(H,.a (n.map cg))]::Q):=(Zb.q zZ (Zy.e zag) zao).a 1 I;have zaG:=ZE.a zZ.c;have zaq:fO z7 [(za,w,h)]:=λD P=>by rw[dZ.mp P];exact zZ _ _ Zv
 have zbb:=r.r;refine⟨z,k,zb,t,(za,w,h),ZT,ZJ,1000*zq,H,n,Q,I,ZS,zac,I,(by intro D P;rw[z3]at P;cases P),(by rw[z3];simp),zaq,zaH,zR,zV,r.c.c zR zV,by omega,λzm z8 zaX Zp zaE zw=>?_⟩;rw[zO]at Zp zw;let i:b3:=dQ t (za,w,h) T
 let zc:bf:={x with a:=O i}
 let zr:a2:={p.g w h zm with a:=p.a.set k zc}
 have Zc:am z8 (zr.d::[(H,.a (n.map cg))]::Q):=by
  have zx:({z.g w h zm with a:=z.a.set k {zb with a:=O (dQ t (za,w,h) T)}}:a2)=zr:=by show({p.g w h zm with a:=(p.a.set k zb).set k zc}:a2)=zr;rw[kb]
  have zw:am z8 (a2.d {z.g w h zm with a:=z.a.set k {zb with a:=O (dQ t (za,w,h) T)}}::[(H,.a (n.map cg))]::Q):=zw;rw[zx]at zw;exact zw
 have Zo:zr.a[k]?=O zc:=by show(p.a.set k zc)[k]?=_;rw[fK (bu.mp zo).1]
 have Zs:=a2.f (Zc.d 0 I);have Zl:=Zs.c zc (a1 Zo);have Zk:=Zl.b i I;have Z7:=Zs.e e zG;have zam:i.b=[]:=by show(dQ t (za,w,h) T).b=[];unfold dQ;split;exact z5;exact(vV t (za,w,h)).2.2.trans z5
 refine⟨Zl.a,M.k.a,I,Zk.a,M.o.b,I,.inl ⟨I,_,dU.b Zk.b⟩,Z7.a,M.h.c,I,λzk Ze ZD ZB ZC=>?_⟩;obtain⟨ZK,zav,zaw⟩:=a2.q Zo;have ZU:=(Zc.l zav).l (bf.j (x:=zc) (t:=i) I);have ZV:=(ZU.i (L:=i.m)).t (C:=kk) ZD ZB ZC;refine⟨zk,Ze,e.b,e.g,h,on,_,I,ZV,λzt zaF Za=>⟨I,?_⟩⟩;let mv:fA:=⟨zk,Ze,e.b,e.g,h,on⟩
 have Zq:zt i.k=O (.a (i.b.map fA.d)):=Za.e 3 I;refine⟨_,_,_,I,I,Zq,(by rw[an,zam,bn];simp),?_⟩;let q:b3:={i with b:=i.b++[mv]}
 let x':bf:={x with a:=O q}
 have ZO:=Za.p 3 I (.a (i.b.map fA.d++[.b zk]));have ZP:=am.w ZO 3 I;have ZQ:am (al zt i.k (.a (i.b.map fA.d++[.b zk]))) (q.m++(a0 x.e dD x.g (b6 zc)::ZK::[(H,.a (n.map cg))]::Q)):=by show am _ ([a0 i.g e0 i.n (f3 q),[(i.p,.a (i.a.map cg))],[(i.k,.a ((i.b++[mv]).map fA.d))],(i.b++[mv]).flatMap (fA.f)]++_);rw[a6,i7];exact ZP
 let y:a2:={p.g w h zm with a:=p.a.set k x'}
 have zu:am (al zt i.k (.a (i.b.map fA.d++[.b zk]))) (y.d::[(H,.a (n.map cg))]::Q):=by
  have Zd:=((am.h (L:=q.m) ZQ).m (bf.j (x:=x') (t:=q) I)).m (zaw x' I I);have zx:({zr with a:=zr.a.set k x'}:a2)=y:=by show({p.g w h zm with a:=(p.a.set k zc).set k x'}:a2)=y;rw[kb]
  rw[zx]at Zd;exact Zd
 have z6:aM ZF (al zt i.k (.a (i.b.map fA.d++[.b zk]))):=((zaG.a zaE).a ((gU (C:=kk) ZD ZB ZC).c.a zaF)).b Zq iz;generalize al zt i.k (.a (i.b.map fA.d++[.b zk]))=ZH at zu z6;have zan:=z6 _ _ Zu;generalize zX:((T.map λv=>(v.1,[(v.2:Int)])).foldl (jg w h) (S,x.b,{parts:=[],places:=[(e.b,e.g,h,on)],decided:=ae}))=u;have zF:=λZL gs zaI zaJ zaK zaL zaM zaN=>r.zd (by omega) z6 (mv:=mv) (on:=on) (gs:=gs) zo Zw zi zR zV Zp (by omega) z1 Zr z3 z5 zaB zaC zan I (U:=dt u.1 x'.b) (by rw[zX]) ZL zaI zaJ zaK zaL zaM zaN;rw[zX]at zF;have zaa:=zF (dt u.1 x'.b) p.c I I I;obtain⟨zP,Z2,Z3⟩:(dt u.1 x'.b).groups=S.groups/\q.d=u.2.2/\x'.b={u.2.1 with deal:=O u.2.2}:=by have:=zF {dt u.1 x'.b with groups:=p.c.map a_.c} p.c I I I I I r.d;exact this.2
 have A:bI ZH y (dt u.1 x'.b) (zq+1):=(zaa (zP.trans r.e) I r.d).1;have J:y.a[k]?=O x':=by show(p.a.set k x')[k]?=_;rw[fK (bu.mp zo).1]
 have zak:=a2.f (zu.d 0 I);have Zg:oL S e.c x.b h w N j=((if j=-1 then jU (hv (dt u.1 x'.b) {e.c with reading:=e.d.set h on})else if j=-2 then gz (dt u.1 x'.b) x'.b else jS (hv (dt u.1 x'.b) {e.c with reading:=e.d.set h on}) x'.b q.d j.toNat),{value:=(T.length:Int),more:=[(on:Int)]}):=by
  unfold oL;have zx:bP S e.c.book h=z2:=zai;have ZW:e.c.places.getD h 0=F:=Zf;simp only[zx,ZW,Z6];rw[z0];have ZX:(Jo (λ(D:bt×gf×gy) v=>sS D.1 D.2.1 D.2.2 w h 0 (O v.1) (O v.2)) (S,x.b,{parts:=[],places:=[(e.c.id,e.c.gen,h,on)],decided:=ae}) (T.map λv=>(v.1,[(v.2:Int)])))=u:=zX;rw[ZX,an,<-Z3,Z2]
  rfl
 have ZZ:ci (oL S e.c x.b h w N j)=[((n.map cg).length:Int),(on:Int)]:=by
  rw[Zg,an,zar]
  rfl
 rw[ZZ]at B;rw[Zg]at B;have zaW:=A.i;have zaV:=A.F;have zbg:y.c=p.c:=I;refine⟨I,bG (λzg=>?_) (λzg=>?_)⟩;have zg:j=-1:=by have:=cj zg;injection this
 subst zg;refine⟨y,1000*(zq+1),_,I,zu,r.a,by omega,λD P zI zE=>⟨(A.f D P zI zE).2.2.1.b,(A.f D P zI zE).2.2.1.a⟩,A.c,by omega,λzf gs zl R zM ZY zB ze=>?_⟩;have zj:zl H=O (.a (n.map cg)):=ze.e 2 I;refine⟨_,_,I,.inl (dU.b zj),n1,λG E=>?_⟩;have zC:=A.R (by omega) (zB.a (aW.a (o:=.a [.a ((n.map cg).length:Nat),.a (on:Int)]) E).c) R zM;rw[<-PO (U:=dt u.1 x'.b) (zP.trans r.e) r.m zi (e.d.set h on)]at zC;exact B G {y with b:=zf,a:=y.a.map bf.d,c:=gs} _ I zC (((ze.g 1 I).g 1 I).f E (.a [.a ((n.map cg).length:Nat),.a (on:Int)]));have zg:j≠-1:=λzL=>dH zg (by rw[zL]);rw[aw zg]at B;refine⟨I,bG (λzh=>?_) (λzh=>?_)⟩;have zh:j=-2:=by have:=cj zh;injection this
 rw[ay zh]at B;obtain⟨z9,zn,zK,ZM⟩:=A.f x' (a1 J) q I;have zae:=A.z (a1 J) (t:=q) I;refine⟨y,k,x',q,1000*(zq+1),_,I,zu,J,I,zK.b,zK.a,A.c,by omega,λzf zl R zB ze=>?_⟩;have zj:zl H=O (.a (n.map cg)):=ze.e 2 I;refine⟨_,_,I,.inl (dU.b zj),n1,λG E=>?_⟩;have Z0:q.i=3:=by unfold b3.i;rw[z9];rfl
 rw[Z0,zn]at R;have zC:=A.N (U:=gz (dt u.1 x'.b) x'.b) (by omega) (zB.a (aW.a (o:=.a [.a ((n.map cg).length:Nat),.a (on:Int)]) E).c) J I R (.inr I) (x':=x'.d) I I (by rw[oH (x:=x') (t:=q) I zn];exact(jK _ _ _ _).1) (by rw[oH (x:=x') (t:=q) I zn];rfl) (by rw[oH (x:=x') (t:=q) I zn];exact(jK _ _ _ _).2.2) (by rw[oH (x:=x') (t:=q) I zn];exact jf (x':=x'.d) ((jK _ _ _ _).2.1.trans A.h) A.j J I)
 exact B G {y with b:=zf,a:=y.a.set k x'.d} _ I zC (((ze.g 1 I).g 1 I).f E (.a [.a ((n.map cg).length:Nat),.a (on:Int)]));have zh:j≠-2:=λzL=>dH zh (by rw[zL]);rw[aw zh]at B;obtain⟨zas,rfl⟩:=fQ (show(0:Int)<=j by omega);rw[eX]at B;have zad:y.c[zY]?=O e:=zi;obtain⟨zaR,zax,zay⟩:=a2.s zad;have Z8:=zak.e e zG;refine⟨Z8.a,I,e,h,on,_,I,zu.l zax,zah,λzl zB ze=>?_⟩;let zs:a_:={e with d:=e.d.set h on}
 let X:a2:={y with c:=y.c.set zY zs}
 have ZR:am zl (X.d::[(H,.a (n.map cg))]::Q):=ze.m (zay zs I I);have zA:=r.d e zG;have K:bI zl X (hv (dt u.1 x'.b) zs.c) (zq+1):=by
  have D:=(zF (hv (dt u.1 x'.b) zs.c) (p.c.set zY zs) I I I (wx (S:=dt u.1 x'.b) (x':=zs) (zP.trans r.e) r.m zi I) (i_ zi I) (λZ1 zT=>by rcases iT zT with zT|rfl;exact r.d Z1 zT;refine⟨zA.b,zA.a,?_,zA.c,zA.e⟩;show(e.d.set h on).length=_;rw[j'];exact zA.f)).1
  exact D.B zB
 obtain⟨z9,zn,zK,ZM⟩:=K.f x' (a1 J) q I;have zae:=K.z (a1 J) (t:=q) I;have zaU:=K.i;have zaT:=K.F;refine⟨X,k,x',q,zas,1000*(zq+1),_,I,ZR,r.a,by omega,J,I,K.m,λD P zI zE=>(K.f D P zI zE).2.2.1,K.c,by omega,λzaf zf gs zJ R zM ZY z4 zv=>?_,λzab zf zJ R z4 zv=>?_⟩;have zj:zJ H=O (.a (n.map cg)):=zv.e 2 I;refine⟨_,_,I,.inl (dU.b zj),n1,λG E=>?_⟩;exact B G {X with b:=zf,a:=X.a.map bf.d,c:=gs} _ I (K.Q (by omega) (z4.a (aW.a (o:=.a [.a ((n.map cg).length:Nat),.a (on:Int)]) E).c) J I zaf R zM) (((zv.g 1 I).g 1 I).f E (.a [.a ((n.map cg).length:Nat),.a (on:Int)]));have zj:zJ H=O (.a (n.map cg)):=zv.e 2 I;refine⟨_,_,I,.inl (dU.b zj),n1,λG E=>?_⟩;exact B G {X with b:=zf,a:=X.a.set k x'.d,c:=eE X.c q.b} _ I (K.P (by omega) (z4.a (aW.a (o:=.a [.a ((n.map cg).length:Nat),.a (on:Int)]) E).c) J I zab R) (((zv.g 1 I).g 1 I).f E (.a [.a ((n.map cg).length:Nat),.a (on:Int)]))
end
section
inductive AX(c:kt)(ws:V Int)(vs:V ah)(H:af)(Q:bj)(E:cf):Prop
 |a (s:a2) (S:bt) (k:Nat) (r:eh) (R:V aE):vs=[.b s.e,.b r.d]->am H (r.b::s.d::R)->bI H s S k->k+2<=900->gd r ws->r.e.length<=16000->(ci (bi S c)).length<=10000000->(∀l s' H',s'.e=s.e->bI H' s' (bi S c).1 (k+2)->am H' ([(l,.a (bg (ci (bi S c))))]::eh.b (r.a ws.length)::s'.d::R)->Q (.b l) H')->(∀n H',bi S c=dS S n->aM H H'->am H' (eh.b (r.a ws.length)::s.d::R)->dO ak cE E H' n)->AX c ws vs H Q E
end
def bI.M(x:bI k t s g)(H:g+1<=900):bI k t s (g+1):=x.p H aM.c
section
def RX:aB:=λm k l j=>∃d g h i e c a b f,AX (.work d g h i e c a b f) [d,g,h,i,e,c,a,b,f] m k l j
def OZ[P:aJ]:cL 11 138 RX:=by
 refine cT 12 [] λzg Zq Zk Zo x=>?_;obtain⟨C,G,H,m,E,B,h,p,l,t,e,zR,r,zj,rfl,zl,j,zH,zT,Zj,Zn,ze,f⟩:=x;refine⟨_,aj (aA 2 (a' bO (W 1))) (aj (aA 3 (a' bO (W 1))) (aj (aA 4 (a' bO (W 1))) (aj (aA 5 (a' bO (W 1))) (aj (aA 6 (a' bO (W 1))) (aj (aA 7 (a' bO (W 1))) (aj (aA 8 (a' bO (W 1))) (aj (aA 9 (a' bO (W 1))) (aj (aA 10 (a' bO (W 1))) (aj (aA 11 (bT su (W 0) (n8 2 3 4 5))) (aj (aA 12 (bT sv (W 0) (c7 6 7))) (aj (aA 13 (js (c7 8 5))) (aj (a9 (aP O4 (pn 0 11 13))) (aj (a9 (aP v4 (c2 9))) (aj (a9 (aP hS (n0 (W 10) (di P.zr) (di P.zs)))) (c1 (aP PD (Z (W 0) (Z (W 2) (n8 13 12 9 10))))))))))))))))))),ct zl zT λZc z3 zm zU=>?_⟩;refine ct (r:=r.a 1) zm zU λZd z4 zn zV=>ct (r:=r.a 2) zn zV λN z5 zo zW=>ct (r:=r.a 3) zo zW λZe z6 zp zX=>ct (r:=r.a 4) zp zX λZf z7 zq zY=>ct (r:=r.a 5) zq zY λZg z8 zr zZ=>ct (r:=r.a 6) zr zZ λZh z9 zs z0=>ct (r:=r.a 7) zs z0 λZi Za zt z1=>ct (r:=r.a 8) zt z1 λJ Zb zu Zp=>?_;have u:aM zg J:=((((((((z3.a z4).a z5).a z6).a z7).a z8).a z9).a Za).a Zb);change ft _ _ _ [O (.b t.e),O (.b r.d),O (.a C),O (.a G),O (.a H),O (.a m),O (.a E),O (.a B),O (.a h),O (.a p),O (.a l),aa,aa,aa] J;have k:am J (eh.b (r.a 9)::t.d::zj):=zu;have q:=a2.f (k.d 1 I);have c:bi e (.work C G H m E B h p l)=qr e C G H m (λi m=>nw e E B λg=>if DD e h (m:Int)=ae\/h.toNat=i.book then dS e (-2)else if(cW p 1 20&&(aq (-2<=l)&&aq (l<=100)))=ae then dS e (-1)else if g.deal.isSome=ab then dS e (-7)else oL e i g m h.toNat p.toNat l):=I;rw[j.L]at c;refine⟨q.a,I,t,C,G,H,m,I,q,λg s y z=>?_,λg s y z=>f (-9) _ (by rw[c,s];exact(ay y).trans (aw z)) u k,λg s y=>f (-8) _ (by rw[c,s];exact aw y) u k,λL=>f (-4) _ (by rw[c,L]) u k⟩;rw[s]at c;have c:=c.trans ((ay y).trans (ay z));rw[j.D]at c;obtain⟨zO,zQ,X⟩:=oG s;have zd:=a1 X;obtain⟨zx,zh,zF,T,za,zb⟩:=j.J zd z;have zz:=q.e g zd;obtain⟨M,rfl⟩:=fQ z.1;rw[eX]at T za zb c;refine⟨q.a,I,t,E,B,I,q,j.a,λi D K=>?_,λi D K=>f (-8) _ (by rw[c,D];exact aw K) u k,λL=>f (-5) _ (by rw[c,L]) u k⟩;rw[D]at c;have c:=c.trans (ay K);obtain⟨Zm,zP,U⟩:=nc D;have Zl:=a1 U;refine⟨n1,λzf zN=>?_⟩;have F:=aW.a (o:=.d [.a h,.a (M:Int)]) zN;have A:=u.a F.c;have w:=k.o F;have zK:=q.h F;refine⟨t,g,zf,h,(M:Int),I,zK,zz.c F,az,λzM zI=>?_,λzD=>f (-2) _ (by rw[c];refine ay ?_;rcases zD with x|x;exact .inl (by rw[j.w,x];rfl);exact .inr (by rw[x];rfl)) A w⟩
 obtain⟨zi,R⟩:=nV.mp zM;obtain⟨zv,zC,_,S,zc⟩:=qd R;rw[eX]at zc;have c:=c.trans (aw (by rintro(n|n);rw[j.w,R]at n;cases n;have n:h.toNat=g.k:=n;exact zI (by omega)))
 refine⟨p,I,λzE=>?_,λzE=>f (-1) _ (by rw[c];exact ay (by simp[cW];omega)) A w⟩;refine⟨l,-2,100,I,λzG=>?_,λzG=>f (-1) _ (by rw[c];exact ay (by simp[cW];omega)) A w⟩;have c:=c.trans (aw (by simp[cW];omega));obtain⟨zk,rfl⟩:=fQ zC;obtain⟨zw,rfl⟩:=fQ (show(0:Int)<=p by omega);rw[eX]at S;rw[eX,eX]at c;have Q:i.b.deal.isSome=i.a.isSome:=by show(i.a.map b3.d).isSome=_;rw[lE]
 refine⟨t,e,zR,zQ,g,zP,i,zf,zk,M,zw,l,zv,zi,zx,zh,_,by rw[zO];rfl,w.a 1 I,j.B A,zH,X,za,zb,U,az,S,zc,zF,T,by omega,by omega,by omega,λzL=>f (-7) _ (by rw[c];exact ay (by rw[Q];exact zL)) A w,λzJ zS z2 N zB zA zy=>?_⟩;have c:=c.trans (aw (by rw[Q,zJ];exactλn=>nomatch n));rw[c]at ze;exact ze zS z2 N zB zA ((zy.a 2 I).a 1 I)
end
def jN(a:aN):bo:=a.a.q (fY a.b.a (eD a))
def hq(a:aN):Nat:=(fY a.b.a (eD a)).length
def M7{c:bo}(b)(a:c.e d):(c.q b).e d:=by
 refine⟨by show(c.c.map _).length<=d;rw[an];exact a.e,a.g,a.b,a.a,?_,a.d⟩;refine cu (JK ?_ _) a.f;show((c.c.map (k5 b)).flatMap (·.2)).length<=_;rw[jx,pz,pz];generalize c.c=a;induction a with|nil=>exact bp _|cons c a d=>rw[b1,b1,ik,ik];have:=fv (λa:aG=>(bx b (.inl (a.place:Int))).isNone) c.2;have d:(k5 b c).2.length=(c.2.filter λa=>(bx b (.inl (a.place:Int))).isNone).length:=I;omega
def i2.r{b:bq}{ps:V d3}(m:i2 b.b z ps):i2 {b.b with a:=b.a.map jN} z (ps.map jV)/\(f4 (ps.map λi=>(bU i).length):Int) -(f4 ((ps.map jV).map λi=>(bU i).length):Int)=((b.a.map λi=>(hq i:Int)).sum):=by
 have u:ps.length=b.a.length:=by have:=m.a;rw[this];show(b.a.map aN.a).length=_;rw[an]
 have x:∀(s:Nat) k i,b.a[s]?=O k->ps[s]?=O i->cv k.a i/\k.a.a=b.g/\k.a.f=b.j:=λs k i B C=>m.d s k.a i (by show(b.a.map aN.a)[s]?=_;rw[bw,B];rfl) C;have D:b.b.a.length=b.a.length:=by show(b.a.map aN.a).length=_;rw[an]
 refine⟨⟨m.j,m.g,m.h,m.e,m.l,?_,?_,?_,?_,λw A E p t=>?_⟩,?_⟩;show z.parts=(b.a.map jN).length;rw[an,m.c,D];show 0<(b.a.map jN).length;rw[an];have:=m.n;omega;show(b.a.map jN).length<=4;rw[an];have:=m.f;omega;show(ps.map jV).length=(b.a.map jN).length;rw[an,an];exact u;have p:(b.a.map jN)[w]?=O A:=p;rw[bw]at p t;cases z:b.a[w]? with
 |none=>rw[z]at p;cases p
 |some k=>
  rw[z]at p;cases A:ps[w]? with
  |none=>rw[A]at t;cases t
  |some i=>rw[A]at t;obtain rfl:=bA p;obtain rfl:=bA t;obtain⟨p,t,E⟩:=x w k i z A;exact⟨p.y.1,t,E⟩
 clear m D;generalize b.a=m at u x;induction m generalizing ps with
 |nil=>
  cases ps with|nil=>rfl|cons _ _=>cases u
 |cons k m b=>
  cases ps with
  |nil=>cases u
  |cons i ps=>have m:=(x 0 k i I I).1.y.2;have b:=b (ps:=ps) (by simpa using u) (λs k i B C=>x (s+1) k i B C);simp only[b1,ik,f4,yT]at b⊢;unfold hq at*;omega
section
def RW:aB:=λe c d b=>∃a,eP (.tighten a) [a] e c d b
def OY[h:aJ]:cL 9 97 RW:=by
 refine cT 2 ["part"] λj g e p w=>?_;obtain⟨m,n,q,t,x,z,rfl,e,k,T,g,r,s,Q,B⟩:=w;refine⟨_,aj (aA 2 (bT lZ (W 0) (c3 (a' bO (W 1))))) (aj (bD (iP (ju (c0 2))) (au (f0 h.zj)) bQ) (c1 (bC (c3 (bM (qY I) (by rfl) h.J uE (c3 (aS.a (dX I p (bZ (c0 2)) (own:=[("part",3)]) (dn I) (λ_ _ _ _ _=>bE 3) (λ_ _ _ _ _=>f_) (λ_ _ _ _ _=>(aP Ph (c2 3))))))))))),?_⟩;have p:=a2.f (e.d 1 I);refine⟨p.a,I,gm e,I,x,_,_,I,e,g.a,λp s r=>?_⟩;have e:=g.b;have J:aM j p:=s;have j:am p (eh.b (x.a 1)::n.d::z):=r;have g:=a2.f (j.d 1 I);refine⟨n,m,I,g,λe A=>?_,λr=>B (-2) _ (by show(if _ then _ else _)=_;rw[k.l,r];rfl) J j⟩;obtain⟨s,r⟩:=jE A;obtain⟨s,t⟩:=k.u r;obtain⟨u,s,P,D,M⟩:=k.q r;have t:=g.d e (a1 r);have C:u.tight=e.l:=M.h;have u:bi q (.tighten m)=if e.l=ae then dS q (-6)else({q with parts:=q.parts.set m.toNat (s.map jV)},{value:=(f4 (s.map λg=>(bU g).length):Int) -(f4 ((s.map jV).map λg=>(bU g).length):Int)}):=by
  show(if _ then _ else _)=_;rw[k.l,A,p9 P,C,D]
  rfl
 refine⟨t.a,h.n.c,I,?_⟩;cases A:e.l with
 |false=>exact B (-6) _ (by rw[u,A];rfl) J j
 |true=>
  rw[A]at u;have u:=u.trans (aw (λA=>nomatch A));obtain⟨D,A,X⟩:=a2.t r;have B:=((j.a 1 I).l A).i (L:=e.n);refine⟨t.a,h.n.a,I,_,I,⟨_,dU.b t.d⟩,λC A=>?_⟩;have E:=B.f A (.a []);refine o_ (xs:=e.a.map aN.i) (λh t=>aM p t/\∃j:V aN,j.map (·.c)=(e.a.take h).map (·.c)/\j.map aN.a=(e.a.take h).map jN/\am t ([(C,.a ((e.a.take h).map λg=>ah.a (hq g:Int)))]::a0 e.e ec e.i (hM e)::[(e.k,.a (a4 e.f))]::[(e.h,.a (e.a.map aN.i))]::(j++e.a.drop h).flatMap (aN.l)::D::eh.b (x.a 1)::z)) ⟨(aW.a A).c,[],I,I,E⟩ (λh t _ w=>?_) ?_ (λK w=>?_);obtain⟨_,j,_,_,p⟩:=w;exact dU.b (p.e 3 I);rintro h F t E ⟨H,j,A,B,p⟩;obtain⟨y,G,rfl⟩:=d2 E;have E:e.a.drop h=y::e.a.drop (h+1):=by obtain⟨F,rfl⟩:=bu.mp G;exact ic F
  have F:e.a.take (h+1)=e.a.take h++[y]:=by rw[en,G];rfl
  rw[E]at p;have N:=p.D (f:=aN.l) (l1:=j) (l2:=e.a.drop (h+1)) (y:=y) 4 I;have E:t y.c=O (.c bN y.k (cx y)):=(aN.u (N.d 0 I)).b;refine⟨I,y,_,I,N,k.y r G,λt R S U za E=>?_⟩;have G:=am.G (y:=t) (Bs:=[(C,cw.a ((e.a.take h).map λg=>ah.a (hq g:Int)))]::a0 e.e ec e.i (hM e)::[(e.k,.a (a4 e.f))]::[(e.h,.a (e.a.map aN.i))]::(j++y::e.a.drop (h+1)).flatMap (aN.l)::D::eh.b (x.a 1)::z) 4 I E;have N:R C=O (.a ((e.a.take h).map λg=>ah.a (hq g:Int))):=G.e 0 I;refine⟨_,N,(by rw[an,e7,bn];omega),(H.a za).b N iz,j++[t],?_,?_,?_⟩;rw[F,a6,a6,A];simp[S];rw[F,a6,a6,B];simp[U,jN];have C:j++[t]++e.a.drop (h+1)=j++t::e.a.drop (h+1):=by simp
  have t:((e.a.take (h+1)).map λg=>ah.a (hq g:Int))=((e.a.take h).map λg=>ah.a (hq g:Int))++[.a (hq y:Int)]:=by rw[F,a6];rfl
  rw[C,t];exact G.p 0 I (.a (((e.a.take h).map λg=>ah.a (hq g:Int))++[.a (hq y:Int)]));obtain⟨H,j,A,B,p⟩:=w;rw[an,dN]at A B p;rw[jv,dM]at p;have h:(e.a.map λg=>ah.a (hq g:Int))=(e.a.map λg=>(hq g:Int)).map ah.a:=by rw[bz];rfl
  rw[h]at p;refine⟨_,_,I,dU.b (p.e 0 I),c9,λt C=>?_⟩;let h:bq:={e with a:=j}
  have E:am K (h.c::D::eh.b (x.a 1)::z):=by
   refine am.h (L:=h.n) ?_;show am K ([a0 e.e ec e.i (hM e),[(e.k,.a (a4 e.f))],[(e.h,.a (j.map aN.i))],j.flatMap (aN.l)]++_);have w:j.map aN.i=e.a.map aN.i:=by
    have:∀t:V aN,t.map aN.i=(t.map (·.c)).map ah.b:=λt=>by rw[bz];rfl
    rw[this,this,A]
   rw[w];exact p.g 0 I
  have x:=E.m (X h I);have D:=(J.a H).a (aW.a (o:=.a [.a ((e.a.map λg=>(hq g:Int)).sum)]) C).c;obtain⟨z,A⟩:=M.r;have w:h.b={e.b with a:=e.a.map jN}:=by
   show(⟨e.f,e.g,e.l,e.j,j.map aN.a⟩:b4)=_;rw[B]
   rfl
  have p:(n.b.set m.toNat h).map bq.b=(n.b.map bq.b).set m.toNat {e.b with a:=e.a.map jN}:=by rw[nR,w]
  have w:(n.b.map bq.b)[m.toNat]?=O e.b:=by rw[bw,r];rfl
  have r:b2 ((n.b.set m.toNat h).map bq.b)=b2 (n.b.map bq.b):=by rw[p];unfold b2;refine i_ w ?_;show(e.a.map jN).length=(e.a.map aN.a).length;rw[an,an]
  have j:ci (({q with parts:=q.parts.set m.toNat (s.map jV)},{value:=(f4 (s.map λg=>(bU g).length):Int) -(f4 ((s.map jV).map λg=>(bU g).length):Int)}):bt×gn)=[(e.a.map λg=>(hq g:Int)).sum]:=by rw[A];rfl
  rw[u,j]at Q;refine Q t {n with b:=n.b.set m.toNat h} _ I (k.n T D k.a ?_ r ?_ k.h I (λq j s u=>.inl ⟨q,j,u⟩) (eZ k.i) k.e I (λs t=>(k.d s t).d r)) ((x.f C (.a [.a ((e.a.map λg=>(hq g:Int)).sum)])).a 2 I|>.a 1 I);show dp ((n.b.set m.toNat h).map bq.b) _;rw[p];exact k.b.m w P z I I;show dy ((n.b.set m.toNat h).map bq.b) _;rw[p];intro q j g h;rcases iT j with j|rfl;exact(jI k.c) q j g h;obtain⟨g,j,rfl⟩:=bm.mp h;exact M7 _ ((jI k.c) e.b (a1 w) g.a (bm.mpr ⟨g,j,I⟩))
end
def fE(c:aN)(b:Int):ar (Y×V Int):=(fc c.j b).bind λa=>a.a.value.map λb=>(a.c,b)
def eU:V aN->Int->ar (Y×V Int)
 |[],_=>aa
 |b::c,a=>(fE b a).or (eU c a)
def Tl(c)(b)(a):eU (c++[b]) a=(eU c a).or (fE b a):=by
 induction c with
 |nil=>show(fE b a).or aa=aa.or (fE b a);cases fE b a<;>rfl
 |cons d c e=>show(fE d a).or (eU (c++[b]) a)=((fE d a).or (eU c a)).or (fE b a);rw[e,Option.or_assoc]
structure m9(kvs:V (aU×ah))(f:Int->ar (Y×V Int)):Prop where
 a:∀n:Int,bx kvs (.inl n)=(f n).map λx=>ah.b x.1
 c:∀x∈kvs,∃i:Int,x.1=.inl i
 d:(kvs.map (·.1)).Nodup
def m9.b(g:m9 j h)(k:∀f,h f=i f):m9 j i:=⟨λf=>by rw[g.a f,k f],g.c,g.d⟩
def m9.e(j:m9 h i)(f)(k:Y×V Int)(l:bx h (.inl f)=aa):m9 (cH h (.inl f) (.b k.1)) (λg=>if g=f then O k else i g):=by refine⟨λg=>?_,λm h=>?_,?_⟩;rw[rn];by_cases i:g=f;subst i;simp;have:¬((bb g:aU)=.inl f):=λk=>i (jQ k);rw[aw this,aw i];exact j.a g;rcases Cb h with h|h;exact j.c m h;exact⟨f,h⟩;rw[wi,l];simp only[JY,jl,if_false];rw[jA];exact⟨j.d,by simp,λh g i f k=>le.mp l (by simp at f;rw[<-f,<-k];exact g)⟩
def Bk{k:aU}(g:c d=O (.e f (.b a))):fg c d (dC k) (bx a k):=.inl ⟨a,k,.inr ⟨f,g⟩,I,I⟩
open Classical in
def lc(c b:Int->ar (Y×V Int))(d:V aU)(a:Int):ar (Y×V Int):=(c a).or (if(bb a:aU)∈d then b a else aa)
open Classical in
def wq(e d)(b)(f a):lc e d (b++[.inl f]) a=if a=f/\lc e d b a=aa then d f else lc e d b a:=by
 unfold lc;by_cases i:a=f;subst i;have h:(bb a:aU)∈b++[.inl a]:=by simp
 rw[ay h];by_cases c:(bb a:aU)∈b;rw[ay c];cases e a<;>cases d a<;>simp;rw[aw c];cases e a<;>simp;have h:((bb a:aU)∈b++[.inl f])↔(bb a:aU)∈b:=by rw[cU];constructor;rintro(g|g);exact g;simp at g;exact a7 g i;exact .inl
 have g:¬(a=f/\((e a).or (if(bb a:aU)∈b then d a else aa))=aa):=λd=>i d.1;rw[aw g];by_cases c:(bb a:aU)∈b;rw[ay c,ay (h.mpr c)];rw[aw c,aw (λd=>c (h.mp d))]
section
inductive SW(vs:V ah)(H:af)(Q:bj)(E:cf):Prop
 |a (b:bq):vs=[.b b.e]->lQ H b->(∀p∈b.a,p.p)->b.a.length<=4->(∀d kvs H',aW H H'->H d=aa->H' d=O (.b kvs)->m9 kvs (eU b.a)->kvs.length<=4*1000000->Q (.b d) H')->SW vs H Q E
def PB[K:aJ]:b' 6 98 SW:=by
 refine cF 4 [] λd h f g r=>?_;obtain⟨p,rfl,A,q,zb,k⟩:=r;refine⟨_,aj (aA 1 jr) (aj (dY e_ I (bZ (c0 0)) (bE 2) (aj (aA 3 (aP CD (c2 2))) (au (q' (dY e_ I (x9 (W 3)) (bE 4) (au (bD (mj.a (ra (eI (nF (n4 (g5 (cN f) (W 3) (W 4) (λ_ _=>I))))) (rb (eI (my (cN f) (W 4) (W 1)))))) (au (jt (cN f) (W 1) (W 4) (n4 (g5 (cN f) (W 3) (W 4) (λ_ _=>I))) I)) bQ))))))) (c1 (W 1))),?_⟩;obtain⟨j,za⟩:∃j,j=1000000:=⟨_,I⟩;refineλs L=>?_;have f:aW d (al d s (.b [])):=aW.a L;refine⟨f _ _ A.a,K.n.a,I,_,I,⟨_,dU.b (f _ _ A.d)⟩,ev (xs:=p.a.map aN.i) (λm o l=>(∃P Q w,o=[O (.b p.e),O (.b s),P,Q,w])/\aW d l/\∃t,l s=O (.b t)/\t.length<=m*j/\m9 t (eU (p.a.take m))) ⟨⟨_,_,_,I⟩,f,[],az,co _,⟨λg=>I,(by intro f h;cases h),nT⟩⟩ ?_ ?_ ?_⟩;rintro m o l _ ⟨_,u,_⟩;exact dU.b (u _ _ A.d);rintro m f o l h ⟨⟨P,Q,w,rfl⟩,u,t,D,H,F⟩;obtain⟨f,M,rfl⟩:=d2 h;have E:=a1 M;have h:=(bu.mp M).1;have z:=(A.c f E).a u;have h:f.g.length<=1000000:=q f E;have h:m*j<=4*j:=JQ _ (by omega);refine⟨f,I,z,q f E,λh y i x n B G C=>?_⟩;have q:=u.b x;have S:d h=aa:=u.e n;have z:=x _ _ D;have N:s≠h:=cX D n;refine⟨h,.b i,B,trivial,λx=>?_⟩;have B:aW d (al y h (.e x (.b i))):=q.f S;refine⟨h,x,I,.inl ⟨i,az,M_ (λq o l=>(∃w,o=[O (.b p.e),O (.b s),O (.b f.c),O (.b h),w])/\aW d l/\l h=O (.e x (.b i))/\∃n,l s=O (.b n)/\n.length<=m*j+q/\m9 n (lc (eU (p.a.take m)) (fE f) ((i.take q).map (·.1)))) ⟨⟨_,I⟩,B,az,t,(aL N).trans z,H,F.b λg=>by simp[lc]⟩ ?_ ?_ ?_⟩⟩;rintro q o J _ ⟨_,_,r,_⟩;exact r;rintro q C R o J j ⟨⟨w,rfl⟩,z,x,n,y,zc,r⟩;have d:=(bu.mp j).1;obtain⟨d,B⟩:=G.b (C,R) (a1 j);have B:C=.inl d:=B;subst B;have T:bx i (.inl d)≠aa:=λB=>le.mp B (bm.mpr ⟨_,a1 j,I⟩);have R:(i.take (q+1)).map (·.1)=(i.take q).map (·.1)++[bb d]:=l9 (λC:aU×ah=>C.1) j;cases C:fc f.j d with
 |none=>rw[G.a d,C]at T;exact a7 I T
 |some j=>
  have T:=ho (BY C);obtain⟨U,X⟩:=ba.d (((A.c f E).a z).c j T);have T:fg J h (.a d) (O (.b j.e)):=by have:=Bk (k:=bb d) x;rw[G.a d,C]at this;exact this
  have A:fE f d=j.a.value.map λE=>(j.c,E):=by unfold fE;rw[C];rfl
  refine⟨_,_,I,T,U,K.c.e,I,?_⟩;cases C:j.a.value with
  |none=>rw[C]at A;refine(?_);refine⟨⟨_,I⟩,z,x,n,y,by omega,r.b λg=>?_⟩;rw[R,wq];by_cases h:g=d/\lc (eU (p.a.take m)) (fE f) ((i.take q).map (·.1)) g=aa;rw[ay h,A];exact h.2;rw[aw h]
  |some E=>
   rw[C]at A;have X:(et (.a j.a.place) j.a j.c).lookup ("value":ac)=O (.b j.c):=by
    show O (qm j.c j.a.value)=_;rw[C]
    rfl
   refine⟨_,_,I,fg.a (k:=bb d) y,?_⟩;rw[r.a d];cases C:lc (eU (p.a.take m)) (fE f) ((i.take q).map (·.1)) d with
   |some B=>refine⟨⟨_,I⟩,z,x,n,y,by omega,r.b λg=>?_⟩;rw[R,wq,aw];rintro⟨rfl,h⟩;rw[C]at h;cases h
   |none=>
    have q:bx n (.inl d)=aa:=by rw[r.a d,C];rfl
    refine⟨_,_,I,T,U,K.c.e,X,_,_,I,qO.a (k:=bb d) y (by rw[bn];omega),⟨_,I⟩,z.f L,(aL (df N)).trans x,_,az,cu (j5 _ _ _) (by omega),(r.e d (j.c,E) q).b λg=>?_⟩;rw[R,wq];by_cases h:g=d;subst h;rw[ay I,ay ⟨I,C⟩,A]
    rfl
    rw[aw h,aw (λB=>h B.1)]
 rintro o J ⟨⟨w,rfl⟩,z,x,n,y,zc,r⟩;rw[dN]at r;refine⟨x,⟨_,_,_,I⟩,z.f S,n,(aL N).trans y,?_,r.b λg=>?_⟩;rw[Nat.add_mul];omega;rw[en,M];show _=eU (p.a.take m++[f]) g;rw[Tl];unfold lc;by_cases h:(bb g:aU)∈i.map (·.1);rw[ay h];rw[aw h];have:bx i (.inl g)=aa:=le.mpr h;rw[G.a g]at this;have h:fc f.j g=aa:=by
  cases d:fc f.j g with|none=>rfl|some B=>rw[d]at this;cases this
 have:fE f g=aa:=by unfold fE;rw[h];rfl
 rw[this];rintro o l ⟨⟨P,Q,w,rfl⟩,u,t,D,H,F⟩;rw[an,dN]at F;rw[an]at H;refine k s t l u L D F ?_;rw[<-za];exact cu H (JQ _ zb)
end
def M4{b:Nat->ar (Nat×V Int)}(h:∀a d,b a=O d->d.1=a)(c)(e:V Nat):(e.filterMap b).find? (λf=>f.1==c)=if c∈e then b c else aa:=by
 induction e with
 |nil=>simp
 |cons a e g=>
  rw[mI];cases e:b a with
  |none=>simp only;rw[g];by_cases b:c=a;subst b;rw[e];split<;>simp;simp[b]
  |some d=>
   have f:=h a d e;simp only[hF];by_cases b:c=a;subst b;rw[f];simp[e];have:(d.1==c)=ae:=by rw[f];simp;exactλa=>b a.symm
   rw[this,g];simp[b]
def NR(c:V aG)(d:b<100):(sP c).find? (λe=>e.1==b)=((c.filter λa=>a.key==O b).getLast?).bind λa=>a.value.map λe=>(b,e):=by
 unfold sP;rw[M4];rw[ay (ut.mpr d)];cases(c.filter λa=>a.key==O b).getLast?<;>rfl;intro f d b;cases d:(c.filter λa=>a.key==O f).getLast? with
 |none=>rw[d]at b;cases b
 |some a=>
  rw[d]at b;cases c:a.value with|none=>simp[c]at b|some e=>simp[c]at b;rw[<-b]
def Tk{e:aN}(i:cv e.a c)(f:b<100):(sP (eV c)).find? (λd=>d.1==b)=(fE e (b:Int)).map λd=>(b,d.2):=by
 rw[NR _ f];have h:(eV c).filter (λf=>f.key==O b)=(e.j.filter (gx (b:Int))).map (·.a):=by rw[<-i.r,na (g:=λf=>f.key==O b)];intro c _;unfold gx dq;rw[vL];cases c.a.key<;>simp
 rw[h,Jx];unfold fE fc;cases(e.j.filter (gx (b:Int))).getLast? with|none=>rfl|some c=>show(c.a.value.map λe=>(b,e))=((c.a.value.map λe=>(c.c,e)).map λd=>(b,d.2));cases c.a.value<;>rfl
def Tn{c:V aN}{ps:V d3}(e:ps.length=c.length)(g:∀(d:Nat) a b,c[d]?=O a->ps[d]?=O b->cv a.a b){k:Nat}(l:k<100):(ps.flatMap λb=>sP (eV b)).find? (λf=>f.1==k)=(eU c (k:Int)).map λf=>(k,f.2):=by
 induction c generalizing ps with
 |nil=>
  cases ps with|nil=>rfl|cons _ _=>cases e
 |cons a c f=>
  cases ps with
  |nil=>cases e
  |cons b ps=>have h:=g 0 a b I I;have f:=f (ps:=ps) (by simpa using e) (λd a b i j=>g (d+1) a b i j);rw[ez,kJ,f,Tk h l];show _=((fE a (k:Int)).or (eU c (k:Int))).map _;cases fE a (k:Int)<;>rfl
def Dt{b:V aN}{ps:V d3}(l:ps.length=b.length)(m:∀(i:Nat) c e,b[i]?=O c->ps[i]?=O e->cv c.a e)(f:eU b g=O h):(∃k:Nat,g=(k:Int)/\k<100)/\∃e∈b,∃d∈e.g,d.c=h.1/\d.a.value=O h.2:=by
 induction b generalizing ps with
 |nil=>cases f
 |cons c b o=>
  cases ps with
  |nil=>cases l
  |cons e ps=>
   have j:=m 0 c e I I;have f:(fE c g).or (eU b g)=O h:=f;cases b:fE c g with
   |none=>rw[b]at f;obtain⟨n,r,q,s⟩:=o (ps:=ps) (by simpa using l) (λi c e o p=>m (i+1) c e o p) f;exact⟨n,r,cJ _ q,s⟩
   |some i=>
    rw[b]at f;obtain rfl:i=h:=bA f;unfold fE at b;cases e:fc c.j g with
    |none=>rw[e]at b;cases b
    |some d=>
     rw[e]at b;have b:(d.a.value.map λh=>(d.c,h))=O i:=b;have f:=uq e;obtain⟨i,e⟩:=cY.mp f;have f:=ho i;refine⟨?_,c,cr,d,f,?_⟩;unfold gx dq at e;cases c:d.a.key with
     |none=>rw[c]at e;cases e
     |some k=>
      rw[c]at e;have:(k:Int)=g:=by simpa[c_]using e
      exact⟨k,this.symm,(j.a.d d.a (by rw[<-j.e];exact j.j f)).a k c⟩
     cases c:d.a.value with
     |none=>rw[c]at b;cases b
     |some h=>rw[c]at b;obtain rfl:=bA b;exact⟨I,I⟩
theorem C':∀{c d:V Int},c.Pairwise (·<·)->d.Pairwise (·<·)->(∀b,b∈c↔b∈d)->c=d
 |[],[],_,_,_=>I
 |[],e::d,_,_,a=>a7 ((a e).mpr cr) (by simp)
 |b::c,[],_,_,a=>a7 ((a b).mp cr) (by simp)
 |b::c,e::d,g,h,a=>by
  obtain⟨f,i⟩:=lC.mp g;obtain⟨g,j⟩:=lC.mp h;have c:b=e:=by rcases bW.mp ((a b).mp cr)with c|d;exact c;rcases bW.mp ((a e).mpr cr)with c|h;exact c.symm;have k:=g b d;have b:=f e h;omega
  subst c;rw[C' i j λd=>?_];constructor;intro b;rcases bW.mp ((a d).mp (cJ _ b))with c|e;have:=f d b;omega;exact e;intro b;rcases bW.mp ((a d).mpr (cJ _ b))with c|e;have:=g d b;omega;exact e
def M8(b:Nat->ar (Y×V Int))(c:V Nat):((c.filter λk=>(b k).isSome).map λk:Nat=>(k:Int)::(((b k).map (·.2)).getD []))=(c.filterMap λk=>(b k).map λa=>(k,a.2)).map λa=>(a.1:Int)::a.2:=by
 induction c with
 |nil=>rfl
 |cons e d c=>
  rw[ig,mI];cases d:b e with|none=>simp[c]|some a=>simp[d,c]
def N2{a:V Int}(c:a.Pairwise (·<=·))(d:a.Nodup):a.Pairwise (·<·):=by refine Ja (λ{a b}(e:a<=b/\a≠b)=>by omega) (TJ c d)
section
def RM:aB:=λe c d b=>∃a,eP (.map a) [a] e c d b
def ON[zi:aJ]:cL 7 99 RM:=by
 refine cT 3 ["key"] λzE Zy zW Zc h=>?_;obtain⟨s,zf,C,k,ze,zG,rfl,K,n,p,zz,Zp,zu,T,z5⟩:=h;refine⟨_,aj (aA 2 (bT lZ (W 0) (c3 (a' bO (W 1))))) (aj (aA 3 (aP PB (c2 2))) (c1 (aP l0 (c6 (bC (c3 (bM nB (by rfl) zi.e cC (c2 3)))) (aS.a (dX I Zc (bZ (bM (Mv I) (by rfl) zi.zu J4 (c2 3))) (own:=[("key",4)]) (dn I) (λ_ _ _ _ _=>bE 4) (λ_ _ _ _ _=>f_) (λ_ _ _ _ _=>(ey h7 (bC (c2 4)) (g5 (cN zW) (W 3) (W 4) (λ_ _=>I)))))))))),?_⟩;have zX:=a2.f (K.d 1 I);refine⟨zX.a,I,gm K,I,ze,_,_,I,K,zz.a,λzh Zf zI=>?_⟩;have Zx:=zz.b;have zA:aM zE zh:=Zf;have L:am zh (eh.b (ze.a 1)::zf.d::zG):=zI;have zt:=a2.f (L.d 1 I);refine⟨zf,s,I,zt,λf zp=>?_,λu=>z5 (-2) _ (by show(if _ then _ else _)=_;rw[n.l,u];rfl) zA L⟩;obtain⟨Zo,t⟩:=jE zp;obtain⟨Zw,Zd⟩:=n.u t;obtain⟨Zu,zd,Zq,zV,zj⟩:=n.q t;have zo:=zt.d f (a1 t);have N:zd.length=f.a.length:=by have:=zj.a;rw[this];show(f.a.map aN.a).length=_;rw[an]
 have w:∀(y:Nat) i q,f.a[y]?=O i->zd[y]?=O q->cv i.a q:=λy i q D l=>(zj.d y i.a q (by show(f.a.map aN.a)[y]?=_;rw[bw,D];rfl) l).1;refine⟨f,I,zo,λq w=>?_,Zd,λzk g Zj z6 Zs G A Zi=>?_⟩;obtain⟨z4,M⟩:=hG.mp w;exact n.y t M;obtain⟨m,E⟩:∃m:V Int,g.map (·.1)=m.map λd=>(bb d:aU):=by
  have:=A.c;clear A G Zi;induction g with|nil=>exact⟨[],I⟩|cons c ze z3=>obtain⟨d,u⟩:=this c cr;obtain⟨i,P⟩:=z3 λzB S=>this zB (cJ _ S);exact⟨d::i,by rw[b1,u,P];rfl⟩
 have zQ:(g.map λU=>dC U.1)=m.map ah.a:=by
  have:(g.map λU=>dC U.1)=(g.map (·.1)).map dC:=by rw[bz];rfl
  rw[this,E,bz]
  rfl
 have zr:∀d:Int,d∈m↔(eU f.a d).isSome=ab:=λd=>by
  have D:d∈m↔(bb d:aU)∈g.map (·.1):=by rw[E,bm];exact⟨λh=>⟨d,h,I⟩,λ⟨i,h,j⟩=>by obtain rfl:=jQ j;exact h⟩
  rw[D];have l:=A.a d;constructor;intro r;cases j:eU f.a d with|some _=>rfl|none=>rw[j]at l;exact a7 r (le.mp l)
  intro r;refine kv λB=>?_;rw[le.mpr B]at l;cases j:eU f.a d with
  |none=>rw[j]at r;cases r
  |some _=>rw[j]at l;cases l
 have zU:m.Nodup:=by have:=A.d;rw[E,JE,uu]at this;exact this.imp λh j=>h (by rw[j])
 refine⟨_,_,I,G,c9,λi P=>?_⟩;have za:=aW.a (o:=.a [.a (g.length:Nat)]) P;have z7:=z6.b za;refine⟨zk,g,m,I,za _ _ G,zQ,λz Zv F zY zS=>?_⟩;have zb:=aW.a (o:=.a (z.map ah.a)) zS;have X:=z7.b zb;have zZ:=N2 zY (F.symm.nodup zU);have zl:z=((ij 100).filter λk:Nat=>(eU f.a (k:Int)).isSome).map λk:Nat=>(k:Int):=by refine C' zZ ?_ λc=>?_;rw[uu];refine Ja (λ{zH s}(h:zH<s)=>by omega) (List.pairwise_lt_range.sublist jw);rw[F.mem_iff,zr,bm];constructor;intro h;obtain⟨zB,S⟩:=nV.mp h;obtain⟨⟨k,rfl,p⟩,_⟩:=Dt N w S;exact⟨k,cY.mpr ⟨ut.mpr p,h⟩,I⟩;rintro⟨k,p,rfl⟩;exact(cY.mp p).2
 have Zr:z.length<=100:=by rw[zl,an];refine cu (fv _ _) ?_;rw[List.length_range];exact bp _
 refine⟨_,I,⟨_,dU.b az⟩,λzD zM=>?_⟩;refine sn z ah.a (λd=>d::(((eU f.a d).map (·.2)).getD [])) zM az (by rw[bn];omega) ?_ (λZk J zc Zg Zh zC=>?_);intro d u zg zy Zl Zm zO;have z0:=(zr d).mp (F.mem_iff.mp u);obtain⟨c,R⟩:=nV.mp z0;obtain⟨_,Ze,zs,B,zw,z2,zv⟩:=Dt N w R;have zN:=((zo.c Ze zs).a X).a zy;obtain⟨_,x⟩:=ba.d (zN.c B zw);rw[zv]at x;have x:zg B.c=O (.a (bg c.2)):=x _ cr;rw[z2]at x;have Zt:c.2.length<=5:=by obtain⟨z4,M⟩:=hG.mp zs;have Q:=(n.o t M).1;exact(Q.a.d B.a (by rw[<-Q.e];exact Q.j zw)).b c.2 zv
 refine⟨I,c9,λz8 zR=>?_⟩;have H:=aW.a (o:=.a [.a d]) zR;have zP:fg (al zg z8 (.a [.a d])) zk (.a d) (O (.b c.1)):=by have:=fg.a (k:=bb d) (H _ _ (zy _ _ (zb _ _ (za _ _ G))));rw[A.a d,R]at this;exact this
 refine⟨_,_,I,zP,_,_,_,_,I,I,az,H _ _ x,(by simp only[an,cz,f'];rw[bn];omega),λz9 zq=>?_⟩;refine zO z9 _ (H.b (aW.a zq)) (H.e zq) ?_;rw[az,R]
 rfl
 have zn:bi C (.map s)=(C,{value:=((((ij 100).filterMap λk:Nat=>(eU f.a (k:Int)).map λc=>(k,c.2)).length:Nat):Int),rows:=((ij 100).filterMap λk:Nat=>(eU f.a (k:Int)).map λc=>(k,c.2)).map λc=>(c.1:Int)::c.2}):=by
  show(if _ then _ else _)=_;rw[n.l,zp,zV];have zJ:((ij 100).filterMap λk=>(zd.flatMap λq=>sP (eV q)).find? λc=>c.1==k)=(ij 100).filterMap λk:Nat=>(eU f.a (k:Int)).map λc=>(k,c.2):=BE λk p=>Tn N w (ut.mp p);show(C,({value:=_,rows:=_}:gn))=_;rw[<-zJ]
  rfl
 have zm:J.map (·.2)=((ij 100).filterMap λk:Nat=>(eU f.a (k:Int)).map λc=>(k,c.2)).map λc=>(c.1:Int)::c.2:=by
  rw[zC,zl,bz,<-M8 (λk:Nat=>eU f.a (k:Int))]
  rfl
 have zK:(g.length:Int)=((((ij 100).filterMap λk:Nat=>(eU f.a (k:Int)).map λc=>(k,c.2)).length:Nat):Int):=by
  have D:g.length=m.length:=by have:=cb fu E;rw[an,an]at this;exact this
  have l:J.length=z.length:=by have:=cb fu zC;rw[an,an]at this;exact this
  have r:=cb fu zm;rw[an,an]at r;have Zn:=F.length_eq;omega
 have zL:ci (bi C (.map s))=[(g.length:Int)]++fm J:=by
  rw[zn,sJ zm,zK]
  rfl
 rw[zL]at zu T;refine⟨i,zD,[(g.length:Int)],J,I,zc _ _ (zb _ _ az),Zg,Zh,?_,λZa zF Zb zT z1=>?_⟩;rw[bH]at zu;rw[bn];omega;rw[zn]at T;have zx:=X.b (zc.b Zb);exact T Za zf zF I (n.p p (zA.a zx.c)) (L.q zx ((X.b zc).e zT) z1)
end
abbrev fB:=Y×V Nat
abbrev cV(a:fB):ah:=.b a.1
def m5(c:af)(d:V fB):Prop:=∀b∈d,c b.1=O (.a (a4 b.2))
def m5.a{l:V fB}(e:m5 b l)(d:aW b c):m5 c l:=λc b=>d _ _ (e c b)
def A3(f:af)(g:bj)(h:V (V Nat)):Prop:=∀e(c:V fB) d,aW f d->f e=aa->d e=O (.a (c.map cV))->m5 d c->(∀i∈c,f i.1=aa)->(e::c.map (·.1)).Nodup->c.map (·.2)=h->g (.b e) d
def NH{h:ac}{z:eH}{D:dV}{C:aY}{n:V Nat}{r:L2.aQ}{m:af}{j:Y}{y:af->Prop}(q:Nat->ah)(A:m j=aa)(d:h.cps.size<aH)
  (F:∀p d,aW m d->∀(k:af->Prop)(g:bj),(∀i,aW d i->g (q p) i)->z (.e ⟨#[p]⟩) (b0 r n) d λl s=>b0 l n=b0 r n/\D l s λw o=>if w=ab then C l o g else k o)
  (E:∀d,aW m d->d j=O (.a (h.cps.toList.map q))->y d):
  ∃u:Nat->Nat->af->Prop,(∃k,u 0 k (al m j (.a [])))/\∀g k d,u g k d->
   ((o2 h).b g d/\y d)\/((o2 h).a g d/\∃t:af->Prop,(∀i,t i->∃B,B<k/\u (g+1) B i)/\∀x i,(o2 h).c g d x i->z x (b0 r n) i λl s=>b0 l n=b0 r n/\D l s λw o=>if w=ab then C l o λn r=>∃l,r j=O (.a l)/\l.length<aH/\t (al r j (.a (l++[n])))else t o):=by
 refine⟨λg k d=>k=h.cps.size -g/\g<=h.cps.size/\aW m d/\d j=O (.a ((h.cps.toList.take g).map q)),⟨h.cps.size,by simp,co _,aW.a A,by simp[az]⟩,?_⟩;rintro g k d ⟨rfl,r,l,o⟩;by_cases k:g<h.cps.size;refine .inr ⟨k,λd=>g+1<=h.cps.size/\aW m d/\d j=O (.a ((h.cps.toList.take (g+1)).map q)),λi r=>⟨h.cps.size -(g+1),by omega,I,r⟩,λx i n=>?_⟩;obtain⟨rfl,p,j,rfl⟩:=n;have m:h.cps.toList[g]?=O p:=by rw[sV];exact j
 refine F p _ l _ _ λi j=>⟨_,j _ _ o,?_,k,(l.b j).f A,?_⟩;rw[an,e7];omega;rw[az,l9 q m];have i:g=h.cps.size:=by omega
 subst i;refine .inl ⟨bp _,E d l ?_⟩;rw[o,mL (by simp)]
def Mw(b)(a):dB b a≠[]:=by
 induction a with|nil=>simp[dB]|cons a c b=>unfold dB;split;simp;split<;>simp
def Mx(a f)(c):∃e d,dB a c=e++[d]/\dB a (c++[f])=if f=a then e++[d]++[[]]else e++[d++[f]]:=by
 induction c with
 |nil=>refine⟨[],[],I,?_⟩;show(if f=a then[]::dB a []else _)=_;split<;>rfl
 |cons h b g=>
  obtain⟨e,d,k,b⟩:=g;rw[gJ];by_cases j:h=a;refine⟨[]::e,d,?_,?_⟩;conv=>lhs;unfold dB
  rw[ay j,k]
  rfl
  conv=>lhs;unfold dB
  rw[ay j,b];split<;>rfl;have g:∀l i c,dB a l=i::c->dB a (h::l)=(h::i)::c:=λl i c m=>by
   conv=>lhs;unfold dB
   rw[aw j,m]
  cases e with|nil=>refine⟨[],h::d,g _ _ _ k,?_⟩;by_cases c:f=a;rw[ay c]at b⊢;exact g _ _ _ b;rw[aw c]at b⊢;exact g _ _ _ b|cons i e=>refine⟨(h::i)::e,d,g _ _ _ k,?_⟩;by_cases c:f=a;rw[ay c]at b⊢;exact g _ _ _ b;rw[aw c]at b⊢;exact g _ _ _ b
section
inductive R0(vs:V ah)(H:af)(Q:bj)(E:cf):Prop
 |a (x:ac):vs=[.e x]->x.cps.size<=1000000->gj H Q (a4 x.cps.toList)->R0 vs H Q E
def nj[a:aJ]:b' 2 73 R0:=by refine cF 1 ["sign"] λd f e c b=>?_;obtain⟨d,rfl,f,e⟩:=b;refine⟨_,c1 (dX I c (HH (W 0)) (own:=[("sign",1)]) (dn I) (λ_ _ _ _ _=>bE 1) (λ_ _ _ _ _=>f_) (λ_ _ _ _ _=>(bM qV (by rfl) a.G uD (c2 1)))),d,I,λb a=>?_⟩;refine NH (λc:Nat=>ah.a (c:Int)) a (by rw[bn];omega) ?_ (λc f d=>e b c f a d);intro e b f c d a;exact⟨I,_,I,I,a _ aW.d⟩
inductive SF(vs:V ah)(H:af)(Q:bj)(E:cf):Prop
 |a (a:Y) (t:V Nat) (sep:Nat):vs=[.b a,.a sep]->H a=O (.a (a4 t))->t.length<=1000000->A3 H Q (dB sep t)->SF vs H Q E
def CH[c:aJ]:b' 2 74 SF:=by
 refine cF 2 [] λm h c g e=>?_;obtain⟨u,x,w,rfl,r,c,K⟩:=e;refine⟨_,aj (aA 2 (bC (c3 (bC ai)))) (aj (dY e_ I (bZ (W 0)) (bE 3) (au (bD (c4 gh (W 3) (W 1)) (au (a9 (eY e9 gL ha gG (W 2) (c3 (bC ai))))) (au (a9 (eY e9 gL ha gG (c8 (W 2) (q8 rm a5)) (c2 3))))))) (c1 (W 2))),co _,λn s=>?_⟩;refine⟨c9,λj i=>?_⟩;have p:=aW.a (o:=.a []) s;have q:=p.b (aW.a (o:=.a [.b n]) i);have t:n≠j:=λg=>by rw[<-g,az]at i;cases i
 refine⟨_,I,⟨_,dU.b (q _ _ r)⟩,ev (xs:=a4 x) (λk z l=>(∃o,z=[O (.b u),O (.a w),O (.b j),o])/\aW m l/\m j=aa/\∃h:V fB,l j=O (.a (h.map cV))/\m5 l h/\h.map (·.2)=dB w (x.take k)/\(j::h.map (·.1)).Nodup/\(∀d∈h,m d.1=aa)/\h.length<=k+1/\∀d∈h,d.2.length<=k) ⟨⟨_,I⟩,q,p.e i,[(n,[])],az,(λd c=>?_),I,(by simp[df t]),(λd c=>?_),bp _,(λd c=>?_)⟩ ?_ ?_ ?_⟩;rw[dZ.mp c];exact(aL t).trans az;rw[dZ.mp c];exact s;rw[dZ.mp c];exact bp _;rintro k z l _ ⟨_,p,_⟩;exact dU.b (p _ _ r);rintro k m z l B ⟨⟨o,rfl⟩,p,u,h,n,s,i,r,q,A,y⟩;obtain⟨m,t,rfl⟩:=d2 B;have B:=(bu.mp t).1;have B:x.take (k+1)=x.take k++[m]:=by rw[en,t];rfl
 obtain⟨H,D,C,t⟩:=Mx w m (x.take k);rw[<-B]at t;obtain⟨E,F⟩:=g_.mp r;refine⟨I,bG (λe=>?_) (λe=>?_)⟩;have e:m=w:=by have:=cj e;injection this with this;omega
 rw[ay e,<-C]at t;refine⟨.inl ⟨I,_,dU.b n⟩,co _,λx k=>?_⟩;have B:=aW.a (o:=.a []) k;have G:j≠x:=cX n k;refine⟨_,_,_,I,I,B _ _ n,(by rw[an,bn];omega),⟨_,I⟩,(p.b B).f u,u,h++[(x,[])],?_,λd c=>?_,?_,?_,λd c=>?_,?_,λd c=>?_⟩;rw[az,a6]
 rfl
 rcases cU.mp c with c|c;have:d.1≠j:=λg=>E (by rw[<-g];exact bm.mpr ⟨d,c,I⟩);exact(aL this).trans (B _ _ (s d c));rw[dZ.mp c];exact(aL (df G)).trans az;rw[a6,i,t]
 rfl
 have J:x∉h.map (·.1):=λg=>by obtain⟨d,c,B⟩:=bm.mp g;have:=s d c;rw[B,k]at this;cases this
 rw[a6,<-gJ,jA];refine⟨r,by simp,λd c L B g=>?_⟩;have B:L=x:=by simpa using B
 subst B g;rcases bW.mp c with c|c;exact G c.symm;exact J c;rcases cU.mp c with c|c;exact q d c;rw[dZ.mp c];exact p.e k;rw[bH];simp;omega;rcases cU.mp c with c|c;have:=y d c;omega;rw[dZ.mp c];exact co _;have e:m≠w:=λg=>dH e (by rw[g]);rw[aw e]at t;obtain⟨k,e,rfl⟩:∃k e,h=k++[e]:=by
  have w:h≠[]:=λg=>by rw[g]at i;exact Mw _ _ i.symm
  exact⟨_,_,(Jg w).symm⟩
 rw[a6,C]at i;have i:k.map (·.2)++[e.2]=H++[D]:=i;obtain⟨C,w⟩:=List.append_inj' i I;have w:e.2=D:=by simpa using w
 have B:=s e (by simp);have G:e.1≠j:=λg=>E (by rw[<-g];exact bm.mpr ⟨e,by simp,I⟩);have D:=y e (by simp);have x:=xn (k.map cV) (cV e);rw[show k.map cV++[cV e]=(k++[e]).map cV by simp]at x;refine⟨_,I,_,_,_,_,I,I,dU.b n,x,.inl ⟨I,_,dU.b B⟩,_,_,_,I,I,B,(by rw[an,bn];omega),⟨_,I⟩,p.f (q e (by simp)),u,k++[(e.1,e.2++[m])],?_,λd c=>?_,?_,?_,λd c=>?_,?_,λd c=>?_⟩;refine(aL (df G)).trans ?_;rw[n,a6,a6]
 rfl
 rcases cU.mp c with c|c;have:d.1≠e.1:=λg=>by rw[a6,jA]at F;exact F.2.2 d.1 (bm.mpr ⟨d,c,I⟩) e.1 (by simp) g
 exact(aL this).trans (s d (by simp[c]));rw[dZ.mp c,az];show _=O (cw.a ((e.2++[m]).map λg:Nat=>ah.a (g:Int)));rw[a6]
 rfl
 rw[a6,C,t,<-w]
 rfl
 rw[a6]at r⊢;exact r;rcases cU.mp c with c|c;exact q d (by simp[c]);rw[dZ.mp c];exact q e (by simp);rw[bH]at A⊢;simp only[cz,f']at A⊢;omega;rcases cU.mp c with c|c;have:=y d (by simp[c]);omega;rw[dZ.mp c];show(e.2++[m]).length<=_;rw[bH];simp;exact D;rintro z l ⟨⟨o,rfl⟩,p,u,h,n,s,i,r,q,A,y⟩;rw[an,dN]at i;exact K j h l p u n s q r i
inductive SY(vs:V ah)(H:af)(Q:bj)(E:cf):Prop
 |a (a:Y) (t:V Nat):vs=[.b a]->H a=O (.a (a4 t))->t.length<=1000000->A3 H Q (c' t)->SY vs H Q E
def PC[q:aJ]:b' 3 75 SY:=by
 refine cF 1 ["word"] λF S P D d=>?_;obtain⟨r,n,rfl,w,A,B⟩:=d;refine⟨_,c1 (dX I D (bZ (aP CH (c6 (W 0) (di q.zE)))) (own:=[("word",1)]) (dn I) (λ_ _ _ _ _=>bE 1) (λ_ _ _ _ _=>fU (c4 kD (c5 (W 1)) a5)) (λ_ _ _ _ _=>(W 1))),r,n,32,I,w,A,λQ h H l M j g x y i=>?_⟩;have N:h.length<=1000001:=by
  have s:∀e:V Nat,(dB 32 e).length<=e.length+1:=λe=>by
   induction e with|nil=>simp[dB]|cons L R k=>unfold dB;split;simp only[cz];omega;split;simp;rename_i b;rw[b]at k;simp only[cz]at k⊢;omega
  have:=cb fu i;rw[an]at this;have:=s n;omega
 refine⟨_,I,⟨_,dU.b j⟩,λo f=>?_⟩;refine eR h cV cV (λa:fB=>!a.2.isEmpty) f j (by rw[bn];omega) ?_ (λp m z=>B o (h.filter λa:fB=>!a.2.isEmpty) p (l.b m) (l.e f) z (λa b=>m _ _ (g a (cY.mp b).1)) (λa b=>x a (cY.mp b).1) (g_.mpr ⟨(λE=>by obtain⟨a,b,c⟩:=bm.mp E;have:=g a (cY.mp b).1;rw[c,f]at this;cases this),(g_.mp y).2.sublist (jw.map _)⟩) ?_);intro a b G C J K t u;refine⟨I,_,_,I,.inl (dU.b (C _ _ (g a b))),_,_,I,I,bG (λd=>u ?_ _ aW.d) (λd=>t ?_ _ aW.d)⟩;have:=cj d;rw[an]at this;cases c:a.2 with|nil=>rw[c]at this;simp at this|cons _ _=>rfl
 have:=dH d;rw[an]at this;cases c:a.2 with|nil=>rfl|cons _ _=>rw[c]at this;simp at this
 unfold c';rw[<-i,ul]
 rfl
end
def vW(a:V Nat):a4 a=bg (cd a):=by
 show _=(a.map λb:Nat=>(b:Int)).map ah.a;rw[bz]
 rfl
def BQ:cd a=cd b↔a=b:=by
 constructor;intro c;have:∀a,(cd a).map f7=a:=λa=>by unfold cd;rw[bz];exact(ga (λd _=>I)).trans (yY a)
 rw[<-this a,<-this b,c];rintro rfl;rfl
def Nq{c a:V (V Nat)}:c.map cd=a.map cd↔c=a:=by
 constructor;intro b;induction c generalizing a with
 |nil=>cases a with|nil=>rfl|cons _ _=>cases b
 |cons e c d=>cases a with
  |nil=>cases b
  |cons c a=>rw[b1,b1]at b;obtain⟨a,c⟩:=TO b;rw[BQ.mp a,d c]
 rintro rfl;rfl
section
variable{H:af}
def lW{l:V Nat}(d:H c=O (.a (a4 l))):fG ak H (.b c) (dP (cd l)):=vr (by rw[d,vW])
def p_{ws:V fB}(e:H d=O (.a (ws.map cV)))(f:m5 H ws):fG ak H (.b d) (.list ((ws.map λc=>cd c.2).map dP)):=by rw[bz];exact Bn e λc d=>lW (f c d)
end
def r9(a b):(dP (cd a)).eqv (dP (cd b))=aq (a=b):=by rw[vv];exact decide_eq_decide.mpr BQ
def To(a:V fB):(a.map λb=>cd b.2)=(a.map (·.2)).map cd:=by rw[bz];rfl
def vu(ws:V fB)(a:V (V Nat)):(pJ ((ws.map λb=>cd b.2).map dP)).eqv (.list ((a.map cd).map dP))=aq (ws.map (·.2)=a):=by rw[MV,To];exact decide_eq_decide.mpr Nq
def NG{d r e:Type}{s:Y}{H:eH}{M:dV}{L:aY}{p:V Nat}{y:L2.aQ}{n:af}{k:Y}{G:af->Prop}(o:V d)(E:d->ah)(D:r->ah)(l:r->aE)(w:r->e)(x:d->e)(J:n k=aa)(P:n s=O (.a (o.map E)))(h:o.length<aH)
  (Q:∀u∈o,∀e,aW n e->∀(m:af->Prop)(h:bj),(∀j i,aW e i->(∀g∈l j,e g.1=aa)->((l j).map (·.1)).Nodup->cD i (l j)->w j=x u->h (D j) i)->H (E u) (b0 y p) e λd z=>b0 d p=b0 y p/\M d z λC q=>if C=ab then L d q h else m q)
  (N:∀e(h:V r),aW n e->e k=O (.a (h.map D))->cD e (h.flatMap l)->(∀g∈h.flatMap l,n g.1=aa)->((k,cw.a [])::h.flatMap l|>.map (·.1)).Nodup->h.map w=o.map x->G e):
  ∃B:Nat->Nat->af->Prop,(∃t,B 0 t (al n k (.a [])))/\∀m t e,B m t e->
   ((gt ak s).b m e/\G e)\/((gt ak s).a m e/\∃A:af->Prop,(∀i,A i->∃K,K<t/\B (m+1) K i)/\∀F i,(gt ak s).c m e F i->H F (b0 y p) i λd z=>b0 d p=b0 y p/\M d z λC q=>if C=ab then L d q λj p=>∃d,p k=O (.a d)/\d.length<aH/\A (al p k (.a (d++[j])))else A q):=by
 refine o_ (xs:=o.map E) (λm e=>aW n e/\∃h:V r,e k=O (.a (h.map D))/\cD e (h.flatMap l)/\(∀g∈h.flatMap l,n g.1=aa/\g.1≠k)/\((h.flatMap l).map (·.1)).Nodup/\h.map w=(o.take m).map x) ⟨aW.a J,[],az,(by intro g d;cases d),(by intro g d;cases d),nT,I⟩ (λm e _ r=>dU.b (r.1 _ _ P)) ?_ (λe r=>?_);rintro m F e y ⟨p,h,l,q,n,s,o⟩;obtain⟨u,t,rfl⟩:=d2 y;have z:=a1 t;refine Q u z e p _ _ (λj i y m C A B=>⟨_,y _ _ l,?_,(p.b y).f J,h++[j],?_,λg d=>?_,λg d=>?_,?_,?_⟩);have:=cb fu o;rw[an,an,e7]at this;rw[an];have:=(bu.mp t).1;omega;rw[az,a6]
 rfl
 rw[i7]at d;rcases cU.mp d with d|d;exact(aL (n g d).2).trans (y _ _ (q g d));have u:g.1≠k:=λi=>by have:=m g d;rw[i,l]at this;cases this
 exact(aL u).trans (A g d);rw[i7]at d;rcases cU.mp d with d|d;exact n g d;exact⟨p.e (m g d),λi=>by have:=m g d;rw[i,l]at this;cases this⟩;rw[i7,a6,jA];refine⟨s,C,λu k y z i=>?_⟩;obtain⟨g,d,rfl⟩:=bm.mp k;obtain⟨u,y,rfl⟩:=bm.mp z;have k:=q g d;rw[i,m u y]at k;cases k;rw[a6,o,l9 x t];show _++[w j]=_;rw[B];obtain⟨p,h,l,q,n,s,o⟩:=r;rw[an,dN]at o;refine N e h p l q (λg d=>(n g d).1) (g_.mpr ⟨λi=>?_,s⟩) o;obtain⟨g,d,e⟩:=bm.mp i;exact(n g d).2 e
abbrev p5:=Y×V fB
abbrev iy(a:p5):ah:=.b a.1
def p5.b(d:p5):aE:=(d.1,cw.a (d.2.map cV))::d.2.map λe=>(e.1,cw.a (a4 e.2))
def p5.c{d:p5}(f:cD e d.b):e d.1=O (.a (d.2.map cV))/\m5 e d.2:=⟨f _ cr,λd e=>f (d.1,.a (a4 d.2)) (cJ _ (bm.mpr ⟨d,e,I⟩))⟩
def p5.a(d:p5):V (V Nat):=d.2.map (·.2)
def LZ(f:af)(g:bj)(h:V (V (V Nat))):Prop:=∀e(c:V p5) d,aW f d->f e=aa->d e=O (.a (c.map iy))->cD d (c.flatMap p5.b)->(∀i∈c.flatMap p5.b,f i.1=aa)->((e,cw.a [])::c.flatMap p5.b|>.map (·.1)).Nodup->c.map p5.a=h->g (.b e) d
theorem oC(e):∀d:V Nat,(dB e d).length<=d.length+1/\∀b∈dB e d,b.length<=d.length
 |[]=>by simp[dB]
 |h::g=>by obtain⟨f,c⟩:=oC e g;unfold dB;split;refine⟨by simp only[cz];omega,λb a=>?_⟩;rcases bW.mp a with rfl|a;simp;have:=c b a;simp only[cz];omega;split;simp;rename_i a;rw[a]at f c;refine⟨by simp only[cz]at f⊢;omega,λb a=>?_⟩;rcases bW.mp a with rfl|a;have:=c _ cr;simp only[cz];omega;have:=c b (cJ _ a);simp only[cz];omega
def b5(a:V Nat):Int:=if 4<a.length\/a.all ji=ae then-1 else(ht a:Int)
def hm(a:V Nat):Bool:=aq (a.length<=8)&&a.all qp
section
inductive Sp(vs:V ah)(H:af)(Q:bj)(E:cf):Prop
 |a (a:Y) (t:V Nat):vs=[.b a]->H a=O (.a (a4 t))->t.length<=1000->LZ H Q ((dB 10 t).map c')->Sp vs H Q E
def CE[a:aJ]:b' 4 76 Sp:=by
 refine cF 1 ["line"] λb f c e d=>?_;obtain⟨c,b,rfl,g,f,u⟩:=d;refine⟨_,c1 (dX I e (bZ (aP CH (c6 (W 0) (di a.zF)))) (own:=[("line",1)]) (dn I) (λ_ _ _ _ _=>bE 1) (λ_ _ _ _ _=>f_) (λ_ _ _ _ _=>(aP PC (c2 1)))),c,b,10,I,g,by omega,λl h a f j e s i k d=>?_⟩;have c:=oC 10 b;have a:h.length<=1001:=by have:=cb fu d;rw[an]at this;have:=c.1;omega
 refine⟨_,I,⟨_,dU.b e⟩,λj g=>?_⟩;refine NG h cV iy p5.b p5.a (λa=>c' a.2) g e (by rw[bn];omega) ?_ (λk E w z A B D C=>?_);intro a e h x i n m;have h:a.2.length<=1000:=by
  have:a.2∈dB 10 b:=by rw[<-d];exact bm.mpr ⟨a,e,I⟩
  have:=c.2 a.2 this;omega
 refine⟨I,a.1,a.2,I,x _ _ (s a e),by omega,λh i b y p r t o q n=>?_⟩;refine m (h,i) b y (λc a=>?_) ?_ (λc a=>?_) n;rcases bW.mp a with rfl|a;exact p;obtain⟨b,e,rfl⟩:=bm.mp a;exact o b e;show(h::(i.map λb=>(b.1,cw.a (a4 b.2))).map (·.1)).Nodup;rw[bz];exact q;rcases bW.mp a with rfl|a;exact r;obtain⟨b,e,rfl⟩:=bm.mp a;exact t b e;refine u j E k (f.b w) (f.e g) z A (λc a=>f.e (B c a)) D ?_;rw[C,<-d,bz]
 rfl
inductive Sl(vs:V ah)(H:af)(Q:bj)(E:cf):Prop
 |a (n:Int) (x y:ac):vs=[.a n,.e x,.e y]->x.length=1->y.length=1->Q (.d (aq (((x.cps.getD 0 0:Nat):Int)<=n)&&aq (n<=((y.cps.getD 0 0:Nat):Int)))) H->Sl vs H Q E
def CC[b:aJ]:b' 2 77 Sl:=by refine cF 0 [] λa f d e c=>?_;obtain⟨f,g,h,rfl,d,e,a⟩:=c;refine⟨_,c1 (x3 h8 h8 (bM qV (by rfl) b.G uD (c2 1)) (W 0) (bM qV (by rfl) b.G uD (c2 2))),_,I,d,_,_,I,I,bG (λb=>?_) (λb=>?_)⟩;refine⟨_,I,e,_,_,I,I,?_⟩;rw[b]at a;exact a;rw[b]at a;exact a
inductive Si(vs:V ah)(H:af)(Q:bj)(E:cf):Prop
 |a (a:Y) (w:V Nat):vs=[.b a]->H a=O (.a (a4 w))->w.length<=1000000->(∀H',aW H H'->Q (.d (hm w)) H')->Si vs H Q E
def Pc[a:aJ]:b' 3 78 Si:=by
 refine cF 1 ["sign"] λf d c g b=>?_;obtain⟨h,c,rfl,d,i,e⟩:=b;refine⟨_,c1 (x2 (n9 h8 (c5 (W 0)) a5) (t5 (bM (xz I) (by rfl) a.zm boot_all (c3 (dX I g (bZ (W 0)) (own:=[("sign",1)]) (dn I) (λ_ _ _ _ _=>bE 1) (λ_ _ _ _ _=>f_) (λ_ _ _ _ _=>(aP CC (n0 (W 1) iN iN)))))))),_,_,I,.inl (dU.b d),_,_,I,I,bG (λb=>?_) (λb=>?_)⟩;have b:c.length<=8:=by have:=cj b;rw[an]at this;omega
 refine⟨_,I,⟨_,dU.b d⟩,λa g=>?_⟩;refine eR c (λa:Nat=>ah.a (a:Int)) (λa:Nat=>ah.d (qp a)) (λ_=>ab) g d (by rw[bn];omega) ?_ (λg l d=>?_);intro a n h o i j m k;refine⟨I,(a:Int),_,_,I,I,I,?_⟩;have h:(aq (((((dg "a").cps.getD 0 0):Nat):Int)<=(a:Int))&&aq ((a:Int)<=((((dg "z").cps.getD 0 0):Nat):Int)))=qp a:=by
  unfold qp;have i:(dg "a").cps.getD 0 0=97:=by decide
  have j:(dg "z").cps.getD 0 0=122:=by decide
  rw[i,j,hw];simp;omega
 rw[h];exact k I _ aW.d;rw[nb]at d;have h:(c.map λa:Nat=>ah.d (qp a))=(c.map qp).map ah.d:=by rw[bz];rfl
 rw[h]at d;refine⟨_,_,I,dU.b d,?_⟩;have:=e g l;unfold hm at this;rw[dm b,gg]at this;rw[yK];exact this;have b:¬c.length<=8:=by have:=dH b;rw[an]at this;omega
 have:=e f aW.d;unfold hm at this;rw[da b,jk]at this;exact this
inductive SA(vs:V ah)(H:af)(Q:bj)(E:cf):Prop
 |a (a:Y) (w:V Nat):vs=[.b a]->H a=O (.a (a4 w))->w.length<=1000000->(∀H',aW H H'->Q (.a (b5 w)) H')->SA vs H Q E
def sw[d:aJ]:b' 3 79 SA:=by
 refine vI ["word","number","sign"] 2 λf g c h e=>?_;obtain⟨m,c,rfl,g,i,j⟩:=e;refine⟨_,aj (bD (mj.a (nI (c4 kD (c5 (W 0)) a5) (pg (iP (ju (bM (xz I) (by rfl) d.zm boot_all (c3 (dX I h (bZ (W 0)) (own:=[("sign",2)]) (dn I) (λ_ _ _ _ _=>bE 2) (λ_ _ _ _ _=>f_) (λ_ _ _ _ _=>(aP CC (n0 (W 2) iN iN))))))))))) (c1 (di d.zR)) bQ) (aj (aA 1 a5) (aj (dY e_ I (bZ (W 0)) (bE 2) (au (aA 1 (ey q7 (ey mx (ey Hs (W 1) a5) (W 2)) (bM qV (by rfl) d.G uD (c3 iN)))))) (c1 (W 1)))),_,_,I,.inl (dU.b g),_,_,I,I,bG (λe=>?_) (λe=>?_)⟩;have e:4<c.length:=by have:=cj e;rw[an]at this;omega
 have:=j f aW.d;unfold b5 at this;rw[ay (.inl e)]at this;exact this;have e:¬4<c.length:=by have:=dH e;rw[an]at this;omega
 refine⟨_,I,⟨_,dU.b g⟩,λd f=>?_⟩;refine eR c (λd:Nat=>ah.a (d:Int)) (λd:Nat=>ah.d (ji d)) (λ_=>ab) f g (by rw[bn];omega) ?_ (λi k h=>?_);intro d q f r l n o p;refine⟨I,(d:Int),_,_,I,I,I,?_⟩;have l:(aq (((((dg "0").cps.getD 0 0):Nat):Int)<=(d:Int))&&aq ((d:Int)<=((((dg "9").cps.getD 0 0):Nat):Int)))=ji d:=by
  unfold ji;have n:(dg "0").cps.getD 0 0=48:=by decide
  have o:(dg "9").cps.getD 0 0=57:=by decide
  rw[n,o,hw];simp;omega
 rw[l];exact p I _ aW.d;rw[nb]at h;have l:(c.map λd:Nat=>ah.d (ji d))=(c.map ji).map ah.d:=by rw[bz];rfl
 rw[l]at h;refine⟨_,_,I,dU.b h,?_⟩;rw[yK];show if(!c.all ji)=ab then _ else _;cases h:c.all ji with
 |false=>have:=j i k;unfold b5 at this;rw[ay (.inr h)]at this;exact this
 |true=>
  have o:b5 c=(ht c:Int):=by unfold b5;rw[aw];rintro(d|d);exact e d;rw[h]at d;cases d
  have n:=hE.mp h;have e:=k _ _ g;refine⟨_,I,⟨_,dU.b e⟩,ev (xs:=a4 c) (λd h f=>f=i/\∃l,h=[O (.b m),O (.a (ht (c.take d):Int)),l]/\ht (c.take d)<10^d) ⟨I,_,I,Nat.zero_lt_one⟩ ?_ ?_ ?_⟩;rintro d h f _ ⟨rfl,_⟩;exact dU.b e;rintro d i h f g ⟨rfl,l,rfl,e⟩;obtain⟨e,i,rfl⟩:=d2 g;have g:=(bu.mp i).1;have g:=n e (a1 i);have g:48<=e/\e<=57:=by unfold ji at g;simp at g;exact g
  have g:ht (c.take (d+1))=10*ht (c.take d)+(e -48):=by unfold ht;rw[en,i];simp
  have i:10^d<=10^4:=Nat.pow_le_pow_right (by omega) (by omega);refine⟨_,_,I,I,.inl ⟨by omega,by omega⟩,_,_,I,I,_,I,I,_,_,I,I,I,O (.a (e:Int)),?_,?_⟩;have i:(dg "0").cps.getD 0 0=48:=by decide
  have n:((ht (c.take d):Int)*10+(e:Int) -(((dg "0").cps.getD 0 0:Nat):Int))=(ht (c.take (d+1)):Int):=by rw[i,g];omega
  show[O (ah.b m),O (ah.a ((ht (c.take d):Int)*10+(e:Int) -(((dg "0").cps.getD 0 0:Nat):Int))),_]=_;rw[n];rw[g,Nat.pow_succ];omega;rintro h f ⟨rfl,l,rfl,_⟩;rw[an,dN,<-o];exact j _ k
end
def Bg(b:V d)(c:d->ah)(a:Nat):f9 (b.map c) (O (a:Int)) aa=(b.drop a).map c:=by unfold f9;rw[HT.mc,HT.s4,an,<-jz,<-ka];congr 1;rw[mL (by rw[kL];omega)];by_cases c:a<=b.length;rw[pC c];rw[uy (by omega),uk (bp _),uk (by omega)]
def l3(a:V (V Nat))(e:V Nat)(d b:Int):Bool:=match a with|[c,a]=>aq (c=e)&&(aq (d<=b5 a)&&aq (b5 a<=b))|_=>ae
abbrev cI(a:String):V Nat:=(dg a).cps.toList
noncomputable def i6(ws:V (V Nat)):Bool:=aq (ws=[])||(aq (ws=[cI "TIGHT"])||l3 ws (cI "KEEP") 0 500)
noncomputable def jL(a:V (V Nat)):Bool:=l3 ((a.take 2).drop 0) (cI "PARTS") 1 4&&(l3 ((a.take 4).drop 2) (cI "SEGMENT") 1 50&&i6 (a.drop 4))
def hg(a c:V (V Nat)):Nat:=match a with
 |[]=>1
 |b::a=>if b≠cI "BOOK" then 1 else match a with|[]=>2|b::a=>if hm b=ae\/b∈c then 2 else if jL a=ae then 3 else if c.length=4 then 4 else 0
def i4(c:af)(d:Y)(b:V fB):Prop:=c d=O (.a (b.map cV))/\m5 c b/\∀e∈b,e.2.length<=1000000
def i4.a{ws:V fB}(b:i4 c e ws)(l:aW c d):i4 d e ws:=⟨l _ _ b.1,b.2.1.a l,b.2.2⟩
section
inductive Sk(vs:V ah)(H:af)(Q:bj)(E:cf):Prop
 |a (a:Y) (ws:V fB) (x:ac) (lo hi:Int):vs=[.b a,.e x,.a lo,.a hi]->i4 H a ws->x.cps.size<=1000000->(∀H',aW H H'->Q (.d (l3 (ws.map (·.2)) x.cps.toList lo hi)) H')->Sk vs H Q E
def v8[z:aJ]:b' 4 80 Sk:=by
 refine cF 0 [] λn F q D g=>?_;obtain⟨A,ws,d,j,i,rfl,⟨k,m,u⟩,s,l⟩:=g;refine⟨_,aj (bD (mj.a (nI (c4 j6 (c5 (W 0)) a5) (pg (c4 (q6 q.a) (c8 (W 0) a5) (aP nj (c2 1)))))) (c1 kE) bQ) (c1 (x3 h8 h8 (W 2) (aP sw (c3 (c8 (W 0) a5))) (W 3))),_,_,I,.inl (dU.b k),I,bG (λc=>?_) (λc=>?_)⟩;have c:ws.length≠2:=by intro a;rw[an,a]at c;cases c
 have f:l3 (ws.map (·.2)) d.cps.toList j i=ae:=by
  unfold l3;split;rename_i y;have:=cb fu y;rw[an]at this;exact a7 this c
  rfl
 have:=l n aW.d;rw[f]at this;exact this;have c:ws.length=2:=by rw[an]at c;by_cases e:ws.length=2;exact e;simp at c;omega
 obtain⟨b,a,rfl⟩:∃b a,ws=[b,a]:=by
  match ws,c with|[b,a],_=>exact⟨b,a,I⟩
 have t:=m b (by simp);have w:=m a (by simp);refine⟨_,_,_,_,I,I,dU.b k,I,d,I,s,λE o h C r=>?_⟩;have B:=vW d.cps.toList;refine⟨_,_,lW (h _ _ t),lW r,l4 _,l4 _,?_⟩;rw[r9];by_cases e:b.2=d.cps.toList;rw[dm e];refine⟨_,_,_,_,I,I,dU.b (h _ _ k),I,a.1,a.2,I,h _ _ w,u a (by simp),λp x=>?_⟩;have:=l p (h.b x);have f:l3 ([b,a].map (·.2)) d.cps.toList j i=(aq (j<=b5 a.2)&&aq (b5 a.2<=i)):=by
  show(aq (b.2=d.cps.toList)&&_)=_;rw[dm e]
  rfl
 rw[f]at this;refine⟨_,_,I,I,bG (λg=>?_) (λg=>?_)⟩;rw[g]at this;exact⟨_,_,I,I,this⟩;rw[g]at this;exact this;rw[da e];have:=l o h;have f:l3 ([b,a].map (·.2)) d.cps.toList j i=ae:=by
  show(aq (b.2=d.cps.toList)&&_)=_;rw[da e]
  rfl
 rw[f]at this;exact this
inductive Sh(vs:V ah)(H:af)(Q:bj)(E:cf):Prop
 |a (a:Y) (ws:V fB):vs=[.b a]->i4 H a ws->(∀H',aW H H'->Q (.d (i6 (ws.map (·.2)))) H')->Sh vs H Q E
def Pb[c:aJ]:b' 5 81 Sh:=by refine cF 0 [] λc g d f e=>?_;obtain⟨n,ws,rfl,⟨g,h,q⟩,i⟩:=e;refine⟨_,aj (bD (mj.a (nI (c4 (x0 d.a) (W 0) (bC ai)) (pg (c4 (x0 d.a) (W 0) (bC (c3 (aP nj (c3 iN)))))))) (c1 kE) bQ) (c1 (aP v8 (n2 (W 0) iN a5 a5))),by decide,λl d=>?_⟩;have e:aW c (al c l (.a [])):=aW.a d;refine⟨_,_,p_ (e _ _ g) (h.a e),lW (l:=[]) az,sG _,l4 _,?_⟩;have c:(pJ ((ws.map λf=>cd f.2).map dP)).eqv (dP (cd []))=aq (ws.map (·.2)=[]):=vu ws [];rw[c];refine bG (λd=>?_) (λd=>?_);refine ?_;have:=i _ e;unfold i6 at this;rw[d]at this;exact this;refine⟨dg "TIGHT",I,by decide,λm c r j p=>⟨(show 1<=aH by decide),λj o=>?_⟩⟩;have k:aW c (al c j (.a [.b m])):=aW.a o;have c:=(e.b r).b k;have o:(pJ ((ws.map λf=>cd f.2).map dP)).eqv (.list [dP (cd (cI "TIGHT"))])=aq (ws.map (·.2)=[cI "TIGHT"]):=vu ws [cI "TIGHT"];refine⟨_,_,p_ (c _ _ g) (h.a c),p_ (ws:=[(m,cI "TIGHT")]) az (λf e=>?_),sG _,sG _,?_⟩;rw[dZ.mp e];exact k _ _ p;refine(cb (λe:Bool=>if e=ab then _ else _) o).mpr (bG (λe=>?_) (λe=>?_));have:=i _ c;unfold i6 at this;rw[d,e]at this;exact this;have:=i;unfold i6 at this;rw[d,e]at this;exact⟨n,ws,_,_,_,I,(i4.a ⟨g,h,q⟩ c),by decide,λd j=>this d (c.b j)⟩
inductive Sj(vs:V ah)(H:af)(Q:bj)(E:cf):Prop
 |a (a:Y) (ws:V fB):vs=[.b a]->i4 H a ws->(∀H',aW H H'->Q (.d (jL (ws.map (·.2)))) H')->Sj vs H Q E
def Pd[c:aJ]:b' 6 82 Sj:=by
 refine cF 0 [] λg f c d e=>?_;obtain⟨i,c,rfl,h,d⟩:=e;refine⟨_,aj (bD (iP (ju (aP v8 (n2 (lu lw (W 0) (iO a5) (iO a5)) iN a5 a5)))) (c1 kE) bQ) (aj (bD (iP (ju (aP v8 (n2 (lu lw (W 0) (iO a5) (iO a5)) iN a5 a5)))) (c1 kE) bQ) (c1 (aP Pb (c3 (lu lw (W 0) (iO a5) q_))))),?_⟩;have k:∀i e(f:V fB),aW g i->i e=aa->f.Sublist c->i4 (al i e (.a (f.map cV))) e f:=λi e f m j l=>
  ⟨az,(λi f=>(aW.a j) _ _ (m _ _ (h.2.1 i (l.mem f)))),λi f=>h.2.2 i (l.mem f)⟩
 refine⟨_,I,_,I,_,_,I,dU.b h.1,λe j=>?_⟩;have f:f9 (c.map cV) (O (0:Int)) (O (2:Int))=((c.take 2).drop 0).map cV:=vn c cV 0 2;rw[f];have l:aW g (al g e (.a (((c.take 2).drop 0).map cV))):=aW.a j;refine⟨e,(c.take 2).drop 0,_,_,_,I,k g e _ aW.d j ((yN _ _).trans (y4 _ _)),by decide,λf m=>?_⟩;have e:((c.take 2).drop 0).map (·.2)=((c.map (·.2)).take 2).drop 0:=by rw[jz,ka]
 have n:((c.take 4).drop 2).map (·.2)=((c.map (·.2)).take 4).drop 2:=by rw[jz,ka]
 have o:(c.drop 4).map (·.2)=(c.map (·.2)).drop 4:=by rw[jz]
 rw[e];unfold jL at d;refine bG (λe=>?_) (λe=>?_);rw[wG]at e;rw[e]at d;exact d _ (l.b m);rw[wF]at e;rw[e,gg]at d;have i:=l.b m;refine⟨_,I,_,I,_,_,I,dU.b (i _ _ h.1),λe g=>?_⟩;have j:f9 (c.map cV) (O (2:Int)) (O (4:Int))=((c.take 4).drop 2).map cV:=vn c cV 2 4;rw[j];have j:aW f (al f e (.a (((c.take 4).drop 2).map cV))):=aW.a g;refine⟨e,(c.take 4).drop 2,_,_,_,I,k f e _ i g ((yN _ _).trans (y4 _ _)),by decide,λm l=>?_⟩;rw[n];refine bG (λf=>?_) (λf=>?_);rw[wG]at f;rw[f]at d;exact d _ (i.b (j.b l));rw[wF]at f;rw[f,gg]at d;have f:=i.b (j.b l);refine⟨_,I,_,_,I,dU.b (f _ _ h.1),λe g=>?_⟩;have h:f9 (c.map cV) (O (4:Int)) aa=(c.drop 4).map cV:=Bg c cV 4;rw[h];refine⟨e,c.drop 4,I,k m e _ f g (yN _ _),λi h=>?_⟩;rw[o];exact d _ (f.b ((aW.a g).b h))
inductive So(vs:V ah)(H:af)(Q:bj)(E:cf):Prop
 |a (a b:Y) (ws ns:V fB):vs=[.b a,.b b]->ws≠[]->i4 H a ws->i4 H b ns->(∀H',aW H H'->Q (.a (hg (ws.map (·.2)) (ns.map (·.2)):Nat)) H')->So vs H Q E
def Pf[e:aJ]:b' 7 83 So:=by
 refine cF 0 [] λb g c f q=>?_;obtain⟨h,k,g,m,rfl,i,f,r,b⟩:=q;refine⟨_,aj (bD (c4 (q6 c.a) (c8 (W 0) a5) (aP nj (c3 iN))) (c1 a5) bQ) (aj (bD (mj.a (nI (c4 gH (c5 (W 0)) a5) (nI (iP (ju (aP Pc (c3 (c8 (W 0) a5))))) (pg (bV (PE c.a) (c8 (W 0) a5) (W 1) (by with_unfolding_all rfl)))))) (c1 a5) bQ) (aj (bD (iP (ju (aP Pd (c3 (lu lw (W 0) (iO a5) q_))))) (c1 a5) bQ) (aj (bD (c4 gh (c5 (W 1)) (di e.zH)) (c1 a5) bQ) (c1 a5)))),?_⟩;obtain⟨h,e,rfl⟩:∃h e,g=h::e:=by
  cases g with|nil=>exact a7 I i|cons h e=>exact⟨h,e,I⟩
 refine⟨_,_,_,_,I,I,dU.b f.1,dJ (j:=0) I,dg "BOOK",I,by decide,λl g k i c=>?_⟩;refine⟨_,_,lW (k _ _ (f.2.1 h (by simp))),lW c,l4 _,l4 _,?_⟩;rw[r9];unfold hg at b;simp only[b1]at b;by_cases o:h.2=cI "BOOK";rw[dm o];rw[aw (not_not_intro o)]at b;refine⟨_,_,I,.inl (dU.b (k _ _ f.1)),_,_,I,I,?_⟩;cases e with
 |nil=>exact b _ k
 |cons c e=>
  change lq (.d (aq (((((h::c::e).map cV).length:Nat):Int)<2))) _;rw[show aq (((((h::c::e).map cV).length:Nat):Int)<2)=ae from da (by simp;omega)];simp only[b1]at b;refine⟨_,_,_,_,I,I,dU.b (k _ _ f.1),dJ (j:=1) I,c.1,c.2,I,k _ _ (f.2.1 c (by simp)),f.2.2 c (by simp),λp i=>?_⟩;have g:=k.b i;have l:∀i,aW p i->_:=λi l=>b i (g.b l);cases t:hm c.2 with
  |false=>rw[ay (.inl t)]at b;exact b _ g
  |true=>
   have x:(Je ((m.map λn=>cd n.2).map dP) λi=>i.eqv (dP (cd c.2)))=aq (c.2∈m.map (·.2)):=by rw[hw,decide_eq_true_eq,ib];constructor;rintro⟨i,s,l⟩;obtain⟨w,y,u⟩:=bm.mp s;obtain⟨A,z,w⟩:=bm.mp y;rw[<-u,<-w,r9,decide_eq_true_eq]at l;exact bm.mpr ⟨A,z,l⟩;intro q;obtain⟨i,s,l⟩:=bm.mp q;exact⟨_,nS (nS s),by rw[r9,decide_eq_true_eq];exact l⟩
   refine⟨_,_,_,_,I,I,dU.b (g _ _ f.1),dJ (j:=1) I,_,_,p_ (g _ _ r.1) (r.2.1.a g),lW (g _ _ (f.2.1 c (by simp))),vN _,vM _,cu (vp _) (by omega),?_⟩;rw[x];refine bG (λl=>?_) (λl=>?_);rw[ay (.inr (cj l))]at b;exact b _ g;have l:=dH l;rw[aw (by rintro(i|i)<;>first|(exact l i)|(rw[t]at i;cases i))]at b;refine⟨_,I,_,_,I,dU.b (g _ _ f.1),λi q=>?_⟩;have l:f9 ((h::c::e).map cV) (O (2:Int)) aa=e.map cV:=Bg (h::c::e) cV 2;rw[l];have l:aW p (al p i (.a (e.map cV))):=aW.a q;refine⟨i,e,I,⟨az,λn h=>l _ _ (g _ _ (f.2.1 n (by simp[h]))),λn h=>f.2.2 n (by simp[h])⟩,λp i=>?_⟩;have f:=g.b (l.b i);cases g:jL (e.map (·.2))with
   |false=>rw[ay g]at b;exact(b _ f)
   |true=>
    rw[aw (by rw[g];intro c;cases c)]at b;refine⟨_,_,I,.inl (dU.b (f _ _ r.1)),I,?_⟩;rw[an]at b;by_cases e:m.length=4;rw[ay e]at b;have g:(ah.a ((m.map cV).length:Nat):ah)=ah.a 4:=by rw[an,e];rfl
    rw[dm g];exact(b _ f);rw[aw e]at b;have g:(ah.a ((m.map cV).length:Nat):ah)≠ah.a 4:=by intro c;injection c with c;rw[an]at c;omega
    rw[da g];exact(b _ f)
 rw[da o];rw[ay o]at b;exact b _ k
end
def M9{n:Y}{xs:V ah}{t:eH}{w:dv}{l:hA}{g:L2.aQ}{f:af}(h:Nat->L2.aQ->af->Prop)(x:h 0 g f)(z:∀e g f,e<=xs.length->h e g f->dU ak f n xs)
  (A:∀e i m g f,xs[e]?=O i->f m=aa->h e g f->t (.b m) g (al f m (.d [.a (e+1:Nat),i])) λs o=>w {l with a:=h (e+1),d:=h (e+1),c:=l.a} s o) (y:∀g f,h xs.length g f->l.a g f):
  ∃q:Nat->Nat->L2.aQ->af->Prop,(∃k,q 0 k g f)/\∀e k g f,q e k g f->
   ((p4 ak n).b e f/\l.a g f)\/((p4 ak n).a e f/\∃p:L2.aQ->af->Prop,(∀r j,p r j->∃u,u<k/\q (e+1) u r j)/\∀i j,(p4 ak n).c e f i j->t i g j λs o=>w {l with a:=p,d:=p,c:=l.a} s o):=by
 refine⟨λe k g f=>k=xs.length -e/\e<=xs.length/\h e g f,⟨xs.length,by simp,co _,x⟩,?_⟩;rintro e k g f ⟨rfl,n,l⟩;have k:=z e g f n l;by_cases n:e<xs.length;refine .inr ⟨⟨xs,xs[e],k,by simp[n]⟩,h (e+1),λr j o=>⟨xs.length -(e+1),by omega,I,n,o⟩,λi j h=>?_⟩;obtain⟨m,i,rfl,j,rfl,h⟩:=h;exact A e i m g _ (h xs k) j l;have h:e=xs.length:=by omega
 subst h;exact .inl ⟨⟨xs,k,bp _⟩,y g f l⟩
noncomputable def jM:Nat->V (V (V Nat))->V (V Nat)->V Int
 |_,[],_=>[]
 |c,b::r,a=>if b=[]then jM (c+1) r a else if hg b a≠0 then[(hg b a:Int),(c:Int)]else jM (c+1) r (a++[b.getD 1 []])
def Dv{a:V Nat}(d:c∈(dB 10 a).map c'):∀b∈c,b.length<=a.length:=by obtain⟨l,c,rfl⟩:=bm.mp d;intro b d;have e:=(oC 10 a).2 l c;have a:=(oC 32 l).2 b (cY.mp d).1;omega
def MY(a:¬hg e f≠0):∃b c d,e=b::c::d:=by
 unfold hg at a;match e with|[]=>simp at a|[e]=>simp only at a;split at a<;>simp at a|b::c::d=>exact⟨b,c,d,I⟩
section
inductive Sd(vs:V ah)(H:af)(Q:bj)(E:cf):Prop
 |a (a:Y) (t:V Nat):vs=[.b a]->H a=O (.a (a4 t))->t.length<=1000->gj H Q (bg (jM 1 ((dB 10 t).map c') []))->Sd vs H Q E
def O9[f:aJ]:b' 8 84 Sd:=by
 refine cF 4 [] λE g i U h=>?_;obtain⟨N,D,rfl,g,B,R⟩:=h;refine⟨_,aj (aA 1 (bC ai)) (aj (dY e_ I (PM I f.zD (c3 (aP CE (c2 0)))) (HE I (x8 (bE 2) (x8 (bE 3) HF))) (aj (bD (c4 (wa ak i.a) (W 3) (bC ai)) (au HJ) bQ) (aj (aA 4 (aP Pf (c7 3 1))) (aj (bD (c4 j6 (W 4) a5) (c1 (bC (c7 4 2))) bQ) (au (a9 (eY e9 gL ha gG (W 1) (c3 (c8 (W 3) a5))))))))) (c1 (bC ai))),?_⟩;obtain⟨i,p⟩:∃i,i=jM 1 ((dB 10 D).map c') []:=⟨_,I⟩;rw[<-p]at R;refine⟨by decide,λn P=>?_⟩;have S:aW E (al E n (.a [])):=aW.a P;refine⟨N,D,I,S _ _ g,B,λl u F T f q z zd _ w=>?_⟩;have g:u.length<=1001:=by have:=cb fu w;rw[an,an]at this;have:=(oC 10 D).1;omega
 have x:F n=O (.a []):=T _ _ az;have A:l≠n:=λk=>by rw[k,az]at f;cases f
 refine⟨_,_,I,dU.b q,M9 (xs:=u.map iy) (λs L m=>∃H J C,L=[O (.b N),O (.b n),H,J,C]/\∃g:V fB,g.length<=s/\(∀f o,f≠n->F f=O o->m f=O o)/\m n=O (.a (g.map cV))/\(∀t∈g,∃c∈u,t∈c.2)/\i=jM (s+1) ((u.drop s).map p5.a) (g.map (·.2))) ?_ ?_ ?_ ?_⟩;exact⟨_,_,_,I,[],bp _,λf o _ h=>h,x,(λt i=>nomatch i),by rw[p,<-w];rfl⟩;rintro s L m _ ⟨H,J,C,rfl,g,_,x,_⟩;exact dU.b (x _ _ A q);rintro s v M L m G zc ⟨H,J,C,rfl,g,ze,x,za,A,p⟩;obtain⟨c,q,rfl⟩:=d2 G;have G:=a1 q;have zb:=(bu.mp q).1;have Q:u.drop s=c::u.drop (s+1):=by rw[ic zb,(bu.mp q).2]
 rw[Q,b1]at p;have zb:∀c∈u,∀y∈c.b,y.1≠n:=λc q y w k=>by have:=zd y (kM.mpr ⟨c,q,w⟩);rw[k,az]at this;cases this
 have Q:∀c∈u,cD m c.b:=λc q y w=>x _ _ (zb c q y w) (z y (kM.mpr ⟨c,q,w⟩));have zb:∀c∈u,∀X∈c.2,X.2.length<=1000000:=λc q X y=>by
  have u:c.a∈(dB 10 D).map c':=by rw[<-w];exact nS q
  have:=Dv u X.2 (nS y);omega
 have D:i4 m c.1 c.2:=⟨(p5.c (Q c G)).1,(p5.c (Q c G)).2,zb c G⟩;have w:i4 m n g:=⟨za,λt i=>by obtain⟨k,B,q⟩:=A t i;exact(p5.c (Q k B)).2 t q,λt i=>by obtain⟨k,B,q⟩:=A t i;exact zb k B t q⟩;have X:aW m (al m M (.d [.a (s+1:Nat),iy c])):=aW.a zc;refine⟨_,_,I,kA.b az,I,_,_,I,_,_,I,I,?_⟩;change ft _ _ _ [O (.b N),O (.b n),O (.a (s+1:Nat)),O (iy c),C] _;refine⟨by decide,λN B=>?_⟩;have q:aW (al m M (.d [.a (s+1:Nat),iy c])) _:=aW.a (o:=.a []) B;have Q:=X.b q;have D:=D.a Q;have w:=w.a Q;have X:∀q,aW (al (al m M (.d [.a (s+1:Nat),iy c])) N (.a [])) q->∀f o,f≠n->F f=O o->q f=O o:=λq s f o z h=>s _ _ (Q _ _ (x f o z h));refine⟨_,_,_,I,I,dU.b D.1,dU.b (K:=ak) az,?_⟩;have M:(c.2.map cV).isEmpty=aq (c.a=[]):=by unfold p5.a;cases c.2<;>rfl
 rw[M];unfold jM at p;refine bG (λu=>?_) (λu=>?_);rw[ay (cj u)]at p;exact⟨_,_,_,I,g,by omega,X _ aW.d,w.1,A,p⟩;have u:=dH u;rw[aw u]at p;have M:c.2≠[]:=λk=>u (by unfold p5.a;rw[k];rfl);refine⟨c.1,n,c.2,g,I,M,D,w,λq s=>?_⟩;refine⟨I,?_⟩;have u:∀q,(∀f o,f≠n->F f=O o->q f=O o)->aW E q:=λq x f o h=>x f o (λk=>by rw[k,P]at h;cases h) (T _ _ (S _ _ h));have M:=X q s;by_cases n:hg c.a (g.map (·.2))≠0;rw[ay n]at p;have F:(ah.a (hg (c.2.map (·.2)) (g.map (·.2)):Nat))≠ah.a 0:=by
  intro k;injection k with k;have:hg (c.2.map (·.2)) (g.map (·.2))=0:=by omega
  exact n this
 rw[da F];refine⟨(show 2<=aH by decide),λX Q=>?_⟩;refine R X _ ((u q M).b (aW.a Q)) ((u q M).e Q) ?_;rw[p];exact az;rw[aw n]at p;obtain⟨Q,X,r,i⟩:=MY n;have F:ah.a (hg (c.2.map (·.2)) (g.map (·.2)):Nat)=ah.a 0:=by
  have q:hg (c.2.map (·.2)) (g.map (·.2))=0:=TD n;rw[q]
  rfl
 rw[dm F];obtain⟨F,n,q,y⟩:∃F n q,c.2=F::n::q:=by
  have i:c.2.map (·.2)=Q::X::r:=i;match c.2,i with|F::n::q,_=>exact⟨F,n,q,I⟩
 have U:=(w.a s).1;refine⟨.inl ⟨I,_,dU.b U⟩,_,_,_,_,I,I,dU.b (D.a s).1,dJ (j:=1) (v:=cV n) (by rw[y];rfl),_,_,_,I,I,U,(by rw[bn,an];omega),_,_,_,I,g++[n],(by rw[bH];exact JS ze),λf o z h=>(aL z).trans (M f o z h),?_,?_,?_⟩;rw[az,a6]
 rfl
 intro t i;rcases cU.mp i with i|i;exact A t i;rw[dZ.mp i];exact⟨c,G,by rw[y];simp⟩;rw[p,a6];unfold p5.a;rw[y]
 rfl
 rintro L m ⟨H,J,C,rfl,g,_,x,za,A,p⟩;rw[an,jv]at p;refine⟨by decide,λN B=>?_⟩;have u:aW E m:=λf o h=>x f o (λk=>by rw[k,P]at h;cases h) (T _ _ (S _ _ h));refine R N _ (u.b (aW.a B)) (u.e B) ?_;rw[p];exact az
end
def ov(a:V Int):Prop:=a.length<=400/\∀b∈a,0<=b/\b<=255
section
inductive R7(vs:V ah)(H:af)(Q:bj)(E:cf):Prop
 |a (a:Y) (v:V Int):vs=[.b a]->H a=O (.a (bg v))->(ov v->Q .c H)->(¬ov v->dO ak cE E H (-1))->R7 vs H Q E
def O5[s:aJ]:cL 5 26 R7:=by
 refine cT 1 [] λr A y z u=>?_;obtain⟨t,p,rfl,h,w,m⟩:=u;refine⟨_,aj (a9 (aP hS (n0 (c5 (W 0)) a5 (di s.zJ)))) (au (dY kQ I (bZ (W 0)) (bE 1) (au (a9 (aP hS (n0 (W 1) a5 a5)))))),_,_,I,.inl (dU.b h),_,_,_,I,λg=>?_,λg=>m λd=>g ⟨qL _,by have:=d.1;simp only[an];omega⟩⟩;refine⟨_,I,⟨_,dU.b h⟩,ev (xs:=bg p) (λj f e=>e=r/\(∃o,f=[O (.b t),o])/\∀c∈p.take j,0<=c/\c<=255) ⟨I,⟨_,I⟩,by simp⟩ ?_ ?_ ?_⟩;rintro j f e _ ⟨rfl,_,_⟩;exact dU.b h;rintro j c f e i ⟨rfl,⟨o,rfl⟩,k⟩;obtain⟨q,l,rfl⟩:=d2 i;refine⟨_,_,_,I,λd=>⟨I,⟨_,I⟩,?_⟩,λd=>m λx=>d (x.2 q (a1 l))⟩;intro n a;rw[en,cU]at a;rcases a with a|a;exact k n a;rw[l]at a;have:n=q:=by simpa using a
 subst this;exact d;rintro f e ⟨rfl,_,k⟩;refine w ⟨?_,λc i=>k c (by rw[an,dN];exact i)⟩;have:=g.2;simp only[an]at this;omega
inductive QR(vs:V ah)(H:af)(Q:bj)(E:cf):Prop
 |a (x dx na:Y) (nm:V Nat) (n z:Nat) (t:Bool) (kp:ar Nat) (R:V aE):vs=[.b x,.b na,.a n,.a z,.d t,dj kp]->n<=1000->am H (a0 x ec dx []::[(na,.a (a4 nm))]::R)->A0 H Q R x ⟨nm,z,t,kp,cA n (oI z kp)⟩ .c->QR vs H Q E
def N'[p:aJ]:dz 6 67 0 QR:=by
 refine dF 1 ["index"] λt f e s g=>?_;obtain⟨o,j,e,n,r,f,i,h,q,rfl,u,m,G⟩:=g;refine⟨_,aj (b7 (W 0) (W 1) I) (aj (b7 (W 0) (W 3) I) (aj (b7 (W 0) (W 4) I) (aj (b7 (W 0) (W 5) I) (au (b7 (W 0) (dX I s (q9 I p.H (c2 2)) (own:=[("index",6)]) (dn I) (λ_ _ _ _ _=>bE 6) (λ_ _ _ _ _=>f_) (λ_ _ _ _ _=>(hQ p.zy Ok (c7 3 5)))) I))))),m.b 0 I,p.n.d,(bJ I),?_⟩;have g:=m.n [("name",.b e)];have s:=aM.c.b (o':=.c ec j [("name",.b e)]) (m.b 0 I) bY;refine⟨g.b 0 I,p.n.e,(bJ I),?_⟩;have m:=g.n [("name",.b e),("segment_size",.a f)];have u:=s.b (o':=.c ec j [("name",.b e),("segment_size",.a f)]) (g.b 0 I) bY;refine⟨m.b 0 I,p.n.c,(bJ I),?_⟩;have g:=m.n [("name",.b e),("segment_size",.a f),("is_tight",.d i)];have s:=u.b (o':=.c ec j [("name",.b e),("segment_size",.a f),("is_tight",.d i)]) (m.b 0 I) bY;refine⟨g.b 0 I,p.n.b,(bJ I),?_⟩;have w:=g.n [("name",.b e),("segment_size",.a f),("is_tight",.d i),("keep",dj h)];have x:=s.b (o':=.c ec j [("name",.b e),("segment_size",.a f),("is_tight",.d i),("keep",dj h)]) (g.b 0 I) bY;refine⟨(r:Int),I,(by omega),(by omega),λm s=>?_⟩;refine xT (λr u=>∃g:V aN,g.map aN.a=cA r (oI f h)/\aM t u/\am u ([(m,.a (g.map aN.i))]::g.flatMap (aN.l)::a0 o ec j [("name",.b e),("segment_size",.a f),("is_tight",.d i),("keep",dj h)]::[(e,.a (a4 n))]::q)) ?_ ?_ ?_;refine⟨[],I,x.a (aW.a s).c,?_⟩;have:=(w.f s (.a [])).k (Cs:=[(m,.a [])]::[]::a0 o ec j [("name",.b e),("segment_size",.a f),("is_tight",.d i),("keep",dj h)]::[(e,.a (a4 n))]::q) (by simp);exact this;rintro r u t ⟨g,w,z,s⟩;refine⟨I,λx t D A B=>?_⟩;refine⟨x,t,f,h,_,I,s.t (C:=bN) D A B,λt J E F H y=>⟨I,?_⟩⟩;have J:=(z.a (gU D A B).c).a H;have A:g.length=r:=by have:=cb fu w;simpa using this
 refine⟨_,y.e 1 I,(by rw[bn,an];omega),g++[t],?_,J.b (y.e 1 I) (by intro _ f;cases f),?_⟩;rw[a6,w,JG];show _++[t.a]=_;rw[F];have r:=y.p 1 I (.a (g.map aN.i++[.b x]));have y:am _ (t.l::[(m,.a (g.map aN.i++[.b x]))]::g.flatMap (aN.l)::a0 o ec j [("name",.b e),("segment_size",.a f),("is_tight",.d i),("keep",dj h)]::[(e,.a (a4 n))]::q):=r;rw[a6,i7];have A:[t].map aN.i=[ah.b x]:=by show[ah.b t.c]=_;rw[E]
 rw[A];refine y.k ?_;simp only[fj,b8];exact rs (gk _ _ _) (ia _ (gk _ _ _));rintro u ⟨g,w,z,s⟩;refine⟨s.b 2 I,p.n.a,(bJ I),?_⟩;have r:=s.j 2 I [("name",.b e),("segment_size",.a f),("is_tight",.d i),("keep",dj h),("parts",.b m)];have p:=z.b (o':=.c ec j [("name",.b e),("segment_size",.a f),("is_tight",.d i),("keep",dj h),("parts",.b m)]) (s.b 2 I) bY;have r:am _ ([(m,.a (g.map aN.i))]::g.flatMap (aN.l)::a0 o ec j [("name",.b e),("segment_size",.a f),("is_tight",.d i),("keep",dj h),("parts",.b m)]::[(e,.a (a4 n))]::q):=r;refine G ⟨o,j,e,m,n,f,i,h,g⟩ _ I ?_ p (r.k ?_);show b4.mk n f i h (g.map aN.a)=_;rw[w]
 rfl
 have p:(⟨o,j,e,m,n,f,i,h,g⟩:bq).c=a0 o ec j [("name",.b e),("segment_size",.a f),("is_tight",.d i),("keep",dj h),("parts",.b m)]++([(e,.a (a4 n))]++([(m,.a (g.map aN.i))]++(g.flatMap (aN.l)++[]))):=I;rw[fj (l:=bq.c _),p,dM];simp only[fj,b8];generalize a0 o ec j _=e;generalize g.flatMap (aN.l)=e;generalize q.flatten=e;refine rs (ia _ (gk _ _ _)) (rs (gk _ _ _) ?_);refine ia _ (rs (ia _ (gk _ _ _)) ?_);exact gk _ _ _
def oA(a:V (V Nat)):b4:=
 ⟨a.getD 1 [],(b5 (a.getD 5 [])).toNat,aq (a.length=7),if a.length=8 then O (b5 (a.getD 7 [])).toNat else aa,cA (b5 (a.getD 3 [])).toNat (oI (b5 (a.getD 5 [])).toNat (if a.length=8 then O (b5 (a.getD 7 [])).toNat else aa))⟩
structure k0(ws:V (V Nat)):Prop where
 e:(ws.getD 1 []).length<=8
 c:ws.length=6\/ws.length=7\/ws.length=8
 a:1<=b5 (ws.getD 3 [])/\b5 (ws.getD 3 [])<=4
 d:1<=b5 (ws.getD 5 [])/\b5 (ws.getD 5 [])<=50
 b:ws.length=8->0<=b5 (ws.getD 7 [])/\b5 (ws.getD 7 [])<=500
inductive RY(vs:V ah)(H:af)(Q:bj)(E:cf):Prop
 |a (a:Y) (ws:V fB) (n:fB) (R:V aE):vs=[.b a]->i4 H a ws->ws[1]?=O n->k0 (ws.map (·.2))->am H ([(n.1,.a (a4 n.2))]::R)->(∀(b:bq) H',b.b=oA (ws.map (·.2))->aM H H'->am H' (b.c::R)->Q (.b b.e) H')->RY vs H Q E
def O2[X:aJ]:b' 8 85 RY:=by
 refine cF 1 [] λzi zn zl zm ze=>?_;obtain⟨zk,S,zh,M,rfl,r,zg,q,Q,R⟩:=ze;refine⟨_,aj (aA 1 kF) (aj (bD (c4 gh (c5 (W 0)) a5) (au (aA 1 (aP sw (c3 (c8 (W 0) a5))))) bQ) (c1 (hQ X.zv N' (Z (c8 (W 0) a5) (n2 (aP sw (c3 (c8 (W 0) a5))) (aP sw (c3 (c8 (W 0) a5))) (n9 gh (c5 (W 0)) a5) (W 1)))))),?_⟩;obtain⟨m,e,n,a,p,d,h,rfl⟩:∃m e n a p d h,S=m::e::n::a::p::d::h:=by
  have:=q.c;rw[an]at this;match S,this with|m::e::n::a::p::d::h,_=>exact⟨_,_,_,_,_,_,_,I⟩
 obtain rfl:e=zh:=bA zg;have N:b5 a.2=((b5 a.2).toNat:Int):=by have:=q.a.1;exact(jn (Gj (by decide) this)).symm
 have P:b5 d.2=((b5 d.2).toNat:Int):=by have:=q.d.1;exact(jn (Gj (by decide) this)).symm
 refine⟨_,_,I,.inl (dU.b r.1),I,?_⟩;rw[o9];by_cases za:h.length=2;obtain⟨K,g,rfl⟩:∃K g,h=[K,g]:=by
  match h,za with|[K,g],_=>exact⟨_,_,I⟩
 have zf:b5 g.2=((b5 g.2).toNat:Int):=(jn (q.b I).1).symm;refine⟨_,_,_,_,I,I,dU.b r.1,dJ (j:=7) I,g.1,g.2,I,r.2.1 g (by simp),r.2.2 g (by simp),λzj y=>?_⟩;rw[zf];have G:=Q.o y;have f:=r.a y;refine⟨_,_,_,_,I,I,dU.b f.1,dJ (j:=1) I,_,_,_,_,I,I,dU.b f.1,dJ (j:=3) I,a.1,a.2,I,f.2.1 a (by simp),f.2.2 a (by simp),λT k=>?_⟩;have i:=f.a k;refine⟨_,_,_,_,I,I,dU.b i.1,dJ (j:=5) I,d.1,d.2,I,i.2.1 d (by simp),i.2.2 d (by simp),λU l=>?_⟩;have J:=i.a l;refine⟨_,_,I,.inl (dU.b J.1),I,λL D w s u=>?_⟩;have A:=((G.o k).o l).t (C:=ec) w s u;rw[N,P];refine⟨L,D,e.1,e.2,(b5 a.2).toNat,(b5 d.2).toNat,_,(O (b5 g.2).toNat),M,I,(by have:=q.a.2;have:b5 a.2<=4:=this;omega),A,λz x E F H B=>⟨I,?_⟩⟩;rw[<-E];refine R z x (F.trans ?_) ((((y.b k).b l).b (gU w s u)).c.a H) B
 rfl
 have zc:((((m::e::n::a::p::d::h).map cV).length:Int)==8)=ae:=by rw[beq_eq_false_iff_ne];simp only[an,cz];omega
 rw[zc];have G:=Q;have f:=r;refine⟨_,_,_,_,I,I,dU.b f.1,dJ (j:=1) I,_,_,_,_,I,I,dU.b f.1,dJ (j:=3) I,a.1,a.2,I,f.2.1 a (by simp),f.2.2 a (by simp),λT k=>?_⟩;have i:=f.a k;refine⟨_,_,_,_,I,I,dU.b i.1,dJ (j:=5) I,d.1,d.2,I,i.2.1 d (by simp),i.2.2 d (by simp),λU l=>?_⟩;have J:=i.a l;refine⟨_,_,I,.inl (dU.b J.1),I,λL D w s u=>?_⟩;have A:=((G.o k).o l).t (C:=ec) w s u;rw[N,P];refine⟨L,D,e.1,e.2,(b5 a.2).toNat,(b5 d.2).toNat,_,aa,M,I,(by have:=q.a.2;have:b5 a.2<=4:=this;omega),A,λz x E F H B=>⟨I,?_⟩⟩;rw[<-E];refine R z x (F.trans ?_) (((k.b l).b (gU w s u)).c.a H) B;have zb:¬((m::e::n::a::p::d::h).map (·.2)).length=8:=by simp only[an,cz];omega
 have zd:aq ((ah.a (((m::e::n::a::p::d::h).map cV).length:Nat))=ah.a 7)=aq (((m::e::n::a::p::d::h).map (·.2)).length=7):=by rw[o9,hw,beq_iff_eq,decide_eq_true_eq];simp only[an,cz];omega
 unfold oA;rw[aw zb,<-zd]
 rfl
end
def _root_.L3.am.N{c:aE}(S:am Q T)(l:aW Q R)(X:cD R c)(za:(c.map (·.1)).Nodup)(U:∀H∈c,Q H.1=aa):am R (c::T):=by refine⟨λH c=>?_,?_⟩;rw[fj]at c;rcases cU.mp c with c|c;exact X H c;exact l _ _ (S.s H c);rw[fj,a6,jA];refine⟨za,S.u,λR Q T X zb=>?_⟩;obtain⟨H,c,rfl⟩:=bm.mp Q;obtain⟨R,T,rfl⟩:=bm.mp X;have Q:=S.s R T;rw[<-zb,U H c]at Q;cases Q
def _root_.L3.am.J{c Cs:V aE}{X:aE}(Q:am H c)(R:c.flatten.Perm (X++Cs.flatten)):am H Cs:=(Q.k (Cs:=X::Cs) R).r
def PF{X:aK}(a)(c:X.b.units+64<eK)(b:X.e=a:=by rfl):d4 X (eL .NotEq) (yd a):=b▸q6 c
def CP{e:Type}(a c b d:V e):(a++(c++(b++d))).Perm (b++(a++(c++d))):=(ia a (gk c b d)).trans (gk a b _)
def CQ{f:Type}(a c d b e:V f):(a++(c++(d++(b++e)))).Perm (b++(a++(c++(d++e)))):=(ia a (CP c d b e)).trans (gk a b _)
def jO(a:fB):Y×cw:=(a.1,cw.a (a4 a.2))
section
inductive RZ(vs:V ah)(H:af)(Q:bj)(E:cf):Prop
 |a (a:Y) (t:V Nat) (R:V aE):vs=[.b a]->H a=O (.a (a4 t))->t.length<=1000->(∀ws∈(dB 10 t).map c',ws≠[]->k0 ws)->am H R->(∀l(bs:V bq) H',aM H H'->am H' ([(l,.a (bs.map bq.d))]::bs.flatMap (bq.c)::R)->bs.map bq.b=(((dB 10 t).map c').filter λws=>!ws.isEmpty).map oA->Q (.b l) H')->RZ vs H Q E
def O3[e:aJ]:b' 9 86 RZ:=by
 refine cF 1 ["words"] λq i g h e=>?_;obtain⟨i,p,R,rfl,j,m,D,o,E⟩:=e;refine⟨_,c1 (dX I h (bZ (aP CE (c2 0))) (own:=[("words",1)]) (dn I) (λ_ _ _ _ _=>bE 1) (λ_ _ _ _ _=>fU (c4 (PF ak g.a) (W 1) (bC ai))) (λ_ _ _ _ _=>(aP O2 (c2 1)))),i,p,I,j,m,λl e g n w h r t x s=>?_⟩;have i:e.length<=1001:=by have:=cb fu s;rw[an,an]at this;have:=(oC 10 p).1;omega
 have u:am g (((l,cw.a (e.map iy))::e.flatMap p5.b)::R):=by refine o.N n (λg m=>?_) x (λg m=>?_);rcases bW.mp m with rfl|m;exact h;exact r g m;rcases bW.mp m with rfl|m;exact w;exact t g m
 have A:∀d∈e,∀f∈d.2,f.2.length<=1000000:=λd o f t=>by
  have w:d.a∈(dB 10 p).map c':=by rw[<-s];exact nS o
  have:=Dv w f.2 (nS t);omega
 refine⟨_,I,⟨_,dU.b h⟩,λr j=>?_⟩;refine o_ (xs:=e.map iy) (λi h=>aM q h/\∃f:V bq,am h ([(r,.a (f.map bq.d))]::f.flatMap (bq.c)::[(l,.a (e.map iy))]::(e.drop i).flatMap p5.b::R)/\f.map bq.b=(((e.take i).map p5.a).filter λx=>!x.isEmpty).map oA) ?_ ?_ ?_ ?_;refine⟨(n.b (aW.a j)).c,[],(u.f j (.a [])).k ?_,I⟩;simp;rintro i h _ ⟨_,f,j,_⟩;exact dU.b (j.e 2 I);rintro i y h q ⟨u,f,j,n⟩;obtain⟨d,o,rfl⟩:=d2 q;have z:=a1 o;have y:=(bu.mp o).1;have q:e.drop i=d::e.drop (i+1):=by rw[ic y,(bu.mp o).2]
 rw[q,ez]at j;have q:cD h d.b:=λg m=>j.B 3 I (g9 _ m);have F:i4 h d.1 d.2:=⟨(p5.c q).1,(p5.c q).2,A d z⟩;have C:e.take (i+1)=e.take i++[d]:=by rw[en,o];rfl
 refine⟨I,by decide,λB m=>?_⟩;have q:aW h (al h B (.a [])):=aW.a m;have y:=F.a q;have m:(pJ ((d.2.map λo=>cd o.2).map dP)).eqv (dP (cd []))=aq (d.2.map (·.2)=[]):=vu d.2 [];refine⟨_,_,p_ y.1 y.2.1,lW (l:=[]) az,sG _,l4 _,?_⟩;rw[m];by_cases g:d.2.map (·.2)=[];rw[dm g];refine⟨u.a q.c,f,?_,?_⟩;refine(j.o q).J (X:=d.b) ?_;simp only[fj,b8];exact CQ _ _ _ _ _;rw[C,a6,ie,n];have:d.a=[]:=g;simp[this];rw[da g];have m:d.a∈(dB 10 p).map c':=by rw[<-s];exact nS z
 have A:k0 (d.2.map (·.2)):=D _ m g;obtain⟨o,m,p,t⟩:∃o m p,d.2=o::m::p:=by
  have:=A.c;rw[an]at this;match z:d.2,this with|o::m::p,_=>exact⟨_,_,_,I⟩
 have D:am (al h B (.a [])) ([(m.1,.a (a4 m.2))]::[(r,.a (f.map bq.d))]::f.flatMap (bq.c)::[(l,.a (e.map iy))]::(e.drop (i+1)).flatMap p5.b::R):=by
  refine(j.o q).J (X:=(d.1,cw.a (d.2.map cV))::jO o::p.map jO) ?_;simp only[fj,b8];refine(CQ _ _ _ _ _).trans ?_;have B:d.b=((d.1,cw.a (d.2.map cV))::jO o::[jO m])++p.map jO:=by
   unfold p5.b;rw[t]
   rfl
  rw[B,b8];show((d.1,cw.a (d.2.map cV))::jO o::([jO m]++(p.map jO++_))).Perm ((d.1,cw.a (d.2.map cV))::jO o::(p.map jO++([jO m]++_)));exact((gk _ _ _).cons _).cons _
 refine⟨d.1,d.2,m,_,I,y,(by rw[t];rfl),A,D,λm p t y o=>?_⟩;have p:f.length<=1001:=by have w:=cb fu n;rw[an,an]at w;have p:=fv (λx:V (V Nat)=>!x.isEmpty) ((e.take i).map p5.a);rw[an,e7]at p;omega
 refine⟨_,o.e 1 I,(by rw[bn,an];omega),((u.a q.c).a y).b (o.e 1 I) (by intro _ p;cases p),f++[m],?_,?_⟩;have p:=o.p 1 I (.a (f.map bq.d++[.b m.e]));have p:am _ (m.c::[(r,.a (f.map bq.d++[.b m.e]))]::f.flatMap (bq.c)::[(l,.a (e.map iy))]::(e.drop (i+1)).flatMap p5.b::R):=p;rw[a6,i7];refine p.k ?_;simp only[fj,b8];exact(gk _ _ _).trans (ia _ (gk _ _ _));rw[C,a6,a6,ie,a6,n];have:(!d.a.isEmpty)=ab:=by
  have g:d.a≠[]:=g;cases z:d.a with|nil=>exact a7 z g|cons _ _=>rfl
 rw[show[d].map p5.a=[d.a]from I,yQ (by exact this)];show _++[m.b]=_;rw[t]
 rfl
 rintro h ⟨u,f,j,n⟩;rw[an]at j n;rw[dN,s]at n;rw[jv]at j;refine E r f h u (j.J (X:=[(l,.a (e.map iy))]) ?_) n;simp only[fj,b8,um,lB];exact CP _ _ _ _
end
def l5(a:V (V Nat)):iD:=
 {name:=a.getD 1 [],parts:=(b5 (a.getD 3 [])).toNat,segment:=(b5 (a.getD 5 [])).toNat,keep:=if a.length=8 then O (b5 (a.getD 7 [])).toNat else aa,tight:=aq (a.length=7)}
def vX(e:a≠[]):sQ c d a=if(aq ((c:Int)<=b5 a)&&aq (b5 a<=(d:Int)))=ab then O (b5 a).toNat else aa:=by
 have b:a.isEmpty=ae:=by cases a with|nil=>exact a7 I e|cons _ _=>rfl
 unfold sQ b5;rw[b];by_cases b:4<a.length\/a.all ji=ae;have e:(aq (a.length<=4)&&(a.all ji&&(aq (c<=ht a)&&aq (ht a<=d))))=ae:=by rcases b with b|b;rw[da (by omega)];rfl;rw[b];simp
 rw[ay b,e];have:aq ((c:Int)<=-1)=ae:=da (by omega);rw[this]
 rfl
 have f:a.length<=4:=by by_cases e:4<a.length;exact a7 (y9 e) b;omega
 have g:a.all ji=ab:=by
  cases e:a.all ji with|true=>rfl|false=>exact a7 (Or.inr e) b
 rw[aw b,g,dm f];have b:aq ((c:Int)<=(ht a:Int))=aq (c<=ht a):=decide_eq_decide.mpr (by omega);have c:aq ((ht a:Int)<=(d:Int))=aq (ht a<=d):=decide_eq_decide.mpr (by omega);rw[b,c]
 rfl
def Dk:cI "BOOK"=e4 "BOOK":=by decide
def Tg:cI "PARTS"=e4 "PARTS":=by decide
def Th:cI "SEGMENT"=e4 "SEGMENT":=by decide
def Ti:cI "TIGHT"=e4 "TIGHT":=by decide
def Tf:cI "KEEP"=e4 "KEEP":=by decide
noncomputable def nl(n:V Nat)(r:V (V Nat)):Except Nat iD:=match r with
  |c::a::d::b::r=>
   if c≠e4 "PARTS"\/d≠e4 "SEGMENT" then .error 3
   else match sQ 1 4 a,sQ 1 50 b with
   |some a,O b=>(match r with
    |[]=>.ok {name:=n,parts:=a,segment:=b,keep:=aa,tight:=ae}
    |[c]=>if c=e4 "TIGHT" then .ok {name:=n,parts:=a,segment:=b,keep:=aa,tight:=ab}else .error 3
    |[k,c]=>if k=e4 "KEEP" then(match sQ 0 500 c with|some c=>.ok {name:=n,parts:=a,segment:=b,keep:=O c,tight:=ae}|none=>.error 3)else .error 3
    |_=>.error 3)
   |_,_=>.error 3
  |_=>.error 3
def PU{k n:V Nat}{r:V (V Nat)}(h:n.length<=8)(c:∀a∈r,a≠[]):if jL r=ab then nl n r=.ok (l5 (k::n::r))/\k0 (k::n::r)else nl n r=.error 3:=by
 match r,c with
 |[],_=>exact I
 |[_],_=>exact I
 |[d,a],_=>
  have:jL [d,a]=ae:=by show(_&&(ae&&_))=ae;rw[jk,ku]
  rw[this];exact I
 |[d,a,f],_=>
  have:jL [d,a,f]=ae:=by show(_&&(ae&&_))=ae;rw[jk,ku]
  rw[this];exact I
 |d::a::f::b::l,c=>
  have i:a≠[]:=c a (by simp);have j:b≠[]:=c b (by simp);have e:jL (d::a::f::b::l)=((aq (d=cI "PARTS")&&(aq (1<=b5 a)&&aq (b5 a<=4)))&&((aq (f=cI "SEGMENT")&&(aq (1<=b5 b)&&aq (b5 b<=50)))&&i6 l)):=I;rw[e,Tg,Th];by_cases e:d=e4 "PARTS"<;>by_cases g:f=e4 "SEGMENT";rw[dm e,dm g,gg,gg];unfold nl;simp only[e,g,ne_eq,not_true_eq_false,or_self,if_false];rw[vX i,vX j];have d:((1:Nat):Int)=1:=I;have f:((4:Nat):Int)=4:=I;have i:((50:Nat):Int)=50:=I;rw[d,f,i];cases d:(aq (1<=b5 a)&&aq (b5 a<=4))<;>cases f:(aq (1<=b5 b)&&aq (b5 b<=50))
  rfl
  rfl
  rfl
  rw[gg,gg];simp only[if_true];have i:1<=b5 a/\b5 a<=4:=by simpa using d
  have j:1<=b5 b/\b5 b<=50:=by simpa using f
  match l,c with
  |[],_=>exact⟨I,⟨h,.inl I,i,j,λa=>by simp at a⟩⟩
  |[b],_=>
   have f:i6 [b]=aq (b=e4 "TIGHT"):=by unfold i6;rw[Ti];show(ae||(aq ([b]=[e4 "TIGHT"])||ae))=_;rw[sW,DP];exact decide_eq_decide.mpr (by simp)
   rw[f];by_cases d:b=e4 "TIGHT";simp only[d,decide_true,if_true];exact⟨I,⟨h,.inr (.inl I),i,j,λa=>by simp at a⟩⟩;simp only[d,decide_false,if_false];exact trivial
  |[b,a],c=>
   have l:a≠[]:=c a (by simp);have f:i6 [b,a]=(aq (b=e4 "KEEP")&&(aq (0<=b5 a)&&aq (b5 a<=500))):=by
    unfold i6;rw[Tf];show(ae||(aq ([b,a]=[cI "TIGHT"])||_))=_;rw[da (by simp)]
    rfl
   rw[f];have c:((0:Nat):Int)=0:=I;have m:((500:Nat):Int)=500:=I;by_cases d:b=e4 "KEEP";simp only[d,decide_true,if_true,gg];rw[vX l,c,m];cases c:(aq (0<=b5 a)&&aq (b5 a<=500))
   rfl
   have l:0<=b5 a/\b5 a<=500:=by simpa using c
   exact⟨I,⟨h,.inr (.inr I),i,j,λ_=>l⟩⟩;simp only[d,decide_false,if_false,jk];exact trivial
  |b::a::c::d,_=>
   have f:i6 (b::a::c::d)=ae:=by
    unfold i6;rw[da (by simp),da (by simp)]
    rfl
   rw[f]
   rfl
  rw[da g];unfold nl;simp only[g,ne_eq,not_false_eq_true,or_true,if_true,jk,ku];exact trivial;rw[da e];unfold nl;simp only[e,ne_eq,not_false_eq_true,true_or,if_true,jk];exact trivial;rw[da e];unfold nl;simp only[e,ne_eq,not_false_eq_true,true_or,if_true,jk];exact trivial
def k3(b a:V (V Nat)):Nat:=match b with
 |[]=>1
 |k::r=>if k≠cI "BOOK" then 1 else match r with|[]=>2|n::r=>if hm n=ae\/n∈a then 2 else if jL r=ae then 3 else 0
def MX(a b:V (V Nat)):hg a b=if k3 a b≠0 then k3 a b else if b.length=4 then 4 else 0:=by
 match a with
 |[]=>rfl
 |[c]=>
  unfold hg k3;by_cases a:c≠cI "BOOK";simp[a];simp only[a,if_false]
  rfl
 |c::d::e=>unfold hg k3;by_cases a:c≠cI "BOOK";simp[a];simp only[a,if_false];by_cases a:hm d=ae\/d∈b;simp[a];simp only[a,if_false];by_cases a:jL e=ae;simp[a];simp[a]
def Mi{told:V iD}(b:a≠[])(d:∀f∈a,f≠[]):
  if k3 a (told.map (·.name))≠0 then wA told a=.error (k3 a (told.map (·.name)))else wA told a=.ok (l5 a)/\k0 a:=by
 match a,b,d with
 |[k],_,_=>unfold k3 wA;rw[Dk];by_cases b:k=e4 "BOOK";simp[b];simp[b]
 |k::n::r,_,d=>
  have c:wA told (k::n::r)=if k≠e4 "BOOK" then .error 1 else if DC n=ae\/(told.any λa=>a.name==n)=ab then .error 2 else nl n r:=I;rw[c];unfold k3;rw[Dk];by_cases b:k=e4 "BOOK";simp only[b,ne_eq,not_true_eq_false,if_false];have c:n.isEmpty=ae:=by
   cases e:n with|nil=>exact a7 e (d n (by simp))|cons _ _=>rfl
  have h:DC n=hm n:=by
   unfold DC hm;rw[c]
   rfl
  have g:(told.any λa=>a.name==n)=ab↔n∈told.map (·.name):=by rw[ib,bm];constructor;rintro⟨a,e,c⟩;exact⟨a,e,beq_iff_eq.mp c⟩;rintro⟨a,e,c⟩;exact⟨a,e,beq_iff_eq.mpr c⟩
  rw[h];by_cases c:hm n=ae\/n∈told.map (·.name);have e:hm n=ae\/(told.any λa=>a.name==n)=ab:=c.imp id g.mpr;rw[ay c,ay e];simp;have e:¬(hm n=ae\/(told.any λa=>a.name==n)=ab):=λa=>c (a.imp id g.mp);rw[aw c,aw e];have e:n.length<=8:=by
   have:hm n=ab:=by
    cases a:hm n with|true=>rfl|false=>exact a7 (y9 a) c
   unfold hm at this;rw[fe]at this;exact cj this.1
  have a:=PU (k:=e4 "BOOK") (n:=n) (r:=r) e λf c=>d f (by simp[c]);cases c:jL r with|false=>rw[c]at a;exact a|true=>rw[c]at a;exact a
  simp[b]
def e3(a:V (V (V Nat))):V iD:=(a.filter λb=>!b.isEmpty).map l5
def Tp:∀a∈c' b,a≠[]:=λa b c=>by have:=(cY.mp b).2;rw[c]at this;cases this
def Mj(c:V (V Nat)):∀(b:Nat)(a:V iD),a.length<=4->
  (jM b (c.map c') (a.map (·.name))=[]/\Dw b c a=.ok (a++e3 (c.map c'))/\(∀e∈c.map c',e≠[]->k0 e)/\(a++e3 (c.map c')).length<=4)
  \/∃g h:Nat,jM b (c.map c') (a.map (·.name))=[(g:Int),(h:Int)]/\Dw b c a=.error (g,h):=by
 induction c with
 |nil=>intro b a j;refine .inl ⟨I,?_,(λe c=>nomatch c),?_⟩;show DR a=DR (a++[]);rw[dM];show(a++[]).length<=4;rw[dM];exact j
 |cons l r p=>
  intro b a j;rw[b1];unfold jM Dw;by_cases d:c' l=[];have f:(c' l).isEmpty=ab:=by rw[d];rfl
  have i:e3 (c' l::r.map c')=e3 (r.map c'):=by unfold e3;rw[Jm (by rw[f];decide)]
  rw[ay d,ay f,i];rcases p (b+1) a j with⟨k,m,n,o⟩|j;refine .inl ⟨k,m,λe c=>?_,o⟩;rcases bW.mp c with rfl|c;exactλq=>a7 d q;exact n e c;exact .inr j;have f:(c' l).isEmpty=ae:=by
   cases q:c' l with|nil=>exact a7 q d|cons _ _=>rfl
  have i:e3 (c' l::r.map c')=l5 (c' l)::e3 (r.map c'):=by
   unfold e3;rw[yQ (by rw[f];decide)]
   rfl
  have q:¬(c' l).isEmpty=ab:=by rw[f];decide
  rw[aw d,aw q,i];have f:=Mi (told:=a) d Tp;have d:=MX (c' l) (a.map (·.name));rw[an]at d;by_cases i:k3 (c' l) (a.map (·.name))≠0;rw[ay i]at f d;rw[d,ay i,f];exact .inr ⟨_,_,I,I⟩;rw[aw i]at f d;rw[f.1];by_cases i:a.length=4;rw[ay i]at d;rw[d];have:sL<=a.length:=by rw[i];exact bp _
  show _\/∃g h:Nat,(if(4:Nat)≠0 then[((4:Nat):Int),(b:Int)]else _)=_/\(if sL<=a.length then _ else _)=_;rw[ay this];exact .inr ⟨4,b,I,I⟩;rw[aw i]at d;have:¬sL<=a.length:=by show¬4<=a.length;omega
  have i:¬hg (c' l) (a.map (·.name))≠0:=by rw[d];simp
  rw[aw i];have d:=p (b+1) (a++[l5 (c' l)]) (by rw[bH];simp;omega);have b:(a++[l5 (c' l)]).map (·.name)=a.map (·.name)++[(c' l).getD 1 []]:=by rw[a6];rfl
  rw[b,b8]at d;show _\/∃g h:Nat,_/\(if sL<=a.length then _ else _)=_;rw[aw this];rcases d with⟨k,m,n,o⟩|j;refine .inl ⟨k,?_,λe c=>?_,o⟩;show(if sL<=a.length then _ else _)=_;rw[aw this];exact m;rcases bW.mp c with rfl|c;exactλ_=>f.2;exact n e c;exact .inr j
def Tu{a:V Int}(c:∀b∈a,0<=b):bg a=a4 (a.map f7):=by show a.map ah.a=(a.map f7).map λd:Nat=>ah.a (d:Int);rw[bz];apply ga;intro b a;show ah.a b=ah.a ((b.toNat:Nat):Int);rw[jn (c b a)]
def Dm(a:V Int):((aq (a.length<=400)&&a.all λb=>cW b 0 255)=ab)↔ov a:=by unfold ov cW;simp
def Ml{a:V Int}(b:ov a):wB a=O (a.map f7):=ay ((Dm a).mpr b)
def Mk(b:¬ov a):wB a=aa:=aw λc=>b ((Dm a).mp c)
def Mh(c:k0 b):i2 (oA b) (l5 b) (cA (l5 b).parts qo):=by
 have i:=c.a;have j:=c.d;have g:=c.b;refine⟨I,I,I,I,⟨c.e,?_,λh a=>?_⟩,?_,?_,?_,?_,λk l m d e=>?_⟩;show(b5 _).toNat<=50;omega;have a:(if b.length=8 then O (b5 (b.getD 7 [])).toNat else aa)=O h:=a;split at a;rename_i f;have:=g f;have a:=bA a;omega;cases a;show _=(cA _ _).length;rw[jy]
 rfl
 show 0<(cA _ _).length;rw[jy];omega;show(cA _ _).length<=4;rw[jy];omega;show(cA _ _).length=(cA _ _).length;rw[jy,jy]
 rfl
 have d:=yO (a1 d);have e:=yO (a1 e);subst d e;exact⟨cv.B _ _ (by omega),I,I⟩
def LL(c)(a)(b):(oI c a).e b:=⟨co _,co _,co _,(λb a=>nomatch a),co _,nT⟩
def bI.zc{zg:a2}(s:bI x zg zf k)(zj:k+1<=900)(zr:aM x H)(zl:zg.b=[]){S:V bq}{t:V (V (V Nat))}(ze:S.map bq.b=(t.filter λg=>!g.isEmpty).map oA)(zk:∀g∈t,g≠[]->k0 g)(zi:(e3 t).length<=4):
  bI H {zg with m:=zh,b:=S} {zf with books:=e3 t,parts:=(e3 t).map λH=>cA H.parts qo} (k+1):=by
 have zs:∀g∈t.filter (λg=>!g.isEmpty),k0 g:=λg zf=>by obtain⟨k,x⟩:=cY.mp zf;exact zk g k (λzf=>by rw[zf]at x;cases x)
 have zo:zg.c=[]:=by
  cases zf:zg.c with|nil=>rfl|cons zk r=>have:=(s.d zk (by rw[zf];exact cr)).b;rw[zl]at this;simp[b2]at this
 refine⟨s.a,⟨?_,?_,?_,?_⟩,s.h,s.e,λzt zm zq zh=>?_,s.j,s.A,s.m,?_,?_,eZ s.i,eZ s.E,eZ s.C,zj⟩;show(e3 t).length=(S.map bq.b).length;rw[ze,an];unfold e3;rw[an];show((e3 t).map _).length=(S.map bq.b).length;rw[ze,an,an];unfold e3;rw[an];show(S.map bq.b).length<=4;rw[ze,an];unfold e3 at zi;rw[an]at zi;exact zi;intro zj H zn zp k x zi;have k:(S.map bq.b)[zj]?=O H:=k;have x:(e3 t)[zj]?=O zn:=x;have zi:((e3 t).map λH=>cA H.parts qo)[zj]?=O zp:=zi;rw[ze]at k;rw[bw,x]at zi;obtain rfl:=bA zi;unfold e3 at x;rw[bw]at k x;cases zh:(t.filter λg=>!g.isEmpty)[zj]? with
 |none=>rw[zh]at k;cases k
 |some g=>rw[zh]at k x;obtain rfl:=bA k;obtain rfl:=bA x;exact Mh (zs g (a1 zh))
 obtain⟨x,H,t,zi⟩:=s.f zt zm zq zh;refine⟨x,H,⟨t.b.a zr,λzh s=>?_,λx ze=>t.c x ze⟩,eZ zi⟩;obtain⟨x,k,_⟩:=t.a zh s;rw[zl]at k;simp[b2]at k;intro zk zf;have zf:zk∈zg.c:=zf;rw[zo]at zf;cases zf;intro H k t s;have k:H∈S.map bq.b:=k;rw[ze]at k;obtain⟨g,_,rfl⟩:=bm.mp k;have s:=yO s;subst s;exact LL _ _ _
section
def Rz:aB:=λe c d b=>∃a,eP (.books a) ((a.length:Int)::a) e c d b
def Ox[w:aJ]:cL 10 90 Rz:=by
 refine cT 2 [] λp e q d k=>?_;obtain⟨e,d,j,u,r,R,rfl,h,D,K,n,s,t,x,B⟩:=k;refine⟨_,aj (aA 2 (a' vY (W 1))) (aj (bD (c4 kD (c5 (c0 0)) a5) (au (f0 w.C)) bQ) (aj (a9 (aP O5 (c2 2))) (aj (aA 3 (aP O9 (c2 2))) (aj (bD (c4 (q6 q.a) (W 3) (bC ai)) (c1 (ey h7 (bC (c3 a5)) (W 3))) bQ) (aj (b7 (W 0) (aP O3 (c2 2)) I) (c1 (bC (c6 a5 (c5 (c0 0)))))))))),?_⟩;obtain⟨s,u⟩:=gd.c (r:=r) n;refine⟨gm (r:=r) h,I,r,e.length,_,I,h,gd.a n,s,λt q y k=>?_⟩;rw[u,Ni r]at k;have A:aM p q:=y;have p:am q ([(t,.a (bg e))]::eh.b (r.a (e.length+1))::d.d::R):=k;have h:=a2.f (p.d 2 I);have y:q t=O (.a (bg e)):=p.e 0 I;have u:j.books.isEmpty=d.b.isEmpty:=by have:=D.b.c;rw[an]at this;cases k:j.books<;>cases n:d.b<;>rw[k,n]at this<;>simp at this<;>rfl
 refine⟨h.a,w.l.a,I,_,_,I,.inl (dU.b h.f),_,_,I,I,bG (λn=>?_) (λn=>?_)⟩;have z:j.books.isEmpty=ae:=by
  rw[u];cases h:d.b with
  |nil=>rw[h]at n;cases n
  |cons _ _=>rfl
 exact B (-3) _ (by show(if _ then _ else _)=_;rw[ay z]) A (p.g 0 I);have J:d.b=[]:=by
  cases h:d.b with|nil=>rfl|cons k l=>rw[h]at n;have:=dH n;simp at this
 have n:bi j (.books e)=match wB e with
   |none=>dS j (-1)
   |some k=>match sN k with
    |.error h=>(j,{value:=1,more:=cd [h.1,h.2]})
    |.ok s=>({j with books:=s,parts:=s.map λk=>cA k.parts qo},{value:=0,more:=cd [s.length]}):=by
  show(if _ then _ else _)=_;rw[aw (by rw[u,J];simp)];cases wB e with|none=>rfl|some k=>rfl
 refine⟨t,e,I,y,λu=>?_,λC=>B (-1) _ (by rw[n,Mk C]) A (p.g 0 I)⟩;rw[Ml u]at n;have B:=Tu λs C=>(u.2 s C).1;have N:q t=O (.a (a4 (e.map f7))):=by rw[<-B];exact y
 have F:(e.map f7).length<=1000:=by rw[an];have:=u.1;omega
 refine⟨t,e.map f7,I,N,F,λu B q y G=>?_⟩;have u:=Mj (dB 10 (e.map f7)) 1 [] (co _);refine⟨by decide,λz C=>?_⟩;have y:aW B (al B z (.a [])):=aW.a C;refine⟨_,_,vr (y _ _ G),vr (l:=[]) az,l4 _,l4 _,?_⟩;rw[vv];have E:=(p.o q).o y;have H:=q.b y;rcases u with⟨p,q,P,S⟩|⟨h,u,p,q⟩;have p:jM 1 ((dB 10 (e.map f7)).map c') []=[]:=p;rw[dm p];have q:sN (e.map f7)=.ok (e3 ((dB 10 (e.map f7)).map c')):=q;have n:bi j (.books e)=({j with books:=e3 ((dB 10 (e.map f7)).map c'),parts:=(e3 ((dB 10 (e.map f7)).map c')).map λk=>cA k.parts qo},{value:=0,more:=cd [(e3 ((dB 10 (e.map f7)).map c')).length]}):=by rw[n];show(match sN (e.map f7)with|.error h=>_|.ok s=>_)=_;rw[q]
 refine⟨t,e.map f7,_,I,H _ _ N,F,P,E.g 0 I,λl k C T Q M=>?_⟩;have F:am C (a0 d.e dA d.l (f2 d)::[(d.m,.a (d.b.map bq.d))]::d.b.flatMap (bq.c)::[(d.i,jJ d.j (.b (ca d.a)))]::d.a.flatMap (bf.h)::[(d.k,.b (dh d.c))]::d.c.flatMap (a_.j)::[(l,.a (k.map bq.d))]::k.flatMap (bq.c)::eh.b (r.a (e.length+1))::R):=(Q.a 3 I).i (L:=d.o);refine⟨F.b 0 I,w.l.a,(bJ I),?_⟩;have t:=F.n [("books",.b l),("senders",.b d.i),("groups",.b d.k)];have N:=((A.a H.c).a T).b (o':=.c dA d.l [("books",.b l),("senders",.b d.i),("groups",.b d.k)]) (F.b 0 I) bY;have F:al C d.e (.c dA d.l (ef "books" (.b l) (f2 d)))=al C d.e (.c dA d.l [("books",.b l),("senders",.b d.i),("groups",.b d.k)]):=I;rw[F];refine⟨t.b 0 I,w.l.a,I,_,_,I,.inl (dU.b (t.e 7 I)),(show 2<=aH by decide),λF C=>?_⟩;have w:=(((t.g 1 I).g 1 I).f C (.a [.a 0,.a ((k.map bq.d).length:Nat)]));have Q:=N.a (aW.a (o:=.a [.a 0,.a ((k.map bq.d).length:Nat)]) C).c;rw[n]at x;have C:(k.map bq.d).length=(e3 ((dB 10 (e.map f7)).map c')).length:=by have:=cb fu M;rw[an,an]at this;unfold e3;rw[an,an,this]
 refine x F {d with m:=l,b:=k} _ I (D.zc K Q J M P S) ?_;have J:=((((((((w.a 8 I).a 1 I).a 6 I).a 6 I).a 6 I).a 6 I).a 8 I).a 8 I).a 8 I;have M:=am.h (L:=a2.o {d with m:=l,b:=k}) (R:=[(F,.a [.a 0,.a ((k.map bq.d).length:Nat)])]::eh.b (r.a (e.length+1))::R) J;have k:=(M.a 2 I).a 2 I;rw[C]at k;rw[C];exact k;have p:jM 1 ((dB 10 (e.map f7)).map c') []=[(h:Int),(u:Int)]:=p;rw[p]at G⊢;rw[da (by simp)];refine⟨(show 1<=aH by decide),λk p=>?_⟩;have k:aW (al B z (.a [])) _:=aW.a (o:=.a [.a 1]) p;refine⟨_,_,_,_,I,I,az,k _ _ (y _ _ G),(show 3<=aH by decide),λz p=>?_⟩;have y:=aW.a (o:=.a ([.a 1]++bg [(h:Int),(u:Int)])) p;have t:=((E.o k).o y);have w:=((E.o k).g 0 I).f p (.a ([.a 1]++bg [(h:Int),(u:Int)]));have q:sN (e.map f7)=.error (h,u):=q;have n:bi j (.books e)=(j,{value:=1,more:=cd [h,u]}):=by rw[n];show(match sN (e.map f7)with|.error h=>_|.ok s=>_)=_;rw[q]
 rw[n]at x;exact x z d _ I (D.p K (A.a ((H.b k).b y).c)) w
end
def Tj(a:String):cI a=e4 a:=by show(dg a).cps.toList=a.toList.map Char.toNat;rw[Str.ofString_eq_toList]
def oB(a b:ac):(a++b).cps.toList=a.cps.toList++b.cps.toList:=by show(a.cps++b.cps).toList=_;rw[Array.toList_append]
def r7:∀z<501,(iE z).length<=3:=by decide+kernel
def sK(z:Nat):cI (kr (z:Int))=iE z:=Tj _
def sq(a b):a4 (a++b)=a4 a++a4 b:=a6
noncomputable def i9(a:b4):V Nat:=cI "BOOK "++a.e++(cI " PARTS "++iE a.a.length++cI " SEGMENT "++iE a.d)
def la(a:b4):V Nat:=if a.c=ab then i9 a++cI " TIGHT" else match a.b with|none=>i9 a|some z=>i9 a++(cI " KEEP "++iE z)
def QE(a:i2 b c d):sT c=la b:=by
 have c:cI "BOOK "=e4 "BOOK"++[32]:=by decide
 have d:cI " PARTS "=32::(e4 "PARTS"++[32]):=by decide
 have e:cI " SEGMENT "=32::(e4 "SEGMENT"++[32]):=by decide
 have f:cI " TIGHT"=32::e4 "TIGHT":=by decide
 have g:cI " KEEP "=32::(e4 "KEEP"++[32]):=by decide
 unfold sT la i9;rw[a.j,a.c,a.g,a.h,a.e,c,d,e,f,g];cases b.c;cases b.b<;>simp[Tw];simp[Tw]
def vQ{z:Nat}(a:z<=1000):((z:Int)).natAbs.log2<1920:=by have a:((z:Int)).natAbs=z:=I;rw[a];by_cases a:z=0;subst a;decide;have:z.log2<10:=(Nat.log2_lt a).mpr (by omega);omega
def vP{z:Nat}(a:z<501):(dg (kr (z:Int))).length<=3:=by have:=r7 z a;rw[<-sK,oQ]at this;exact this
section
inductive SP(vs:V ah)(H:af)(Q:bj)(E:cf):Prop
 |a (b:bq) (k:iD) (ps:V d3):vs=[.b b.e]->lQ H b->i2 b.b k ps->gj H Q (a4 (la b.b))->SP vs H Q E
def Px[g:aJ]:b' 3 87 SP:=by
 refine cF 4 [] λx i d f h=>?_;obtain⟨d,i,j,rfl,l,f,t⟩:=h;refine⟨_,aj (aA 1 (c5 (c0 0))) (aj (aA 2 (c0 0)) (aj (aA 3 (ey h7 (ey h7 (aP nj (c3 iN)) (c0 0)) (aP nj (c3 (CO (wh (wg (W 1) (wh (wg (W 2) CS))))))))) (aj (bD (ju (c0 0)) (c1 (ey h7 (W 3) (aP nj (c3 iN)))) bQ) (aj (bD (eI (nF (c0 0))) (aj (aA 4 (c0 0)) (c1 (ey h7 (W 3) (aP nj (c3 (CO (wh (wg (W 4) CS)))))))) bQ) (c1 (W 3)))))),?_⟩;obtain⟨r,h,A⟩:=f.l;have i:=f.f;have w:d.b.a.length=d.a.length:=an _;have f:(iE d.a.length).length<=3:=r7 _ (by omega);have y:(iE d.g).length<=3:=r7 _ (lD h (by decide));have f:=vP (z:=d.a.length) (by omega);have f:d.g<=50:=h;have f:=vP (z:=d.g) (by omega);have f:d.f.length<=8:=r;have h:(dg " PARTS ").length=7:=by decide
 have i:(dg " SEGMENT ").length=9:=by decide
 have f:pK.length=0:=by decide
 have p:(dg " KEEP ").length=6:=by decide
 have j:(d.a.map aN.i).length=d.a.length:=an _;refine⟨l.a,g.n.a,I,_,_,I,.inl (dU.b l.d),?_⟩;rw[j];refine⟨l.a,g.n.e,I,dg "BOOK ",I,by decide,λj k n q m=>?_⟩;have j:=l.e n;refine⟨j.a,g.n.d,I,_,_,_,_,I,I,m,j.f,(by
  rw[bn,an,an];have q:(dg "BOOK ").cps.toList.length=5:=by decide
  omega),λm j=>?_⟩
 have u:aW k (al k m (.a (a4 (cI "BOOK ")++a4 d.f))):=aW.a j;refine⟨(by rw[fa,f,h,bn];omega),_,I,vQ (by omega),(by rw[fa,fa,f,h,bn];omega),(by rw[fa,fa,fa,f,h,i,bn];omega),_,I,vQ (by omega),(by rw[fa,fa,fa,fa,f,h,i,bn];omega),(by rw[fa,fa,fa,fa,f,h,i,bn];omega),_,I,(by show KO _<=_;rw[fa,fa,fa,fa,f,h,i];omega),λj s h B i=>?_⟩;have j:(pK++dg " PARTS "++dg (kr (d.a.length:Int))++dg " SEGMENT "++dg (kr (d.g:Int))).cps.toList=cI " PARTS "++iE d.a.length++cI " SEGMENT "++iE d.g:=by
  rw[oB,oB,oB,oB,<-sK,<-sK]
  rfl
 rw[j]at i;have B:=h _ _ (az:(al k m (.a (a4 (cI "BOOK ")++a4 d.f))) m=_);refine⟨_,_,_,_,I,I,B,i,(by
  rw[bn,bH,an,an,an];simp only[bH];have q:(cI "BOOK ").length=5:=by decide
  have B:(cI " PARTS ").length=7:=by decide
  have C:(cI " SEGMENT ").length=9:=by decide
  omega),λm k=>?_⟩
 have i:a4 (cI "BOOK ")++a4 d.f++a4 (cI " PARTS "++iE d.a.length++cI " SEGMENT "++iE d.g)=a4 (i9 d.b):=by
  unfold i9;rw[w,<-sq,<-sq]
  rfl
 rw[i];have i:(i9 d.b).length<=100:=by
  unfold i9;simp only[bH];have q:(cI "BOOK ").length=5:=by decide
  have B:(cI " PARTS ").length=7:=by decide
  have C:(cI " SEGMENT ").length=9:=by decide
  have i:d.b.e.length<=8:=r;have i:(iE d.b.d).length<=3:=y;rw[w];omega
 have r:=aW.a (o:=.a (a4 (i9 d.b))) k;have i:=((n.b u).b h).b r;have r:(al s m (.a (a4 (i9 d.b)))) m=O (.a (a4 (i9 d.b))):=az;have C:x m=aa:=((n.b u).b h).e k;have k:=l.e i;generalize al s m (.a (a4 (i9 d.b)))=w at i r k⊢;refine⟨k.a,g.n.c,I,bG (λl=>?_) (λl=>?_)⟩;refine⟨dg " TIGHT",I,by decide,λB y h D s=>?_⟩;refine⟨_,_,_,_,I,I,h _ _ r,s,(by
  rw[bn,an,an];have q:(dg " TIGHT").cps.toList.length=6:=by decide
  omega),λu n=>?_⟩
 refine t u _ ((i.b h).b (aW.a n)) ((i.b h).e n) ?_;rw[az];unfold la;rw[ay (show d.b.c=ab from l),sq];have x:¬d.b.c=ab:=by rw[show d.b.c=ae from l];decide
 have l:(w d.e=O (.c ec d.i (hM d))):=k.a;cases l:d.j with
 |none=>
  have j:dj d.j=.c:=by rw[l];rfl
  refine⟨k.a,g.n.b,I,?_⟩;rw[j];refine(t m w i C ?_);rw[r];unfold la;rw[aw x,show d.b.b=aa from l]
 |some z=>
  have j:dj d.j=.a (z:Int):=by rw[l];rfl
  refine⟨k.a,g.n.b,I,?_⟩;rw[j];have m:z<=500:=A z l;have m:=vP (z:=z) (by omega);have m:(iE z).length<=3:=r7 _ (by omega);refine⟨k.a,g.n.b,I,?_⟩;rw[j];refine⟨(by rw[fa,f,p,bn];omega),_,I,vQ (by omega),(by rw[fa,fa,f,p,bn];omega),(by rw[fa,fa,f,p,bn];omega),_,I,(by show KO _<=_;rw[fa,fa,f,p];omega),λB y h D s=>?_⟩;have f:(pK++dg " KEEP "++dg (kr (z:Int))).cps.toList=cI " KEEP "++iE z:=by
   rw[oB,oB,<-sK]
   rfl
  rw[f]at s;refine⟨_,_,_,_,I,I,h _ _ r,s,(by
   rw[bn,an,an];simp only[bH];have q:(cI " KEEP ").length=6:=by decide
   omega),λu n=>?_⟩
  refine t u _ ((i.b h).b (aW.a n)) ((i.b h).e n) ?_;rw[az];unfold la;rw[aw x,show d.b.b=O z from l,<-sq]
end
section
abbrev RV:aB:=eP .show_ []
def OX[i:aJ]:b' 4 91 RV:=by
 refine cF 1 ["book"] λc f d g b=>?_;obtain⟨c,d,k,r,h,rfl,n,f,x,p,j,q,l,m⟩:=b;refine⟨_,c1 (aP l0 (c6 (bC (c3 (c5 (c0 0)))) (dX I g (bZ (c0 0)) (own:=[("book",2)]) (dn I) (λ_ _ _ _ _=>bE 2) (λ_ _ _ _ _=>f_) (λ_ _ _ _ _=>(aP Px (c2 2)))))),?_⟩;have b:=a2.f (n.d 1 I);refine⟨b.a,i.l.a,I,_,_,I,.inl (dU.b b.f),c9,λB h=>?_⟩;have g:=aW.a (o:=.a [.a ((c.b.map bq.d).length:Nat)]) h;have h:=b.h g;refine⟨h.a,i.l.a,I,_,I,⟨_,dU.b h.f⟩,λt j=>?_⟩;have b:c.b.length<=4:=by have:=f.b.e;rw[an]at this;exact this
 refine sn c.b bq.d (λb=>cd (la b.b)) j h.f (by rw[bn];omega) ?_ (λj s i E F G=>?_);intro b p j D k m w;obtain⟨k,u⟩:=hG.mp p;obtain⟨m,r,_,_,j⟩:=f.q u;refine⟨I,b,m,r,I,(h.d b p).e D,j,λA u C y z=>?_⟩;exact w A u C y (by rw[z,vW]);have p:d.books.map (λb=>cd (sT b))=c.b.map λb=>cd (la b.b):=by
  apply mH;intro k;rw[bw,bw];cases h:c.b[k]? with
  |none=>
   have:d.books[k]?=aa:=by rw[yW]at h⊢;have:=f.b.c;rw[an]at this;omega
   rw[this]
   rfl
  |some b=>
   obtain⟨m,r,k,_,j⟩:=f.q h;rw[k];show O (cd (sT m))=_;rw[QE j]
   rfl
 have h:bi d .show_=(d,{value:=(c.b.length:Int),rows:=c.b.map λb=>cd (la b.b)}):=by show(d,({value:=(d.books.length:Int),rows:=d.books.map λb=>cd (sT b)}:gn))=_;have:=f.b.c;rw[an]at this;rw[p,this]
 have b:ci (bi d .show_)=[(c.b.length:Int)]++fm s:=by
  rw[h,sJ G]
  rfl
 rw[b]at q l;have b:(c.b.map bq.d).length=c.b.length:=an _;rw[b]at g i;refine⟨B,t,[(c.b.length:Int)],s,I,i _ _ az,E,F,?_,λm d p j k=>?_⟩;rw[bH]at q;rw[bn];omega;rw[h]at l;have b:=g.b (i.b p);exact l m c d I (f.p x b.c) (n.q b ((g.b i).e j) k)
end
def NF{s:Y}{t:aF}{f:V (aU×ah)}{G:eH}{M:dV}{L:aY}{p:V Nat}{u:L2.aQ}{E:af}{o:Y}{F:af->Prop}(g:Nat->af->Prop)(P:g 0 (al E o (.a [])))(R:∀i d,g i d->d s=O (.e t (.b f)))
  (S:∀i k C d,f[i]?=O (k,C)->g i d->G (dC k) (b0 u p) d λn w=>b0 n p=b0 u p/\M n w λz q=>if z=ab then L n q λm r=>∃j,r o=O (.a j)/\j.length<aH/\g (i+1) (al r o (.a (j++[m])))else g (i+1) q) (Q:∀d,g f.length d->F d):
  ∃y:Nat->Nat->af->Prop,(∃l,y 0 l (al E o (.a [])))/\∀i l d,y i l d->
   ((ll s t f).b i d/\F d)\/((ll s t f).a i d/\∃x:af->Prop,(∀h,x h->∃J,J<l/\y (i+1) J h)/\∀D h,(ll s t f).c i d D h->G D (b0 u p) h λn w=>b0 n p=b0 u p/\M n w λz q=>if z=ab then L n q λm r=>∃j,r o=O (.a j)/\j.length<aH/\x (al r o (.a (j++[m])))else x q):=by
 refine⟨λi l d=>l=f.length -i/\i<=f.length/\g i d,⟨f.length,by simp,co _,P⟩,?_⟩;rintro i l d ⟨rfl,U,B⟩;have K:=R i d B;by_cases H:i<f.length;refine .inr ⟨⟨K,H⟩,g (i+1),λh T=>⟨f.length -(i+1),by omega,I,H,T⟩,λD h m=>?_⟩;obtain⟨A,k,C,m,N⟩:=m;subst A N;exact S i k C _ m B;have A:i=f.length:=by omega
 subst A;exact .inl ⟨⟨K,bp _⟩,Q d B⟩
def cQ(b:V Nat)(c:Nat->Nat):V (aU×ah):=b.map λa:Nat=>((bb (a:Int):aU),ah.a (c a:Nat))
def nq{d:V Nat}{c:Nat->Nat}(b:Nat):bx (cQ d c) (bb (b:Int))=if b∈d then O (.a (c b:Nat))else aa:=by
 unfold cQ;induction d with|nil=>rfl|cons x g e=>rw[b1];by_cases f:x=b;subst f;rw[g7 I,ay cr];rw[g6 (by intro d;injection d with d;omega),e];by_cases e:b∈g;rw[ay e,ay (cJ _ e)];rw[aw e,aw (by intro d;exact(bW.mp d).elim (λd=>f d.symm) e)]
def dG:ar Nat->ah
 |none=>.c
 |some b=>.a (b:Nat)
def wp(d:V Nat)(a:Nat->Nat)(b:ar Nat)(c e:Nat):Bool:=match b with|none=>ae|some b=>aq (b∈d)&&(aq (a b<c)||(aq (a b=c)&&aq ((d.filter λf=>aq (c<a f)).length<e)))
def Na{od:aF}(g:d b=O f)(h:∀a c,a≠b->d a=O c->e a=O c):aW d (al e b f):=λa c e=>by by_cases d:a=b;subst d;rw[az,<-g,e];rw[aL d];exact h a c d e
def sI(d:V Nat)(c)(a b e):wp d c (O a) b e=(aq (a∈d)&&(aq (c a<b)||(aq (c a=b)&&aq ((d.filter λf=>aq (b<c f)).length<e)))):=I
section
inductive Sx(vs:V ah)(H:af)(Q:bj)(E:cf):Prop
 |a (d:Y) (ms:V Nat) (c:Nat->Nat) (o:ar Nat) (q left:Nat):vs=[.b d,dG o,.a q,.a left]->H d=O (.b (cQ ms c))->ms.length<=1000->(∀H',aW H H'->Q (.d (wp ms c o q left)) H')->Sx vs H Q E
def Pk[f:aJ]:b' 2 105 Sx:=by
 refine cF 2 ["member"] λq g f j s=>?_;obtain⟨l,h,c,m,g,E,rfl,x,n,k⟩:=s;refine⟨_,aj (bD (eI (PJ (cN f) (W 1) (W 0))) (c1 kE) bQ) (aj (bD (c4 gH (g5 (cN f) (W 0) (W 1) (λ_ _=>I)) (W 2)) (c1 kE) bQ) (aj (q' (nH (i:=4) I j I I (nK I I I I) (x9 (W 0)) (own:=[("member",5)]) (dn I) (λ_ _ _ _ _=>bE 5) (λ_ _ _ _ _=>fU (c4 kD (g5 (cN f) (W 0) (W 5) (λ_ _=>I)) (W 2))) (λ_ _ _ _ _=>(W 5)))) (c1 (x2 (n9 gh (g5 (cN f) (W 0) (W 1) (λ_ _=>I)) (W 2)) (t5 (n9 gH (c5 (W 4)) (W 3))))))),?_⟩;cases m with
 |none=>exact⟨l,aa,I,.inr ⟨I,I,_,.inl x⟩,k q aW.d⟩
 |some m=>
  have t:=fg.a (k:=bb (m:Int)) x;rw[nq]at t;by_cases z:m∈h;rw[ay z]at t;have p:∀j,aW q j->(n3 oM (f1 (aI 105)++(["member"]:V ac)) (aI 105) 1 2 Sx).a (.d (aq (c m<g)||(aq (c m=g)&&aq ((h.filter λf=>aq (g<c f)).length<E)))) j:=λj n=>by have:=k j n;rw[sI,dm z,gg]at this;exact this
  refine⟨l,_,I,.inl t,_,_,I,t,_,_,I,I,bG (λn=>?_) (λn=>?_)⟩;have n:=cj n;have o:aq (c m<g)=ab:=dm (by omega);rw[o]at p;exact p q aW.d;have n:=dH n;have o:aq (c m<g)=ae:=da (by omega);rw[o,sW]at p;refine⟨l,_,x,trivial,λod=>?_⟩;refine⟨l,od,I,.inl ⟨_,az,λw r=>?_⟩⟩;have C:w≠l:=λB=>by rw[B,az]at r;cases r
  refine NF (λi j=>j l=O (.e od (.b (cQ h c)))/\(∀n A,n≠l->q n=O A->j n=O A)/\j w=O (.a (((h.take i).filter λf=>aq (g<c f)).map λf:Nat=>ah.a (f:Nat)))) ⟨?_,?_,az⟩ (λi j s=>s.1) ?_ ?_;exact(aL C.symm).trans az;intro n A o s;have:n≠w:=λB=>by rw[<-B,aL o,s]at r;cases r
  rw[aL this,aL o];exact s;rintro i F H j u ⟨y,o,s⟩;obtain⟨f,D,G⟩:∃f,h[i]?=O f/\(F,H)=((bb (f:Int):aU),ah.a (c f:Nat)):=by
   unfold cQ at u;rw[bw]at u;cases F:h[i]? with
   |none=>rw[F]at u;cases u
   |some f=>rw[F]at u;exact⟨f,I,(bA u).symm⟩
  obtain⟨rfl,rfl⟩:=Prod.mk.inj G;have F:=Bk (k:=bb (f:Int)) y;rw[nq,ay (a1 D)]at F;have u:=(bu.mp D).1;have H:h.take (i+1)=h.take i++[f]:=by rw[en,D];rfl
  refine⟨I,_,_,I,F,_,_,I,I,bG (λu=>?_) (λu=>?_)⟩;have u:=cj u;have D:aq (g<c f)=ab:=dm (by omega);refine⟨_,s,?_,(aL C.symm).trans y,λn A F G=>?_,?_⟩;rw[bn,an];have:=fv (λf=>aq (g<c f)) (h.take i);rw[e7]at this;omega;have:n≠w:=λB=>by rw[<-B,aL F,G]at r;cases r
  rw[aL this];exact o n A F G;rw[az,H,ie,a6,yQ (by exact D)]
  rfl
  have u:=dH u;have D:¬aq (g<c f)=ab:=by rw[decide_eq_true_eq];omega
  refine⟨y,o,?_⟩;rw[H,ie,Jm (by exact D)];simp[s];rintro j ⟨y,o,s⟩;refine⟨y,?_⟩;have n:aW q (al j l (.b (cQ h c))):=Na (od:=od) x o;have s:(al j l (.b (cQ h c))) w=O (.a ((h.filter λf=>aq (g<c f)).map λf:Nat=>ah.a (f:Nat))):=by rw[aL C,s];unfold cQ;rw[an,dN]
  have j:=fg.a (k:=bb (m:Int)) (n _ _ x);rw[nq,ay z]at j;refine⟨_,_,I,j,I,?_⟩;have j:aq (ah.a (c m:Nat)=ah.a (g:Nat))=aq (c m=g):=by rw[o9,hw,beq_iff_eq,decide_eq_true_eq];omega
  rw[j];by_cases j:c m=g;rw[dm j,gg]at p;rw[dm j];have m:=p _ n;refine⟨_,_,I,.inl (dU.b s),_,_,I,I,?_⟩;have o:aq ((((h.filter λf=>aq (g<c f)).map λf:Nat=>ah.a (f:Nat)).length:Int)<(E:Int))=aq ((h.filter λf=>aq (g<c f)).length<E):=decide_eq_decide.mpr (by rw[an];omega);rw[<-o]at m;exact m;rw[da j,jk]at p;rw[da j];exact p _ n;rw[aw z]at t;have:=k q aW.d;rw[sI,da z,jk]at this;exact⟨l,aa,I,.inl t,this⟩
end
def Bf(d)(b)(a):dd (d++[b]) a=dd d a+if b=O a then 1 else 0:=by unfold dd;rw[ie,bH];by_cases c:b=O a;simp[c];simp[c]
def wm{c d:Nat->Nat}(e:∀a∈b,c a=d a):cQ b c=cQ b d:=by unfold cQ;exact ga λa b=>by rw[e a b]
def C_{e:V Nat}{c:Nat->Nat}{b:Nat}(g:b∈e)(f):cH (cQ e c) (bb (b:Int)) (.a (f:Nat))=cQ e λd=>if d=b then f else c d:=by
 unfold cH;have f:((cQ e c).any λh=>aq (h.1=bb (b:Int)))=ab:=by rw[ib];exact⟨(bb (b:Int),.a (c b:Nat)),bm.mpr ⟨b,g,I⟩,by simp⟩
 rw[ay f];unfold cQ;rw[bz];apply ga;intro d _;show(if(bb (d:Int):aU)=bb (b:Int)then _ else _)=_;by_cases e:d=b;subst e;rw[ay I];simp;rw[aw (by intro b;injection b with b;omega)];simp[e]
def sj(e b:Nat)(d:V Nat)(c:V (ar Nat))(a:ar Nat):ar Nat:=if wp d (dd c) a e b=ab then a else aa
def BS(e a)(c)(b)(d)(f):go e a c b (d::f)=go e a c (b++[sj e a c b d]) f:=by
 conv=>lhs;unfold go
 congr 2;cases d with|none=>rfl|some a=>unfold sj;rw[sI];simp only[Vj,decide_eq_true_eq,fe,wH]
section
inductive SR(vs:V ah)(H:af)(Q:bj)(E:cf):Prop
 |a (oa d:Y) (os:V (ar Nat)) (ms:V Nat):vs=[.b oa,.b d]->oa≠d->H oa=O (.a (os.map dG))->H d=O (.b (cQ ms λ_=>0))->ms≠[]->ms.length<=1000->os.length<=1000->(∀l H',(∀b u,b≠d->H b=O u->H' b=O u)->H' d=O (.b (cQ ms (dd (go (os.length/ms.length) (os.length%ms.length) ms [] os))))->H l=aa->l≠d->H' l=O (.a ((go (os.length/ms.length) (os.length%ms.length) ms [] os).map dG))->Q (.b l) H')->SR vs H Q E
def Py[Q:aJ]:b' 3 106 SR:=by
 refine cF 4 [] λC zu zn zs l=>?_;obtain⟨P,r,g,d,rfl,zl,B,F,zk,zj,zp,k⟩:=l;refine⟨_,aj (aA 2 (ey Hq (c5 (W 0)) (bM nB (by rfl) Q.e cC (c2 1)))) (aj (aA 3 (ey x1 (c5 (W 0)) (bM nB (by rfl) Q.e cC (c2 1)))) (aj (aA 4 (bC ai)) (aj (dY e_ I (bZ (W 0)) (bE 5) (au (bD (ju (aP Pk (n8 1 5 2 3))) (aj (ya (cN zn) (W 1) (W 5) a5 mq (λ_ _ _=>I)) (au (a9 (eY e9 gL ha gG (W 4) (c2 5))))) (au (a9 (eY e9 gL ha gG (W 4) (c3 kF))))))) (c1 (W 4))))),?_⟩;have zq:0<d.length:=Jz.mpr zk;have D:(cQ d λ_=>0).length=d.length:=an _;have ze:(g.map dG).length=g.length:=an _;refine⟨_,_,I,.inl (dU.b B),_,_,I,F,_,_,I,I,⟨by rw[D];omega,by rw[D];omega⟩,_,_,I,.inl (dU.b B),_,_,I,F,_,_,I,I,by rw[D];omega,?_⟩;rw[D,ze];refine⟨by decide,λh s=>?_⟩;have H:h≠r:=λi=>by rw[i,F]at s;cases s
 have zr:P≠h:=λi=>by rw[<-i,B]at s;cases s
 have zf:((g.length:Int)/(d.length:Int))=((g.length/d.length:Nat):Int):=by omega
 have zg:((g.length:Int)%(d.length:Int))=((g.length%d.length:Nat):Int):=by omega
 change ft _ _ _ [O (.b P),O (.b r),O (.a ((g.length:Int)/(d.length:Int))),O (.a ((g.length:Int)%(d.length:Int))),O (.b h),aa] (al C h (.a []));rw[zf,zg];have zc:∃p,p=g.length/d.length:=⟨_,I⟩;have za:∃n,n=g.length%d.length:=⟨_,I⟩;obtain⟨p,zm⟩:=zc;obtain⟨n,zh⟩:=za;rw[<-zm,<-zh]at k⊢;have N:aW C (al C h (.a [])):=aW.a s;refine⟨_,I,⟨_,dU.b (N _ _ B)⟩,ev (xs:=g.map dG) (λz J t=>(∃o,J=[O (.b P),O (.b r),O (.a p),O (.a n),O (.b h),o])/\∃e:V (ar Nat),e.length=z/\(∀j x,j≠r->C j=O x->t j=O x)/\t r=O (.b (cQ d (dd e)))/\t h=O (.a (e.map dG))/\go p n d [] g=go p n d e (g.drop z)) ⟨⟨_,I⟩,[],I,λj x _ l=>N _ _ l,N _ _ F,az,I⟩ ?_ ?_ ?_⟩;rintro z J t _ ⟨_,e,_,A,_⟩;exact dU.b (A _ _ zl B);rintro z zt J t zo ⟨⟨o,rfl⟩,e,K,A,y,G,m⟩;obtain⟨q,X,rfl⟩:=d2 zo;have zi:=(bu.mp X).1;have zd:g.drop z=q::g.drop (z+1):=by rw[ic zi,(bu.mp X).2]
 rw[zd,BS]at m;refine⟨r,d,dd e,q,p,n,I,y,zj,λzb w=>?_⟩;refine bG (λl=>?_) (λl=>?_);obtain⟨f,rfl⟩:∃f,q=O f:=by
  cases q with
  |none=>cases l
  |some f=>exact⟨f,I⟩
 have U:f∈d:=by rw[sI,fe]at l;exact cj l.1
 have M:sj p n d e (O f)=O f:=ay l;rw[M]at m;have S:=fg.a (k:=bb (f:Int)) (w _ _ y);rw[nq,ay U]at S;refine⟨r,_,I,S,_,_,I,I,_,qO.a (k:=bb (f:Int)) (w _ _ y) (by unfold cQ;rw[an,bn];omega),?_⟩;have R:cH (cQ d (dd e)) (bb (f:Int)) (.a ((dd e f:Nat)+1:Int))=cQ d (dd (e++[O f])):=by
  have:=C_ (c:=dd e) U (dd e f+1);refine wJ ?_ (this.trans (wm λq _=>?_))
  rfl
  rw[Bf];by_cases c:q=f;subst c;simp;have:¬(O f=O q):=λi=>c (bA i).symm;simp[c,this]
 have L:(al zb r (.b (cQ d (dd (e++[O f]))))) h=O (.a (e.map dG)):=(aL H).trans (w _ _ G);rw[<-R]at L;refine⟨.inl ⟨I,_,dU.b L⟩,_,_,_,I,I,L,(by rw[an,bn];omega),⟨_,I⟩,e++[O f],(by rw[bH,K];rfl),λj x E u=>?_,?_,?_,m⟩;have:j≠h:=λi=>by rw[i,s]at u;cases u
 rw[aL this,aL E];exact w _ _ (A j x E u);rw[aL H.symm,az];exact cb (λi=>O (cw.b i)) R;rw[az,a6]
 rfl
 have M:sj p n d e q=aa:=aw (by rw[l];decide);rw[M]at m;have T:=w _ _ G;refine⟨.inl ⟨I,_,dU.b T⟩,_,_,_,I,I,T,(by rw[an,bn];omega),⟨_,I⟩,e++[aa],(by rw[bH,K];rfl),λj x E u=>?_,?_,?_,m⟩;have:j≠h:=λi=>by rw[i,s]at u;cases u
 rw[aL this];exact w _ _ (A j x E u);rw[aL H.symm,w _ _ y];congr 2;exact wm λq _=>by rw[Bf];simp
 rw[az,a6]
 rfl
 rintro J t ⟨⟨o,rfl⟩,e,K,A,y,G,m⟩;rw[an,jv]at m;have m:go p n d [] g=e:=m;rw[m]at k;exact k h t A y s H G
end
def i8(c:V Nat):V (ar Nat)->V (ar Nat)->V (ar Nat)
 |a,[]=>a
 |a,O d::b=>i8 c (a++[O d]) b
 |a,aa::b=>i8 c (a++[lf (a++aa::b) c]) b
def vy(b:V (ar Nat)){ms:V Nat}(h:ms≠[]):∃c∈ms,lf b ms=O c:=by
 induction ms with|nil=>exact a7 I h|cons a f j=>unfold lf;by_cases e:f=[];subst e;exact⟨a,by simp,I⟩;obtain⟨d,i,g⟩:=j e;rw[g];show∃c∈a::f,(if dd b d<dd b a then O d else O a)=O c;split;exact⟨d,by simp[i],I⟩;exact⟨a,by simp,I⟩
def Nm(a e:V (ar Nat))(d:∀b∈a,b≠aa):(a++aa::e).findIdx? (λc=>c.isNone)=O a.length:=by
 induction a with
 |nil=>rfl
 |cons b a e=>
  rw[gJ,List.findIdx?_cons];have:b.isNone=ae:=by
   cases b with|none=>exact a7 I (d aa (by simp))|some _=>rfl
  rw[this,e λc a=>d c (by simp[a])]
  rfl
def Nl(b:V (ar Nat))(c:∀d∈b,d≠aa):b.findIdx? (λa=>a.isNone)=aa:=by
 rw[List.findIdx?_eq_none_iff];intro a b;cases a with|none=>exact a7 I (c aa b)|some _=>rfl
def My(m:h≠[]):∀(b a:V (ar Nat)) c,(∀d∈a,d≠aa)->b.length<=c->qn h c (a++b)=i8 h a b:=by
 intro b;induction b with
 |nil=>
  intro a c g _;rw[dM];cases c with
  |zero=>rfl
  |succ c=>
   unfold qn;rw[Nl a g]
   rfl
 |cons d e k=>
  intro a c g j;cases d with
  |some f=>
   have i:a++O f::e=(a++[O f])++e:=by simp
   rw[i];refine k _ c (λd b=>?_) (by simp at j;omega);rcases cU.mp b with b|b;exact g d b;rw[dZ.mp b];simp
  |none=>
   cases c with
   |zero=>simp at j
   |succ c=>
    obtain⟨f,n,l⟩:=vy (a++aa::e) m;unfold qn i8;rw[Nm a e g,l];show qn h c ((a++aa::e).set a.length (O f))=_;have i:(a++aa::e).set a.length (O f)=(a++[O f])++e:=by rw[List.set_append];simp
    rw[i];refine k _ c (λd b=>?_) (by simp at j;omega);rcases cU.mp b with b|b;exact g d b;rw[dZ.mp b];simp
def vJ(e c)(d):∀(b a:V (ar Nat)),(go e c d a b).length=a.length+b.length:=by
 intro b;induction b with|nil=>intro a;rfl|cons o c b=>intro a;rw[BS,b];simp;omega
def A9{a:V Nat}(c:a≠[])(b:V (ar Nat)):jh a b=i8 a [] (go (b.length/a.length) (b.length%a.length) a [] b):=by unfold jh Vblwai.share;have d:¬a.length=0:=λa=>c (Jy.mp a);rw[aw d];refine My c _ [] b.length (λo a=>nomatch a) ?_;rw[vJ];simp
theorem sh:∀{b:V Nat},a∉b->(gA a b).Perm (a::b)
 |[],_=>Jb _
 |d::r,c=>by unfold gA;split;exact Jb _;split;rename_i e;exact a7 (by rw[e];simp) c;exact((sh λf=>c (by simp[f])).cons d).trans (Jc a d r)
theorem si:∀{d:V Nat},d.Pairwise (·<·)->i∉d->(gA i d).Pairwise (·<·)
 |[],_,_=>by simp[gA]
 |l::r,c,h=>by obtain⟨g,j⟩:=lC.mp c;unfold gA;split;rename_i b;refine lC.mpr ⟨λe a=>?_,c⟩;rcases bW.mp a with rfl|a;exact b;exact JN b (g e a);rename_i b;split;exact c;rename_i k;refine lC.mpr ⟨λe a=>?_,si j λf=>h (by simp[f])⟩;rcases bW.mp ((sh λf=>h (by simp[f])).mem_iff.mp a)with rfl|a;omega;exact g e a
def M0(a){ms:V Nat}(q:ms.Pairwise (·<·))(b:lf a ms=O e):e∈ms/\∀d∈ms,dd a e<dd a d\/(dd a e=dd a d/\e<=d):=by
 induction ms generalizing e with
 |nil=>cases b
 |cons i j s=>
  obtain⟨n,o⟩:=lC.mp q;unfold lf at b;cases g:lf a j with
  |none=>
   rw[g]at b;obtain rfl:=bA b;have p:j=[]:=by by_cases f:j=[];exact f;obtain⟨k,_,h⟩:=vy a f;rw[g]at h;cases h
   subst p;refine⟨by simp,λd c=>?_⟩;rw[dZ.mp c];exact .inr ⟨I,bp _⟩
  |some k=>rw[g]at b;obtain⟨r,l⟩:=s o g;have b:(if dd a k<dd a i then O k else O i)=O e:=b;split at b;rename_i f;obtain rfl:=bA b;refine⟨by simp[r],λd c=>?_⟩;rcases bW.mp c with rfl|c;exact .inl f;exact l d c;rename_i f;obtain rfl:=bA b;refine⟨by simp,λd c=>?_⟩;rcases bW.mp c with rfl|c;exact .inr ⟨I,bp _⟩;have:=n d c;rcases l d c with h|⟨h,_⟩;exact .inl (by omega);by_cases m:dd a i<dd a d;exact .inl m;exact .inr ⟨by omega,by omega⟩
def MZ(b){ms:V Nat}(g:ms.Pairwise (·<·))(d:c∈ms)(f:∀e∈ms,dd b c<dd b e\/(dd b c=dd b e/\c<=e)):lf b ms=O c:=by obtain⟨j,_,e⟩:=vy b (ms:=ms) (λh=>by rw[h]at d;cases d);obtain⟨h,i⟩:=M0 b g e;rw[e];have a:=f j h;have b:=i c d;congr 1;omega
def vg.a{N:V ac}{k:Nat}(j:vg ak hk i5 (cP (aI d)) (aI d))(t)
  (x:∀l i(m:bK) p(n:ao) e(g:V ah) f h,pM i5 i eT->cK k (m.deeper (fW (cP (aI d)) (de (aI d)) n.heap.objs.size l (.ref i)))->q g e f h->∃o,eG (fi fo hf hs ak hk i5 N (cP (aI d)) (de (aI d)) l (.ref i) m p n e h).s (fT (aI d)) o/\o {a:=λ_ r=>f .c r,b:=f} (l6 t g) e) (r:∀g e f h,q g e f h->g.length=(dR (aI d)).length:=by walk_at"l")
  (u:gq N (dR (aI d)) (de (aI d)):=by exact⟨rfl,rfl,rfl,by decide+kernel,rfl,by decide+kernel,by decide+kernel⟩)
  (w:ir (cP (aI d)) (cP (aI d)) (aI d) (dR (aI d)):=by walk_at"b") (y:N.length=(dR (aI d)).length+t:=by rfl):b' (k+1) d q:=by
 obtain⟨l,t,i,z,j,d,q⟩:=j;refine⟨l,t,z,j.b,j.a w,?_⟩;obtain⟨E,F,D,C,H,A,t,B,G,rfl,z,w⟩:=j.c;have d:t=.ref i:=d;subst d;refine tS z w u r λm p n e g f h t d=>?_;obtain⟨o,j,u⟩:=x l i m p n e g f h q t d;rw[qk (r _ _ _ _ d) y];exact⟨o,j.a,u⟩
inductive QO(vs:V ah)(H:af)(Q:bj)(E:cf):Prop
 |a (d:Y) (ms:V Nat) (c:Nat->Nat) (TB:aE) (R:V aE):vs=[.b d]->am H (TB::[(d,.b (cQ ms c))]::R)->eB eT fD fl TB->ms≠[]->(∀m H' TB',m∈ms->(∀x∈ms,c m<c x\/(c m=c x/\m<=x))->eB eT fD fl TB'->am H' (TB'::[(d,.b (cQ ms c))]::R)->aM H H'->Q (.a (m:Nat)) H')->QO vs H Q E
section
def Pq[g:aJ]:b' 3 107 QO:=by
 refine vg.a (N:=["shares"]) g.za 0 (λzd c X ze T A zf zb za z u F=>?_);obtain⟨i,f,h,C,B,rfl,r,G,L,k⟩:=F;refine⟨_,c1 (PL (x:="member") (y:="shares") (j:=0) (qual:=fl) (cy:=T.heap.objs.size+1) (c3 (pa (Ba I) (by rfl) g.y rA (c2 0))) g.F I u I z g.zc (λ_ _ _ _=>js (c6 (g5 (cN (u.h.f _)) (W 1) (W 0) (λ_ _=>I)) (W 0))) I I (λ_ _ _ _=>I) (by decide+kernel) (λw e=>?_)),?_⟩;have e:(match w==dg "member" with
  |true=>O Ut
  |false=>match w==dg "shares" with|true=>O mU|false=>aa)=O mU:=e
 split at e;cases e;split at e;rename_i m;exact gI m;cases e;have J:A i=O (.b (cQ f h)):=r.e 1 I;refine⟨_,_,I,J,λR t=>⟨R,f.map λd:Nat=>(d:Int),C,[(i,.b (cQ f h))]::B,λl=>((h l.toNat:Nat),l),.b i,I,?_,?_,G,I,λl p q n=>?_,λl q D p K H n U=>?_⟩⟩;rw[an];exact Jz.mpr L;have E:(cQ f h).map (λQ=>dC Q.1)=(f.map λd:Nat=>(d:Int)).map ah.a:=by
  unfold cQ;rw[bz,bz]
  rfl
 rw[E];exact(r.f t _).a 1 I;obtain⟨d,o,rfl⟩:=bm.mp p;have s:=fg.a (k:=bb (d:Int)) (n.e (a:=i) 0 I);rw[nq,ay o]at s;exact⟨_,_,I,s,by show 2<=aH;decide,λS M=>⟨S,I,M,I⟩⟩;obtain⟨d,o,rfl⟩:=bm.mp p;refine k d q D o (λx P=>?_) H n (aM.a (λzc xs m=>by rw[aL (cX m t)];exact m) U);have:=K (x:Int) (bm.mpr ⟨x,P,I⟩);rw[sB]at this;simp only[eX]at this;omega
end
def _root_.L3.am.P{o o':cw}(U:am T ([(H,o)]::R))(k:∀S X,S≠H->T S=O X->Q S=O X)(za:Q H=O o'):am Q ([(H,o')]::R):=by have S:(H::R.flatten.map (·.1)).Nodup:=U.u;have T:=(g_.mp S).1;refine⟨λc Q=>?_,S⟩;have Q:c∈(H,o')::R.flatten:=Q;rcases bW.mp Q with rfl|Q;exact za;exact k _ _ (λH=>T (by rw[<-H];exact bm.mpr ⟨c,Q,I⟩)) (U.r.s c Q)
def _root_.L3.am.M{a:Y}{o:cw}(S:am R Q)(T:am H Q)(X:R a=aa)(U:H a=O o):am H ([(a,o)]::Q):=by refine⟨λc H=>?_,?_⟩;have H:c∈(a,o)::Q.flatten:=H;rcases bW.mp H with rfl|H;exact U;exact T.s c H;show(a::Q.flatten.map (·.1)).Nodup;refine g_.mpr ⟨λR=>?_,S.u⟩;obtain⟨c,H,Q⟩:=bm.mp R;have:=S.s c H;rw[Q,X]at this;cases this
theorem BU(d b):∀(c a:V (ar Nat)),go d b [] a c=a++c.map λ_=>aa
 |[],a=>by unfold go;simp
 |c::e,a=>by
  unfold go;rw[BU d b e];cases c with|none=>simp|some a=>simp
def A_(a:V (ar Nat)):jh [] a=a.map λ_=>aa:=by
 unfold jh;show qn [] a.length (go _ _ [] [] a)=_;rw[BU,lB];cases b:a.length with
 |zero=>rfl
 |succ a=>
  unfold qn lf;split
  rfl
  rfl
def Mu(a e)(d b):dd (a++O d::e) b=dd (a++aa::e) b+if b=d then 1 else 0:=by unfold dd;rw[ie,ie,ig,ig];by_cases c:b=d;subst c;simp;omega;have:¬(d=b):=λb=>c b.symm;simp[c,this]
def QD(b:V Nat)(c:Nat)(e:c∉b):cH (cQ b λ_=>0) (bb (c:Int)) (.a 0)=cQ (b++[c]) λ_=>0:=by
 have d:bx (cQ b λ_=>0) (bb (c:Int))=aa:=by rw[nq,aw e]
 rw[pf _ d];unfold cQ;rw[a6]
 rfl
inductive QI(vs:V ah)(H:af)(Q:bj)(E:cf):Prop
 |a (oa ma:Y) (os:V (ar Nat)) (ms:V Nat) (TB:aE) (R:V aE):vs=[.b oa,.b ma]->am H (TB::[(oa,.a (os.map dG))]::[(ma,.a (a4 ms))]::R)->eB eT fD fl TB->ms.Pairwise (·<·)->ms.length<=1000->os.length<=1000->(∀l H' TB',eB eT fD fl TB'->aM H H'->am H' ([(l,.a ((jh ms os).map dG))]::TB'::[(oa,.a (os.map dG))]::[(ma,.a (a4 ms))]::R)->Q (.b l) H')->QI vs H Q E
section
def Pa[z8:aJ]:b' 4 108 QI:=by
 refine vI ["owners","members","shares","member","staying","handed","owner","taker"] 6 λt Ze zd zY q=>?_;obtain⟨r,x,h,d,C,K,rfl,zN,zq,zy,zR,zU,k⟩:=q;refine⟨_,aj (bD (c4 (wa ak zd.a) (W 1) (bC ai)) (c1 (dX I zY (bZ (W 0)) (own:=[("owner",6)]) (dn I) (λ_ _ _ _ _=>bE 6) (λ_ _ _ _ _=>f_) (λ_ _ _ _ _=>kF))) bQ) (aj (aA 2 jr) (aj (dY e_ I (bZ (W 1)) (bE 3) (au (jt (cN zd) (W 2) (W 3) a5 I))) (aj (aA 4 (aP Py (c7 0 2))) (aj (aA 5 (bC ai)) (aj (dY e_ I (bZ (W 4)) (bE 6) (au (bD (eI (mz (W 6))) (aj (aA 7 (aP Pq (c2 2))) (aj (ya (cN zd) (W 2) (W 7) a5 mq (λ_ _ _=>I)) (au (a9 (eY e9 gL ha gG (W 5) (c2 7)))))) (au (a9 (eY e9 gL ha gG (W 5) (c2 6))))))) (c1 (W 5))))))),co _,λQ zu=>?_⟩;have zz:aW t (al t Q (.a [])):=aW.a zu;have M:=zN.o zz;have zD:aM t (al t Q (.a [])):=zz.c;refine⟨_,_,_,I,I,dU.b (M.e (a:=x) 2 I),dU.b az,?_⟩;clear zu;generalize al t Q (.a [])=zj at*;cases d with
 |nil=>
  refine⟨_,I,⟨_,dU.b (M.e (a:=r) 1 I)⟩,λzF zp=>?_⟩;refine eR h dG (λ_=>.c) (λ_=>ab) zp (M.e (a:=r) 1 I) (by rw[bn];omega) ?_ (λn ze F=>?_);intro o Zc n ze z9 Za Zd zV;exact⟨I,zV I n aW.d⟩;refine k zF n C zq (zD.a ze.c) ?_;rw[A_,bz];have zJ:(h.filter λ_=>ab).map (λ_=>ah.c)=h.map (dG∘λ_=>aa):=by
   rw[List.filter_eq_self.mpr (λ_ _=>I)]
   rfl
  rw[zJ]at F;exact M.q ze zp F
 |cons zA zB=>
  refineλl T=>?_;have zc:zA::zB≠[]:=by simp
  generalize zA::zB=d at*;have zo:=M.f T (.b []);have zZ:aM t (al zj l (.b [])):=zD.a (aW.a T).c;clear T;generalize al zj l (.b [])=z5 at*;refine⟨_,I,⟨_,dU.b (zo.e (a:=x) 3 I)⟩,ev (xs:=a4 d) (λf y n=>(∃o,y=[O (.b r),O (.b x),O (.b l),o,aa,aa,aa,aa])/\aM t n/\am n ([(l,.b (cQ (d.take f) λ_=>0))]::C::[(r,.a (h.map dG))]::[(x,.a (a4 d))]::K)) ⟨⟨_,I⟩,zZ,zo⟩ ?_ ?_ ?_⟩;rintro f y n _ ⟨_,_,m⟩;exact dU.b (m.e 3 I);rintro f z4 y n F ⟨⟨o,rfl⟩,H,m⟩;obtain⟨A,G,rfl⟩:=d2 F;have za:=(bu.mp G).1;have zt:n l=O (.b (cQ (d.take f) λ_=>0)):=m.e 0 I;have zS:A∉d.take f:=λw=>by obtain⟨zW,zP,zm⟩:=Jv w;rw[e7]at zP;rw[List.getElem_take]at zm;have:=JF.mp zy zW f (by omega) za (by omega);rw[zm,(bu.mp G).2]at this;omega
  refine⟨_,_,I,qO.a (k:=bb (A:Int)) zt (by unfold cQ;rw[an,e7,bn];omega),?_⟩;rw[QD _ _ zS];have zK:d.take f++[A]=d.take (f+1):=by rw[List.take_add_one,G];rfl
  rw[zK];exact⟨⟨_,I⟩,H.b zt (λxs p=>nomatch p),m.z _⟩;rintro y z6 ⟨⟨o,rfl⟩,zE,u⟩;have zL:d.take (a4 d).length=d:=by rw[an,dN]
  rw[zL]at u;have zT:r≠l:=λp=>by have L:=u.e (a:=r) (o:=.a (h.map dG)) 2 I;rw[p,u.e (a:=l) 0 I]at L;cases L
  refine⟨r,l,h,d,I,zT,u.e 2 I,u.e 0 I,zc,zR,zU,λB J zi U zx zX zw=>?_⟩;have zk:=u.P zi U;have z0:aM t J:=λm xs zC=>zi m _ (λp=>by have L:=zE m xs zC;rw[p,u.e (a:=l) 0 I]at L;cases L) (zE m xs zC)
  have D:am J ([(B,.a ((go (h.length/d.length) (h.length%d.length) d [] h).map dG))]::C::[(r,.a (h.map dG))]::[(x,.a (a4 d))]::K):=u.r.M zk.r zx zw;have E:am J ([(l,.b (cQ d (dd (go (h.length/d.length) (h.length%d.length) d [] h))))]::[(B,.a ((go (h.length/d.length) (h.length%d.length) d [] h).map dG))]::C::[(r,.a (h.map dG))]::[(x,.a (a4 d))]::K):=by refine⟨λc S=>?_,?_⟩;rcases bW.mp (show c∈(l,_)::_ from S)with rfl|S;exact U;exact D.s c S;refine g_.mpr ⟨λi=>?_,D.u⟩;rcases bW.mp (show l∈B::_ from i)with p|i;exact zX p.symm;exact(g_.mp zk.u).1 i
  have Zb:(go (h.length/d.length) (h.length%d.length) d [] h).length=h.length:=by rw[vJ];simp
  have zr:=A9 zc h;rw[zr]at k;clear zr zi zx U zw;generalize go (h.length/d.length) (h.length%d.length) d [] h=j at*;refine⟨co _,λq s=>?_⟩;have N:=E.f s (.a []);have z3:aM t (al J q (.a [])):=z0.a (aW.a s).c;clear s;generalize al J q (.a [])=zG at*;have zl:am zG (C::[(l,.b (cQ d (dd j)))]::[(q,.a [])]::[(B,.a (j.map dG))]::[(r,.a (h.map dG))]::[(x,.a (a4 d))]::K):=(N.a 3 I).k (by simp only[fj,List.eraseIdx,gJ,lB];exact ia _ (Jc _ _ _))
  clear E N;refine⟨_,I,⟨_,dU.b (zl.e (a:=B) 3 I)⟩,ev (xs:=j.map dG) (λf y n=>(∃zf zg zh,y=[O (.b r),O (.b x),O (.b l),zf,O (.b B),O (.b q),zg,zh])/\aM t n/\∃(e:V (ar Nat))(z:aE),e.length=f/\eB eT fD fl z/\i8 d [] j=i8 d e (j.drop f)/\am n (z::[(l,.b (cQ d (dd (e++j.drop f))))]::[(q,.a (e.map dG))]::[(B,.a (j.map dG))]::[(r,.a (h.map dG))]::[(x,.a (a4 d))]::K)) ⟨⟨_,_,_,I⟩,z3,[],C,I,zq,I,zl⟩ ?_ ?_ ?_⟩;rintro f y n _ ⟨_,_,e,z,_,_,_,m⟩;exact dU.b (m.e 3 I);rintro f z4 y n F ⟨⟨zf,zg,zh,rfl⟩,H,e,z,X,P,w,m⟩;obtain⟨A,G,rfl⟩:=d2 F;have za:=(bu.mp G).1;have zI:j.drop f=A::j.drop (f+1):=by rw[ic za,(bu.mp G).2]
  rw[zI]at w m;cases A with
  |some i=>
   refine ?_;have s:=m.e (a:=q) (o:=.a (e.map dG)) 2 I;refine⟨.inl ⟨I,_,dU.b s⟩,_,_,_,I,I,s,(by rw[an,bn];omega),?_⟩;have u:=m.p (a:=q) 2 I (.a ((e++[O i]).map dG));have R:e.map dG++[dG (O i)]=(e++[O i]).map dG:=by rw[a6];rfl
   rw[R];refine⟨⟨_,_,_,I⟩,H.b s (λxs p=>nomatch p),e++[O i],z,(by rw[bH,X];rfl),P,w,?_⟩;rw[b8];exact u
  |none=>
   refine⟨l,d,_,z,_,I,m,P,zc,λi z7 zH zb zQ zO D z1=>?_⟩;have zM:=MZ (e++aa::j.drop (f+1)) zy zb zQ;have zv:=fg.a (k:=bb (i:Int)) (D.e (a:=l) 1 I);rw[nq,ay zb]at zv;have zs:=D.e (a:=l) (o:=.b (cQ d (dd (e++aa::j.drop (f+1))))) 1 I;refine⟨l,_,I,zv,_,_,I,I,_,qO.a (k:=bb (i:Int)) zs (by unfold cQ;rw[an,bn];omega),?_⟩;have zn:cH (cQ d (dd (e++aa::j.drop (f+1)))) (bb (i:Int)) (.a ((dd (e++aa::j.drop (f+1)) i:Nat)+1:Int))=cQ d (dd (e++O i::j.drop (f+1))):=by
    have:=C_ (c:=dd (e++aa::j.drop (f+1))) zb (dd (e++aa::j.drop (f+1)) i+1);refine wJ ?_ (this.trans (wm λA _=>?_))
    rfl
    rw[Mu];by_cases c:A=i;subst c;simp;simp[c]
   have E:=D.p (a:=l) 1 I (.b (cQ d (dd (e++O i::j.drop (f+1)))));rw[<-zn]at E;have z2:=(H.a z1).b (o':=.b (cH (cQ d (dd (e++aa::j.drop (f+1)))) (bb (i:Int)) (.a ((dd (e++aa::j.drop (f+1)) i:Nat)+1:Int)))) zs (λxs p=>nomatch p);have s:=E.e (a:=q) (o:=.a (e.map dG)) 2 I;refine⟨.inl ⟨I,_,dU.b s⟩,_,_,_,I,I,s,(by rw[an,bn];omega),?_⟩;have N:=E.p (a:=q) 2 I (.a ((e++[O i]).map dG));have R:e.map dG++[ah.a (i:Nat)]=(e++[O i]).map dG:=by rw[a6];rfl
   refine⟨⟨_,_,_,I⟩,z2.b s (λxs p=>nomatch p),e++[O i],zH,(by rw[bH,X];rfl),zO,?_,?_⟩;rw[w];show i8 d (e++[lf (e++aa::j.drop (f+1)) d]) (j.drop (f+1))=_;rw[zM];rw[b8,R];refine N.k ?_;rw[zn];exact .refl _
  rintro y n ⟨⟨zf,zg,zh,rfl⟩,H,e,z,X,P,w,m⟩;rw[an,jv]at w;have w:i8 d [] j=e:=w;rw[w]at k;exact k q n z P H (((m.a 2 I).g 2 I).g 2 I)
end
def CL(a:V (ar Nat)):a.map dj=a.map dG:=ga λa _=>by cases a<;>rfl
theorem vF(b):∀(c a:V (ar Nat)),(i8 b a c).length=a.length+c.length
 |[],a=>I
 |some d::c,a=>by show(i8 b (a++[O d]) c).length=_;rw[vF b c];simp;omega
 |none::c,a=>by show(i8 b (a++[lf (a++aa::c) b]) c).length=_;rw[vF b c];simp;omega
def oz(b)(a:V (ar Nat)):(jh b a).length=a.length:=by by_cases a:b=[];subst a;rw[A_,an];rw[A9 a,vF,vJ];simp
def BN(b:Int)(c):iK (.a b) (a4 c)=aq (0<=b/\b.toNat∈c):=by
 unfold iK;rw[yL,hw,ib,decide_eq_true_eq];constructor;rintro⟨e,d,c⟩;have c:(e:Int)=b:=by simpa[gv]using c
 subst c;exact⟨qL _,by simpa using d⟩;rintro⟨c,d⟩;refine⟨b.toNat,d,?_⟩;show((b.toNat:Int)==b)=ab;rw[jn c];simp
def BA(a):(a4 a).all h6=ab:=by
 rw[hE];intro b a;obtain⟨b,_,rfl⟩:=bm.mp a
 rfl
abbrev a_.s(t:a_)(w x y:Y)(u:V Nat):a_:={t with p:=w,f:=u,g:=t.g+1,r:=x,h:=jh u t.h,n:=y,d:=t.a}
section
inductive QH(vs:V ah)(H:af)(Q:bj)(E:cf):Prop
 |a (g:a_) (ma:Y) (ms:V Nat) (TB:aE) (R:V aE):vs=[.b g.e,.b ma]->am H (g.j::[(ma,.a (a4 ms))]::TB::R)->eB eT fD fl TB->ms.Pairwise (·<·)->ms.length<=1000->g.h.length<=1000->(∀oa ra H' TB',eB eT fD fl TB'->aM H H'->am H' (a_.j (g.s ma oa ra ms)::TB'::R)->Q .c H')->QH vs H Q E
inductive QP(vs:V ah)(H:af)(Q:bj)(E:cf):Prop
 |a (g:a_) (m:Nat) (TB:aE) (R:V aE):vs=[.b g.e,.a (m:Nat)]->am H (g.j::TB::R)->eB eT fD fl TB->g.f.Pairwise (·<·)->g.f.length<=60->g.h.length<=1000->(m∉g.f->∀ma oa ra H' TB',eB eT fD fl TB'->aM H H'->am H' (a_.j (g.s ma oa ra (gA m g.f))::TB'::R)->Q .c H')->(m∈g.f->∀H',aW H H'->dO ak cE E H' (-3))->QP vs H Q E
inductive QL(vs:V ah)(H:af)(Q:bj)(E:cf):Prop
 |a (g:a_) (m:Int) (TB:aE) (R:V aE):vs=[.b g.e,.a m]->am H (g.j::TB::R)->eB eT fD fl TB->g.f.Pairwise (·<·)->g.f.length<=60->g.h.length<=1000->(0<=m/\m.toNat∈g.f->∀ma oa ra H' TB',eB eT fD fl TB'->aM H H'->am H' (a_.j (g.s ma oa ra (g.f.filter λz=>z !=m.toNat))::TB'::R)->Q .c H')->(¬(0<=m/\m.toNat∈g.f)->∀H',aW H H'->dO ak cE E H' (-9))->QL vs H Q E
end
section
def Cj[k:aJ]:dz 5 109 3 QH:=by
 refine dF 0 [] λj l e i h=>?_;obtain⟨e,l,m,q,s,rfl,i,w,B,z,A,D⟩:=h;refine⟨_,aj (b7 (W 0) (W 1) I) (aj (pd (W 0) a5 mq) (aj (a9 (a' Cn (W 0))) (au (b7 (W 0) (aP Pa (c6 (c0 0) (W 1))) I)))),?_⟩;have h:=i.i (L:=e.m);have r:=a_.o (i.d 0 I);refine⟨r.a,k.h.d,(bJ I),?_⟩;let i:a_:={e with p:=l,f:=m}
 have t:=((((h.j 0 I (fZ i)).g 1 I).a 4 I).a 1 I);have o:al j e.e (.c ei e.l (fZ i)) e.e=O (.c ei e.l (fZ i)):=az;have u:aM j (al j e.e (.c ei e.l (fZ i))):=aM.c.b r.a bY;refine⟨o,k.h.c,I,_,_,I,I,_,_,o,(bJ I),?_⟩;let h:a_:={i with g:=e.g+1}
 have r:=t.j 0 I (fZ h);have t:al (al j e.e (.c ei e.l (fZ i))) e.e (.c ei e.l (fZ h)) e.e=O (.c ei e.l (fZ h)):=az;have E:=u.b (o':=.c ei e.l (fZ h)) o bY;refine⟨t,I,h,_,I,am.h (L:=h.m) r,λj o F t=>?_⟩;let i:a_:={h with n:=j,d:=e.a}
 have h:=t.i (L:=i.m);have C:o e.e=O (.c ei e.l (fZ i)):=h.b 0 I;have r:e.h.map dj=e.h.map dG:=CL _;have u:am o (q::[(e.r,.a (e.h.map dG))]::[(l,.a (a4 m))]::a0 e.e ei e.l (fZ i)::[(e.q,.a (a4 e.a))]::[(j,.a (a4 e.a))]::s):=by rw[<-r];exact((h.a 1 I).a 2 I).a 5 I
 refine⟨C,k.h.e,I,e.r,l,e.h,m,q,_,I,u,w,B,z,A,λr s t y G h=>?_⟩;have o:s e.e=O (.c ei e.l (fZ i)):=h.b 4 I;refine⟨o,k.h.e,(bJ I),?_⟩;let i:a_:=e.s l r j m
 have k:=(h.j 4 I (fZ i)).g 2 I;have e:=(((k.a 1 I).x 5).a 1 I).a 2 I;rw[<-CL]at e;exact D r j _ t y (((E.a F).a G).b o bY) (am.h (L:=i.m) e)
end
def Bc(a:V Nat):a4 a=(a.map λb:Nat=>(b:Int)).map ah.a:=by rw[bz];rfl
def QF{b:V Nat}(i:b.Pairwise (·<·))(f:c∉b){d:V Int}(h:d.Perm ((b++[c]).map λa:Nat=>(a:Int)))(g:d.Pairwise (·<=·)):d=(gA c b).map λa:Nat=>(a:Int):=by
 have d:((gA c b).map λa:Nat=>(a:Int)).Perm ((b++[c]).map λa:Nat=>(a:Int)):=((sh f).trans (List.perm_append_singleton c b).symm).map _;have e:((gA c b).map λa:Nat=>(a:Int)).Pairwise (·<=·):=by rw[uu];exact(si i f).imp λa=>by omega
 exact(h.trans d.symm).eq_of_pairwise (λa b _ _ d e=>Int.le_antisymm d e) g e
theorem BP(b):∀a:V Nat,(gA b a).length<=a.length+1
 |[]=>by simp[gA]
 |c::a=>by unfold gA;split;simp;split;simp;have:=BP b a;simp only[cz];omega
section
def Oh[g:aJ]:hK 6 109 1 QP:=by
 refine ix 0 [] λj e b c d=>?_;obtain⟨b,c,m,l,rfl,h,p,i,e,r,t,k⟩:=d;refine⟨_,aj (bD (bV (wb ak) (W 1) (c0 0) (by with_unfolding_all rfl)) (au (f0 g.C)) bQ) (au (a9 (bT Cj (W 0) (c3 (bM GF (by rfl) g.zu J4 (c3 (ey h7 (c0 0) (bC (c2 1))))))))),?_⟩;have e:=a_.o (h.d 0 I);refine⟨e.a,g.h.d,I,_,_,I,.inl (dU.b e.d),I,BA _,?_⟩;have d:(if ae=ab then !iK (.a (c:Nat)) (a4 b.f)else iK (.a (c:Nat)) (a4 b.f))=aq (c∈b.f):=by rw[aw ed,BN];simp
 rw[d];refine bG (λd=>k (cj d) j aW.d) (λd=>?_);have d:c∉b.f:=dH d;refine⟨e.a,I,e.a,g.h.d,I,c9,λk j=>?_⟩;have g:=aW.a (o:=.a [.a (c:Nat)]) j;refine⟨_,_,_,_,I,I,g _ _ e.d,az,?_,λj k=>?_⟩;show(a4 b.f).length+1<=aH;rw[an,bn];omega;have j:=g.b (aW.a (o:=.a (a4 b.f++[.a (c:Nat)])) k);have n:a4 b.f++[ah.a (c:Nat)]=(((b.f++[c]).map λe:Nat=>(e:Int))).map ah.a:=by rw[<-Bc];show _=(b.f++[c]).map _;rw[a6];rfl
 refine⟨_,(b.f++[c]).map λe:Nat=>(e:Int),I,dU.b (az.trans (by rw[n])),?_,λu k s q g=>?_⟩;rw[an,bH];simp;omega;have e:=QF i d s q;subst e;rw[<-Bc];have q:=j.b (aW.a (o:=.a (a4 (gA c b.f))) g);have n:=((h.o j).f g (.a (a4 (gA c b.f)))).a 1 I;refine⟨b,k,gA c b.f,m,l,I,n,p,si i d,?_,r,λs u e g j w h=>t d k s u e g j (q.c.a w) h⟩;have:=BP c b.f;omega
def Of[g:aJ]:hK 6 109 2 QL:=by
 refine ix 1 ["other"] λi c b e d=>?_;obtain⟨c,b,n,m,rfl,j,o,s,f,r,u,k⟩:=d;refine⟨_,aj (bD (bV (PH ak) (W 1) (c0 0) (by with_unfolding_all rfl)) (au (f0 g.zh)) bQ) (au (a9 (bT Cj (W 0) (c3 (aS.a (dX I e (bZ (c0 0)) (own:=[("other",2)]) (dn I) (λ_ _ _ _ _=>bE 2) (λ_ _ _ _ _=>fU (c4 j6 (W 2) (W 1))) (λ_ _ _ _ _=>(W 2)))))))),?_⟩;have e:=a_.o (j.d 0 I);refine⟨e.a,g.h.d,I,_,_,I,.inl (dU.b e.d),I,BA _,?_⟩;have f:(if ab=ab then !iK (.a b) (a4 c.f)else iK (.a b) (a4 c.f))=!aq (0<=b/\b.toNat∈c.f):=by rw[ay I,BN]
 rw[f];refine bG (λf=>k (λh=>by rw[dm h]at f;cases f) i aW.d) (λf=>?_);have f:0<=b/\b.toNat∈c.f:=by simpa using f
 refine⟨e.a,I,e.a,g.h.d,I,_,I,⟨_,dU.b e.d⟩,λi k=>?_⟩;refine eR c.f (λg:Nat=>ah.a (g:Nat)) (λg:Nat=>ah.a (g:Nat)) (λh=>h !=b.toNat) k e.d (by rw[bn];omega) ?_ (λe l t=>?_);intro g y e z w x p q;refine⟨I,I,bG (λd=>q ?_ _ aW.d) (λd=>p ?_ _ aW.d)⟩;have d:¬((g:Int)=b):=by simpa using d
 simp;omega;have d:(g:Int)=b:=by simpa using d
 simp;omega;have g:=(j.q l k t).a 1 I;exact⟨c,i,c.f.filter λh=>h !=b.toNat,n,m,I,g,o,s.sublist jw,cu (fv _ _) (by omega),r,λk p e c j q d=>u f i k p e c j (l.c.a q) d⟩
end
def bI.T{s:a2}(H:bI x s g S)(k)(t):sR g k t=match dE s.c k with
  |none=>dS g (-4)
  |some g=>t g.c:=by
 unfold sR;rw[se H.e];cases dE s.c k with|none=>rfl|some g=>rfl
theorem A8(c):∀(d:V Nat) a,d.Pairwise (·<·)->(∀b∈d,a<=b/\b<c)->a<=c->d.length+a<=c
 |[],a,_,_,d=>by simpa using d
 |b::i,a,h,e,d=>by obtain⟨f,g⟩:=lC.mp h;have a:=e b cr;have:=A8 c i (b+1) g (λd a=>⟨f d a,(e d (cJ _ a)).2⟩) (by omega);simp only[cz];omega
def i3.h{g:m6}(i:i3 j g):g.c.length<=6:=by have:=A8 6 g.c 0 i.c (λk j=>⟨co _,i.e k j⟩) (by omega);omega
def bI.U{t:a2}(x:bI g t s S){k:a_}(H:k∈t.c):k.h.length<=4:=by
 have g:=(x.d k H).b;unfold b2 at g;rw[bz,bw]at g;cases s:t.b[k.i.e]? with
 |none=>rw[s]at g;cases g
 |some t=>rw[s]at g;have H:(t.a.map aN.a).length=k.h.length:=bA g;rw[an]at H;have:=(x.u s).2;omega
section
inductive vc(c:kt)(ws:V Int)(vs:V ah)(H:af)(Q:bj)(E:cf):Prop
 |a (s:a2) (S:bt) (k:Nat) (r:eh) (R:V aE) (TB:aE) (R0:V aE):vs=[.b s.e,.b r.d]->am H (r.b::s.d::R)->R=TB::R0->eB eT fD fl TB->bI H s S k->k+1<=900->gd r ws->r.e.length<=16000->(ci (bi S c)).length<=10000000->(∀l s' H' TB',s'.e=s.e->bI H' s' (bi S c).1 (k+1)->eB eT fD fl TB'->am H' ([(l,.a (bg (ci (bi S c))))]::eh.b (r.a ws.length)::s'.d::TB'::R0)->Q (.b l) H')->(∀n H',bi S c=dS S n->aM H H'->am H' (eh.b (r.a ws.length)::s.d::R)->dO ak cE E H' n)->vc c ws vs H Q E
def QJ:aB:=λf d e c=>∃a b,vc (.join a b) [a,b] f d e c
def QK:aB:=λf d e c=>∃a b,vc (.leave a b) [a,b] f d e c
end
section
def OK[z:aJ]:cL 7 131 QJ:=by
 refine cT 3 [] λJ zH zB zF za=>?_;obtain⟨o,f,k,i,zE,r,L,M,zx,rfl,P,U,zd,n,zg,zm,zz,zD,E,y⟩:=za;refine⟨_,aj (aA 2 (a' bO (W 1))) (aj (aA 3 (a' bO (W 1))) (aj (aA 4 (bT ni (W 0) (c2 2))) (aj (a9 (aP hS (n0 (W 3) a5 (di z.zM)))) (aj (a9 (bT Oh (W 4) (c2 3))) (c1 (bC (c3 (c0 4)))))))),ct P zm λzv zs Q zn=>?_⟩;refine ct (r:=r.a 1) Q zn λq zt R zG=>?_;have p:aM J q:=(zs.a zt);change ft _ _ _ [O (.b k.e),O (.b r.d),O (.a o),O (.a f),aa] q;have j:am q (eh.b (r.a 2)::k.d::L):=R;have u:=a2.f (j.d 1 I);have d:bi i (.join o f)=sR i o (λh=>if cW f 0 5=ae then dS i (-1)else if h.members.contains f.toNat=ab then dS i (-3)
  else(hv i (wD h (gA f.toNat h.members)),{value:=((wD h (gA f.toNat h.members)).gen:Int)})):=I
 rw[n.T]at d;refine⟨u.a,I,k,o,I,u,λe D=>?_,λzh=>y (-4) _ (by rw[d,zh]) p j⟩;rw[D]at d;refine⟨f,0,5,I,λC=>?_,λC=>y (-1) _ (by rw[d];refine ay ?_;unfold cW;simp only[DK,decide_eq_false_iff_not];omega) p j⟩
 have d:=d.trans (aw (by unfold cW;simp only[DK,decide_eq_false_iff_not];omega))
 obtain⟨G,rfl⟩:=fQ C.1;rw[eX]at d;obtain⟨zC,zi,s⟩:=oG D;have x:=a1 s;have zb:=u.e e x;have g:=n.d e x;have X:=g.h;have zA:=n.U x;subst U;obtain⟨zy,zo,zp⟩:=a2.s s;have T:=(((j.a 1 I).l zo).a 3 I).a 1 I;refine⟨zb.a,I,e,G,M,_,I,T,zd,g.c,cu X (by omega),by omega,λt zk zl zq zw N ze zr A=>?_,λzf K F=>y (-3) K (d.trans (ay (mG.mpr zf))) (p.a F.c) (j.o F)⟩;have d:=d.trans (aw (λzu=>t (mG.mp zu)));let H:a_:=e.s zk zl zq (gA G e.f)
 have S:=((A.a 2 I).a 1 I).m (zp H I I);have zc:=a_.o (A.d 0 I);refine⟨zc.a,z.h.c,I,c9,λzj B=>?_⟩;rw[d]at E;refine E zj {k with c:=k.c.set zi H} _ N I (n.K zg ((p.a zr).a (aW.a B).c) s I I ⟨?_,?_,?_,si g.c t,?_⟩ I) ze ((S.f B (.a [.a ((e.g+1:Nat):Int)])).a 3 I|>.a 1 I);show _=O (jh _ e.h).length;rw[oz];exact g.b;show _=(jh _ e.h).length;rw[oz];exact g.a;show _=(jh _ e.h).length;rw[oz];exact g.a;intro h w;rcases bW.mp ((sh t).mem_iff.mp w)with rfl|w;omega;exact g.e h w
def OM[J:aJ]:cL 7 132 QK:=by
 refine cT 3 [] λF zH zB zF X=>?_;obtain⟨p,e,j,n,zE,r,H,K,zx,rfl,M,T,zd,k,zg,zn,zz,zD,B,C⟩:=X;refine⟨_,aj (aA 2 (a' bO (W 1))) (aj (aA 3 (a' bO (W 1))) (aj (aA 4 (bT ni (W 0) (c2 2))) (aj (a9 (bT Of (W 4) (c2 3))) (c1 (bC (c3 (c0 4))))))),ct M zn λzv zt N zo=>?_⟩;refine ct (r:=r.a 1) N zo λq zu P zG=>?_;have w:aM F q:=(zt.a zu);change ft _ _ _ [O (.b j.e),O (.b r.d),O (.a p),O (.a e),aa] q;have o:am q (eh.b (r.a 2)::j.d::H):=P;have t:=a2.f (o.d 1 I);have g:bi n (.leave p e)=sR n p (λi=>if e<0\/i.members.contains e.toNat=ae then dS n (-9)
  else(hv n (wD i (i.members.filter λd=>d !=e.toNat)),{value:=((wD i (i.members.filter λd=>d !=e.toNat)).gen:Int)})):=I
 rw[k.T]at g;refine⟨t.a,I,j,p,I,t,λf A=>?_,λzh=>C (-4) _ (by rw[g,zh]) w o⟩;rw[A]at g;obtain⟨zC,zj,s⟩:=oG A;have u:=a1 s;have zb:=t.e f u;have h:=k.d f u;have U:=h.h;have zA:=k.U u;subst T;obtain⟨zy,zp,zq⟩:=a2.s s;have R:=(((o.a 1 I).l zp).a 3 I).a 1 I;refine⟨zb.a,I,f,e,K,_,I,R,zd,h.c,cu U (by omega),by omega,λz zl zm zr zw L ze zs x=>?_,λzf G D=>C (-9) G (g.trans (ay ?_)) (w.a D.c) (o.o D)⟩;have g:=g.trans (aw (λd=>by rcases d with d|d;exact a7 z.1 (qM.mpr d);have d:f.f.contains e.toNat=ae:=d;rw[mG.mpr z.2]at d;cases d))
 let E:a_:=f.s zl zm zr (f.f.filter λd=>d !=e.toNat)
 have Q:=((x.a 2 I).a 1 I).m (zq E I I);have zc:=a_.o (x.d 0 I);refine⟨zc.a,J.h.c,I,c9,λzk y=>?_⟩;rw[g]at B;refine B zk {j with c:=j.c.set zj E} _ L I (k.K zg ((w.a zs).a (aW.a y).c) s I I ⟨?_,?_,?_,h.c.sublist jw,?_⟩ I) ze ((Q.f y (.a [.a ((f.g+1:Nat):Int)])).a 3 I|>.a 1 I);show _=O (jh _ f.h).length;rw[oz];exact h.b;show _=(jh _ f.h).length;rw[oz];exact h.a;show _=(jh _ f.h).length;rw[oz];exact h.a;exactλi zi=>h.e i (cY.mp zi).1;by_cases za:e<0;exact .inl za;refine .inr ?_;show f.f.contains e.toNat=ae;cases S:f.f.contains e.toNat with|false=>rfl|true=>exact a7 ⟨by omega,mG.mp S⟩ zf
end
theorem wu:∀(b:V (Int×Y)) a,kU (b.map λc=>((bb c.1:aU),b9 c.2)) (bb a)=(b.lookup a).map b9
 |[],a=>I
 |(k,c)::b,a=>by
  have c:=wu b a;unfold kU at c⊢;rw[b1,hF,ii];by_cases b:a=k;subst b;simp;have d:¬((bb k:aU)=bb a):=λe=>b (jQ e).symm;have e:(a==k)=ae:=by simp[b]
  rw[da d,e];exact c
theorem B6{g:ac->ar ag}{c:Int}{h:ac}:∀{e:V (Int×Y)}{f:V (Int×ac)},kd (λ(b:Int×Y)(a:Int×ac)=>b.1=a.1/\g a.2=O (.ref b.2)) e f->f.lookup c=O h->∃d,e.lookup c=O d/\g h=O (.ref d)
 |_,_,.nil,a=>by cases a
 |(k,b)::h,(e,j)::i,.cons ⟨d,f⟩ g,a=>by
  have d:k=e:=d;subst d;rw[ii]at a⊢;by_cases d:c=k;subst d;simp at a;subst a;exact⟨b,by simp,f⟩;have b:(c==k)=ae:=by simp[d]
  rw[b]at a⊢;exact B6 g a
theorem B5{f:ac->ar ag}{a:Int}:∀{d:V (Int×Y)}{e:V (Int×ac)},kd (λ(b:Int×Y)(c:Int×ac)=>b.1=c.1/\f c.2=O (.ref b.2)) d e->(d.lookup a).isSome=(e.lookup a).isSome
 |_,_,.nil=>I
 |(k,b)::g,(d,i)::h,.cons ⟨c,f⟩ e=>by
  have c:k=d:=c;subst c;rw[ii,ii];by_cases b:a=k;subst b;simp;have c:(a==k)=ae:=by simp[b]
  rw[c];exact B5 e
def S7(f:V (Int×ac))(g:aY):aY:=λi b e=>g i b λh c=>∃b,h=.a b/\e (.d (f.lookup b).isSome) c
def wf{a:aK}(h:m4 a.c a.d a.e a.g b c)(o:aS a e f)(n:fh a b:=by rfl)(l:(b==("__debug__":ac))=ae:=by decide):mi a .In e (.Name b g) (S7 c f):=by intro s w x e a g i;obtain⟨a,t,f,p,j,r,m,b,q⟩:=h;refine a3 (o s w x e _ g i) λy z ⟨A,f,a,u,b,h,t⟩=>kB a n p ?_ l;subst h;have e:=m _ (a.h _ _ r);refine Lr (j4 (k:=bb b) u) j e.mapOf ?_;rw[wu,lE,B5 q];exact⟨.d (c.lookup b).isSome,f,a.e _,I,t⟩
def S4(m:bd)(u:aO)(l:aR)(q:ac->ar ag)(o:be)(g:f8)(k:Nat)(p:V (Int×ac))(h:cf)(c:aY)(s:el):aY:=λf b n=>c f b λw i=>∃c e b r d,w=.a c/\p.lookup c=O e/\hL m u l q o g b e r d/\b<=k/\s f i λt j=>d t j n h
def sA{a:aK}{k:Nat}(o:m4 a.c a.d a.e a.g e j)(z:cK k a.b)(B:fS g a i)(u:aS a f n)(A:tH f)(p:fR a (d::b) m)
  (t:fh a e:=by rfl) (q:(e==("__debug__":ac))=ae:=by decide) (s:bX (d::b) a.a=(ae,bB d a.a)::bX b a.a:=by rfl) (y:(d5 c (bX b a.a)).any (·.1)=ae:=by rfl):
  aS a (.Call (.Subscript (.Name e l) f h) (d::b) [] c) (S4 a.c a.d a.e a.g a.h g k j i n m):=by
 intro i E j m r g n;obtain⟨D,J,H,w,F,C,r,G,x⟩:=o;show aC _ _ (do kh c (<-bB (.Subscript (.Name e l) f h) a.a) [] (d5 c (bX (d::b) a.a)) (gM c (gN [] a.a))) _ _ _;refine aD (yi Ko.lookup A (kB g t w (a3 (u i E j m _ g n) λd F ⟨f,l,b,D,e⟩=>?_) q));obtain⟨w,H,G,J,h,d,q,⟨n,E,t,u,m,f⟩,o,A⟩:=e;subst d;have d:=r _ (b.h _ _ C);refine⟨d.typeIs,?_⟩;obtain⟨r,h,e⟩:=B6 x q;rw[t]at e;cases e;refine Lp (j4 (k:=bb w) D) d.mapOf (show kU _ _=O (b9 n) by rw[wu,h];rfl) ?_;have d:=b.e (F.toks+1);refine rJ (h₀:=a.h) g.b.e.a u (a3 (p c i _ j l _ (b.e _) A) λr q ⟨t,n,d,h,e⟩=>⟨d.h,?_⟩) s y;exact pi f (z.b o) m .nil B d h (by rw[dM];exact e)
def FnOk.a(d:fH b c e j f fo i g h k l):fH b c e j f (eJ b c) i g h k l:=
 ⟨d.b,λc n p f h q r g e k j i m l=>og (d.a c n p f h q r g e k j i m l) λo s b=>by
  cases o with|error c=>exact eW b|ok c=>cases c<;>exact b⟩
def hL.b(l:hL c d e h f fo g k i j):hL c d e h f (eJ c d) g k i j:=by obtain⟨g,h,c,d,e,f⟩:=l;exact⟨g,h,c,d,e,FnOk.a f⟩
def hL.a(r:hL g p f k i c j q l m)(s:∀o e h d,n o e h d->m o e h d):hL g p f k i c j q l n:=by obtain⟨g,h,c,d,e,f⟩:=r;exact⟨g,h,c,d,e,f.c s⟩
inductive d6:Int->kt->V Int->Prop
 |c:d6 0 .clear []
 |b (v:V Int):d6 1 (.books v) ((v.length:Int)::v)
 |A:d6 2 .show_ []
 |t (b:Int) (ky:Int) (t:Int) (v:V Int):d6 3 (.put b ky t v) (b::ky::t::(v.length:Int)::v)
 |w (b:Int) (ky:Int) (t:Int):d6 4 (.remove b ky t) [b,ky,t]
 |j (b:Int):d6 5 (.flush b) [b]
 |e:d6 6 .cut []
 |y (i:Int):d6 7 (.sender i) [i]
 |x (i:Int) (e:Int) (n:Int) (b:Int) (ky:Int) (t:Int) (v:V Int):d6 8 (.send i e n b ky t v) (i::e::n::b::ky::t::(v.length:Int)::v)
 |a (i:Int) (e:Int):d6 9 (.begin_ i e) [i,e]
 |s (i:Int) (e:Int) (g:Int) (m:Int) (n:Int) (p:Int) (o:Int):d6 10 (.place i e g m n p o) [i,e,g,m,n,p,o]
 |f (i:Int) (e:Int) (j:Int):d6 11 (.done i e j) [i,e,j]
 |k (i:Int) (e:Int):d6 12 (.giveUp i e) [i,e]
 |l (g:Int) (b:Int):d6 13 (.group g b) [g,b]
 |n (g:Int) (m:Int):d6 14 (.join g m) [g,m]
 |p (g:Int) (m:Int):d6 15 (.leave g m) [g,m]
 |g (g:Int) (m:Int) (n:Int) (p:Int) (c:Int) (f:Int):d6 16 (.fetch g m n p c f) [g,m,n,p,c,f]
 |o (g:Int) (m:Int) (n:Int) (p:Int) (o:Int):d6 17 (.keep g m n p o) [g,m,n,p,o]
 |m (g:Int):d6 18 (.groupAt g) [g]
 |C (g:Int) (m:Int) (n:Int) (p:Int) (i:Int) (e:Int) (b:Int) (c:Int) (j:Int):d6 19 (.work g m n p i e b c j) [g,m,n,p,i,e,b,c,j]
 |B (b:Int):d6 20 (.tighten b) [b]
 |h (b:Int) (p:Int) (o:Int):d6 21 (.find b p o) [b,p,o]
 |i (b:Int) (p:Int) (t:Int):d6 22 (.findTime b p t) [b,p,t]
 |u (b:Int) (p:Int) (o:Int) (n:Int) (f:Int):d6 23 (.read b p o n f) [b,p,o,n,f]
 |q (b:Int):d6 24 (.map b) [b]
 |r (b:Int) (p:Int):d6 25 (.part b p) [b,p]
 |z (i:Int):d6 26 (.senderAt i) [i]
 |d:d6 27 .counts []
def LK(a:Int)(b:ac):Prop:=r5.lookup a=O b\/(r5.lookup a=aa/\(sE.lookup a=O b\/(sE.lookup a=aa/\(sf.lookup a=O b\/(sf.lookup a=aa/\we.lookup a=O b)))))
section
inductive ot(c:kt)(ws:V Int)(vs:V ah)(H:af)(Q:bj)(E:cf):Prop
 |d (s:a2) (S:bt) (k:Nat) (r:eh) (TB:aE) (R:V aE):vs=[.b s.e,.b r.d]->am H (r.b::s.d::TB::R)->eB eT fD fl TB->bI H s S k->k+2<=900->gd r ws->r.e.length<=16000->(ci (bi S c)).length<=10000000->(∀l s' H' TB',s'.e=s.e->bI H' s' (bi S c).1 (k+2)->eB eT fD fl TB'->am H' ([(l,.a (bg (ci (bi S c))))]::eh.b (r.a ws.length)::s'.d::TB'::R)->Q (.b l) H')->(∀n H',bi S c=dS S n->aM H H'->am H' (eh.b (r.a ws.length)::s.d::TB::R)->dO ak cE E H' n)->ot c ws vs H Q E
def ot.a(l:ot h j i f g e):eP h j i f g e:=by obtain⟨y,j,r,x,e,i,m,k,o,g,f,w,p,q,s,t⟩:=l;exact⟨y,j,r,x,e::i,m,k,g,by omega,w,p,q,λu z f n h l=>s u z f e n (h.M (by omega)) o l,t⟩
def ot.c(l:ot h j i f g e):AX h j i f g e:=by obtain⟨z,j,s,y,e,i,m,k,o,g,q,x,p,r,t,u⟩:=l;exact⟨z,j,s,y,e::i,m,k,g,q,x,p,r,λw A f n h l=>t w A f e n h o l,u⟩
def ot.b(k:ot h j i f g e):vc h j i f g e:=by obtain⟨A,j,t,z,f,e,n,l,p,h,g,y,r,s,u,w⟩:=k;exact⟨A,j,t,z,f::e,f,e,n,l,I,p,h,by omega,y,r,s,λx B g k o i q m=>u x B g k o (i.M (by omega)) q m,w⟩
end
def MD[H:aJ](D:d6 F P E):∃G Q,hL hf hs ak hk i5 (eJ hf hs) Q G ["store","reader"] (ot P E)/\Q<=11/\LK F G:=by
 cases D with|c=>exact⟨_,_,(hL.b Oz).a (λ_ _ _ _ D=>ot.a D),by decide,.inl I⟩|b K=>exact⟨_,_,hL.a Ox (λ_ _ _ _ D=>⟨K,ot.a D⟩),by decide,.inl I⟩|A=>exact⟨_,_,(hL.b OX).a (λ_ _ _ _ D=>ot.a D),by decide,.inl I⟩|t E G N K=>exact⟨_,_,hL.a OR (λ_ _ _ _ D=>⟨E,G,N,K,ot.a D⟩),by decide,.inl I⟩|w E G N=>exact⟨_,_,hL.a OT (λ_ _ _ _ D=>⟨E,G,N,ot.a D⟩),by decide,.inl I⟩|j E=>exact⟨_,_,hL.a OG (λ_ _ _ _ D=>⟨E,ot.a D⟩),by decide,.inl I⟩|e=>exact⟨_,_,hL.a OB (λ_ _ _ _ D=>ot.a D),by decide,.inl I⟩|y H=>exact⟨_,_,hL.a OV (λ_ _ _ _ D=>⟨H,ot.a D⟩),by decide,.inr ⟨I,.inl I⟩⟩|x H J L E G N K=>exact⟨_,_,hL.a OU (λ_ _ _ _ D=>⟨H,J,L,E,G,N,K,ot.a D⟩),by decide,.inr ⟨I,.inl I⟩⟩|a H J=>exact⟨_,_,hL.a Ow (λ_ _ _ _ D=>⟨H,J,ot.a D⟩),by decide,.inr ⟨I,.inl I⟩⟩|s H J G K L F M=>exact⟨_,_,hL.a OQ (λ_ _ _ _ D=>⟨H,J,G,K,L,F,M,ot.a D⟩),by decide,.inr ⟨I,.inl I⟩⟩|f H J Q=>exact⟨_,_,hL.a OC (λ_ _ _ _ D=>⟨H,J,Q,ot.a D⟩),by decide,.inr ⟨I,.inl I⟩⟩|k H J=>exact⟨_,_,hL.a OH (λ_ _ _ _ D=>⟨H,J,ot.a D⟩),by decide,.inr ⟨I,.inl I⟩⟩|l G E=>exact⟨_,_,hL.a OI (λ_ _ _ _ D=>⟨G,E,ot.a D⟩),by decide,.inr ⟨I,.inr ⟨I,.inl I⟩⟩⟩|n G K=>exact⟨_,_,hL.a OK (λ_ _ _ _ D=>⟨G,K,ot.b D⟩),by decide,.inr ⟨I,.inr ⟨I,.inl I⟩⟩⟩|p G K=>exact⟨_,_,hL.a OM (λ_ _ _ _ D=>⟨G,K,ot.b D⟩),by decide,.inr ⟨I,.inr ⟨I,.inl I⟩⟩⟩|g G K L F P R=>exact⟨_,_,hL.a OD (λ_ _ _ _ D=>⟨G,K,L,F,P,R,ot.a D⟩),by decide,.inr ⟨I,.inr ⟨I,.inl I⟩⟩⟩|o G K L F M=>exact⟨_,_,hL.a OL (λ_ _ _ _ D=>⟨G,K,L,F,M,ot.a D⟩),by decide,.inr ⟨I,.inr ⟨I,.inl I⟩⟩⟩|m G=>exact⟨_,_,hL.a OJ (λ_ _ _ _ D=>⟨G,ot.a D⟩),by decide,.inr ⟨I,.inr ⟨I,.inl I⟩⟩⟩|C G K L F H J E P Q=>exact⟨_,_,hL.a OZ (λ_ _ _ _ D=>⟨G,K,L,F,H,J,E,P,Q,ot.c D⟩),by decide,.inr ⟨I,.inr ⟨I,.inl I⟩⟩⟩|B E=>exact⟨_,_,hL.a OY (λ_ _ _ _ D=>⟨E,ot.a D⟩),by decide,.inl I⟩|h E F M=>exact⟨_,_,hL.a OE (λ_ _ _ _ D=>⟨E,F,M,ot.a D⟩),by decide,.inr ⟨I,.inr ⟨I,.inr ⟨I,I⟩⟩⟩⟩|i E F N=>exact⟨_,_,hL.a OF (λ_ _ _ _ D=>⟨E,F,N,ot.a D⟩),by decide,.inr ⟨I,.inr ⟨I,.inr ⟨I,I⟩⟩⟩⟩|u E F M L R=>exact⟨_,_,hL.a OS (λ_ _ _ _ D=>⟨E,F,M,L,R,ot.a D⟩),by decide,.inr ⟨I,.inr ⟨I,.inr ⟨I,I⟩⟩⟩⟩|q E=>exact⟨_,_,hL.a ON (λ_ _ _ _ D=>⟨E,ot.a D⟩),by decide,.inl I⟩|r E F=>exact⟨_,_,hL.a OP (λ_ _ _ _ D=>⟨E,F,ot.a D⟩),by decide,.inr ⟨I,.inr ⟨I,.inr ⟨I,I⟩⟩⟩⟩|z H=>exact⟨_,_,hL.a OW (λ_ _ _ _ D=>⟨H,ot.a D⟩),by decide,.inr ⟨I,.inl I⟩⟩|d=>exact⟨_,_,(hL.b OA).a (λ_ _ _ _ D=>ot.a D),by decide,.inl I⟩
section
def QG:aB:=λg e f d=>∃b a c,d6 b a c/\ot a (b::c) g e f d
def Nh(b:eh)(d e):(b.a d).a e=b.a (d+e):=by show({b with c:=b.c+d+e}:eh)={b with c:=b.c+(d+e)};rw[uv]
end
section
def Oy[e:aJ]:cL 12 165 QG:=by
 refine cT 1 [] λc f j d g=>?_;obtain⟨c,m,f,o,n,u,F,d,w,t,rfl,l,A,r,D,p,C,E,G,H⟩:=g;obtain⟨g,k,h,i,z⟩:=MD o;refine⟨_,aj (aA 2 (a' bO (W 1))) (aj (bD (eI (wf e.L (W 2))) (c1 (sA e.L j a8 (W 2) (λ_ _=>I) (c7 0 1))) bQ) (aj (bD (eI (wf e.N (W 2))) (c1 (sA e.N j a8 (W 2) (λ_ _=>I) (c7 0 1))) bQ) (aj (bD (eI (wf e.M (W 2))) (c1 (sA e.M j a8 (W 2) (λ_ _=>I) (c7 0 1))) bQ) (c1 (sA e.X j a8 (W 2) (λ_ _=>I) (c7 0 1)))))),gm l,I,d,_,_,I,l,p.a,λe q y=>?_⟩;change ft _ _ _ [O (.b n.e),O (.b d.d),O (.a c)] e;have o:(d.a 1).a f.length=d.a (c::f).length:=by rw[Nh];show d.a (1+f.length)=d.a (f.length+1);rw[y5]
 have j:ot m f [.b n.e,.b d.d] e (n3 kq (f1 (aI 165)++[]) (aI 165) 11 1 QG).a (n3 kq (f1 (aI 165)++[]) (aI 165) 11 1 QG).b:=by refine⟨n,u,F,d.a 1,w,t,I,y,A,r.B q,D,p.b,C,E,λe J l x m s B f=>?_,λd l m n f=>?_⟩;rw[o]at f;exact G e J l x m s B f;rw[o]at f;exact H d l m (q.a n) f
 have f:∀{e:V (Int×ac)},e.lookup c=aa->(e.lookup c).isSome=ae:=λd=>by rw[d];rfl
 have l:∀{e:V (Int×ac)},e.lookup c=O g->(e.lookup c).isSome=ab:=λd=>by rw[d];rfl
 rcases z with d|⟨e,d|⟨m,d|⟨n,d⟩⟩⟩;refine⟨c,I,?_⟩;rw[l d];exact⟨c,g,k,_,_,I,d,h,i,j⟩;refine⟨c,I,?_⟩;rw[f e];refine⟨c,I,?_⟩;rw[l d];exact⟨c,g,k,_,_,I,d,h,i,j⟩;refine⟨c,I,?_⟩;rw[f e];refine⟨c,I,?_⟩;rw[f m];refine⟨c,I,?_⟩;rw[l d];exact⟨c,g,k,_,_,I,d,h,i,j⟩;refine⟨c,I,?_⟩;rw[f e];refine⟨c,I,?_⟩;rw[f m];refine⟨c,I,?_⟩;rw[f n];exact⟨c,g,k,_,_,I,d,h,i,j⟩
end
section
inductive QN(vs:V ah)(H:af)(Q:bj)(E:cf):Prop
 |a (s:a2) (S:bt) (k:Nat) (r:eh) (TB:aE) (R:V aE) (p:Int) (c:kt) (ws:V Int):vs=[.b s.e,.b r.d]->am H (r.b::s.d::TB::R)->eB eT fD fl TB->bI H s S k->k+2<=900->d6 p c ws->gd r (p::ws)->r.e.length<=16000->(ci (bi S c)).length<=10000000->(∀l s' H' TB',s'.e=s.e->bI H' s' (bi S c).1 (k+2)->eB eT fD fl TB'->am H' ([(l,.a (bg (ci (bi S c))))]::eh.b (r.a (ws.length+1))::s'.d::TB'::R)->Q (.b l) H')->QN vs H Q E
end
section
def OO[k:aJ]:b' 13 166 QN:=by
 refine cF 1 [] λj d c t b=>?_;obtain⟨o,S,B,n,h,g,D,l,p,rfl,u,r,q,y,z,F,x,A,m⟩:=b;let f:cf:=λs w b=>∃C c d e,s=.ref C/\w=O c/\iQ ak C/\n' ak (.ref C) (.ref cE)=O ab/\hB ak C "answer"/\bi S l=dS S d/\aM j e/\am e (eh.b (n.a (p.length+1))::o.d::h::g)/\aW e b/\b c=O (.i [("answer",.a d)])
 refine⟨_,au (IV (i:=2) (E:=f) (λw s j=>aP Oy (c7 0 1) (hx:=j)) I I t I I I k.zb I I),⟨D,l,p,z,o,S,B,n,h,g,I,u,r,q,y,F,x,A,λf G b t k s w j=>m f G b t k s w j,λd b k x j=>?_⟩,λC c b u=>?_⟩;intro C c s p l n g t hx;exact⟨C,c,d,b,I,I,p,l,n,k,x,j,g,hx⟩;obtain⟨x,y,d,e,j,s,p,l,n,t,w,k,g,hx⟩:=u;cases j;cases s;refine⟨p,l,n,_,_,hx,I,λe f s j u=>?_⟩;have n:aW b (al b e (h_ e C c)):=aW.a s;have l:al b e (h_ e C c) f=aa:=by rw[aL u];exact j
 have p:aW b (al (al b e (h_ e C c)) f (.a [.a d])):=n.b (aW.a l);have b:=g.b p;rw[t]at m;exact m f o _ h I (((q.B (w.a b.c)).M (by omega)).M (by omega)) r (k.q b (g.e j) az)
end
open PyVblwai (shape whole)
def PW{c f:V Int}(a:J2 d=O (c,f)):d=(c.length:Int)::(c++f):=by
 cases d with
 |nil=>cases a
 |cons b e=>have a:(if 0<=b/\b.toNat<=e.length then O (e.take b.toNat,e.drop b.toNat)else aa)=O (c,f):=a;split at a;rename_i g;injection a with a;injection a with h i;subst h i;rw[gK,e7,pC g.2,jn g.1];cases a
def e2(a:lG 0 b=O (c,d)):c=[]/\b=d:=by unfold lG at a;injection a with a;injection a with e f;exact⟨e.symm,f⟩
def wj(a:lG 1 d=O (e,f)):∃b,e=[b]/\d=(b.length:Int)::(b++f):=by
 unfold lG at a;cases c:J2 d with
 |none=>rw[c]at a;cases a
 |some g=>obtain⟨b,d⟩:=g;rw[c]at a;have a:O ([b],d)=O (e,f):=a;injection a with a;injection a with h i;subst h i;exact⟨b,I,PW c⟩
def eC(a:d0 bv (g::c)=O (h,d))(k:bv g=O (b,f)):∃e j i,c=e++j/\e.length=b/\lG f j=O (i,d)/\h=(g::e)::i:=by
 have a:(match bv g with
  |none=>aa
  |some (b,f)=>if c.length<b then aa else match lG f (c.drop b)with|none=>aa|some (e,d)=>O ((g::c.take b)::e,d))=O (h,d):=a
 rw[k]at a;have a:(if c.length<b then aa else match lG f (c.drop b)with|none=>aa|some (e,d)=>O ((g::c.take b)::e,d))=O (h,d):=a
 by_cases d:c.length<b;rw[ay d]at a;cases a;rw[aw d]at a;cases d:lG f (c.drop b)with
 |none=>rw[d]at a;cases a
 |some e=>obtain⟨i,f⟩:=e;rw[d]at a;injection a with a;injection a with l m;subst l m;exact⟨c.take b,c.drop b,i,(gK _ _).symm,by rw[e7];omega,d,I⟩
def Mn(a:d0 bv (b::c)=O (f,d))(g:bv b=aa):False:=by
 have a:(match bv b with
  |none=>aa
  |some (e,h)=>if c.length<e then aa else match lG h (c.drop e)with|none=>aa|some (h,d)=>O ((b::c.take e)::h,d))=O (f,d):=a
 rw[g]at a;cases a
abbrev er(d:Int)(e g:V Int)(f:V (V Int)):Prop:=∃b c,d6 d b c/\e=c++g/\∀a,qt a (m3 f)=((bi a b).1,ci (bi a b))
def PY(d:d0 bv (0::a)=O (b,c)):er 0 a c b:=by
 obtain⟨c,e,f,rfl,a,b,rfl⟩:=eC d (show bv 0=O (0,0)from I);obtain⟨rfl,rfl⟩:=e2 b;match c,a with|[],_=>exact⟨_,_,d6.c,by simp,λa=>I⟩
def PZ(d:d0 bv (1::a)=O (b,c)):er 1 a c b:=by
 obtain⟨e,c,f,rfl,a,b,rfl⟩:=eC d (show bv 1=O (0,1)from I);obtain⟨c,rfl,rfl⟩:=wj b;match e,a with|[],_=>exact⟨_,_,d6.b c,by simp,λa=>I⟩
def Qc(d:d0 bv (2::a)=O (b,c)):er 2 a c b:=by
 obtain⟨c,e,f,rfl,a,b,rfl⟩:=eC d (show bv 2=O (0,0)from I);obtain⟨rfl,rfl⟩:=e2 b;match c,a with|[],_=>exact⟨_,_,d6.A,by simp,λa=>I⟩
def Qm{b a:V Int}{c:V (V Int)}(e:d0 bv (3::b)=O (c,a)):er 3 b a c:=by
 obtain⟨j,l,m,rfl,f,g,rfl⟩:=eC e (show bv 3=O (3,1)from I);obtain⟨i,rfl,rfl⟩:=wj g;match j,f with|[d,h,a],_=>exact⟨_,_,d6.t d h a i,by simp,λk=>I⟩
def Qn(d:d0 bv (4::b)=O (c,a)):er 4 b a c:=by
 obtain⟨e,f,g,rfl,b,c,rfl⟩:=eC d (show bv 4=O (3,0)from I);obtain⟨rfl,rfl⟩:=e2 c;match e,b with|[b,c,a],_=>exact⟨_,_,d6.w b c a,by simp,λd=>I⟩
def Qo(d:d0 bv (5::a)=O (b,c)):er 5 a c b:=by
 obtain⟨c,e,f,rfl,a,b,rfl⟩:=eC d (show bv 5=O (1,0)from I);obtain⟨rfl,rfl⟩:=e2 b;match c,a with|[a],_=>exact⟨_,_,d6.j a,by simp,λb=>I⟩
def Qp(d:d0 bv (6::a)=O (b,c)):er 6 a c b:=by
 obtain⟨c,e,f,rfl,a,b,rfl⟩:=eC d (show bv 6=O (0,0)from I);obtain⟨rfl,rfl⟩:=e2 b;match c,a with|[],_=>exact⟨_,_,d6.e,by simp,λa=>I⟩
def Qq(d:d0 bv (7::a)=O (b,c)):er 7 a c b:=by
 obtain⟨c,e,f,rfl,a,b,rfl⟩:=eC d (show bv 7=O (1,0)from I);obtain⟨rfl,rfl⟩:=e2 b;match c,a with|[a],_=>exact⟨_,_,d6.y a,by simp,λb=>I⟩
def Qr(d:d0 bv (8::b)=O (c,a)):er 8 b a c:=by
 obtain⟨e,f,g,rfl,b,c,rfl⟩:=eC d (show bv 8=O (6,1)from I);obtain⟨g,rfl,rfl⟩:=wj c;match e,b with|[d,c,f,b,e,a],_=>exact⟨_,_,d6.x d c f b e a g,by simp,λh=>I⟩
def Qs(d:d0 bv (9::a)=O (b,c)):er 9 a c b:=by
 obtain⟨c,e,f,rfl,a,b,rfl⟩:=eC d (show bv 9=O (2,0)from I);obtain⟨rfl,rfl⟩:=e2 b;match c,a with|[b,a],_=>exact⟨_,_,d6.a b a,by simp,λc=>I⟩
def P0(d:d0 bv (10::a)=O (b,c)):er 10 a c b:=by
 obtain⟨c,e,f,rfl,a,b,rfl⟩:=eC d (show bv 10=O (7,0)from I);obtain⟨rfl,rfl⟩:=e2 b;match c,a with|[c,a,b,d,e,g,f],_=>exact⟨_,_,d6.s c a b d e g f,by simp,λh=>I⟩
def P4(d:d0 bv (11::a)=O (b,c)):er 11 a c b:=by
 obtain⟨c,e,f,rfl,a,b,rfl⟩:=eC d (show bv 11=O (3,0)from I);obtain⟨rfl,rfl⟩:=e2 b;match c,a with|[b,a,c],_=>exact⟨_,_,d6.f b a c,by simp,λd=>I⟩
def P5(d:d0 bv (12::a)=O (b,c)):er 12 a c b:=by
 obtain⟨c,e,f,rfl,a,b,rfl⟩:=eC d (show bv 12=O (2,0)from I);obtain⟨rfl,rfl⟩:=e2 b;match c,a with|[b,a],_=>exact⟨_,_,d6.k b a,by simp,λc=>I⟩
def P6(d:d0 bv (13::a)=O (b,c)):er 13 a c b:=by
 obtain⟨c,e,f,rfl,a,b,rfl⟩:=eC d (show bv 13=O (2,0)from I);obtain⟨rfl,rfl⟩:=e2 b;match c,a with|[b,a],_=>exact⟨_,_,d6.l b a,by simp,λc=>I⟩
def P7(d:d0 bv (14::a)=O (b,c)):er 14 a c b:=by
 obtain⟨c,e,f,rfl,a,b,rfl⟩:=eC d (show bv 14=O (2,0)from I);obtain⟨rfl,rfl⟩:=e2 b;match c,a with|[a,b],_=>exact⟨_,_,d6.n a b,by simp,λc=>I⟩
def P8(d:d0 bv (15::a)=O (b,c)):er 15 a c b:=by
 obtain⟨c,e,f,rfl,a,b,rfl⟩:=eC d (show bv 15=O (2,0)from I);obtain⟨rfl,rfl⟩:=e2 b;match c,a with|[a,b],_=>exact⟨_,_,d6.p a b,by simp,λc=>I⟩
def P9(d:d0 bv (16::a)=O (b,c)):er 16 a c b:=by
 obtain⟨c,e,f,rfl,a,b,rfl⟩:=eC d (show bv 16=O (6,0)from I);obtain⟨rfl,rfl⟩:=e2 b;match c,a with|[c,d,e,f,a,b],_=>exact⟨_,_,d6.g c d e f a b,by simp,λg=>I⟩
def P_(d:d0 bv (17::a)=O (b,c)):er 17 a c b:=by
 obtain⟨c,e,f,rfl,a,b,rfl⟩:=eC d (show bv 17=O (5,0)from I);obtain⟨rfl,rfl⟩:=e2 b;match c,a with|[a,b,c,e,d],_=>exact⟨_,_,d6.o a b c e d,by simp,λf=>I⟩
def Qa(d:d0 bv (18::a)=O (b,c)):er 18 a c b:=by
 obtain⟨c,e,f,rfl,a,b,rfl⟩:=eC d (show bv 18=O (1,0)from I);obtain⟨rfl,rfl⟩:=e2 b;match c,a with|[a],_=>exact⟨_,_,d6.m a,by simp,λb=>I⟩
def Qb(d:d0 bv (19::a)=O (b,c)):er 19 a c b:=by
 obtain⟨c,e,f,rfl,a,b,rfl⟩:=eC d (show bv 19=O (9,0)from I);obtain⟨rfl,rfl⟩:=e2 b;match c,a with|[d,g,h,i,e,c,a,b,f],_=>exact⟨_,_,d6.C d g h i e c a b f,by simp,λj=>I⟩
def Qd(d:d0 bv (20::a)=O (b,c)):er 20 a c b:=by
 obtain⟨c,e,f,rfl,a,b,rfl⟩:=eC d (show bv 20=O (1,0)from I);obtain⟨rfl,rfl⟩:=e2 b;match c,a with|[a],_=>exact⟨_,_,d6.B a,by simp,λb=>I⟩
def Qe(d:d0 bv (21::a)=O (b,c)):er 21 a c b:=by
 obtain⟨c,e,f,rfl,a,b,rfl⟩:=eC d (show bv 21=O (3,0)from I);obtain⟨rfl,rfl⟩:=e2 b;match c,a with|[a,c,b],_=>exact⟨_,_,d6.h a c b,by simp,λd=>I⟩
def Qg(d:d0 bv (22::b)=O (c,a)):er 22 b a c:=by
 obtain⟨e,f,g,rfl,b,c,rfl⟩:=eC d (show bv 22=O (3,0)from I);obtain⟨rfl,rfl⟩:=e2 c;match e,b with|[b,c,a],_=>exact⟨_,_,d6.i b c a,by simp,λd=>I⟩
def Qh(d:d0 bv (23::a)=O (b,c)):er 23 a c b:=by
 obtain⟨c,e,f,rfl,a,b,rfl⟩:=eC d (show bv 23=O (5,0)from I);obtain⟨rfl,rfl⟩:=e2 b;match c,a with|[a,e,d,c,b],_=>exact⟨_,_,d6.u a e d c b,by simp,λf=>I⟩
def Qi(d:d0 bv (24::a)=O (b,c)):er 24 a c b:=by
 obtain⟨c,e,f,rfl,a,b,rfl⟩:=eC d (show bv 24=O (1,0)from I);obtain⟨rfl,rfl⟩:=e2 b;match c,a with|[a],_=>exact⟨_,_,d6.q a,by simp,λb=>I⟩
def Qj(d:d0 bv (25::a)=O (b,c)):er 25 a c b:=by
 obtain⟨c,e,f,rfl,a,b,rfl⟩:=eC d (show bv 25=O (2,0)from I);obtain⟨rfl,rfl⟩:=e2 b;match c,a with|[a,b],_=>exact⟨_,_,d6.r a b,by simp,λc=>I⟩
def Qk(d:d0 bv (26::a)=O (b,c)):er 26 a c b:=by
 obtain⟨c,e,f,rfl,a,b,rfl⟩:=eC d (show bv 26=O (1,0)from I);obtain⟨rfl,rfl⟩:=e2 b;match c,a with|[a],_=>exact⟨_,_,d6.z a,by simp,λb=>I⟩
def Ql(d:d0 bv (27::a)=O (b,c)):er 27 a c b:=by
 obtain⟨c,e,f,rfl,a,b,rfl⟩:=eC d (show bv 27=O (0,0)from I);obtain⟨rfl,rfl⟩:=e2 b;match c,a with|[],_=>exact⟨_,_,d6.d,by simp,λa=>I⟩
def PX(b:d0 bv (a::c)=O (d,e)):er a c e d:=by by_cases c:a=0;subst c;exact PY b;by_cases d:a=1;subst d;exact PZ b;by_cases o:a=2;subst o;exact Qc b;by_cases y:a=3;subst y;exact Qm b;by_cases z:a=4;subst z;exact Qn b;by_cases A:a=5;subst A;exact Qo b;by_cases B:a=6;subst B;exact Qp b;by_cases C:a=7;subst C;exact Qq b;by_cases D:a=8;subst D;exact Qr b;by_cases E:a=9;subst E;exact Qs b;by_cases e:a=10;subst e;exact P0 b;by_cases f:a=11;subst f;exact P4 b;by_cases g:a=12;subst g;exact P5 b;by_cases h:a=13;subst h;exact P6 b;by_cases i:a=14;subst i;exact P7 b;by_cases j:a=15;subst j;exact P8 b;by_cases k:a=16;subst k;exact P9 b;by_cases l:a=17;subst l;exact P_ b;by_cases m:a=18;subst m;exact Qa b;by_cases n:a=19;subst n;exact Qb b;by_cases p:a=20;subst p;exact Qd b;by_cases q:a=21;subst q;exact Qe b;by_cases r:a=22;subst r;exact Qg b;by_cases s:a=23;subst s;exact Qh b;by_cases t:a=24;subst t;exact Qi b;by_cases u:a=25;subst u;exact Qj b;by_cases w:a=26;subst w;exact Qk b;by_cases x:a=27;subst x;exact Ql b;refine(Mn b ?_).elim;unfold bv;simp only[c,d,o,y,z,A,B,C,D,E,e,f,g,h,i,j,k,l,m,n,p,q,r,s,t,u,w,x,if_false]
def Mp{cs:V (V (V Int))}(a:kc bv b []=O cs):cs=[]:=by cases b<;>(unfold kc at a;injection a with a;exact a.symm)
def Mo{cs:V (V (V Int))}(a:kc bv c (f::g)=O cs):∃h d b e,d0 bv (f::g)=O (d,b)/\kc bv h b=O e/\cs=d::e:=by
 cases c with
 |zero=>cases a
 |succ c=>
  have a:(match d0 bv (f::g)with
   |none=>aa
   |some (h,b)=>match kc bv c b with|none=>aa|some cs=>O (h::cs))=O cs:=a
  cases h:d0 bv (f::g)with
  |none=>rw[h]at a;cases a
  |some f=>
   obtain⟨d,b⟩:=f;rw[h]at a;have a:(match kc bv c b with|none=>aa|some cs=>O (d::cs))=O cs:=a
   cases f:kc bv c b with
   |none=>rw[f]at a;cases a
   |some e=>rw[f]at a;injection a with a;exact⟨c,d,b,e,I,f,a.symm⟩
abbrev qg(S:bt)(cs:V (V (V Int))):V Int:=J3 (J1 qt S (cs.map m3))
def PN{S:bt}{cs:V (V (V Int))}(c:∀S,qt S (m3 b)=((bi S a).1,ci (bi S a))):
  qg S (b::cs)=(((ci (bi S a)).length:Int)::ci (bi S a))++qg (bi S a).1 cs:=by
 show J3 ((qt S (m3 b)).2::J1 qt (qt S (m3 b)).1 (cs.map m3))=_;rw[c S]
 rfl
def L_{a:V Int}(b:r3 a=ab):∃cs,kc bv a.length a=O cs/\cs.length<=400/\kX a=qg sU cs/\(kX a).length<=10000000:=by
 unfold r3 at b;cases c:kc bv a.length a with
 |none=>rw[c]at b;cases b
 |some e=>
  rw[c]at b;simp only[fe]at b;obtain⟨⟨⟨⟨_,a⟩,_⟩,_⟩,d⟩:=b;refine⟨e,I,cj a,?_,cj d⟩;unfold kX Vc;rw[c]
  rfl
def Nr:bI a ⟨b,d,c,f,e,[],[],[],aa⟩ sU 0:=by refine⟨I,⟨I,I,by show 0<=4;omega,λc b d e a=>?_⟩,I,I,?_,nT,?_,nT,?_,?_,co _,co _,co _,by omega⟩;simp at a;all_goals(intro b a;cases a)
section
inductive QM(vs:V ah)(H:af)(Q:bj)(E:cf):Prop
 |a (s:a2) (ca:Y) (o:aF) (l:V Int) (TB:aE) (R:V aE):vs=[.b s.e,.b ca]->am H (s.d::[(ca,.e o (.a (bg l)))]::TB::R)->eB eT fD fl TB->bI H s sU 0->r3 l=ab->l.length<=16000->(∀ta H',H' ta=O (.a (bg (kX l)))->Q (.b ta) H')->QM vs H Q E
end
section
def O1[g:aJ]:b' 14 167 QM:=by
 refine cF 3 [] λd k i j h=>?_;obtain⟨p,u,o,m,s,y,rfl,n,D,l,i,j,K⟩:=h;refine⟨_,aj (aA 2 (hQ g.zw Oa (c2 1))) (aj (aA 3 (bC ai)) (aj (yb e_ (iP (ju (a' Ob (W 2)))) (aj (aA 4 (aP OO (c7 0 2))) (aj (a9 (eY e9 gL ha gG (W 3) (c3 (c5 (W 4))))) (au (a9 (eY e9 mQ nY mw (W 3) (c2 4))))))) (c1 (W 3)))),?_⟩;obtain⟨x,H,g,G,h⟩:=L_ i;refineλj h k g i=>?_;have q:=(n.t (C:=hN) k g i);have n:aM d (al (al d h (.f j)) j (.c hN h [])):=by
  have F:al d h (.f j) j=aa:=by rw[aL i.symm];exact k
  exact((aW.a g).b (aW.a F)).c
 refine⟨j,h,u,o,m,_,I,(q.a 2 I).a 1 I,λd t k=>⟨I,?_⟩⟩;refine⟨co _,λi g=>?_⟩;have B:am (al d i (.a [])) ([(i,.a [])]::eh.b ⟨j,h,u,o,m,0⟩::p.d::s::y):=k.f g (.a []);have z:bI (al d i (.a [])) p sU 0:=l.B ((n.a t).a (aW.a g).c);clear g;generalize al d i (.a [])=g at*;refine⟨λA E q=>∃(t:ar ah)(n:a2)(S:bt)(k:Nat)(d:eh)(cs:V (V (V Int)))(w:Nat)(g:V Int)(l:aE),E=[O (.b p.e),O (.b u),O (.b j),O (.b i),t]/\n.e=p.e/\d.d=j/\d.e=m/\A=cs.length/\am q ([(i,.a (bg g))]::d.b::n.d::l::y)/\eB eT fD fl l/\bI q n S k/\k+2*cs.length<=800/\kc bv w (d.e.drop d.c)=O cs/\g++qg S cs=kX m,⟨x.length,aa,p,sU,0,⟨j,h,u,o,m,0⟩,x,m.length,[],s,I,I,I,I,I,B,D,z,by omega,H,G.symm⟩,?_⟩;rintro A E q ⟨t,L,S,k,d,cs,s,g,l,rfl,J,B,G,rfl,z,zc,N,M,h,D⟩;have s:q j=O (.c hN d.g (kn d)):=by rw[<-B];exact gm (z.r)
 refine⟨s,I,d,_,(by show[ah.b j]=[ah.b d.d];rw[B]),z.r,?_⟩;by_cases s:d.e.length<=d.c;rw[dm s];have x:d.e.drop d.c=[]:=List.drop_eq_nil_of_le s;rw[x]at h;have x:=Mp h;subst x;have x:g=kX m:=by rw[<-D];show g=g++[];rw[dM]
 subst x;exact K i q (z.e 0 I);rw[da s];cases A:d.e.drop d.c with
 |nil=>exact a7 (List.drop_eq_nil_iff.mp A) s
 |cons K q=>
  rw[A]at h;obtain⟨P,q,x,s,E,zd,rfl⟩:=Mo h;obtain⟨h,q,ze,H,Q⟩:=PX E;have E:=PN (S:=S) (cs:=s) Q;rw[E]at D;have E:=cb fu D;simp only[bH,cz]at E;simp only[cz]at M;refine⟨λM E=>∃(t:ar ah)(n:a2)(S:bt)(k:Nat)(d:eh)(w:Nat)(g:V Int)(l:aE),M=[O (.b p.e),O (.b u),O (.b j),O (.b i),t]/\n.e=p.e/\d.d=j/\d.e=m/\am E ([(i,.a (bg g))]::d.b::n.d::l::y)/\eB eT fD fl l/\bI E n S k/\k+2*s.length<=800/\kc bv w (d.e.drop d.c)=O s/\g++qg S s=kX m,?_,?_⟩;rintro M E ⟨t,n,S,k,d,w,g,l,m,F,Q,R,T,U,X,za,zb,u⟩;exact⟨s.length,by simp,t,n,S,k,d,s,w,g,l,m,F,Q,R,I,T,U,X,za,zb,u⟩;have m:gd d (K::q):=⟨x,by rw[A,H];rfl⟩;refine⟨L,S,k,d,l,[(i,.a (bg g))]::y,K,h,q,(by show[ah.b p.e,ah.b j]=[ah.b L.e,ah.b d.d];rw[J,B]),z.x 3,zc,N,by omega,ze,m,by rw[G];omega,by omega,λn E l u z s w j=>?_⟩;have m:l i=O (.a (bg g)):=j.e 4 I;have p:l n=O (.a (bg (ci (bi S h)))):=j.e 0 I;refine⟨.inl ⟨I,_,dU.b m⟩,_,_,I,.inl (dU.b p),_,_,_,I,I,m,(by rw[an,bn];omega),?_⟩;have p:(bg (ci (bi S h))).length=(ci (bi S h)).length:=an _;have l:=(j.p (a:=i) 4 I (.a (bg g++[.a ((bg (ci (bi S h))).length:Nat)])));have j:=l.e (a:=i) (o:=.a (bg g++[.a ((bg (ci (bi S h))).length:Nat)])) 4 I;have y:=l.e (a:=n) (o:=.a (bg (ci (bi S h)))) 0 I;have t:=s.B (aM.c.b (o':=.a (bg g++[.a ((bg (ci (bi S h))).length:Nat)])) m (λs n=>nomatch n));refine⟨.inl ⟨I,_,dU.b j⟩,_,_,_,_,I,I,j,y,(by rw[bH,an,p,bn];simp;omega),?_⟩;have m:=(l.p (a:=i) 4 I (.a ((bg g++[.a ((bg (ci (bi S h))).length:Nat)])++bg (ci (bi S h))))).r.a 3 I;have i:=t.B (aM.c.b (o':=.a ((bg g++[.a ((bg (ci (bi S h))).length:Nat)])++bg (ci (bi S h)))) j (λs n=>nomatch n));have j:(bg g++[ah.a ((bg (ci (bi S h))).length:Nat)])++bg (ci (bi S h))=bg (g++(((ci (bi S h)).length:Int)::ci (bi S h))):=by
   rw[p];show _=(g++_).map _;rw[a6,b1,b8]
   rfl
  refine⟨_,E,(bi S h).1,k+2,d.a (q.length+1),P,g++(((ci (bi S h)).length:Int)::ci (bi S h)),u,I,z.trans J,B,G,?_,w,i,by omega,?_,?_⟩;rw[<-j];exact m;have g:(d.a (q.length+1)).e.drop (d.a (q.length+1)).c=x:=by show d.e.drop (d.c+(q.length+1))=x;rw[<-uj,A,H];show((q++x).drop q.length)=x;exact Ji
  rw[g];exact zd;rw[b8];exact D
def O0[a:aJ]:b' 15 168 qj:=by refine cF 0 [] λc f d e b=>?_;obtain⟨h,p,n,d,c,rfl,e,j,k,l,m⟩:=b;refine⟨_,c1 (aP O1 (c6 (BR a.zA Oq) (W 0))),λb a o g i=>?_⟩;have f:=(e.t (C:=dA) o g i);refine⟨b,a,_,I,f,λg o i q r e=>⟨I,?_⟩⟩;exact⟨⟨b,a,g,o,i,[],[],[],aa⟩,h,p,n,d,c,I,e,j,Nr,k,l,m⟩
end
abbrev sD:bh:=ck (aI 1) 0
section
variable{P:bd}{w:aO}{K:aR}{n:ac->ar ag}{base:be}
inductive wo(K:aR)(vs:V ah)(H:af)(Q:bj)(E:cf):Prop
 |a (x C:Y) (n:Int):vs=[.b x,.a n]->iQ K C->hB K C "answer"->H x=O (iS x C aa)->(∀dx,H dx=aa->dx≠x->Q .c (al (al H x (iS x C (O dx))) dx (.i [("answer",.a n)])))->wo K vs H Q E
def Qt:gq ["self","answer"] ["self","answer"] (de sD):=⟨I,I,I,by decide+kernel,I,by decide+kernel,by decide+kernel⟩
def Mf:ir "__init__" a sD ["self","answer"]:=by walk_at"b"
def Pu(c:jo K "__init__" d sD a b):fH P w K n base fo 1 a b ["self","answer"] (wo K):=by
 refine c.d Qt (λf d e b a=>?_) (λg c i j d f e b h a=>?_);obtain⟨c,b,h,rfl,_⟩:=a
 rfl
 obtain⟨c,b,h,rfl,d,e,f,g⟩:=a;exact⟨_,au (IW (W 0) (W 1) I),c,b,I,f,d,e,g⟩
def AY(K:aR)(n:ac->ar ag)(a:Y):Prop:=∃b c d,jo K "__init__" d sD b c/\ug K a "__init__" b/\n "Refusal"=O (.ref a)
def AZ(K:aR)(n:ac->ar ag)(c:Y)(d:ac)(g:bh):Prop:=∃a b e f,n d=O (.ref a)/\iQ K a/\n' K (.ref a) (.ref c)=O ab/\hB K a "answer"/\eb K (.ref a) "__init__"=O (O (.ref b))/\lL K (.ref b)=ab/\jo K "__init__" f g b e
def iB(c)(t:AY K n f)(e:AZ K n f q (ck (aI c) 0))
  (z:∀d l m k j(g:bK) p(o:ao) i h,ug K f "__init__" l->fH P w K n base fo 1 l m ["self","answer"] (wo K)->L2.g2 K m ["self","answer"] []->n "Refusal"=O (.ref f)->cK 1 (g.deeper (fW d (de (ck (aI c) 0)) o.heap.objs.size k j))->eG (fi fo P w K n base ["self"] d (de (ck (aI c) 0)) k j g p o i h).s (fT (ck (aI c) 0)) (ub (rg (wo K) [] mh (pk (j8 0) (pk (yp (t8 λc=>.a (-c)) (kG (.a r))) j7)))):=by intro _ _ _ _ _ _ _ _ _ _ y G b F E;exact au (a9 (TH y G E rfl F b .nil bc (Z (W 0) (Z (q8 rm a5) ai)))))
  (u:gq ["self"] ["self"] (de (ck (aI c) 0)):=by exact⟨rfl,rfl,rfl,by decide+kernel,rfl,by decide+kernel,by decide+kernel⟩) (x:∀d,ir "__init__" d (ck (aI c) 0) ["self"]:=by exactλ_ _ _ _ _ _ _=>Rb.L' λ_=>rfl):gO P w K n base f q (-r):=by
 obtain⟨l,m,_,q,y,F⟩:=t;obtain⟨e,k,c,d,r,t,A,B,C,D,f⟩:=e;refine⟨e,k,c,r,t,A,B,C,D,f.a (x d),f.d u (λr i k h c=>?_) (λj g p o i r k h E c=>?_)⟩;obtain⟨f,e,rfl,_⟩:=c
 rfl
 obtain⟨f,e,rfl,k,r,t,u⟩:=c;exact⟨_,z d l m _ j g p o i h y (Pu q) (q.a Mf) F E,_,I,f,e,_,I,k,r,t,u⟩
end
end Rb
namespace Hd
open PySem PySem.W PyProof.Rows
abbrev ts:bh:=du.main.body.getD 168 (.Pass ⟨0,0,0,0⟩)
noncomputable def kx:DefRec:={name:="answers",params:=L2.mn ts,body:=L2.fT ts,scope:=L2.de ts,pos:=⟨957,0,958,43⟩}
theorem Ez:defOf (hz du) f6.name=O (kx,[]):=by kernel_rfl
theorem EC:f6.prog.theDef f6.name=O (kx.params,kx.body,kx.scope):=by kernel_rfl
theorem EA:kwWritten? kx.params.kwonlyargs kx.params.kw_defaults=O []:=by kernel_rfl
theorem EB(i:WalkOS (hz du) (jX du) (λ_ _=>True) s8 f6 kx [] λj l=>e' j l):f6.Holds:=
 holds_os (r:=f6) (q:=hz du) (loose:=jX du) (Xt:=λ_=>ab) (XP:=λ_ _=>True) (Yf:=λb=>b.heap) (Ya:=λg=>ff g.params) (YP:=s8) (d:=kx) (kwd:=[]) (N:=30000)
  ET (λg b e=>by intro c f a;rw[e];exact a) (λg a n m k c f e=>k c f (m c f e)) (λ_ _=>trivial) (λ_ _ _ _ _=>trivial) Ez EC EA (λb _=>recFacts_of (FY b)) (λh a=>os_shapes h a) EJ E' Ej ED i
open PySem PySem.W
def md(a:eO):BT:=(oU a 169).i a tr
noncomputable def oR:V Nat:=[2,3,4,27,28,30,31,47,48,50,51,66,67,69,70,85,86,88,89,104,105,107,108,123,124,126,127,142,143,145,146,161,162,164,165,180,181,183,184,199,200,202,203,218,219,221,222,237,238,240,241,256,257,259,260,275,276,278,279,287,288,294,295,301,302,308,309,315,316,322,323,329,330,336,337,350,351,353,354,364,365,371,372,378,379,385,386,392,393,399,400,406,407,411,412,418,419,423,424,428,429,435,436,440,441,447,448,454,455,461,462,468,469,475,476,482,483,489,490,496,497,503,504,517,518,520,521,538,539,545,546,552,553,559,560,566,567,573,574,580,581,587,588,594,595,599,600,606,607,611,612,614,615,630,631,635,636,640,641,647,648,650,651,659,660,666,667,671,672,676,677,683,684,688,689,693,694,700,701,707,708,714,715,721,722,728,729,735,736,740,741,747,748,754,755,761,762,766,767,773,774,780,781,787,788,794,795,799,800,804,805,811,812,816,817,821,822,823,836,837,843,844,850,851,857,858,860,861,869,870,876,877,883,884,888,889,900,901,907,908,912,913,919,920,926,927,933,934,940,941,947,948,954,955,961,962,968,969,971,972,989,990,992,993,1001,1002,1008,1009,1013,1014,1027,1028,1030,1031,1048,1049,1055,1056,1058,1059,1076,1077,1083,1084,1086,1087,1097,1098,1102,1103,1109,1110,1116,1117,1123,1124,1130,1131,1137,1138,1142,1143,1149,1150,1154,1155,1161,1162,1168,1169,1175,1176,1177,1183,1184,1190,1191,1195,1196,1200,1201,1205,1206,1212,1213,1219,1220,1221,1227,1228,1234,1235,1241,1242,1248,1249,1255,1256,1262,1263,1269,1270,1276,1277,1283,1284,1285,1298,1299,1305,1306,1312,1313,1319,1320,1326,1327,1333,1334,1340,1341,1347,1348,1354,1355,1361,1362,1364,1365,1375,1376,1382,1383,1389,1390,1396,1397]
def oX(a:eO)(b:Nat):aF:=((md a).get b).getD xc
def cM(b:eO):aR:=oR.map λa=>(a,oX b a)
def tm:ar aF->Bool
 |some a=>!a.isFreed
 |none=>ae
theorem D6(b:eO):(oR.all λa=>JM a 1398&&tm ((md b).get a))=ab:=by kernel_rfl
theorem DZ(b:eO){g:be}(m:∀e c,(ff b).get? e=O c->g.get? e=O c):(cM b).In g:=by
 intro a c q;have x:∀i:V Nat,(i.all λa=>JM a 1398&&tm ((md b).get a))=ab->(i.map λa=>(a,oX b a)).lookup a=O c->(ff b).get? a=O c:=by
  intro i;induction i with
  |nil=>intro _ g;cases g
  |cons e C w=>
   intro j d;rw[rt,fe]at j;rw[b1,ii]at d;by_cases k:a=e;subst k;rw[beq_self_eq_true]at d;have d:oX b a=c:=bA d;obtain⟨s,h⟩:=qv.mp j.1;cases f:(md b).get a with
   |none=>rw[f]at h;cases h
   |some z=>
    rw[f]at h;have l:oX b a=z:=by unfold oX;rw[f];rfl
    rw[d]at l;subst l;have y:a<1398:=bJ s;have r:=abs_get (t:=md b) (n:=1398) (life:={}) y f;refine(show(ff b).get? a=_ from r).trans ?_;have u:c.isFreed=ae:=by simpa[tm]using h
    obtain⟨A,B,p,D⟩:=c;cases p with
    |freed=>cases u
    |_=>rfl
   have o:(a==e)=ae:=by simp[k]
   rw[o]at d;exact w j.2 d
 exact m a c (x oR (D6 b) q)
open PySem PySem.W PyProof.Rows L2 L3
noncomputable def iH(b:bd)(a:Nat×ar Nat):bh:=match a.2 with|none=>b.main.body.getD a.1 (.Pass ⟨0,0,0,0⟩)|some c=>ck (b.main.body.getD a.1 (.Pass ⟨0,0,0,0⟩)) c
noncomputable def tB(b:aR)(c:bd)(a:Nat×ar Nat):ar (ar ag):=match a.2 with|none=>iW b 3 (Rb.cP (iH c a))|some _=>eb b (.ref (Rb.cc a.1)) (Rb.cP (iH c a))
noncomputable def oW(a:aR)(d:bd)(c:Nat×ar Nat):ar aF:=match tB a d c with|some (O (.ref b))=>a.lookup b|_=>aa
noncomputable def wU(c:bh)(b:aF):aF:=match b.data with|.func a=>⟨b.cls,b.dict,.func (oa (Rb.cP c) a.qualname (mn c) (fT c) (de c) .none a.kwdefaults a.doc a.pyModule a.annotations a.code a.closureTuple),b.slots⟩|_=>b
noncomputable def wZ(c:aR)(b:ar ac):ar aF->Bool
 |some ⟨_,_,.func a,_⟩=>Ar c a.code a.qualname&&(b.all λb=>a.qualname==b)
 |_=>ae
noncomputable def wW(a:aR)(d:bd)(c:Nat×ar Nat):Bool:=match tB a d c with|some (O (.ref b))=>lL a (.ref b)&&(kg a (.ref b)&&wZ a (if c.2.isSome then aa else O (Rb.cP (iH d c))) (a.lookup b))|_=>ae
noncomputable def oT:V (Nat×ar Nat):=Rb.vw.map (λa=>(a,aa))++(Rb.vS.map (λb=>(b.1,O b.2))++[1,2,3,4,5,6,7,8,9,10,11,12,13,14].map λa=>(a,O 0))
noncomputable def s9:ar aF->ag
 |some ⟨_,_,.func a,_⟩=>a.code
 |_=>.none
structure s6(p:bd)(P:eO):Prop where
 a:oT.all (wW (cM P) p)=ab
 b:oT.map (oW (cM P) p)=oT.map (λe=>(oW (cM P) p e).map (wU (iH p e)))
 c:s9 (oW (cM P) p (107,aa))=.ref 883
theorem ti(a:eO):s6 du a:=⟨by kernel_rfl,by kernel_rfl,by kernel_rfl⟩
theorem oS(d:eO){e:Nat×ar Nat}(l:e∈oT):∃f c,tB (cM d) du e=O (O (.ref f))/\lL (cM d) (.ref f)=ab/\(e.2=aa->c.qualname=Rb.cP (iH du e))/\s9 (oW (cM d) du e)=c.code/\jo (cM d) (Rb.cP (iH du e)) c.qualname (iH du e) f c:=by have g:=yZ.mp (ti d).b e l;have h:=hE.mp (ti d).a e l;unfold wW at h;unfold oW at g⊢;split at h;rename_i f q;rw[q]at g⊢;simp only[fe]at h;obtain⟨o,p,i⟩:=h;have g:(cM d).lookup f=((cM d).lookup f).map (wU (iH du e)):=g;unfold wZ at i;split at i;rename_i r s c t k;obtain⟨n,m⟩:=qv.mp i;rw[k,lF]at g;have j:=cb Obj.data (bA g);have j:Kf c=Kf (oa (Rb.cP (iH du e)) c.qualname (mn (iH du e)) (fT (iH du e)) (de (iH du e)) .none c.kwdefaults c.doc c.pyModule c.annotations c.code c.closureTuple):=j;injection j with j;refine⟨f,c,I,o,λu=>?_,cb s9 k,⟨⟨r,s,c.kwdefaults,c.doc,c.pyModule,c.annotations,c.code,c.closureTuple,t,j,k,n⟩,p⟩⟩;rw[u]at m;exact gI m;cases i;cases h
noncomputable def qy:V (ac×Nat):=[("Record",36),("Segment",64),("Part",65),("Book",67),("Store",163),("Sender",118),("Transaction",117),("Move",116),("Group",109),("Reading",111),("CallReader",103)]
noncomputable def D4:V (Nat×V ac):=[(36,["place","time","key","value","sender","number","kind"]),(64,["first","records"]),(65,["segment_size","keep","full_segments","open_segment","next_place","on_disk","told_places"]),(67,["name","segment_size","is_tight","keep","parts"]),(163,["books","senders","groups"]),(118,["number","epoch","transaction"]),(117,["parts","moves","is_decided","marked"]),(116,["group","generation","part","place"]),(109,["book","generation","members","owners","kept","read_up_to"]),(111,["records","goes_on"]),(103,["calls","position"])]
def wM:V (Nat×ac):=D4.flatMap λa=>a.2.map λb=>(a.1,b)
noncomputable def wX:V (ac×Int):=[("BILLION",1000000000),("MOST_IN_TEXT",400),("MOST_IN_VALUE",5),("MOST_KEY",99),("MOST_MARKS",100),("MOST_TO_READ",20),("NO_KEY",-1),("BY_ITSELF",0),("WITHIN",1),("MARK_DONE",2),("MARK_GIVEN_UP",3),("LINE_END",10),("BLANK",32),("MOST_BOOKS",4),("NO_NUMBER",-1),("LOSING_POWER",-1),("GIVING_UP",-2),("MOST_GROUP",3),("MOST_MEMBER",5),("NOBODY",-1),("MOST_SENDERS",8),("MOST_NUMBER",1000000)]
noncomputable def tj(b:Int):ar (ar ag)->Bool
 |some (O (.int a _))=>a==b
 |_=>ae
noncomputable def w4:V ac:=["len","min","max","sum","all","sorted","list","ord","range","reversed","enumerate"]
noncomputable def qK:V (ac×Nat):=[("OutOfRange",2),("NoSuchBook",3),("ThereAlready",4),("NoSuchGroup",5),("NoSuchSender",6),("NumberTooFar",7),("NotTight",8),("NoneFound",9),("TransactionOpen",10),("NoTransaction",11),("Outdated",12),("NotTheOwner",13),("NotAMember",14)]
def oY(b:aF)(a:Nat):ar ag:=b.slots.toList.getD a aa
noncomputable def wV(c:Nat)(b:aF):aF:=match b.data with|.cls a=>m0 a.name a.qualname c a.ns a.bases [.ref 31,.type "Exception",.type "BaseException",.type "object"] ab a.slotNames a.subclasses a.abstract a.collection b.dict (oY b 0) (oY b 1) (oY b 2) (oY b 3) (oY b 5) "Exception.__new__"|_=>b
def EG:ar aF->Bool
 |some ⟨_,_,.cls _,_⟩=>ab
 |_=>ae
noncomputable def lh(a:aR)(c:ac):Nat:=match iW a 3 c with|some (O (.ref b))=>b|_=>0
noncomputable def qB(b:aR):Nat->V (Int×ac)->V gi
 |_,[]=>[]
 |t,a::c=>⟨a.1,.int a.1 t,.ref (lh b a.2)⟩::qB b (t+1) c
noncomputable def qA:V (ac×Nat×V (Int×ac)):=[("BOOK_CALLS",1287,Rb.r5),("SENDER_CALLS",2040,Rb.sE),("GROUP_CALLS",1841,Rb.sf),("PART_CALLS",1911,Rb.we)]
noncomputable def mf(a:aR)(c:ac):Bool:=match iW a 3 c with|some (O (.ref b))=>!(b==hd)|_=>ae
structure D2(K:aR):Prop where
 e:(qy.all λa=>iW K 3 a.1==O (O (.ref (Rb.cc a.2)))&&(rN K (Rb.cc a.2) pK&&(rL K (Rb.cc a.2)&&(AA K (Rb.cc a.2)&&(eb K (.ref (Rb.cc a.2)) "__setattr__"==O (O (.builtin "object.__setattr__"))&&(uV K (Rb.cc a.2)&&kg K (.ref (Rb.cc a.2))))))))=ab
 d:(wM.all λa=>eb K (.ref (Rb.cc a.1)) a.2==O aa)=ab
 g:(wX.all λa=>tj a.2 (iW K 3 a.1))=ab
 h:(w4.all λa=>iW K 3 a==O aa)=ab
 o:qK.map (λa=>K.lookup (Rb.cc a.2))=qK.map λa=>(K.lookup (Rb.cc a.2)).map (wV (Rb.cc a.2))
 b:(qK.all λa=>iW K 3 a.1==O (O (.ref (Rb.cc a.2)))&&(eb K (.ref (Rb.cc a.2)) "answer"==O aa&&(EG (K.lookup (Rb.cc a.2))&&(eb K (.ref (Rb.cc a.2)) "__setattr__"==O (O (.builtin "object.__setattr__"))&&(eb K (.ref (Rb.cc a.2)) "__getattribute__"==O (O (.builtin "BaseException.__getattribute__"))&&(eb K (.ref (Rb.cc a.2)) "__getattr__"==O aa&&(kg K (.ref (Rb.cc a.2))&&n' K (.ref (Rb.cc a.2)) (.ref (Rb.cc 1))==O ab)))))))=ab
 f:(qA.all λa=>mf K a.1&&a.2.2.all λb=>mf K b.2)=ab
 a:qA.map (λa=>K.lookup (lh K a.1))=qA.map λa=>O ⟨.type "dict",aa,.dict ⟨qB K a.2.1 a.2.2⟩ a.2.2.length,⟨[]⟩⟩
 i:K7 K (.ref (Rb.cc 1)) "__getattribute__"=O (O (.builtin "type.__getattribute__"))
 j:K5 K (Rb.cc 1) (.type "type")=ab
 k:K0 K (.ref (Rb.cc 1)) (.type "type") "__init__"=O (.val (.ref 28))
 l:eb K (.ref (Rb.cc 1)) "__init__"=O (O (.ref 28))
 c:iW K 3 "Refusal"=O (O (.ref (Rb.cc 1)))
 m:iW K 3 "__builtins__"=O (O (.ref 4))
 n:K.lookup 4=O ⟨.type "module",O 0,.plain,⟨[]⟩⟩
theorem gD(a:eO):D2 (cM a):=by constructor<;>kernel_rfl
def tz:ag->Bool
 |.str _ _=>ab
 |_=>ae
def oZ:ag->Bool
 |.int _ _=>ab
 |_=>ae
def tw:ag->Bool
 |.bool _=>ab
 |_=>ae
noncomputable def EH(b:Nat):ar aF->Bool
 |some ⟨c,_,.fields a,_⟩=>c==.type "code"&&(a[11]?==O (.ref b)&&(a.getD 11 .none==.ref b&&(tz (a.getD 18 .none)&&(oZ (a.getD 7 .none)&&(tw (a.getD 9 .none)&&oZ (a.getD 10 .none))))))
 |_=>ae
theorem EK(a:eO):EH 879 ((cM a).lookup 883)=ab:=by kernel_rfl
theorem Gb(a:eO):(md a).get 879=O (AB #[]):=by kernel_rfl
theorem wS(g:eO){h:be}(j:(cM g).In h):pM h 883 879:=by
 have b:=EK g;cases f:(cM g).lookup 883 with
 |none=>rw[f]at b;cases b
 |some J=>
  obtain⟨y,K,r,L⟩:=J;cases r with
  |fields c=>
   rw[f]at b;have b:(y==.type "code"&&(c[11]?==O (.ref 879)&&(c.getD 11 .none==.ref 879&&(tz (c.getD 18 .none)&&(oZ (c.getD 7 .none)&&(tw (c.getD 9 .none)&&oZ (c.getD 10 .none)))))))=ab:=b;simp only[fe]at b;obtain⟨z,A,B,C,D,E,F⟩:=b;have G:∀a,tz a=ab->∃e t,a=.str e t:=λa d=>by cases a<;>first|exact⟨_,_,I⟩|cases d
   have i:∀a,oZ a=ab->∃e t,a=.int e t:=λa d=>by cases a<;>first|exact⟨_,_,I⟩|cases d
   have H:∀a,tw a=ab->∃e,a=.bool e:=λa d=>by cases a<;>first|exact⟨_,I⟩|cases d
   obtain⟨k,l,s⟩:=G _ C;obtain⟨m,n,u⟩:=i _ D;obtain⟨o,w⟩:=H _ E;obtain⟨p,q,x⟩:=i _ F;exact⟨_,c,k,l,m,n,o,p,q,j _ _ f,gI z,I,gI A,gI B,s,u,w,x,by decide⟩
  |_=>rw[f]at b;cases b
section
variable{w:aO}{h base:be}{n:ac->ar ag}(P:eO)(m:(cM P).In h)(G:h.Ns kT n)
include m G
theorem jY{b:ac}{a:ag}(h:iW (cM P) 3 b=O (O a)):n b=O a:=mg_of m G h
theorem wP{c:ac}{a:Nat}(h:(c,a)∈qy):fp (cM P) (Rb.cc a)/\Rb.hJ (cM P) n c (Rb.cc a):=by have b:=hE.mp (gD P).e _ h;simp only[fe]at b;obtain⟨d,f,g,i,j,k,l⟩:=b;exact⟨⟨f,g,i,gI j⟩,⟨jY P m G (gI d),k,l⟩⟩
theorem wQ{a:Nat}(h:a∈qy.map (·.2)):fp (cM P) (Rb.cc a):=by obtain⟨⟨c,_⟩,b,rfl⟩:=bm.mp h;exact(wP P m G b).1
theorem D3{b:ac}{a:Nat}(c:a∈qy.map (·.2))(h:(a,b)∈wM):cG (cM P) (Rb.cc a) b:=
 ⟨wQ P m G c,gI (hE.mp (gD P).d (a,b) h)⟩
theorem EE{c:ac}{a:Int}(h:(c,a)∈wX):Rb.fb n c a:=by have b:tj a (iW (cM P) 3 c)=ab:=hE.mp (gD P).g (c,a) h;unfold tj at b;split at b;rename_i f e d;cases gI b;exact⟨e,jY P m G d⟩;cases b
theorem Gi{a:ac}(h:a∈w4):n a=aa:=mg_none_of m G (gI (hE.mp (gD P).h a h))
theorem Es{a:Nat}(h:Rb.vw.contains a=ab):Rb.lR (cM P) n (Rb.cP (Rb.aI a)) (Rb.aI a):=by obtain⟨c,d,f,_,g,_,b⟩:=oS P (e:=(a,aa)) (g9 _ (bm.mpr ⟨a,mG.mp h,I⟩));rw[g I]at b;exact⟨c,d,jY P m G f,b⟩
theorem Ew(b:(cM P).In base):Rb.vg (cM P) n base (Rb.cP (Rb.aI 107)) (Rb.aI 107):=by obtain⟨d,g,h,_,i,f,a⟩:=oS P (e:=(107,aa)) (g9 _ (bm.mpr ⟨107,mG.mp (by decide+kernel),I⟩));rw[i I]at a;refine⟨d,g,883,jY P m G h,a,f.symm.trans (ti P).c,?_⟩;unfold Rb.eT;exact wS P b
omit m G in
theorem Eu{a b:Nat}(h:Rb.vS.contains (a,b)=ab):∃j,Rb.ou (cM P) (Rb.cc a) (Rb.cP (ck (Rb.aI a) b)) j (ck (Rb.aI a) b):=by obtain⟨d,f,g,i,_,_,c⟩:=oS P (e:=(a,O b)) (gb _ (g9 _ (bm.mpr ⟨(a,b),mG.mp h,I⟩)));exact⟨_,d,f,g,i,c⟩
theorem h0:Rb.AY (cM P) n (Rb.cc 1):=by obtain⟨f,b,d,g,_,_,a⟩:=oS P (e:=(1,O 0)) (by decide+kernel);cases(gD P).l.symm.trans d;exact⟨28,b,_,a,⟨(gD P).i,(gD P).j,(gD P).k,a.b⟩,jY P m G (gD P).c⟩
theorem h4{p:ac}{c:Nat}(h:(p,c)∈qK)(t:(c,O 0)∈oT)(r:Rb.cP (ck (Rb.aI c) 0)="__init__"):Rb.AZ (cM P) n (Rb.cc 1) p (ck (Rb.aI c) 0):=by
 obtain⟨j,k,e,s,_,_,d⟩:=oS P t;have d:jo (cM P) (Rb.cP (ck (Rb.aI c) 0)) _ _ j k:=d;have e:eb (cM P) (.ref (Rb.cc c)) (Rb.cP (ck (Rb.aI c) 0))=_:=e;rw[r]at d e;have l:=hE.mp (gD P).b _ h;simp only[fe]at l;obtain⟨u,B,g,w,x,y,z,A⟩:=l;have f:=yZ.mp (gD P).o _ h;refine⟨Rb.cc c,j,k,_,jY P m G (gI u),⟨?_,gI w,gI x,gI y,z⟩,gI A,gI B,e,s,d⟩;have f:(cM P).lookup (Rb.cc c)=((cM P).lookup (Rb.cc c)).map (wV (Rb.cc c)):=f;cases i:(cM P).lookup (Rb.cc c)with
 |none=>rw[i]at g;cases g
 |some C=>
  obtain⟨E,F,q,H⟩:=C;cases q with|cls D=>rw[i,lF]at f;exact⟨_,_,_,_,_,_,_,_,_,_,_,_,_,_,_,f,.a .b⟩|_=>rw[i]at g;cases g
omit m G in
theorem w0{a:aR}{b:ac}(h:mf a b=ab):iW a 3 b=O (O (.ref (lh a b)))/\(lh a b==hd)=ae:=by unfold mf at h;unfold lh;split at h;rename_i d c;rw[c];exact⟨I,by simpa using h⟩;cases h
omit m G in
theorem s_{b:bd}{w:aO}{e:aR}:∀{c:V (Int×ac)}{t:Nat},(c.all λa=>rU a.1==a.1)=ab->
  (∀d∈qB e t c,∃g,(dW b w).is g d.key=ab/\d.hash=(dW b w).hash g)/\Pairs (dW b w) (qB e t c) ((c.map λa=>(a.1,lh e a.2)).map λb=>((bb b.1:aU),b9 b.2))
 |[],_,_=>⟨λ_ h=>(nomatch h),.nil⟩
 |a::k,t,h=>by have h:=qv.mp (show(rU a.1==a.1&&k.all λa=>rU a.1==a.1)=ab from h);obtain⟨i,j⟩:=s_ (t:=t+1) h.2;refine⟨λd f=>?_,.cons (t2 b w _ _) I j⟩;rcases bW.mp f with rfl|f;exact⟨.inl a.1,t2 b w _ _,(gI h.1).symm⟩;exact i d f
omit m G in
theorem w5{b:aR}(h:∀{a:ac}{i:ag},iW b 3 a=O (O i)->n a=O i):∀{e:V (Int×ac)},(e.all λa=>mf b a.2)=ab->kd (λ(c:Int×Y)(f:Int×ac)=>c.1=f.1/\n f.2=O (.ref c.2)) (e.map λg=>(g.1,lh b g.2)) e
 |[],_=>.nil
 |c::j,d=>by have d:=qv.mp (show(mf b c.2&&j.all λa=>mf b a.2)=ab from d);exact .cons ⟨I,h (w0 d.1).1⟩ (w5 h d.2)
theorem qC{p:bd}(q:Nat){d:ac}{c:V (Int×ac)}(g:(d,q,c)∈qA)(e:(c.all λb=>rU b.1==b.1)=ab)(o:(c.map (·.1)).Nodup):Rb.m4 p w (cM P) n d c:=by have i:=qv.mp (hE.mp (gD P).f _ g);have j:=w0 i.1;refine⟨_,_,c.map λb=>(b.1,lh (cM P) b.2),jY P m G j.1,j.2,yZ.mp (gD P).a _ g,λh b=>⟨_,_,_,b,⟨I,I,I⟩,I,λd l=>(s_ e).1 d (by simpa using l),(s_ e).2,?_⟩,by rw[bz];rfl,?_⟩;have k:((c.map (·.1)).map (bb (β:=ac))).Nodup:=o.map _ λr s h b=>h (jQ b);rw[bz]at k;rw[bz,bz];exact k;exact w5 (λh=>jY P m G h) i.2
theorem Gg(b:(cM P).In base):Rb.r4 du w (cM P) n base where
 toL1:=by
  constructor;all_goals first
   |exact(wP P m G (by decide+kernel)).2
   |exact wQ P m G (by decide+kernel)
   |exact EE P m G (by decide+kernel)
   |exact Gi P m G (by decide+kernel)
   |(constructor<;>exact D3 P m G (by decide+kernel) (by decide+kernel))
 a:=λ_ h=>Es P m G h
 f:=λ_ _ h=>Eu P h
 za:=Ew P m G b
 zc:=⟨4,_,jY P m G (gD P).m,by decide,by decide,b _ _ (gD P).n,I,I,I⟩
 zb:=jY P m G (gD P).c
 L:=qC P m G 1287 (by decide+kernel) (by decide+kernel) (by decide+kernel)
 N:=qC P m G 2040 (by decide+kernel) (by decide+kernel) (by decide+kernel)
 M:=qC P m G 1841 (by decide+kernel) (by decide+kernel) (by decide+kernel)
 X:=qC P m G 1911 (by decide+kernel) (by decide+kernel) (by decide+kernel)
 B:=Rb.iB 2 (h0 P m G) (h4 P m G (by decide+kernel) (by decide+kernel) I)
 A:=Rb.iB 3 (h0 P m G) (h4 P m G (by decide+kernel) (by decide+kernel) I)
 C:=Rb.iB 4 (h0 P m G) (h4 P m G (by decide+kernel) (by decide+kernel) I)
 zd:=Rb.iB 5 (h0 P m G) (h4 P m G (by decide+kernel) (by decide+kernel) I)
 ze:=Rb.iB 6 (h0 P m G) (h4 P m G (by decide+kernel) (by decide+kernel) I)
 zk:=Rb.iB 7 (h0 P m G) (h4 P m G (by decide+kernel) (by decide+kernel) I)
 zj:=Rb.iB 8 (h0 P m G) (h4 P m G (by decide+kernel) (by decide+kernel) I)
 zg:=Rb.iB 9 (h0 P m G) (h4 P m G (by decide+kernel) (by decide+kernel) I)
 zl:=Rb.iB 10 (h0 P m G) (h4 P m G (by decide+kernel) (by decide+kernel) I)
 zf:=Rb.iB 11 (h0 P m G) (h4 P m G (by decide+kernel) (by decide+kernel) I)
 Q:=Rb.iB 12 (h0 P m G) (h4 P m G (by decide+kernel) (by decide+kernel) I)
 zi:=Rb.iB 13 (h0 P m G) (h4 P m G (by decide+kernel) (by decide+kernel) I)
 zh:=Rb.iB 14 (h0 P m G) (h4 P m G (by decide+kernel) (by decide+kernel) I)
theorem Gh(a:(cM P).In base):Rb.hL du w (cM P) n base fo 15 (Rb.cP (Rb.aI 168)) (Rb.dR (Rb.aI 168)) Rb.qj:=Rb.L8 (λ_=>Rb.O0) (Gg P m G a)
end
theorem E6(a:eO):((cM a).all λb=>!(b.2.cls==.type "list"))=ab:=by kernel_rfl
theorem E7:oR.contains 879=ae:=by decide+kernel
theorem w1{c:aR}{b:Y}{d:aF}:c.lookup b=O d->(b,d)∈c:=by
 induction c with
 |nil=>intro a;cases a
 |cons i k h=>
  obtain⟨e,j⟩:=i;intro a;rw[ii]at a;by_cases f:b=e;subst f;rw[beq_self_eq_true]at a;have a:j=d:=bA a;subst a;exact cr;have g:(b==e)=ae:=by simp[f]
  rw[g]at a;exact cJ _ (h a)
theorem D7{b:V WData}(h:f6.pre b=ab):∃a:V Int,b=[.list (a.map uT)]/\a.length<=16000/\r3 a=ab/\f6.post b (.list ((kX a).map uT))=ab:=by obtain⟨d,c,i⟩:=os_pre_some h;obtain⟨e,f⟩:=Codec.encAll_of_decAll _ _ _ c;obtain⟨a,j⟩:=d;refine⟨a,e,?_,i,os_post c (same_self _)⟩;have g:KW 0 16000 a=ab:=(KU (KU (show((KW 0 16000 a&&List.all a (Codec.inInt (Int.negSucc 999999999999999999) (Gk 1000000000000000000)))&&ab)=ab from f)).1).1;exact(Codec.inNat_iff.mp g).2
theorem w6{d:WRecords}{g:ac->ar Y}{h:be}:∀{a:V Int}{c:V ag},bR (a.map ah.a) c->ReadsAllW d g h c (a.map uT) []
 |[],_,b=>by cases b;exact .nil
 |n::a,_,b=>by
  cases b with|cons e f=>obtain⟨t,rfl⟩:=e;exact .cons (as:=[]) (bs:=[]) (.int n t) (w6 f)
theorem Gf:WalkOS (hz du) (jX du) (λ_ _=>True) s8 f6 kx [] λzc q=>e' zc q:=by
 intro w Ze k H zJ B za zs h Zd zY z0 zZ Za z7 z4 z3 z2 F zz zW zT zX zF z5 z8 zI z6;obtain⟨p,rfl,zB,zx,zE⟩:=D7 zF;obtain⟨f,q,rfl,o,zA⟩:∃f q,zT=[b9 f]/\k.heap.get? f=O {cls:=.type "list",data:=.seq q.toArray}/\il q p:=by
  cases zI with
  |cons zU zV=>
   cases zV;cases zU with|list j zw=>exact⟨_,_,I,j,Att.DJ p _ zw⟩
 have s:(cM w.params).In k.heap:=DZ w.params za;have ze:k.heap.Ns kT H:=B.T.g;have zP:=yx zA;have G:k.heap.get? 879=O (AB #[]):=za _ _ (abs_get (t:=md w.params) (n:=1398) (life:={}) (by decide) (Gb w.params));have zf:∀c h,(cM w.params).lookup c=O h->c≠f/\c≠879:=λc h d=>by refine⟨λi=>?_,λi=>?_⟩;have j:=s c h d;rw[i,o]at j;cases j;have m:=hE.mp (E6 w.params) _ (w1 d);cases m;have j:=w1 d;obtain⟨P,z,x⟩:=bm.mp j;have zr:P=c:=cb rz x;have zd:oR.contains 879=ab:=mG.mpr (by rw[<-i,<-zr];exact z);rw[E7]at zd;cases zd
 have zb:f≠879:=λi=>by rw[i,G]at o;cases o
 let J:aF:={cls:=.type "list",data:=.seq q.toArray}
 let l:af:=λc=>if c=f then O (.e J (.a (p.map ah.a)))else if c=879 then O (.g #[])else aa
 have M:l f=O (.e J (.a (p.map ah.a))):=ay I;have N:l 879=O (.g #[]):=(aw (df zb)).trans (ay I);have C:∀c,c≠f->c≠879->l c=aa:=λc j m=>(aw j).trans (aw m);have zj:∀c A,l c=O A->c=f\/c=879:=λc A d=>by by_cases j:c=f;exact .inl j;by_cases m:c=879;exact .inr m;rw[C c j m]at d;cases d
 have zD:ek du w l k.heap:=λc A d=>by rcases zj c A d with i|i;subst i;rw[M]at d;cases d;refine⟨o,?_,q,0,zP,o⟩;rw[an,bn];omega;subst i;rw[N]at d;cases d;exact G
 have zL:∀{c:Y}{h:aF}{E:Array gi}{D:Nat},k.heap.get? c=O h->h.data=.dict E D->l c=aa:=λ{c h E D} d u=>by refine C c (λi=>?_) (λi=>?_);rw[i,o]at d;cases d;cases u;rw[i,G]at d;cases d;cases u
 have S:∀{c:Y}{R:ac->ar ag},k.heap.Ns c R->(lt k.heap l).Ns c R:=λ{c R} ⟨h,E,D,d,u,T⟩=>⟨h,E,D,xM d (zL d u),u,T⟩;have X:(cM w.params).In (lt k.heap l):=λc h d=>xM (s c h d) (C c (zf c h d).1 (zf c h d).2);have zv:qR (cM w.params) H (lt k.heap l):=⟨X,S ze,⟨zJ,S B.T.b,B.T.builtins⟩,let⟨zK,j,m⟩:=B.T.nolimit;⟨zK,S j,m⟩⟩;have zq:lk du w (cM w.params) H (lt k.heap l) callerA [] k l:=⟨I,zv,λc h d=>Ho d,ry (GX _ _),trivial,λc zy=>a7 (show c∈([]:V Y)from zy) (by simp),zD,.of_eq zz⟩;obtain⟨zc,z1,zC,Zb,zl,zi⟩:=Gh (w:=w) w.params s ze X;have F:H (Rb.cP (Rb.aI 168))=O (.ref zs):=F;rw[zC]at F;cases F;have zu:am l ([(f,.e J (.a (Rb.bg p)))]::[(879,.g #[])]::[]):=⟨λP z=>by
  rcases bW.mp (show P∈(f,_)::(879,_)::[]from z)with rfl|z;exact M;rw[dZ.mp z];exact N,by
  show([f,879]:V Nat).Nodup;simp[zb]⟩
 have zS:Rb.eB Rb.eT Rb.fD Rb.fl [(879,.g #[])]:=by unfold Rb.eT;exact .b #[] trivial I
 refine enter_call (og (zi.a callerA [] k l ⟨[.ref f],[]⟩ [.ref f] [.b f] (λzh L=>∃r,zh=.b r/\L r=O (.a (Rb.bg (kX p)))) (λ_ _ _=>False) ⟨I,by decide,by decide⟩ zq (zl k [.ref f] s I) (.cons I .nil) ⟨f,J,p,[(879,.g #[])],[],I,zu,zS,zx,zB,λr L d=>⟨r,I,d⟩⟩) λT zR y=>?_);cases T with
 |error d=>exact eW y
 |ok zt=>
  cases zt with
  |next=>exact eW y
  |brk=>exact eW y
  |cont=>exact eW y
  |ret A=>
   obtain⟨zh,L,zN,zk,K,Q,zO,r,rfl,zH⟩:=y;cases zO;obtain⟨_,z9,n,zQ,zG⟩:=Q r _ zH;refine⟨.inl ⟨_,_,_,I,λ_=>I,.list zG I I (w6 zQ),zE,λi=>by cases i⟩,⟨λc h d=>?_,λc h d=>K.e c h d (by simp)⟩,zN,zk⟩;have zM:c∉fr ([]:V cS):=by intro i;exact a7 (show c∈([]:V Y)from i) (by simp)
   by_cases j:c=f;subst j;have U:=K.d c _ _ M;obtain⟨x,_⟩:=Q c _ U;rw[o]at d;cases d;exact .inl x;by_cases m:c=879;subst m;obtain⟨zg,U⟩:=K.g 879 _ N;have x:zR.heap.get? 879=O {cls:=.none,data:=.fields (#[]++zg)}:=Q 879 _ U;rw[G]at d;cases d;obtain⟨Zc,Zf,_,_,_,_,_,_,_,zm,zn,zo,zp,_⟩:=wS w.params s;exact .inr (.inl ⟨⟨_,_,_,zm,zn,zo,zp⟩,I,_,zg,I,x⟩);exact .inl (K.c c h d (C c j m) zM (by simp))
end Hd
theorem PySem.Challenge.cw_recordbooks_s01_answers_holds : PySem.Challenge.rw_recordbooks_s01_answers.Holds :=
 Hd.EB Hd.Gf
