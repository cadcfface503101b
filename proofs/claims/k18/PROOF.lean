import PyProof.Rows.All
import Wide.All
import OpenK.AllK
import Wide.FinOn
import Lean
import PyProof.EqAt
import PyProof.EqKinds
import PyProof.TupleCall
import PyProof.NeKinds
import KE.KSortTup
import PySem.Challenge.RW_surecall_k18_whole_runs_stay_within
set_option genSizeOf false
set_option bootstrap.genMatcherCode false
set_option compiler.extract_closed false
set_option compiler.reuse false
theorem V9(h:True:=by rfl):True:=h
def X8:=V9._auto_1
theorem V8(h:True:=by decide):True:=h
def X7:=V8._auto_1
theorem V7(h:True:=by rfl'):True:=h
def X6:=V7._auto_1
theorem V6(h:True:=by intro _;rfl):True:=h
def X5:=V6._auto_1
theorem V5(h:True:=by first | exact .inl rfl | exact .inr rfl | assumption):True:=h
def X4:=V5._auto_1
theorem V4(h:True:=by exact λ_ _=>U):True:=h
def X3:=V4._auto_1
open _root_ renaming autoParam->X9
theorem U{b:Sort _}{a:b}:a=a:=rfl
local macro_rules(kind:=«term{_}»)|`({$xs,*})=>do
 let l<-`(_)
 let r<-`(rfl)
 let y:=xs.getElems.flatMap λx=>if x.raw.isNatLit?==some 6 then#[l,r]else#[x]
 `(⟨$y,*⟩)
local macro_rules|`($a\$b)=>`($a=some $b)
local macro_rules|`(∅)=>`(by lia)
local macro_rules|`($x⁻¹)=>`(($x).heap.objs.size)
local macro_rules|`(↑$x)=>`(($x).length)
set_option hygiene false in
local macro_rules|`(⇑@$x<|$a)=>`(bC $x hr rfl $a)
set_option hygiene false in
local macro_rules|`(⇑$n:num)=>`(pv $n)|`(⇑?_)=>`(λcdv A outer s H vs Q E hr h=>?_)|`(⇑_)=>`(by trivial)|`(⇑[$x])=>`(by simpa using $x)|`(⇑[])=>`(Qx prog w)|`(⇑{$x})=>`(Qx ($x).prog ($x).w)
set_option hygiene false in
local macro_rules|`(↥?_)=>`(by decide)|`(↥_)=>`(by simp)|`(↥[[$p]])=>`(aR Y.pr Y.w Y.K mg base bT (k+1) f fd $p)|`(↥$p)=>`(aR P w K mg base bT (k+1) f fd $p)
local macro_rules|`(tactic|exists $es,*)=>`(tactic|refine{$es,*, ?_})
set_option maxHeartbeats 8000000
local macro_rules|`(tactic|rfl')=>`(tactic|decide +kernel)
abbrev Fq:=PySem.W.Frag
abbrev Vp:=PySem.Value->PySem.Shared->Prop
set_option Elab.async false
set_option linter.all false
set_option cleanup.letToHave false
set_option hygiene false in
local macro_rules(kind:=Lean.Parser.Tactic.obtain)|s=>if s[1][0][0][0][1].getNumArgs>1&&s[2].getNumArgs==0 then`(tactic|(refine no_implicit_lambda%(let Γ:Prop:=_;(?_:Γ));rcases $(⟨s[3][1][0]⟩):term with $(⟨.node .none `Lean.Parser.Tactic.rcasesPatLo #[s[1][0],.node .none `null #[]]⟩);all_goals unfold Γ;clear Γ))else Lean.Macro.throwUnsupported
set_option hygiene false in
local macro_rules(kind:=Lean.Parser.Tactic.rintro)|s=>do
 let a:=s[1].getArgs
 let p:=a.back![0]
 if p[1].getNumArgs>1 then
  let r<-`(tactic|(intro h;refine no_implicit_lambda%(let Γ:Prop:=_;(?_:Γ));rcases h with $(⟨.node .none `Lean.Parser.Tactic.rcasesPatLo #[.node .none `Lean.Parser.Tactic.rcasesPatMed #[.node .none `null #[p]],.node .none `null #[]]⟩);all_goals unfold Γ;clear Γ))
  if a.size<2 then pure r else`(tactic|($(⟨s.setArg 1 (.node .none `null a.pop)⟩);$r))
 else Lean.Macro.throwUnsupported
set_option maxRecDepth 100000
open List renaming not_mem_nil->aN,getElem?_eq_getElem->bM,length_append->bK,getElem?_eq_some_iff->vh2,getElem?_map->bP,map_append->bU,take_of_length_le->cW,mem_cons->vj0,mem_singleton->vj1,mem_map->vj2,length_cons->cK,mem_of_getElem?->dM,mem_append->vj7,take_add_one->dE,size_toArray->dN,length_take->dR,append_assoc->dY,length_singleton->fI,getD_eq_getElem?_getD->hJ,append_nil->eA,map_cons->eE,getElem_mem->fP,mem_iff_getElem?->vn2,nodup_cons->vn3,forall_mem_cons->vn4,getElem?_append_right->kU,mem_cons_of_mem->jD,mem_append_right->jE,length_filter_le->jJ,getElem?_append_left->nV,mem_of_find?_eq_some->oE,mem_filter->vq0,length_zipIdx->kD,length_nil->iX,mem_of_mem_take->lT,map_map->gU,length_reverse->lZ,mem_append_left->nC,map_congr_left->nL,all_eq_true->vr8,drop_eq_getElem_cons->uM,getElem_of_mem->pI,getElem?_eq_none->tD,length_drop->nM,nodup_nil->lO,sum_cons->lQ,flatMap_append->sW,take_append_drop->vS,find?_cons->oA,filter_nil->nW,mem_cons_self->wL,mem_reverse->vx4,filter_cons_of_neg->IA,filter_cons_of_pos->BN,any_eq_true->ub1,mem_flatMap->ub3,perm_append_comm->ub7,find?_eq_none->ub8,filter_append->zO,getElem?_zip_eq_some->JF,mem_or_eq_of_mem_set->LO,mem_of_mem_drop->FJ,of_mem_zip->xO,reverse_cons->zT,foldl_cons->uF,foldl_append->yK,find?_some->uT,length_map->yB,flatMap_cons->zJ,replicate_succ->FU,length_eq_zero_iff->ud5,forIn_cons->yH,length_zip->zN,map_take->xL,lookup_cons->FF,map_reverse->GH,filterMap_cons->JG,reverse_append->KD,length_pos_iff->uh2,findSome?_cons->II,getElem?_take_of_lt->ML,any_cons->yR,getElem?_cons_zero->PX,flatten_cons->LV,nodup_append->uk4,map_drop->FX,replicate->Rj,length->Rk,lookup->Tc,range->Tg,range'_succ->Ue,getElem_inj->Uf,getElem?_reverse->Ur,reverse_reverse->Ux,range'->Uy,mem_range->Uz,getElem?_zipIdx->Va,forIn_nil->Vb,map_inj_right->Vl,take_sublist->Vu,getElem_take->Vv,ext_getElem?->Vw,eraseIdx_eq_take_drop_succ->Wc,eraseIdxIfInBounds_toArray->We,zip_toArray->Wl,zipIdx_cons->Wm,cons_append->Wp,nil_append->Wu,take_zero->Xi,getLast?_eq_getElem?->Xp,all_cons->Xy,map_nil->Yd,getElem?_set_self->Ye,findSome?_append->Yq,filterMap_append->Yr,getElem?_set_ne->Yw,filter_sublist->Zi,forIn_toArray->Zu,foldl->Zv,filterMap_map->Zw,length_range->A9,getElem?_inj->B0,find?_append->B1,filter_congr->B2,suffix_refl->C0,perm_middle->C2,drop_length->C3,zipIdx_nil->E2,range_succ->E3,drop_drop->F1,take_nil->G9,extract->K7,map_id->M5,zip->P5,set->P6,map->P7
open PySem renaming wpAny_bind->aC,wpAny_pure->aZ,wpAny_callSpecial?_slot->kB,wpAny_call_entry->iD,wpAny_holding->gQ,wpAny_field->fQ,wpAny_newObj_type->jP,boot_len->iP,builtinLookup_eq_fast->pY,wpAny_setField_rec->oG,wpAny_seqItems->lX,wpAny_mono->jG,wpAny_rule->jI,mem_of_lookup->uK,wpAny_Call_method->rK,wpAny_dictEntries->sJ,wpAny_attempt->nD,wpAny_specialOf->oO,typeLookup_type->pV,wpAny_pyIter_tuple->uE,tupleKind_room_in1->xS,sizeLine_eq->kZ,wpAny_typeNameOfWhole_keyiter->LB,wpAny_isInstance->vP,wpAny_Call_Name_kw->zG,call_meetsIn->nR,wpAny_passesOwn->uA,wpAny_loadPart'->DK,codeAny_builtin->zV,wpAny_notOrdered_dict->KU,wpAny_truthy_bool->CW,isSubtype_type->yN,wpAny_typeOf->uG,wpAny_standAt->AC,wpAny_dictEpoch->BG,size_of_entries->CS,call_meets->rZ,isSubtype_stop->BL,plainId_quiet->FA,Addr->eH,Value->iH,Str->zZ,Shared->Pw,Builtin->Px,Program->Py,Heap->Qa,World->Qb,Expr->Qc,Stmt->Qd,NameKind->Qe,Around->Qf,Obj->Qg,FuncData->Qh,wpAny->Qw,model->Qx,mainGlobals->Re,sysModules->Rh,pyNext->Rq,IsPair->Ru,compareOp->Sj,foldedSetIterable->Sq,bootBuiltins->Ss,behindInMarks->Ta,sliceBounds->Te,binaryOp->Tf,attributeBase->Th,letOwnedTupleGo->Tj,codeAny->Tk,firstArgMember->Tn,typeLookup->Ts,swapsWith->Tt,field->Tv,getItem->Tx,DictEntry->Ua,getattributeRaised->Ub,Pos->Ud,Spec->Ug,ZipApart->Us,IsZip->Uu,assignEach->Vc,Keyword->Ve,wpAny_ite_split->Vf,wpAny_execs_nil->Vg,Within->Vm,IsPart->Vr,seqIndex?->Vt,atKey->Wj,standAt->Ww,callerA->Wx,Sem->Xg,pyIter->Xk,IsEnum->Xq,unsupported->Xt,typeIs_none->Xu,subscripted->Xv,IsRangeIter->Xz,Env->Yg,BindsTo->Yi,getAttr?->Yj,entryOfKey->Yk,closureFor->Yl,evalArgs_none->Yu,wpAny_getItem_list_slice->Yz,wpAny_comprehension_free->Za,evalPart_none->Zb,dictSetHashed->Zc,assignInOrder->Zd,call->Ze,wpAny_pyNext_tuple_item->Zk,updateSeq->Zl,slicePick->Zm,bindL->Zn,bindC->Zo,wpAny_pyNext_tuple_end->Zx,wpAny_pyNext_range_end->Zy,wpAny_pyNext_list_item->Zz,wpAny_pyIter_rangeiter->A0,newExc->A3,meets_dict_get_default->A4,callType_new->A5,wpAny_pyNext_list_end->B6,wpAny_isTrue_Compare1->B7,wpAny_pyIter_keyiter->C8,storedH_old->C9,storedH_new->D0,seqIndex_of->D3,newTuple->D4,entryFor->D5,compTurn->D6,bindName->D7,bindArgs->D8,backToKw->D9,KeyKind->E6,wpAny_pyIter_range->F6,wpAny_getItem_heap->F7,wpAny_Name->F8,typeIs_str->F9,typeIs_int->G0,sub_AttributeError->G3,builtinsNs->G6,wpAny_pyIter_slot->J2,wpAny_pyIter_enum->J3,wpAny_assign_Name->J4,relabel->J6,collect->J7,Model->K6,wpAny_getItem_of->L4,wpAny_forIn_list->L5,wpAny_execs_cons->L6,wpAny_Dict_empty->L7,noFill_tuple_add->L8,entryFor_of_tree->L9,cellsFrom->M3,theTreesLotGoes->M9,Fin->N1,wpAny_Compare1->N5,table->N7,meets_dict_get->O1,fitsIndex_both->O2,callType_codes->O4,argsOk->O5,Result->O7,Params->O8,Operator->O9,swapsWithSole->P0,swappedStores->P1,signature?_of->P3,seq_tuple_add->P4,spliced->P9,setItem->Q0,operate->Q4,getAttr->Q7,concat_meets->Q9,Tok->R3
open PySem.Heap renaming get?_push_of_some->cB,get?_push_size->dQ,lt_size->cI,get?_update_self->tJ,size_push->pS,get?_update_other->AY,SameBut->Rf,ExtBut->Tq,IsListIter->Wv,IsTuple->Yf,get?_push_ne->B4,size_update->C4,update->M7
open Nat renaming le_refl->aV,le_of_lt->cQ,zero_le->cE,ne_of_lt->dB,lt_of_lt_of_le->jA,le_trans->fM,ne_of_gt->kC,lt_of_succ_lt->rS,zero_add->lW,le_succ->lA,lt_irrefl->nU,lt_or_ge->nN,lt_succ_self->wN,min_eq_left->zB,le_add_right->BQ,sub_self->xY,add_sub_cancel->JI,recAux->Ul,lt_trans->Um,lt_of_le_of_lt->Vo,lt_succ_of_lt->Wb,succ_mul->Yn,le_of_eq->Yo,add_comm->Yp,mul_le_mul_left->Zt,lt_or_eq_of_le->A8,lt_succ_of_le->B9,le_of_not_lt->E1,strongRecOn->E8,not_lt_zero->E9,mul_le_mul->G8,sub_zero->M4
open Option renaming map_eq_some_iff->vh8,isSome_iff_exists->uh4,some->Qp,none->Qq,getD_none->Tz,map_some->Uh,isSome_map->Vk,map_map->Wt,getD_some->Zs
open Bool renaming false_ne_true->eJ,false_eq_true->oI,and_eq_true->qT,eq_iff_iff->rR,true->Qr,false->Qs,false_xor->F4,and_false->F5,or_false->J1
open PySem.F renaming plainAttrs_list->fU,slot_list_append->hH,type_list_append->hX,slot_dict_get->oK,plainAttrs_dict->rQ,slot_dict_keyiterator_next->vt9,entry_dict_get->zD,slot_zip_next->rN,slot_NoneType_hash->vz7,slot_tuple_iterator_next->JS,type_dict_get->KJ,slot_tuple_getitem->uf8,slot_dict_getitem->ug1,slot_tuple_getattribute->ug2,plain_extend_loop->IH,slot_list_getattribute->uh7,slot_list_extend->PF,type_list_extend->MR,args_dict_get_2->QU,args_dict_get_3->NN,args_zip_next_1->JW,entry_zip_next->Uo,slot_dict_setdefault->Wa,slot_enumerate_next->Wk,type_dict_update->Wy,slot_tuple_index->Wz,slot_dict_values->Xa,slot_dict_update->Xb,args_tuple_add_2->Xc,slot_dict_iter->Xd,args_dict_keyiterator_next_1->Xe,entry_tuple_add->Xh,entry_dict_keyiterator_next->Xj,slot_tuple_add->Xo,args_tuple_iterator_next_1->Xs,type_list_pop->Xw,slot_list_pop->Xx,entry_tuple_iterator_next->Ya,args_dict_update_2->B5,entry_extend_loop->C5,entry_dict_update->C6,slot_dict_update->E4,plain_list_iadd->F3,entry_list_pop->I0,slot_list_pop->K8,slot_int_rmul->K9,slot_dict_len->L0
open PyProof.Rows renaming wpS_bind->bO,wpS_pure->bV,callWith_type1->sK,slot_tuple_getitem->vr9,wpS_forRange->iW,wpS_mono->kY,wpS_modify->wQ,wpS_get->mQ,SortSt->Rg,pendingOf->Si,pairsOf->Ti,failedOf->To,SortKind->Tp,wpS->Vh,IsTup->Vq,AllBare->Vx,subscriptTail->Wh,sortedS->Wr,Subscript_->Ym,Constant_none->Zj,subscriptTail_builtinR->A1,IntsAre->B3,entry_tuple_getitem->E5,size_push'->G5,tuples'->J5,assignInOrder_nil->J8,Call_->L3,entry_list_sort->N0,tail_any->N6,sortedHeap_old->N8,slot_list_sort->N9,mergeAt'->O0,elem'_eq->O3,sortedHeap_at->P2,zipApart_new->P8,plain_sorted->Q2,pairsOf_size->Q3,minRun'_succ->Q5,isTrue_plain->Q6,entry_sorted->Q8,args_sorted1->R0,StrsAre->R5
open PySem.PassesOwn renaming never->eN
open Array renaming length_toList->iK,toList_append->kO,getElem?_toList->xK,size_append->sD,getElem?_eq_none->DM,perm_iff_toList_perm->vz9,getElem?_eq_getElem->ID,toList_push->BH,toList_reverse->JQ,toList->Yc,toList_extract->Ys,toArray_toList->Yt,size_push->C7
open Ne renaming symm->cJ
open True renaming intro->fG
open Option.some renaming inj->iZ,injEq->Ut
open PySem.Calls renaming callWith_builtin->oB,spliced_cons->lY,evalArgs_plain->qY,spliced_nil->pQ,call_function_entry->QG,Name_function_global->Xf
open Int renaming toNat_natCast->rD,emod_lt_of_pos->zI,emod_nonneg->yU,ediv_one->Wg,natCast_add->F2,zero_add->M6,le_refl->N3
open PySem.W renaming mg_of->nF,emptyDict->Ro,nsIn->Rt,instObj->Rv,fnOf->Sk,keepIn->Sm,findIn->Sn,codeIn->Uk,callWith_K->Vd,methodObj->Vi,hasDictIn->Vj,plainGet->Vn,takerIn->Vy,OpenLaw->Vz,lookIn->Wq,cellsFrom_some->Xn,plainOver->Yv,kdl_dict->Zf,kat_cons->Zg,handedIn->Zh,makesIn->Zq,kat_yes->Zr,kat_no->A6,KdlSrc->A7,WalkO->B8,WData->O6
open PySem.Around renaming under_plainId->yZ,under->Yb
open PySem.Heap.SameBut renaming update->zH,refl->Xr
open List.Perm renaming append_left->FQ
open Sum.inr renaming inj->oT
open List.cons renaming inj->zL
open Or renaming inl->iO,inr->jH
open Prod renaming ext->pO
open _root_ renaming List->Qi,Option->Qj,Nat->Qk,Int->Ql,Bool->Qm,False->Qn,Array->Qo
open Sum renaming inr->Qt,inl->Qu
open ForInStep renaming yield->Qv,done->Rr
open PySem.Value renaming ref->Qy,none->Rm,str->Tu,type->Uq,int->Xl
open PySem.SeqAt renaming EqAt->Qz
open PySem.Builtin.SmallTypes renaming ownedTupleIsFree->Rb,nextOf->Rc,ownedTupleHandOut->N4
open PySem.NameKind renaming free->Ri
open PySem.Txt renaming slice->Rl
open False renaming elim->Sl
open PySem.PyData renaming keyHash->Sr
open PySem.Str renaming ofString->Su,empty->Xm
open PySem.Obj renaming mapSeq->Td
open PySem.Builtin.Range renaming rangeSize->Tl
open PySem.Builtin.List renaming listExtendWith->Tw,listTooLong->Uj
open PySem.Builtin.Slice renaming slicePlaces->Uc,sliceAdjust->Yh
open PySem.Builtin.Tuple renaming tupleExact->Ui
open PySem.Builtin.Dict renaming updateFrom->Uv,showsAll->Vs,selfAndRest->Yx,addKeywords->Yy
open Std.Legacy renaming Range->Uw
open Std.Legacy.Range renaming forIn_eq_forIn_range'->Zp
open PUnit renaming unit->E7
open PySem.Shared renaming heap->J9
open Nat.succ renaming inj->K0
open PySem.Data renaming cell->M8
def dH:=@of_decide_eq_true
def cN:=@decide_eq_true
def bA:=@if_neg
def fE:=@decide_eq_false
def bG:=@if_pos
def cP:=@congrArg
def eC:=@or_false
def vv3:=@beq_eq_false_iff_ne
def iF:=@if_false
def DW:=@decide_eq_true_iff
def gI:=@not_or
def uk0:=@beq_iff_eq
def aF{a b:Type _}{f:a->b}{l:List a}:↑(l.map f)=↑l:=by simp
section
set_option autoImplicit true
set_option relaxedAutoImplicit true
abbrev Z0:=zZ->Qj zZ->Prop
abbrev Z1:=Qi (eH×Qg)
abbrev Z2:=Qi zZ
abbrev Z3:=Qi eH
section
local macro_rules(kind:=Lean.Parser.Command.declaration)|s=>if s.getPos?.isSome then pure<|Id.run<|s.rewriteBottomUp λx=>match x with|.node _ k a=>.node .none k a|.atom _ v=>.atom .none v|.ident _ r v p=>.ident .none r v p|x=>x else Lean.Macro.throwUnsupported
namespace L2
open PySem PySem.Spec PyProof.Rows
variable{prog:Py}{w:Qb}{A:Qf}{E:Vp}{s:Pw}
variable{X:Cx}
abbrev aK:=Sum Ql zZ
def lK:aK->iH->Qm
 | .inl k,v=>iH.isInt k v
 | .inr x,v=>iH.isStrOf x v
def DD(w:Qb):aK->Ql
 | .inl k=>hashInt k
 | .inr x=>hashStr w x
def kK:∀{k:aK}{v:iH},lK k v=Qr->(∃i t,k=Qu i/\v=Xl i t)\/(∃x t,k=Qt x/\v=Tu x t)
 | .inl i,v,h=>by
  obtain⟨t,e⟩:=iH.isInt_shape (k:=i) (v:=v) h;exact .inl ⟨i,t,rfl,e⟩
 | .inr x,v,h=>by
  obtain⟨t,e⟩:=iH.isStrOf_shape (x:=x) (v:=v) h;exact .inr ⟨x,t,rfl,e⟩
def Mj(i:Ql)(t:R3):lK (.inl i) (.int i t)=true:=by simp[lK,iH.isInt]
def RT(x:zZ)(t:R3):lK (.inr x) (.str x t)=true:=by simp[lK,iH.isStrOf]
def tV(a b:Ql):decide ((Qu a:aK)=Qu b)=(a == b):=by
 by_cases e:a=b
 .subst e;simp
 .have h:¬(Qu a:aK)=Qu b:=λq=>e<|Qu.inj q;rw[fE h];exact(vv3.mpr e).symm
def vE(a b:zZ):decide ((Qt a:aK)=Qt b)=decide (a=b):=by
 by_cases e:a=b
 .subst e;simp
 .have h:¬(Qt a:aK)=Qt b:=λq=>e<|oT q;rw[fE h,fE e]
def vQ(a:Ql)(b:zZ):decide ((Qu a:aK)=Qt b)=false:=fE λq=>nomatch q
def tQ(a:zZ)(b:Ql):decide ((Qt a:aK)=Qu b)=false:=fE λq=>nomatch q
def cR(prog:Py)(w:Qb):E6 prog w aK where
 is:=lK
 hash:=DD w
 inj:=λv a b l f=>by
  obtain⟨i,t,rfl,rfl⟩|⟨x,t,rfl,rfl⟩:=kK l
  .obtain⟨j,u,rfl,e⟩|⟨y,u,rfl,e⟩:=kK f
   .injection e with e1 _;rw[e1]
   .exact nomatch e
  .obtain⟨j,u,rfl,e⟩|⟨y,u,rfl,e⟩:=kK f
   .exact nomatch e
   .injection e with e1 _;rw[e1]
 byValue:=λk v h=>by
  obtain⟨i,t,rfl,rfl⟩|⟨x,t,rfl,rfl⟩:=kK h <;> rfl
 pyHash:=λd h=>by
  obtain⟨i,t,rfl,rfl⟩|⟨x,t,rfl,rfl⟩:=kK d
  .exact wpAny_pyHash_int h
  .exact wpAny_pyHash_str h
 eqBool:=λm d h=>by
  obtain⟨i,t,rfl,rfl⟩|⟨x,t,rfl,rfl⟩:=kK m
  .obtain⟨j,u,rfl,rfl⟩|⟨y,u,rfl,rfl⟩:=kK d
   .rw[tV]at h;exact wpAny_eqBool_int h
   .rw[vQ]at h;exact Qz.int_str i t y u _ _ _ _ h
  .obtain⟨j,u,rfl,rfl⟩|⟨y,u,rfl,rfl⟩:=kK d
   .rw[tQ]at h;exact Qz.str_int x t j u _ _ _ _ h
   .rw[vE]at h;exact wpAny_eqBool_str h
 «strs»:=λk x t v h=>by
  obtain⟨i,u,rfl,e⟩|⟨y,u,rfl,e⟩:=kK h
  .exact nomatch e
  .injection e with e1 _;subst e1;cases v <;> rfl
def Lk(prog:Py)(w:Qb)(i:Ql)(t:R3):(cR prog w).is (.inl i) (.int i t)=true:=Mj i t
def Kn(prog:Py)(w:Qb)(x:zZ)(t:R3):(cR prog w).is (.inr x) (.str x t)=true:=RT x t
inductive V where
 | non | bl (b:Qm) | int (i:Ql) | str (x:zZ) | byt (b:Qo UInt8) | flt (b:UInt64) | ref (a:eH) | ty (n:String)
 deriving DecidableEq
open V renaming str->R6,ref->R7,int->R8,non->R9
def RelV:V->iH->Prop
 | .non,u=>u=Rm
 | .bl b,u=>u=iH.bool b
 | .int i,u=>∃t,u=Xl i t
 | .str x,u=>∃t,u=Tu x t
 | .byt b,u=>∃t,u=iH.bytes b t
 | .flt b,u=>∃t,u=iH.float b t
 | .ref a,u=>u=Qy a
 | .ty n,u=>u=Uq n
abbrev Vals:Qi V->Qi iH->Prop:=Paired RelV
theorem Vals.length(r:Vals xs us):↑xs=↑us:=Paired.length r
theorem Vals.get:∀{xs:Qi V}{us:Qi iH}{i:Qk}{x:V},Vals xs us->xs[i]?\x->∃u,us[i]?\u/\RelV x u
 | _,_,_,_,.nil,e=>by simp at e
 | _,_,0,_,.cons r _,e=>by simp at e;subst e;exact{6,r}
 | _,_,i+1,x,.cons _ t,e=>by
  obtain⟨u,b,a⟩:=Vals.get (i:=i) (x:=x) t ⇑[e];exact{u,⇑[b],a}
theorem Vals.set(r:RelV x u):∀{xs:Qi V}{us:Qi iH}(i:Qk),Vals xs us->Vals (xs.set i x) (us.set i u)
 | _,_,_,.nil=>.nil
 | _,_,0,.cons _ t=>.cons r t
 | _,_,i+1,.cons q t=>.cons q<|Vals.set r i t
def Vals.append:∀{xs ys:Qi V}{us ws:Qi iH},Vals xs us->Vals ys ws->Vals (xs++ys) (us++ws):=by
 intro xs ys us ws a
 induction a with
 | nil=>
  exact λs=>s
 | cons r t b=>
  exact λs=>.cons r<|b s
theorem Vals.take:∀{xs:Qi V}{us:Qi iH}(n:Qk),Vals xs us->Vals (xs.take n) (us.take n)
 | _,_,0,_=>.nil
 | _,_,_+1,.nil=>.nil
 | _,_,n+1,.cons r t=>.cons r<|Vals.take n t
theorem Vals.drop:∀{xs:Qi V}{us:Qi iH}(n:Qk),Vals xs us->Vals (xs.drop n) (us.drop n)
 | _,_,0,r=>r
 | _,_,_+1,.nil=>.nil
 | _,_,n+1,.cons _ t=>Vals.drop n t
def RelO:Qj V->Qj iH->Prop
 | some v,Qp u=>RelV v u
 | none,Qq=>True
 | _,_=>Qn
def KV{a:Type}:Qi (a×V)->Qi (a×iH)->Prop:=Paired λ(p:a×V) (q:a×iH)=>p.1=q.1/\RelV p.2 q.2
def kV:aK->V
 | .inl i=>.int i
 | .inr x=>.str x
inductive HO where
 /-- a list -/
 | lst (xs:Qi V)
 /-- a tuple (never changes) -/
 | tup (xs:Qi V)
 /-- a dict whose keys are ints and texts;one whose keys are tuples of ints and texts (the empty one is both) -/
 | dK (kvs:Qi (aK×V)) | dT (kvs:Qi (Qi aK×V))
 /-- a set of ints: its members,its size -/
 | set (S:Ql->Qm) (n:Qk)
 /-- an instance of the class at C,its dict at dx,its attributes -/
 | ins (C dx:eH) (fs:Qi (zZ×V))
 /-- the dict of the instance at x -/
 | own (x:eH)
 /-- the dict of an exception -/
 | xd (fs:Qi (zZ×V))
 /-- a bound method,f of x -/
 | met (f x:eH)
 /-- a range object lo,lo+1,.. below hi -/
 | rng (lo hi:Ql)
 /-- a thing that is known to the object (the script;a dict while a loop walks it): read,never written while it is so -/
 | frz (o:Qg) (u:HO)
 /-- a fJ object's N7 -/
 | tbl (ps:Qo iH)
 /-- any other thing,by what is Qr of its one object (a def of one's own: SetO a S n:=HO.ext λh=>..) -/
 | ext (φ:Qa->Prop)
abbrev Hp:=eH->Qj HO
def upd(H:Hp)(a:eH)(o:HO):Hp:=λb=>if b=a then Qp o else H b
def zb0:upd H a o a\o:=by unfold upd;rw[bG rfl]
def aE(h:b≠a):upd H a o b=H b:=by unfold upd;rw[bA h]
def iN:upd (upd H a o) a u=upd H a u:=by
 funext b;unfold upd;split <;> rfl
def DH{H:Hp}{a b:eH}{o u:HO}(h:H a\o)(h':H b\u)(d:o≠u):a≠b:=by
 intro e;subst e;rw[h]at h';exact d<|iZ h'
def bF{H:Hp}{a b:eH}{o:HO}(h:H a\o)(h':H b=Qq):a≠b:=by
 intro e;subst e;rw[h]at h';cases h'
def DN(h:Qa)(a:eH):Prop:=∃o,h.get? a\o/\o.dict=Qq
section
variable(P:Py)(w:Qb)
def ObjOk(H:Hp)(h:Qa)(a:eH):HO->Prop
 | .lst e=>↑e<=sizeLine/\∃(d:Qi iH)(n:Qk),Vals e d/\h.get? a=Qp {cls:=.type "list",data:=.seq d.toArray n}
 | .tup e=>(↑e<=sizeLine/\DN h a)/\∃d:Qi iH,Vals e d/\Vq h a d.toArray
 | .dK b=>↑b<=sizeLine/\(a == Rh)=Qs/\∃vs,KV b vs/\h.DictOf (cR P w) a vs
 | .dT b=>↑b<=sizeLine/\(a == Rh)=Qs/\∃e:Qi (Qi aK×eH×iH),
   Paired (λ(p:Qi aK×V) (q:Qi aK×eH×iH)=>p.1=q.1/\H q.2.1\(.tup<|p.1.map kV)/\RelV p.2 q.2.2) b e/\
   ∃o m A,h.get? a\o/\o.ExactDict/\o.data=.dict m A/\m.toList=e.map (Yk<|tupleKind<|cR P w)/\(e.map (·.1)).Nodup
 | .set S n=>h.SetOf (intKind P w) a S n
 | .ins C j fs=>H j\.own a/\↑fs<=1000/\j≠a/\h.get? a\Rv C j/\
   ∃i,h.Ns1 j i/\(∀f,RelO (fs.lookup f)<|i f)/\Vm i (fs.map (·.1))
 | .own _=>∃o,h.get? a\o
 | .xd fs=>∃i,h.Ns1 a i/\∀f,RelO (fs.lookup f)<|i f
 | .rng lo B=>∃t u v,h.get? a=Qp {cls:=.type "range",data:=.fields #[.int lo t,.int B u,.int 1 v]}
 | .frz o u=>h.get? a\o/\ObjOk H h a u
 | .tbl z=>h.get? a=Qp {cls:=.none,data:=.fields z}
 | .met f x=>h.get? a\(Vi (.ref f)<|.ref x)
 | .ext l=>l h/\(∃o,h.get? a\o)/\∀r s:Qa,l r->(∀o,r.get? a\o->s.get? a\o)->l s
def HOk(H:Hp)(h:Qa):Prop:=∀a o,H a\o->ObjOk P w H h a o
end
section
theorem ObjOk.lt(x:ObjOk P w H h a o):a<h.objs.size:=by
 cases o with
 | lst d=>obtain⟨_,_,_,_,e⟩:=x;exact cI e
 | tup d=>obtain⟨_,_,_,p⟩:=x;exact p.lt
 | dK b=>obtain⟨_,_,_,_,o,_,_,e,_⟩:=x;exact cI e
 | dT b=>obtain⟨_,_,_,_,o,_,_,e,_⟩:=x;exact cI e
 | set S n=>obtain⟨o,_,_,_,e,_⟩:=x;exact cI e
 | ins C l fs=>obtain⟨_,_,_,e,_⟩:=x;exact cI e
 | own y=>obtain⟨_,e⟩:=x;exact cI e
 | xd fs=>obtain⟨_,⟨_,_,_,e,_⟩,_⟩:=x;exact cI e
 | rng lo q=>obtain⟨_,_,_,e⟩:=x;exact cI e
 | frz j u=>obtain⟨e,_⟩:=x;exact cI e
 | tbl m=>exact cI (show h.get? a=Qp _ from x)
 | met f y=>exact cI (show h.get? a=Qp _ from x)
 | ext i=>obtain⟨_,⟨_,e⟩,_⟩:=x;exact cI e
def Paired.mapP{h e:Type}{F G:h->e->Prop}:∀{l₁:Qi h}{l₂:Qi e},Paired F l₁ l₂->(∀a b,F a b->G a b)->Paired G l₁ l₂:=by
 intro l₁ l₂ d
 induction d with
 | nil=>
  exact λ_=>.nil
 | cons r t i=>
  exact λf=>.cons (f _ _ r)<|i f
def ObjOk.stay(x:ObjOk P w H h a o)(k:∀b u,(b=a\/H b\.own a)->h.get? b\u->h'.get? b\u)
  (j:∀b,H b\.own a->H' b\.own a) (m:∀b xs,H b\.tup xs->H' b\.tup xs):ObjOk P w H' h' a o:=by
 induction o with
 | lst xs=>obtain⟨z,G,n,r,e⟩:=x;exact{z,G,n,r,k _ _ (.inl rfl) e}
 | tup xs=>obtain⟨⟨z,J,i,s⟩,y⟩:=x;obtain⟨G,r,A,e,c⟩:=y;exact{{z,J,k _ _ (.inl rfl) i,s},G,r,A,k _ _ (.inl rfl) e,c}
 | dK M=>obtain⟨z,y,vs,r,A,B,E,e,c⟩:=x;exact{z,y,vs,r,A,B,E,k _ _ (.inl rfl) e,c}
 | dT M=>
  obtain⟨z,y,xs,r,A,B,E,e,c⟩:=x;exact{z,y,xs,Paired.mapP r λp q z=>{z.1,m _ _ z.2.1,z.2.2},A,B,E,k _ _ (.inl rfl) e,c}
 | set S n=>obtain⟨A,B,E,t,e,c⟩:=x;exact{A,B,E,t,k _ _ (.inl rfl) e,c}
 | ins C X fs=>
  obtain⟨d,z,ne,e,L,⟨J,B,E,l,c⟩,r⟩:=x;exact{j _ d,z,ne,k _ _ (.inl rfl) e,L,{J,B,E,k _ _ (.inr d) l,c},r}
 | own y=>obtain⟨A,e⟩:=x;exact{A,k _ _ (.inl rfl) e}
 | xd fs=>obtain⟨L,⟨J,B,E,e,c⟩,r⟩:=x;exact{L,{J,B,E,k _ _ (.inl rfl) e,c},r}
 | rng lo Z=>obtain⟨t,u,v,e⟩:=x;exact{t,u,v,k _ _ (.inl rfl) e}
 | frz A u O=>obtain⟨e,q⟩:=x;exact{k _ _ (.inl rfl) e,O q}
 | tbl N=>
  have e:h.get? a=Qp {cls:=.none,data:=.fields N}:=x;show h'.get? a=Qp {cls:=.none,data:=.fields N};exact k a _ (.inl rfl) e
 | met f y=>
  have e:h.get? a\(Vi (.ref f)<|.ref y):=x;show h'.get? a=Qp (Vi (.ref f)<|.ref y);exact k a _ (.inl rfl) e
 | ext T=>obtain⟨p,⟨o,e⟩,st⟩:=x;exact{st _ _ p λo q=>k _ _ (.inl rfl) q,{o,k _ _ (.inl rfl) e},st}
theorem HOk.lt(x:HOk P w H h)(e:H a\o):a<h.objs.size:=(x a o e).lt
def HOk.fresh(x:HOk P w H h)(e:h.objs.size<=a):H a=none:=by
 cases q:H a with
 | none=>rfl
 | some u=>exact absurd (jA (x.lt q) e)<|nU _
def HOk.kept(x:HOk P w H h)(k:∀b u,h.get? b\u->h'.get? b\u):HOk P w H h':=λa o e=>
 (x a o e).stay (λb u _ q=>k b u q) (λ_ q=>q) λ_ _ q=>q
def HOk.laid(x:HOk P w H h)(k:∀b u,h.get? b\u->h'.get? b\u)(hp:h.objs.size<=a)(new:ObjOk P w (upd H a o) h' a o):HOk P w (upd H a o) h':=λb u e=>by
 have d:=x.fresh hp
 by_cases f:b=a
 .subst f;rw[zb0]at e;cases e;exact new
 .rw[aE f]at e;exact(x b u e).stay (λc v _ q=>k c v q) (λc q=>by rw[aE<|bF q d];exact q) λc i q=>by rw[aE<|bF q d];exact q
end
def Rd(H:Hp)(a:eH)(u:HO):Prop:=H a=Qp u\/∃o,H a\.frz o u
def Rd.of(h:H a\u):Rd H a u:=.inl h
def Rd.ok(r:Rd H a u)(x:HOk P w H h):ObjOk P w H h a u:=by
 obtain r|⟨o,r⟩:=r
 .exact x a u r
 .obtain⟨_,q⟩:=x a _ r;exact q
def BR:Qj HO->Prop
 | some (.lst _)=>True
 | some (.dK _)=>True
 | some (.dT _)=>True
 | some (.set _ _)=>True
 | some (.ins _ _ _)=>True
 | some (.ext _)=>True
 | _=>Qn
section
def HOk.write(ok:HOk P w H h)(f:BR (H x))(he:e=x\/H e\.own x)(k:∀b u,b≠e->h.get? b\u->h'.get? b\u)(m:∃u,h'.get? e\u)
  (new:ObjOk P w (upd H x o') h' x o'):HOk P w (upd H x o') h':=λb u q=>by
 have i:∀c y,H c\.own y->c≠x:=λc y r z=>by subst z;rw[r]at f;exact f
 have n:∀c o,H c\.tup o->c≠x:=λc o r z=>by subst z;rw[r]at f;exact f
 by_cases a:b=x
 .subst a;rw[zb0]at q;cases q;exact new
 .rw[aE a]at q
  by_cases a1:b=e
  .have j:H b\.own x:=by
    obtain z|z:=he
    .exact absurd (a1.trans z) a
    .rw[a1];exact z
   rw[q]at j;cases j;obtain⟨v,l⟩:=m;exact{v,by rw[a1];exact l}
  .refine(ok b u q).stay (λc v d r=>k c v ?_ r) (λc r=>by rw[aE<|i c b r];exact r) λc o r=>by rw[aE<|n c o r];exact r
   obtain rfl|d:=d
   .exact a1
   .rintro rfl;obtain z|z:=he
    .exact i c b d z
    .rw[d]at z;cases z;exact a rfl
end
structure Un(fs ex:Z3)(H H':Hp)(h h':Qa):Prop where
 keep:∀b o,h.get? b\o->H b=Qq->b∉fs->b∉ex->h'.get? b\o
 slot:∀b o,h.get? b\o->H b=Qq->b∈fs->b∉ex->∃sl,h'.get? b=Qp {o with slots:=sl}
 free:∀b o,h.get? b\o->H b=Qq->b∉ex->H' b=Qq
 there:∀b o,h.get? b\o->b∉ex->∃o',h'.get? b\o'
 tups:∀b xs,H b\.tup xs->H' b\.tup xs
 frzs:∀b o u,H b\.frz o u->H' b\.frz o u
 tbls:∀b ps,H b\.tbl ps->∃more,H' b\(.tbl<|ps++more)
section
def Un.any(u:Un fs ex H H1 h h1)(q:h.get? b\ob)(n:H b=Qq)(hx:b∉ex):∃d,h1.get? b=Qp {ob with slots:=d}:=by
 by_cases a:b∈fs
 .exact u.slot b ob q n a hx
 .exact⟨ob.slots,u.keep b ob q n a hx⟩
def Un.kept(k:∀b u,h.get? b\u->h'.get? b\u):Un fs ex H H h h':=
 ⟨λb a q _ _ _=>k b a q,λb a q _ _ _=>⟨a.slots,k b a q⟩,λ_ _ _ n _=>n,λb a q _=>⟨a,k b a q⟩,λ_ _ q=>q,λ_ _ _ q=>q,λ_ d q=>⟨#[],by rw[q];simp⟩⟩
def Un.refl:Un fs ex H H h h:=Un.kept λ_ _ q=>q
def Un.laid(k:∀b u,h.get? b\u->h'.get? b\u)(hp:h.objs.size<=a)(d:H a=Qq):Un fs ex H (upd H a o) h h' where
 keep:=λb u q _ _ _=>k b u q
 slot:=λb u q _ _ _=>⟨u.slots,k b u q⟩
 free:=λb u q n _=>by rw[aE<|dB<|jA (cI q) hp];exact n
 there:=λb u q _=>⟨u,k b u q⟩
 tups:=λb e q=>by rw[aE<|bF q d];exact q
 frzs:=λb u e q=>by rw[aE<|bF q d];exact q
 tbls:=λb f q=>⟨#[],by rw[aE<|bF q d,q];simp⟩
def Un.write(a:BR (H x))(he:e=x\/H e\.own x)(k:∀b u,b≠e->h.get? b\u->h'.get? b\u)(a1:∃u,h'.get? e\u):Un fs ex H (upd H x o) h h':=by
 have j:∀b,H b=Qq->b≠x:=λb n z=>by subst z;rw[n]at a;exact a
 have i:∀b,H b=Qq->b≠e:=λb n z=>by
  subst z;obtain r|r:=he
  .exact j b n r
  .rw[n]at r;cases r
 have d:∀b u,H b\u->¬BR (Qp u)->b≠x:=λb u q m z=>by subst z;rw[q]at a;exact m a
 refine{λb u q n _ _=>k b u (i b n) q,λb u q n _ _=>{u.slots,k b u (i b n) q},λb u q n _=>by rw[aE<|j b n];exact n,λb u q _=>?_,
  λb l q=>by rw[aE<|d b _ q λz=>z];exact q,λb u l q=>by rw[aE<|d b _ q λz=>z];exact q,λb s q=>{#[],by rw[aE<|d b _ q λz=>z,q];simp}}
 by_cases f:b=e
 .subst f;exact a1
 .exact⟨u,k b u f q⟩
end
def JB(h:Qa)(H:Hp):Z3:=(Tg h.objs.size).filter λa=>(H a).isSome
def iG(h:Qa)(H:Hp):Qa:=PySem.W.hideAll h<|JB h H
def Kv(h:Qa)(H:Hp):(iG h H).objs.size=h.objs.size:=PySem.W.hideAll_size _ _
def Lq(e:h.get? b\o)(n:H b=Qq):(iG h H).get? b\o:=
 PySem.W.hideAll_get _ e λa=>by
  have q:(H b).isSome=true:=(vq0.mp a).2;rw[n]at q;simp at q
def Oa(e:(iG h H).get? b\o):h.get? b\o/\H b=none:=by
 have a:h.get? b\o:=PySem.W.of_hideAll (JB h H) e;exists a;cases q:H b with
 | none=>rfl
 | some x=>
  have d:b∈JB h H:=vq0.mpr ⟨Uz.mpr<|cI a,by simp[q]⟩;have z:(iG h H).get? b=none:=PySem.W.hideAll_none (JB h H) d;rw[z]at e;cases e
def Ht(g h:Qa)(L:eH):Z1:=(Tg h.objs.size).filterMap λa=>if a=L\/(g.get? a).isSome=Qr then Qq else(h.get? a).map λo=>(a,o)
def rest(g h:Qa)(L d:eH):Z1:=(Ht g h L).filter λp=>decide<|p.1≠d
structure Mod(K:Fq)(mg:zZ->Qj iH)(base:Qa):Prop where
 kin:K.In base
 glob:base.Ns Re mg
 blt:∃mb,base.Ns G6 mb/\∀x:zZ,x≠"__name__"->mb x=Ss x
 nolimit:base.NoLimit
structure Cx where
 prog:Py
 w:Qb
 K:Fq
 mg:zZ->Qj iH
 base:Qa
 A:Qf
 N:Z2
 s₀:Pw
 H₀:Hp
 env:Yg
 outer:Qi Yg
 stack:Qi Yg
 ex:Z3
 fn:zZ->Qm
 calm:Qm
 pn:Z1
 xe:iH->Pw->Prop
def oM(l:Qi Yg):Z3:=l.filterMap (·.frame)
abbrev Cx.fs(X:Cx):Z3:=oM X.outer
def FM(a:Scope)(x:zZ):Prop:=a.names.lookup x=Qp .local\/a.names.lookup x\.cell\/a.names.lookup x\.free
def yM(a:Scope)(x:zZ):Prop:=a.names.lookup x=Qp .local\/a.names.lookup x\.cell
def OA(env:Yg)(h:Qa)(m:zZ->Qj iH)(x:zZ)(u:iH):Prop:=
 (env.kindOf x\.local/\m x\u)\/((env.kindOf x\.cell\/env.kindOf x\.free)/\∃c,env.cells.lookup x\c/\h.IsCell c (Qp u))
structure Cx.Ok(X:Cx):Prop where
 mod:Mod X.K X.mg X.base
 kind:X.env.scope.kind=.function
 glob:X.env.globals=Re
 blt:X.env.builtins=G6
 above:X.s₀⁻¹<=X.env.locals
 inj:∀x y c,X.env.cells.lookup x\c->X.env.cells.lookup y\c->x=y
 has:∀x,(X.env.kindOf x\.cell\/X.env.kindOf x\.free)->∃c,X.env.cells.lookup x\c
 cab:∀x c,X.fn x=Qr->X.env.cells.lookup x\c->X.s₀⁻¹<=c
 hd:X.calm=Qr->X.A.handled=Qq
 frames:X.A.frames\X.stack
 stk:X.stack=X.outer\/(X.stack=X.env::X.outer/\X.env.frame\X.env.locals)
 exf:∀b∈X.ex,b≠X.env.locals/\∀x c,X.env.cells.lookup x\c->c≠b
 bs:∀b o,X.base.get? b\o->X.s₀.heap.get? b\o/\X.H₀ b=Qq
 bsz:X.base.objs.size<=X.s₀⁻¹
 noex:∀b o,X.base.get? b\o->b∉X.ex
 exfs:∀b∈X.ex,b∉X.fs
 funs:X.s₀.heap.FunFrames X.base X.outer
 frf:∀b∈X.fs,X.H₀ b=Qq
structure Inv(X:Cx)(pins:Z1)(σ:Qi (Qj V))(H:Hp)(s:Pw):Prop where
 ok:X.Ok
 os:s.os=X.s₀.os
 bare:Vx s.gens
 base:Un X.fs X.ex X.H₀ H X.s₀.heap s.heap
 loc:∃m,s.heap.Ns X.env.locals m/\∀(i:Qk)(x:zZ)(v:V),X.N[i]?\x->σ[i]?\Qp v->FM X.env.scope x->∃u,RelV v u/\OA X.env s.heap m x u
 cell:∀x c,X.env.cells.lookup x\c->∃v,s.heap.IsCell c v
 free:H X.env.locals=Qq
 freeC:∀x c,X.env.cells.lookup x\c->H c=Qq
 pin:∀p∈X.pn++pins,s.heap.get? p.1\p.2/\H p.1=Qq/\p.1≠X.env.locals/\p.1∉X.fs/\∀v,p.2.data≠.cell v
 hok:HOk X.prog X.w H s.heap
 len:↑σ=X.N.length
section
variable{pins:Z1}{σ:Qi (Qj V)}{H H':Hp}{s:Pw}{h':Qa}
def Cx.Ok.nofr(ok:X.Ok)(e:X.base.get? b\o):b∉X.fs:=λa=>by
 have:=(ok.funs.mem a).1;rw[e]at this;cases this
theorem Inv.bs(I:Inv X pins σ H s):∀b o,X.base.get? b\o->s.heap.get? b\o/\H b=none:=λb o e=>
 ⟨I.base.keep b o (I.ok.bs b o e).1 (I.ok.bs b o e).2 (I.ok.nofr e)<|I.ok.noex b o e,I.base.free b o (I.ok.bs b o e).1 (I.ok.bs b o e).2<|I.ok.noex b o e⟩
def Inv.bk(I:Inv X pins σ H s):∀b o,X.base.get? b\o->s.heap.get? b\o:=λb o e=>(I.bs b o e).1
theorem Inv.mod(I:Inv X pins σ H s):Mod X.K X.mg X.base:=I.ok.mod
def Inv.kIn(I:Inv X pins σ H s):X.K.In s.heap:=I.ok.mod.kin.keeps I.bk
theorem Inv.lt(I:Inv X pins σ H s):X.env.locals<s⁻¹:=let ⟨_,hn,_⟩:=I.loc;hn.lt
def Inv.sz(I:Inv X pins σ H s):X.s₀⁻¹<=s⁻¹:=fM I.ok.above<|cQ I.lt
def Inv.nofs(I:Inv X pins σ H s)(h:s⁻¹<=a):a∉X.fs:=λb=>by
 obtain⟨_,o,d,_⟩:=I.ok.funs.mem b;exact absurd (jA (cI d)<|fM I.sz h)<|nU _
def Inv.cne(I:Inv X pins σ H s):∀x c,X.env.cells.lookup x\c->c≠X.env.locals:=λx c e z=>by
 obtain⟨v,o,a,hd⟩:=I.cell x c e;obtain⟨m,⟨d,h,f,a1,b,_⟩,_⟩:=I.loc;rw[z,a1]at a;cases a;rw[b]at hd;cases hd
theorem Inv.funs(I:Inv X pins σ H s):s.heap.FunFrames X.base X.outer:=by
 have all:∀(l:Qi Yg),(∀b∈oM l,b∈X.fs)->X.s₀.heap.FunFrames X.base l->s.heap.FunFrames X.base l:=by
  intro l
  induction l with
  | nil=>intro _ _;trivial
  | cons u r q=>
   intro n hl;obtain⟨j,⟨L,o,d,i,h,hd⟩,x⟩:=hl;have f:L∈X.fs:=n L (by unfold oM;rw[JG,d];exact wL);obtain⟨m,e⟩:=I.base.slot L o h (I.ok.frf L f) f λz=>I.ok.exfs L z f;exact{j,{L,_,d,i,e,hd},q (λb a=>n b<|by unfold oM;rw[JG,d];exact jD _ a) x}
 exact all X.outer (λ_ a=>a) I.ok.funs
theorem Inv.stack(I:Inv X pins σ H s):s.heap.FunFrames X.base X.stack:=by
 obtain e|⟨e,b⟩:=I.ok.stk
 .rw[e];exact I.funs
 .rw[e];obtain⟨m,a,_⟩:=I.loc;refine .cons (by rw[I.ok.kind];decide) b a ?_ I.funs;exact Qa.get?_none_of_le<|fM I.ok.bsz I.ok.above
def Inv.stkSub(I:Inv X pins σ H s):∀b∈oM X.stack,b∈X.env.locals::X.fs:=λb a=>by
 obtain e|⟨e,d⟩:=I.ok.stk
 .rw[e]at a;exact jD _ a
 .rw[e]at a;unfold oM at a;rw[JG,d]at a;exact a
def Inv.stkFree(I:Inv X pins σ H s):∀b∈oM X.stack,H b=none:=λb a=>by
 obtain e|a:=vj0.mp (I.stkSub b a)
 .rw[e];exact I.free
 .obtain⟨_,o,d,_⟩:=I.ok.funs.mem a;exact I.base.free b o d (I.ok.frf b a) λz=>I.ok.exfs b z a
def Inv.step{g':Qo GenState}{t':Qk}{d':Drawn}{ch:Z3}(I:Inv X pins σ H s)
  (B:∀b∈ch,(b∈X.ex\/X.s₀⁻¹<=b)/\b≠X.env.locals/\(∀x c,X.env.cells.lookup x\c->c≠b)/\∀p∈X.pn++pins,p.1≠b)
  (keep:∀b o,b≠X.env.locals->b∉X.fs->b∉ch->s.heap.get? b\o->H b=Qq->h'.get? b\o)
  (slot:∀b o,b≠X.env.locals->b∈X.fs->b∉ch->s.heap.get? b\o->H b=Qq->∃G,h'.get? b=Qp {o with slots:=G}) (free:∀b o,b∉ch->s.heap.get? b\o->H b=Qq->H' b=Qq)
  (there:∀b o,b∉ch->s.heap.get? b\o->∃A,h'.get? b\A)
  (tups:∀b xs,H b\.tup xs->H' b\.tup xs) (frzs:∀b o u,H b\.frz o u->H' b\.frz o u) (tbls:∀b ps,H b\.tbl ps->∃more,H' b\(.tbl<|ps++more))
  (ns:∀m,s.heap.Ns X.env.locals m->h'.Ns X.env.locals m) (E:HOk X.prog X.w H' h') (T:Vx g'):
  Inv X pins σ H' {s with heap:=h',gens:=g',drawn:=d',toks:=t'}:=by
 have J:∀b o,X.s₀.heap.get? b\o->b≠X.env.locals:=λb o e=>dB<|jA (cI e) I.ok.above;have C:∀b o,X.s₀.heap.get? b\o->b∉X.ex->b∉ch:=λb o e hx f=>by
  obtain z|z:=(B b f).1
  .exact hx z
  .exact absurd (jA (cI e) z)<|nU _
 have M:∀x c,X.env.cells.lookup x\c->∀v,s.heap.IsCell c v->h'.IsCell c v:=by
  rintro x c e v ⟨o,h,hd⟩;have a1:c∉ch:=λz=>(B c z).2.2.1 x c e rfl
  by_cases L:c∈X.fs
  .obtain⟨G,q⟩:=slot c o (I.cne x c e) L a1 h<|I.freeC x c e;exact{_,q,hd}
  .exact⟨o,keep c o (I.cne x c e) L a1 h<|I.freeC x c e,hd⟩
 refine{I.ok,I.os,T,{λb o e n f hx=>?_,λb o e n f hx=>?_,λb o e n hx=>?_,λb o e hx=>?_,λb xs e=>tups b xs<|I.base.tups b xs e,λb o xs e=>frzs b o xs<|I.base.frzs b o xs e,λb ps e=>?_},?_,λx c e=>?_,?_,λx c e=>?_,λp hp=>?_,E,I.len}
 .exact keep b o (J b o e) f (C b o e hx) (I.base.keep b o e n f hx)<|I.base.free b o e n hx
 .obtain⟨G,a⟩:=I.base.slot b o e n f hx;obtain⟨a5,j⟩:=slot b _ (J b o e) f (C b o e hx) a<|I.base.free b o e n hx;exact⟨a5,j⟩
 .obtain⟨A,a⟩:=I.base.there b o e hx;exact free b A (C b o e hx) a<|I.base.free b o e n hx
 .obtain⟨A,a⟩:=I.base.there b o e hx;exact there b A (C b o e hx) a
 .obtain⟨m1,a⟩:=I.base.tbls b ps e;obtain⟨W,j⟩:=tbls b _ a;exact{m1++W,by rw[j,Qo.append_assoc]}
 .obtain⟨m,Z,hl⟩:=I.loc;refine{m,ns m Z,λi x v a j O=>?_};obtain⟨u,r,l⟩:=hl i x v a j O;exists u,r;obtain l|⟨k,c,e,z⟩:=l
  .exact .inl l
  .exact .inr ⟨k,c,e,M x c e _ z⟩
 .obtain⟨v,z⟩:=I.cell x c e;exact{v,M x c e v z}
 .obtain⟨m,⟨o,_,_,h,_⟩,_⟩:=I.loc;exact free _ o (λz=>(B _ z).2.1 rfl) h I.free
 .obtain⟨v,o,h,hd⟩:=I.cell x c e;exact free c o (λz=>(B c z).2.2.1 x c e rfl) h<|I.freeC x c e
 .obtain⟨e,n,ne,N,d⟩:=I.pin p hp;have a1:p.1∉ch:=λz=>(B p.1 z).2.2.2 p hp rfl;exact{keep p.1 p.2 ne N a1 e n,free p.1 p.2 a1 e n,ne,N,d}
def Inv.un{t':Qk}(I:Inv X pins σ H s)(u:Un X.fs [] H H' s.heap h')(d:HOk X.prog X.w H' h'):Inv X pins σ H' {s with heap:=h',toks:=t'}:=by
 obtain⟨m,⟨o,B,C,h,r⟩,_⟩:=id I.loc;obtain⟨q,l⟩:=u.any h I.free ↥_;exact I.step (g':=s.gens) (d':=s.drawn) (ch:=[]) (λ_ z=>nomatch z) (λb o _ a _ e n=>u.keep b o e n a<|by simp) (λb o _ a _ e n=>u.slot b o e n a<|by simp) (λb o _ e n=>u.free b o e n<|by simp) (λb o _ e=>u.there b o e<|by simp) u.tups u.frzs u.tbls (λm' j=>by
  obtain⟨x,i,a1,f,A⟩:=j;rw[h]at f;cases f;exact{_,i,a1,l,A}) d I.bare
def Inv.call{g':Qo GenState}{t':Qk}{d':Drawn}{ch:Z3}(I:Inv X pins σ H s)(u:Un (oM X.stack) ch H H' s.heap h')(d:HOk X.prog X.w H' h')(A:Vx g')
  (h:∀b∈ch,(b∈X.ex\/X.s₀⁻¹<=b)/\b≠X.env.locals/\(∀x c,X.env.cells.lookup x\c->c≠b)/\∀p∈X.pn++pins,p.1≠b):
  Inv X pins σ H' {s with heap:=h',gens:=g',drawn:=d',toks:=t'}:=by
 obtain⟨m,⟨o,J,L,i,r⟩,_⟩:=id I.loc;obtain⟨C,f⟩:=u.any i I.free λz=>(h _ z).2.1 rfl;exact I.step (ch:=ch) h (λb o f q a e n=>u.keep b o e n (λz=>(vj0.mp<|I.stkSub b z).elim f q) a) (λb o _ _ a e n=>u.any e n a) (λb o a e n=>u.free b o e n a) (λb o a e=>u.there b o e a) u.tups u.frzs u.tbls (λm' B=>by
  obtain⟨E,j,l,a1,G⟩:=B;rw[i]at a1;cases a1;exact{_,j,l,f,G}) d A
def Inv.turned{t':Qk}{E:eH}(I:Inv X pins σ H s)(k:∀b o,b≠E->s.heap.get? b\o->h'.get? b\o)(A:H E=Qq)(f:E≠X.env.locals)
  (B:E∈X.ex\/X.s₀⁻¹<=E) (j:∀x c,X.env.cells.lookup x\c->c≠E) (C:∀p∈X.pn++pins,p.1≠E):Inv X pins σ H {s with heap:=h',toks:=t'}:=by
 have d:∀b u,H b\u->b≠E:=λb u e z=>by rw[z,A]at e;cases e
 refine I.step (g':=s.gens) (d':=s.drawn) (ch:=[E]) (λb h=>?_) (λb o _ _ a e _=>k b o (λz=>a<|by simp[z]) e) (λb o _ _ a e _=>{o.slots,k b o (λz=>a<|by simp[z]) e}) (λ_ _ _ _ n=>n)
  (λb o a e=>⟨o,k b o (λz=>a<|by simp[z]) e⟩) (λ_ _ e=>e) (λ_ _ _ e=>e) (λb G e=>⟨#[],by rw[e];simp⟩) (λm l=>?_) (λb u e=>?_) I.bare
 .have e:b=E:=⇑[h]
  subst e;exact⟨B,f,j,C⟩
 .obtain⟨o,es,ep,i,r⟩:=l;exact{o,es,ep,k _ o (cJ f) i,r}
 .refine(I.hok b u e).stay (λc v a q=>k c v ?_ q) (λ_ q=>q) λ_ _ q=>q;obtain z|z:=a
  .rw[z];exact d b u e
  .exact d c _ z
def Inv.tok(I:Inv X pins σ H s)(t:Qk):Inv X pins σ H {s with toks:=t}:=I.un (h':=s.heap) (t':=t) Un.refl I.hok
theorem Inv.kept(I:Inv X pins σ H s)(k:∀b u,s.heap.get? b\u->h'.get? b\u):Inv X pins σ H {s with heap:=h',toks:=t'}:=I.un (Un.kept k)<|I.hok.kept k
theorem Inv.laid(I:Inv X pins σ H s)(k:∀b u,s.heap.get? b\u->h'.get? b\u)(hp:s⁻¹<=a)(new:ObjOk X.prog X.w (upd H a o) h' a o):
  Inv X pins σ (upd H a o) {s with heap:=h',toks:=t'}:=I.un (Un.laid k hp<|I.hok.fresh hp)<|I.hok.laid k hp new
theorem Inv.write(I:Inv X pins σ H s)(d:BR (H x))(he:e=x\/H e\.own x)(k:∀b u,b≠e->s.heap.get? b\u->h'.get? b\u)(a:∃u,h'.get? e\u)
  (new:ObjOk X.prog X.w (upd H x o) h' x o):Inv X pins σ (upd H x o) {s with heap:=h',toks:=t'}:=I.un (Un.write d he k a)<|I.hok.write d he k a new
def Inv.pins_of(I:Inv X pins σ H s)(h:∀p∈pins',s.heap.get? p.1\p.2/\H p.1=Qq/\p.1≠X.env.locals/\p.1∉X.fs/\∀v,p.2.data≠.cell v):Inv X pins' σ H s:=
 ⟨I.ok,I.os,I.bare,I.base,I.loc,I.cell,I.free,I.freeC,λp a=>(vj7.mp a).elim (λz=>I.pin p<|nC _ z)<|h p,I.hok,I.len⟩
def UZ{N:Z2}(e:N.Nodup){i j:Qk}{x:zZ}(a:N[i]?\x)(b:N[j]?\x):i=j:=by
 obtain⟨h,d⟩:=vh2.mp a;obtain⟨l,f⟩:=vh2.mp b;exact(Uf e).mp<|d.trans f.symm
def WQ{M:K6}{A:Qf}{E:Vp}{i:Qk}{x:zZ}{v:V}{u:iH}{Q:Unit->Pw->Prop}(I:Inv X pins σ H s)(hN:X.N.Nodup)(hi:X.N[i]?\x)(hx:yM X.env.scope x)(r:RelV v u)
  (h:∀s',Inv X pins (σ.set i<|some v) H s'->(∃a,Rf a s.heap s'.heap/\(a=X.env.locals\/X.env.cells.lookup x\a))->Q () s') (hf:X9 (X.fn x=Qr\/X.env.scope.names.lookup x\.local) X4):Qw M A (storeName X.env x u) Q E s:=by
 obtain⟨m,O,hl⟩:=id I.loc;have a4:(X.env.scope.kind == .class || (X.env.scope.kind == .module && X.env.locals != X.env.globals))=false:=by rw[I.ok.kind];rfl
 have a8:i<↑σ:=by rw[I.len];exact(vh2.mp hi).1
 have cne:=I.cne;have a0:∀{a:eH}{h':Qa},(∃o,s.heap.get? a\o/\H a=Qq)->Rf a s.heap h'->HOk X.prog X.w H h':=λ{a h'} ha hs b ob e=>by
  obtain⟨_,_,a1⟩:=ha;refine(I.hok b ob e).stay (λc J l q=>(hs.2 c ?_).trans q) (λ_ q=>q) λ_ _ q=>q;rintro rfl;obtain rfl|l:=l
  .rw[a1]at e;cases e
  .rw[a1]at l;cases l
 obtain hk|hk:=hx
 .refine wpAny_storeName_local hk O (λh' a9 hs=>?_) a4;obtain⟨oL,_,_,aa,_⟩:=id O;refine h _ {I.ok,I.os,I.bare,{λb o e n C hx=>?_,λb o e n C hx=>?_,I.base.free,λb o e hx=>?_,I.base.tups,I.base.frzs,I.base.tbls},{_,a9,λj y T f B L=>?_},λy c e=>?_,I.free,I.freeC,λp hp=>?_,a0 {oL,aa,I.free} hs,⇑[I.len]} {_,hs,.inl rfl}
  .exact(hs.2 b<|dB<|jA (cI e) I.ok.above).trans (I.base.keep b o e n C hx)
  .obtain⟨Z,f⟩:=I.base.slot b o e n C hx;exact{Z,(hs.2 b<|dB<|jA (cI e) I.ok.above).trans f}
  .obtain⟨o',f⟩:=I.base.there b o e hx;exact{o',(hs.2 b<|dB<|jA (cI e) I.ok.above).trans f}
  .by_cases G:j=i
   .subst G;rw[hi]at f;cases f;rw[Ye a8]at B;cases B;exact{u,r,.inl {hk,by simp}}
   .rw[Yw<|cJ G]at B;obtain⟨u',r',q⟩:=hl j y T f B L;exists u',r';obtain⟨k,e⟩|⟨k,c,e,z⟩:=q
    .refine .inl ⟨k,?_⟩;have:y≠x:=λe=>G<|UZ hN f<|e▸hi;simp[this,e]
    .exact .inr ⟨k,c,e,z.sameBut hs<|cne y c e⟩
  .obtain⟨J,z⟩:=I.cell y c e;exact{J,z.sameBut hs<|cne y c e}
  .obtain⟨e,n,ne,W,d⟩:=I.pin p hp;exact{(hs.2 p.1 ne).trans e,n,ne,W,d}
 .have a2:X.fn x=true:=by
   obtain z|z:=hf
   .exact z
   .rw[z]at hk;cases hk
  obtain⟨c,l⟩:=I.ok.has x<|.inl hk;obtain⟨J,z⟩:=I.cell x c l;refine wpAny_storeName_cell I.ok.kind hk l z λh' a6 hs=>?_;obtain⟨oc,a7,a3⟩:=id z;refine h {s with heap:=h'} {I.ok,I.os,I.bare,{λb o e n C hx=>?_,λb o e n C hx=>?_,I.base.free,λb o e hx=>?_,I.base.tups,I.base.frzs,I.base.tbls},{m,O.sameBut hs<|cJ<|cne x c l,λj y T f B L=>?_},λy c' e=>?_,I.free,I.freeC,λp hp=>?_,a0 {oc,a7,I.freeC x c l} hs,⇑[I.len]} {c,hs,.inr l}
  .exact(hs.2 b<|dB<|jA (cI e)<|I.ok.cab x c a2 l).trans (I.base.keep b o e n C hx)
  .obtain⟨Z,f⟩:=I.base.slot b o e n C hx;exact{Z,(hs.2 b<|dB<|jA (cI e)<|I.ok.cab x c a2 l).trans f}
  .obtain⟨o',f⟩:=I.base.there b o e hx;exact{o',(hs.2 b<|dB<|jA (cI e)<|I.ok.cab x c a2 l).trans f}
  .by_cases G:j=i
   .subst G;rw[hi]at f;cases f;rw[Ye a8]at B;cases B;exact{u,r,.inr {.inl hk,c,l,a6}}
   .rw[Yw<|cJ G]at B;obtain⟨u',r',q⟩:=hl j y T f B L;exists u',r';obtain q|⟨k,c',e,z'⟩:=q
    .exact .inl q
    .refine .inr ⟨k,c',e,z'.sameBut hs ?_⟩;rintro rfl;exact G<|UZ hN f<|I.ok.inj _ _ _ e l▸hi
  .by_cases a5:c'=c
   .subst a5;exact{_,a6}
   .obtain⟨w2,z2⟩:=I.cell y c' e;exact{w2,z2.sameBut hs a5}
  .obtain⟨e,n,ne,W,d⟩:=I.pin p hp;refine{(hs.2 p.1 ?_).trans e,n,ne,W,d};intro q;rw[q,a7]at e;have q':oc=p.2:=iZ e;exact d J (by rw[<-q'];exact a3)
def JR(I:Inv X pins σ H s)(d:X.N.Nodup)(hi:X.N[i]?\x)(hx:yM X.env.scope x)(r:RelV v u)
  (h:∀a,Inv X pins (σ.set i<|some v) H a->Q () a) (e:X9 (X.fn x=Qr\/X.env.scope.names.lookup x\.local) X4):Qw M A (storeName X.env x u) Q E s:=
 WQ I d hi hx r (λa b _=>h a b) e
end
abbrev XK:=iH->Qj eH->Hp->Prop
abbrev St:=Qi<|Option V
abbrev VK:=V->Hp->Prop
abbrev TE:=St->Hp->VK->Prop
abbrev TT:=St->Hp->(Qm->Hp->Prop)->Prop
abbrev TA:=St->Hp->(Qi V->Hp->Prop)->Prop
structure jC where
 nx:St->Hp->Prop
 rt:VK
 bk:St->Hp->Prop:=λ_ _=>Qn
 ct:St->Hp->Prop:=λ_ _=>Qn
abbrev TS:=jC->St->Hp->Prop
def EP(X:Cx)(a:Z1)(d:St)(Q:VK)(u:iH)(e:Pw):Prop:=∃v b,Inv X a d b e/\RelV v u/\Q v b
def TP(X:Cx)(a:Z1)(e:St)(Q:Qm->Hp->Prop)(b:Qm)(f:Pw):Prop:=∃d,Inv X a e d f/\Q b d
def AP(X:Cx)(a:Z1)(d:St)(Q:Qi V->Hp->Prop)(us:Qi iH)(e:Pw):Prop:=∃vs b,Inv X a d b e/\Vals vs us/\Q vs b
def SP(X:Cx)(b:Z1)(D:jC)(f:Flow)(e:Pw):Prop:=
 match f with
 | .next=>∃a d,Inv X b a d e/\D.nx a d
 | .brk=>∃a d,Inv X b a d e/\D.bk a d
 | .cont=>∃a d,Inv X b a d e/\D.ct a d
 | .ret u=>∃v a d,Inv X b a d e/\RelV v u/\D.rt v d
def PE(X:Cx)(e:Qc)(t:TE):Prop:=
 ∀(a:Z1)(s:Pw)(b:St)(H:Hp)(Q:VK),Inv X a b H s->t b H Q->Qw ⇑{X} X.A (eval e X.env) (EP X a b Q) X.xe s
def PT(X:Cx)(e:Qc)(t:TT):Prop:=
 ∀(a:Z1)(s:Pw)(b:St)(H:Hp)(Q:Qm->Hp->Prop),Inv X a b H s->t b H Q->Qw ⇑{X} X.A (isTrue e X.env<|eval e X.env) (TP X a b Q) X.xe s
def PW(X:Cx)(e:Qc)(t:TT):Prop:=
 ∀(b:Xg iH)(a:Z1)(s:Pw)(d:St)(H:Hp)(Q:Qm->Hp->Prop),Inv X a d H s->t d H Q->Qw ⇑{X} X.A (isTrue e X.env b) (TP X a d Q) X.xe s
def PW.pt(h:PW X e t):PT X e t:=h _
def PA(X:Cx)(es:Qi Qc)(t:TA):Prop:=
 ∀(pos:Ud)(a:Z1)(s:Pw)(b:St)(H:Hp)(Q:Qi V->Hp->Prop),Inv X a b H s->t b H Q->Qw ⇑{X} X.A (P9<|backTo pos<|starEach es X.env) (AP X a b Q) X.xe s
def PS(X:Cx)(st:Qd)(t:TS):Prop:=
 ∀(a:Z1)(s:Pw)(b:St)(H:Hp)(D:jC),Inv X a b H s->t D b H->Qw ⇑{X} X.A (exec st X.env) (SP X a D) X.xe s
def PSs(X:Cx)(st:Qi Qd)(t:TS):Prop:=
 ∀(a:Z1)(s:Pw)(b:St)(H:Hp)(D:jC),Inv X a b H s->t D b H->Qw ⇑{X} X.A (execs st X.env) (SP X a D) X.xe s
def bD{e:Type}{t:Xg e}{Q b:e->Pw->Prop}{M:K6}{A:Qf}{E:Vp}{s:Pw}(h:Qw M A t Q E s)(d:∀a s,Q a s->b a s):Qw M A t b E s:=jG h d λ_ _ x=>x
section
inductive oN(i:Qk)(σ:Qi (Qj V))(H:Hp)(Q:VK):Prop
 | mk(v:V)(h:σ[i]?\Qp v)(q:Q v H):oN i σ H Q
def aG(i:Qk):TE:=λa H Q=>oN i a H Q
def tC(v:V):TE:=λ_ H Q=>Q v H
def uO(f:X.N[i]?\x)(a:FM X.env.scope x)(hd:X9 ((x == ("__debug__":zZ))=false) X7)(j:X9 ((x == ("__classdict__":zZ))=false) X7):PE X (.Name x pos) (aG i):=by
 intro b s q H Q I h;obtain⟨v,e,h⟩:=h;obtain⟨m,d,hl⟩:=I.loc;obtain⟨u,r,l⟩:=hl i x v f e a;have a1:EP X b q Q u s:=⟨v,H,I,r,h⟩;obtain⟨hk,z⟩|⟨hk,c,o,n⟩:=l
 .exact F8 (wpAny_loadName_local I.ok.kind hk d z a1) hd
 .obtain hk|hk:=hk
  .exact F8 (wpAny_loadName_cell I.ok.kind hk o n a1) hd
  .exact F8 (wpAny_loadName_free I.ok.kind hk o n a1 j) hd
def aQ{i j pos}:PE X (.Constant (.int i) j pos) (tC<|.int i):=λ_ _ _ H _ I h=>wpAny_Constant_int ⟨.int i,H,I.tok _,⟨_,rfl⟩,h⟩
def nX{b j pos}:PE X (.Constant (.bool b) j pos) (tC<|.bl b):=λ_ _ _ H _ I h=>Constant_bool ⟨.bl b,H,I,rfl,h⟩
def iV{j pos}:PE X (.Constant .none j pos) (tC .non):=λ_ _ _ H _ I h=>Zj ⟨.non,H,I,rfl,h⟩
def bW{x j pos}:PE X (.Constant (.str x) j pos) (tC<|.str x):=λ_ _ _ H _ I h=>Calls.Constant_str ⟨.str x,H,I.tok _,⟨_,rfl⟩,h⟩
def Gl(X:Cx)(x:zZ):Prop:=X.env.kindOf x=Qp .globalImplicit
def MQ(I:Inv X pins σ H s)(b:Gl X x)(a:X.mg x\u)(h:Q u s)
  (hd:X9 ((x == ("__debug__":zZ))=false) X7):Qw ⇑{X} X.A (eval (.Name x pos) X.env) Q E s:=
 Xf I.ok.kind b (Calls.loadGlobal_global (by rw[I.ok.glob];exact I.mod.glob.keeps I.bk) a h) hd
def oP{E:Vp}{d:Z1}{s:Pw}{m:St}{H:Hp}{x:zZ}{u:iH}{pos:Ud}{Q:Vp}(I:Inv X d m H s)(f:Gl X x)(j:X.mg x=Qq)(a:Ss x\u)(h:Q u s)
  (b:X9 (x≠"__name__") X7) (hd:X9 ((x == ("__debug__":zZ))=false) X7):Qw ⇑{X} X.A (eval (.Name x pos) X.env) Q E s:=by
 obtain⟨l,e,i⟩:=I.mod.blt;exact Xf I.ok.kind f (Calls.loadGlobal_builtin (by rw[I.ok.glob];exact I.mod.glob.keeps I.bk) j (by rw[I.ok.blt];exact e.keeps I.bk) ((i x b).trans a) h) hd
def mG(b:Gl X x)(a:X.mg x\u)(r:RelV v u)(hd:X9 ((x == ("__debug__":zZ))=false) X7):PE X (.Name x pos) (tC v):=
 λ_ _ _ H _ I h=>MQ I b a ⟨v,H,I,r,h⟩ hd
variable{a b:Qc}{ta tb:TE}{pos:Ud}
def PC(X:Cx)(i:CmpOp)(a b:Qc)(t:TE):Prop:=
 ∀(d:Z1)(s:Pw)(h:St)(H:Hp)(Q:VK),Inv X d h H s->t h H Q->
  Qw ⇑{X} X.A (eval a X.env) (λv f=>Qw ⇑{X} X.A (eval b X.env) (λu e=>Qw ⇑{X} X.A (Sj i v u) (EP X d h Q) X.xe e) X.xe f) X.xe s
def TM(b:Qc){a:CmpOp}(h:a≠.In)(d:a≠.NotIn):Ta a b=false:=by
 have e:(a == CmpOp.In)=false:=by cases a <;> first | rfl | exact absurd rfl h
 have f:(a == CmpOp.NotIn)=false:=by cases a <;> first | rfl | exact absurd rfl d
 cases b <;> simp[Ta,e,f]
def DF(a:TE):TE:=λb H Q=>a b H λx d=>Q (.bl<|decide<|x=.non) d
def DV(a:TE):TE:=λb H Q=>a b H λx d=>Q (.bl<|!decide (x=.non)) d
def RelV.none_iff(r:RelV x v):(v == Rm)=decide (x=.non):=by
 cases x with
 | non=>cases r;rfl
 | bl _=>cases r;rfl
 | int _=>obtain⟨t,rfl⟩:=r;rfl
 | str _=>obtain⟨t,rfl⟩:=r;rfl
 | byt _=>obtain⟨t,rfl⟩:=r;rfl
 | flt _=>obtain⟨t,rfl⟩:=r;rfl
 | ref _=>cases r;rfl
 | ty _=>cases r;rfl
def wX{j pos'}(e:PE X a ta):PC X .Is a (.Constant .none j pos') (DF ta):=by
 intro d s n H Q I h;refine bD (e d s n H _ I h) ?_;rintro v m ⟨x,b,f,i,l⟩;exact Zj<|is_none_gen {.bl _,b,f,by rw[i.none_iff];rfl,l}
def AE{j pos'}(e:PE X a ta):PC X .IsNot a (.Constant .none j pos') (DV ta):=by
 intro d s n H Q I h;refine bD (e d s n H _ I h) ?_;rintro v m ⟨x,b,f,i,l⟩;exact Zj<|isnot_none_gen {.bl _,b,f,by rw[i.none_iff];rfl,l}
inductive nH(x:V)(H:Hp)(Q:Qm->Hp->Prop):Prop
 | mk(c:Qm)(h:x=.bl c)(q:Q c H):nH x H Q
def tB(t:TE):TT:=λa H Q=>t a H λx b=>nH x b Q
def xB(h:PC X op a b t)(d:Ta op b=false:=by first | exact TM _ ↥?_ ↥?_ | rfl):PE X (.Compare a [op] [b] pos) t:=λf s i H Q I e=>N5 (h f s i H Q I e) d
def kP{f:CmpOp}{t:TE}(h:PC X f a b t)(e:Ta f b=false:=by first | exact TM _ ↥?_ ↥?_ | rfl):PT X (.Compare a [f] [b] pos) (tB t):=by
 intro i s A H Q I n;refine B7 (bD (h i s A H _ I n) λv z e=>bD e λu C l=>bD l λc B ⟨x,m,j,o,r⟩=>?_) e;obtain⟨d,rfl,q⟩:=r;cases o;exact CW ⟨m,j,q⟩
def HW{e:Qc}{t:TE}(h:PE X e t)(he:X9 (∀n,isTrue e X.env n=(do let v <-n;Ww e.pos;holding [v]<|truthy v)) X5):PT X e (tB t):=by
 intro a s o H Q I i;refine Q6 (bD (h a s o H _ I i) λv m ⟨x,f,b,j,l⟩=>?_)<|he _;obtain⟨d,rfl,q⟩:=l;cases j;exact CW ⟨f,b,q⟩
variable{tA tB':TT}{rest:Qi Qc}
def lN(t u:TT):TT:=λa H Q=>t a H λc b=>if c=Qr then u a b Q else Q Qs b
def QD(t u:TT):TT:=λa H Q=>t a H λc b=>if c=Qr then Q Qr b else u a b Q
def MX(t:TT):TT:=λa H Q=>t a H λc b=>Q (!c) b
def oX(b:PT X a tA):PW X (.BoolOp .And [a] pos) tA:=by
 intro f d s j H Q I h;refine isTrue_and<|bD (b d s j H Q I h) λc i e=>?_;cases c with
 | true=>exact isTrue_and_nil e
 | false=>exact e
def KW(b:PT X a tA):PW X (.BoolOp .Or [a] pos) tA:=by
 intro f d s j H Q I h;refine isTrue_or<|bD (b d s j H Q I h) λc i e=>?_;cases c with
 | false=>exact isTrue_or_nil e
 | true=>exact e
def nJ(j:PT X a tA)(l:PW X (.BoolOp .And (b::rest) pos) tB'):PW X (.BoolOp .And (a::b::rest) pos) (lN tA tB'):=by
 intro m d s o H Q I h;refine isTrue_and<|bD (j d s o H _ I h) ?_;rintro c n ⟨i,e,f⟩;cases c with
 | true=>exact l m d n o i Q e f
 | false=>exact⟨i,e,f⟩
def IY(j:PT X a tA)(l:PW X (.BoolOp .Or (b::rest) pos) tB'):PW X (.BoolOp .Or (a::b::rest) pos) (QD tA tB'):=by
 intro m d s o H Q I h;refine isTrue_or<|bD (j d s o H _ I h) ?_;rintro c n ⟨i,e,f⟩;cases c with
 | true=>exact⟨i,e,f⟩
 | false=>exact l m d n o i Q e f
def QZ(b:PT X a tA):PT X (.UnaryOp .Not a pos) (MX tA):=by
 intro d s f H Q I h;exact isTrue_not<|b d s f H (λc e=>Q (!c) e) I h
def XT(t:TT)(d e:TE):TE:=λa H Q=>t a H λc b=>if c=Qr then d a b Q else e a b Q
def GW{c:Qc}(m:PT X c tA)(n:PE X a ta)(o:PE X b tb):PE X (.IfExp c a b pos) (XT tA ta tb):=by
 intro e s q H Q I h;refine wpAny_IfExp<|bD (m e s q H _ I h) ?_;rintro d i ⟨l,f,j⟩;cases d with
 | true=>exact n e i q l Q f j
 | false=>exact o e i q l Q f j
end
def SqL(K:Fq)(H:Hp)(a:eH)(xs:Qi V):Prop:=
 Rd H a (.lst xs)\/
  ∃(o:Qg)(b:Qo iH)(n:Qk),K.lookup a\o/\o.cls=.type "list"/\o.dict=Qq/\o.data=.seq b n/\b.size<=sizeLine/\Vals xs b.toList
def SqT(K:Fq)(H:Hp)(a:eH)(xs:Qi V):Prop:=
 Rd H a (.tup xs)\/
  ∃(o:Qg)(b:Qo iH)(n:Qk),K.lookup a\o/\o.cls=.type "tuple"/\o.data=.seq b n/\b.size<=sizeLine/\Vals xs b.toList
def RQ:iH->Qj V
 | .none=>Qp .non
 | .bool b=>Qp<|.bl b
 | .int i _=>Qp<|.int i
 | .str x _=>Qp<|.str x
 | .bytes b _=>Qp<|.byt b
 | .float b _=>Qp<|.flt b
 | .ref a=>Qp<|.ref a
 | .type n=>Qp<|.ty n
 | _=>Qq
def RelV.abs(r:RelV x u):RQ u\x:=by
 cases x with
 | non=>cases r;rfl
 | bl _=>cases r;rfl
 | int _=>obtain⟨t,rfl⟩:=r;rfl
 | str _=>obtain⟨t,rfl⟩:=r;rfl
 | byt _=>obtain⟨t,rfl⟩:=r;rfl
 | flt _=>obtain⟨t,rfl⟩:=r;rfl
 | ref _=>cases r;rfl
 | ty _=>cases r;rfl
def RelV.inj(r:RelV x u)(q:RelV y u):x=y:=iZ<|r.abs.symm.trans q.abs
theorem Vals.inj:∀{xs ys:Qi V}{us:Qi iH},Vals xs us->Vals ys us->xs=ys
 | _,_,_,.nil,.nil=>rfl
 | _,_,_,.cons r t,.cons a b=>by rw[r.inj a,Vals.inj t b]
section
def SqL.of{K:Fq}(h:H a\.lst xs):SqL K H a xs:=.inl<|.inl h
def SqT.of{K:Fq}(h:H a\.tup xs):SqT K H a xs:=.inl<|.inl h
def Inv.list(I:Inv X pins σ H s)(h:SqL X.K H a xs):∃its:Qi iH,Vals xs its/\PlainL s.heap a its.toArray/\↑xs<=sizeLine:=by
 obtain h|⟨o,its,n,b,f,hd,d,i,r⟩:=h
 .obtain⟨z,its,n,r,e⟩:=h.ok I.hok;exact{its,r,{_,n,e,U,U,U},z}
 .exists its.toList,r,⟨o,n,I.kIn a o b,f,hd,⇑[d]⟩;have e:=↑r;simp only[iK]at e;lia
def Inv.tuple(I:Inv X pins σ H s)(h:SqT X.K H a xs):∃its:Qi iH,Vals xs its/\Vq s.heap a its.toArray/\↑xs<=sizeLine:=by
 obtain h|⟨o,its,n,b,f,d,i,r⟩:=h
 .obtain⟨z,its,r,p⟩:=h.ok I.hok;exact{its,r,p,z.1}
 .exists its.toList,r,⟨o,I.kIn a o b,f,n,⇑[d]⟩;have e:=↑r;simp only[iK]at e;lia
def Inv.list_inj(I:Inv X pins σ H s)(h:SqL X.K H a xs)(h':SqL X.K H a ys):xs=ys:=by
 obtain⟨j,r,⟨o,n,e,_,_,d⟩,_⟩:=I.list h;obtain⟨its',m,⟨i,f,b,_,_,l⟩,_⟩:=I.list h';rw[e]at b;cases b;rw[d]at l;injection l with d1 _;have:j=its':=⇑[cP Yc d1]
 subst this;exact r.inj m
def Inv.tuple_inj(I:Inv X pins σ H s)(h:SqT X.K H a xs)(h':SqT X.K H a ys):xs=ys:=by
 obtain⟨j,r,⟨o,e,_,n,d⟩,_⟩:=I.tuple h;obtain⟨its',m,⟨i,b,_,f,l⟩,_⟩:=I.tuple h';rw[e]at b;cases b;rw[d]at l;injection l with d1 _;have:j=its':=⇑[cP Yc d1]
 subst this;exact r.inj m
end
open SqL renaming of->T1
open SqT renaming of->T2
abbrev Cx.wish(X:Cx)(E:Vp):Cx:={X with xe:=E}
abbrev Cx.nox(X:Cx):Cx:=X.wish λ_ _=>Qn
theorem Cx.Ok.wish{X:Cx}(ok:X.Ok)(E:Vp):(X.wish E).Ok:=
 ⟨ok.mod,ok.kind,ok.glob,ok.blt,ok.above,ok.inj,ok.has,ok.cab,ok.hd,ok.frames,ok.stk,ok.exf,ok.bs,ok.bsz,ok.noex,ok.exfs,ok.funs,ok.frf⟩
def Cx.Ok.unwish{X:Cx}{E:Vp}(ok:(X.wish E).Ok):X.Ok:=
 ⟨ok.mod,ok.kind,ok.glob,ok.blt,ok.above,ok.inj,ok.has,ok.cab,ok.hd,ok.frames,ok.stk,ok.exf,ok.bs,ok.bsz,ok.noex,ok.exfs,ok.funs,ok.frf⟩
section
theorem Inv.wish(I:Inv X pins σ H s)(E:Vp):Inv (X.wish E) pins σ H s:=⟨I.ok.wish E,I.os,I.bare,I.base,I.loc,I.cell,I.free,I.freeC,I.pin,I.hok,I.len⟩
theorem Inv.unwish(I:Inv (X.wish E) pins σ H s):Inv X pins σ H s:=⟨I.ok.unwish,I.os,I.bare,I.base,I.loc,I.cell,I.free,I.freeC,I.pin,I.hok,I.len⟩
theorem SP.unwish{f:Flow}(h:SP (X.wish E) pins D f s'):SP X pins D f s':=by
 cases f with
 | next=>obtain⟨a,b,I,q⟩:=h;exact{a,b,I.unwish,q}
 | brk=>obtain⟨a,b,I,q⟩:=h;exact{a,b,I.unwish,q}
 | cont=>obtain⟨a,b,I,q⟩:=h;exact{a,b,I.unwish,q}
 | ret u=>obtain⟨v,a,b,I,r,q⟩:=h;exact{v,a,b,I.unwish,r,q}
theorem PSs.nox{st:Qi Qd}{t:TS}(h:PSs X.nox st t):PSs X st t:=λb s d H D I a=>
 jG (h b s d H D (I.wish _) a) (λ_ _ q=>q.unwish) λ_ _ z=>Sl z
end
section
variable{st:Qd}{rest:Qi Qd}{t u:TS}{e:Qc}{te:TE}{pos:Ud}
def uL:TS:=λD a H=>D.nx a H
def gJ(t u:TS):TS:=λD a H=>t {D with nx:=u D} a H
def dJ:PSs X [] uL:=λ_ _ a H _ I h=>Vg ⟨a,H,I,h⟩
def aJ(d:PS X st t)(i:PSs X rest u):PSs X (st::rest) (gJ t u):=by
 intro a s m H D I h;refine L6<|bD (d a s m H {D with nx:=u D} I h) λf e q=>?_;cases f with
 | next=>
  obtain⟨j,l,b,q⟩:=q;exact i a e j l D b q
 | ret v=>exact q
 | brk=>exact q
 | cont=>exact q
def aY(b:PS X st t):PSs X [st] t:=by
 intro a s e H D I h;refine L6<|bD (b a s e H D I h) λf d q=>?_;cases f with
 | next=>exact Vg q
 | ret v=>exact q
 | brk=>exact q
 | cont=>exact q
def Inv.quiet(I:Inv X pins σ H s):interactive X.env=false:=by simp[interactive,I.ok.kind]
def HU(te:TE):TS:=λD a H=>te a H λ_ b=>D.nx a b
def eX(he:PE X e te)(hs:X9 (Tt e Qq pos.line X.env=pure false) X8):PS X (.Expr e pos) (HU te):=by
 intro b s l H D I h;exact wpAny_Expr_any (bD (he b s l H _ I h) <| by rintro v j ⟨x,a,d,i,f⟩;exact⟨l,a,d,f⟩) I.quiet hs
def iY(te:TE):TS:=λD a H=>te a H D.rt
def bR(he:PE X e te):PS X (.Return (Qp e) pos) (iY te):=by
 intro b s l H D I h;exact wpAny_Return_some (bD (he b s l H _ I h) <| by rintro v j ⟨x,a,d,f,i⟩;exact⟨x,l,a,d,f,i⟩)
def jX(c:TT)(t u:TS):TS:=λD a H=>c a H λb d=>if b=Qr then t D a d else u D a d
def cY{c:Qc}{a b:Qi Qd}{l:TT}(n:PT X c l)(o:PSs X a t)(q:PSs X b u):PS X (.If c a b pos) (jX l t u):=by
 intro e s r H D I h;refine wpAny_If<|bD (n e s r H _ I h) ?_;rintro d i ⟨m,f,j⟩;cases d with
 | true=>exact o e i r m D f j
 | false=>exact q e i r m D f j
def tT:TS:=λ_ _ _=>Qn
def zC:PS X st tT:=λ_ _ _ _ _ _ h=>h.elim
end
abbrev TG:=V->St->Hp->(St->Hp->Prop)->Prop
abbrev qR:=Qi V->St->Hp->(St->Hp->Prop)->Prop
def PG(X:Cx)(a:Qc)(t:TG):Prop:=
 ∀(b:Z1)(s:Pw)(f:St)(H:Hp)(v:V)(u:iH)(Q:St->Hp->Prop),Inv X b f H s->RelV v u->t v f H Q->
  Qw ⇑{X} X.A (assign a X.env u) (λ_ h=>∃d e,Inv X b d e h/\Q d e) X.xe s
def JD(X:Cx)(ts:Qi Qc)(t:qR):Prop:=
 ∀(a:Z1)(s:Pw)(f:St)(H:Hp)(vs:Qi V)(e:Qi iH)(Q:St->Hp->Prop),Inv X a f H s->Vals vs e->t vs f H Q->
  Qw ⇑{X} X.A (Zd ((Vc ts X.env).map (·.2)) e) (λ_ h=>∃b d,Inv X a b d h/\Q b d) X.xe s
abbrev wD:=V->V->V->Hp->(Hp->Prop)->Prop
def FL(X:Cx)(t:wD):Prop:=
 ∀(a:Z1)(s:Pw)(e:St)(H:Hp)(o i v:V)(b f u:iH)(Q:Hp->Prop),Inv X a e H s->RelV o b->RelV i f->RelV v u->t o i v H Q->
  Qw ⇑{X} X.A (Q0 b f u) (λ_ h=>∃d,Inv X a e d h/\Q d) X.xe s
section
def cA(i:Qk):TG:=λv a H Q=>Q (a.set i<|some v) H
def rH(b:X.N.Nodup)(hi:X.N[i]?\x)(hx:yM X.env.scope x)(d:X9 (X.fn x=Qr\/X.env.scope.names.lookup x\.local) X4):PG X (.Name x pos) (cA i):=by
 intro e s j H v u Q I r h;exact J4<|JR I b hi hx r (λf a=>{_,H,a,h}) d
inductive TW(vs:Qi V)(σ:Qi (Qj V))(H:Hp)(Q:Qi (Qj V)->Hp->Prop):Prop
 | mk(h:vs=[])(q:Q σ H):TW vs σ H Q
def eO:qR:=λvs a H Q=>TW vs a H Q
inductive YJ(t:TG)(u:qR)(vs:Qi V)(σ:Qi (Qj V))(H:Hp)(Q:Qi (Qj V)->Hp->Prop):Prop
 | mk(v:V)(r:Qi V)(h:vs=v::r)(q:t v σ H λσ2 H2=>u r σ2 H2 Q):YJ t u vs σ H Q
def eG(t:TG)(u:qR):qR:=λvs a H Q=>YJ t u vs a H Q
def dV:JD X [] eO:=by
 intro a s b H vs d Q I r h;obtain⟨e,h⟩:=h;subst e;cases r;exact J8 ⟨b,H,I,h⟩
def bI{e:Qc}{es:Qi Qc}{t:TG}{u:qR}(l:PG X e t)(i:JD X es u)
  (hs:X9 ((Vc (e::es) X.env).map (·.2)=assign e X.env::(Vc es X.env).map (·.2)) X8):JD X (e::es) (eG t u):=by
 intro a s x H vs z Q I r h;obtain⟨v,n,d,h⟩:=h;subst d;cases r with
 | cons r q=>
  rw[hs];refine assignInOrder_cons<|bD (l a s x H _ _ _ I r h) ?_;rintro _ f ⟨o,j,b,m⟩;exact i a f o j _ _ Q b q m
inductive SE(K:Fq)(n:Qk)(t:qR)(v:V)(σ:Qi (Qj V))(H:Hp)(Q:Qi (Qj V)->Hp->Prop):Prop
 | mk(a:eH)(xs:Qi V)(h1:v=.ref a)(h2:SqT K H a xs)(h3:↑xs=n)(q:t xs σ H Q):SE K n t v σ H Q
def eP(K:Fq)(n:Qk)(t:qR):TG:=λv a H Q=>SE K n t v a H Q
def dX(q:X.calm=Qr)(h:JD X es t)
  (x:X9 (↑(Vc es X.env)=n) X8) (a1:X9 ((Vc es X.env).findIdx? (·.1)=none) X8):PG X (.Tuple es k pos) (eP X.K n t):=by
 intro f s A H v u Q I r d;obtain⟨a,C,l,m,hl,d⟩:=d;subst l;cases r;obtain⟨G,i,z,J⟩:=I.tuple m;refine assign_Tuple_tuple (I.ok.hd q) z (by simp[x,<-hl,i.length]) a1 λB E=>?_
 have j:Inv X f A H {s with heap:=B}:=I.kept (t':=s.toks) λb o e=>E b o (dB<|cI e) e;exact h f _ A H C _ Q j ⇑[i] d
def QQ(to d:TE)(t:wD):TG:=λv a H Q=>to a H λo f=>d a f λi b=>t o i v b λe=>Q a e
def yX{o i:Qc}{to e:TE}{t:wD}(m:PE X o to)(hi:PE X i e)(hs:FL X t)
  (f:X9 (∀v,assign (.Subscript o i pos) X.env v=(do
   let a <-holding [v] (eval o X.env)
   let b <-holding [v,a] (eval i X.env)
   Ww pos
   holding [v,a,b] (Q0 a b v)
   release [v,a,b] [])) X5):PG X (.Subscript o i pos) (QQ to e t):=by
 intro d s J H v u Q I r h;rw[f];refine aC<|gQ<|bD (m d s J H _ I h) ?_;rintro a n ⟨x,q,j,z,E⟩;refine aC<|gQ<|bD (hi d n J q _ j E) ?_;rintro b M ⟨y,L,G,l,A⟩;refine aC<|AC<|aC<|gQ<|bD (hs d M J L x y v a b u _ G z l r A) ?_;rintro _ O ⟨N,C,B⟩;exact wpAny_release ⟨J,N,C,B⟩
def gH(te:TE)(g:TG):TS:=λD a H=>te a H λx b=>g x a b D.nx
def hZ{o e:Qc}{te:TE}{g:TG}(he:PE X e te)(d:PG X o g)(hs:X9 (P0 [o] e pos.line X.env=pure false) X8)(j:X9 (P1 [o] e X.env=pure none) X8)
  (m:X9 ((Vc [o] X.env).map (·.2)=[assign o X.env]) X8):PS X (.Assign [o] e pos) (gH te g):=by
 intro a s r H D I h;refine wpAny_Assign_stores (bD (he a s r H _ I h) λv f ⟨x,i,b,l,n⟩=>?_) hs j;rw[m];exact bD (d a f r i x v _ b l n) λ_ u q=>q
def jU{i:Qk}{x:zZ}{e:Qc}{te:TE}{a:Ud}(l:X.N.Nodup)(hi:X.N[i]?\x)(hx:yM X.env.scope x)(he:PE X e te)(hs:X9 (Tt e (Qp<|.Name x a) pos.line X.env=pure false) X8)(d:X9 (X.fn x=Qr\/X.env.scope.names.lookup x\.local) X4):
  PS X (.Assign [.Name x a] e pos) (gH te<|cA i):=by
 intro a1 s q H D I h;refine wpAny_Assign_Name (bD (he a1 s q H _ I h) λv o ⟨y,f,b,j,m⟩=>?_) hs;exact JR b l hi hx j (λr n=>{_,f,n,m}) d
def RM(i j:Qk)(b:TA):TS:=λD a H=>b a H λvs d=>∃v w,vs=[v,w]/\D.nx ((a.set i<|some v).set j<|some w) d
def UT{i j:Qk}{x y:zZ}{a b:Qc}{ta:TA}{n m pt:Ud}{kt k2 pt2}(O:X.calm=Qr)(B:X.N.Nodup)(hi:X.N[i]?\x)(T:X.N[j]?\y)(G:i≠j)
  (hx:X.env.scope.names.lookup x\.local) (z:X.env.scope.names.lookup y\.local) (J:PA X [a,b] ta)
  (hw:P1 [.Tuple [.Name x n,.Name y m] kt pt] (.Tuple [a,b] k2 pt2) X.env=pure (Qp [x,y]))
  (hs:X9 (P0 [.Tuple [.Name x n,.Name y m] kt pt] (.Tuple [a,b] k2 pt2) pos.line X.env=pure false) X8):
  PS X (.Assign [.Tuple [.Name x n,.Name y m] kt pt] (.Tuple [a,b] k2 pt2) pos) (RM i j ta):=by
 intro C s σ H D I h;rw[exec_Assign_arm];refine aC<|AC ?_;rw[hs];refine aC<|aZ ?_;rw[bA<|by decide];refine aC<|Tuple_<|bD (J _ C s σ H _ I h) ?_;rintro us f ⟨vs,E,L,r1,r⟩;obtain⟨v,w,M,r⟩:=r;subst M;obtain⟨d,l,rfl,rv,a2⟩:∃d l,us=[d,l]/\RelV v d/\RelV w l:=by
  cases r1 with
  | cons p q=>
   cases q with
   | cons p' q'=>
    cases q';exact{_,6,p,p'}
 refine jP ?_ (by show 2<=sizeLine;decide);have Z:Inv X C σ E {f with heap:=f.heap.push {cls:=.type "tuple",data:=.seq [d,l].toArray}}:=L.kept (t':=f.toks) λb o e=>cB _ e;rw[hw];refine aC<|aZ ?_;show Qw ⇑{X} X.A (do rule "assign.swapped-stores";let items <-unpackItems (.ref f⁻¹) 2 Qq;Zd [λv=>D7 X.env y v,λv=>D7 X.env x v] items.reverse;pure Flow.next) _ _ _;refine aC<|jI<|aC<|unpackItems_tuple (items:=#[d,l]) (I.ok.hd O) (Vq.new f.heap _) λh' a1=>?_;have W:=Z.kept (h':=h') (t':=f.toks) λb o e=>a1 b o (dB<|cI e) e;show Qw _ _ (Zd [λv=>D7 X.env y v,λv=>D7 X.env x v] [l,d] >>= λ_=>pure Flow.next) _ _ _;refine aC<|assignInOrder_cons<|wpAny_bindName<|JR W B T (.inl z) a2 (λs2 I4=>?_)<|.inr z;refine assignInOrder_cons<|wpAny_bindName<|JR I4 B hi (.inl hx) rv (λs3 u=>J8<|aZ ?_)<|.inr hx;rw[Qi.set_comm _ _<|cJ G]at u;exact{_,E,u,r}
end
section
def WR(c:TT)(h:TS):TS:=λD a H=>∃W:Qk->St->Hp->Prop,(∃m,W m a H)/\∀m a H,W m a H->
 c a H λb f=>if b=Qr then ∃N:St->Hp->Prop,(∀d e,N d e->∃m',m'<m/\W m' d e)/\h {D with nx:=N,ct:=N,bk:=D.nx} a f else D.nx a f
def KG{c:Qc}{body:Qi Qd}{r:TT}{tb:TS}(hp:PassesOwn ⇑{X} X.A X.env X.xe)(B:PT X c r)(z:PSs X body tb):PS X (.While c body [] pos) (WR r tb):=by
 intro l s σ H D I h;obtain⟨W,⟨C,L⟩,a1⟩:=h;refine wpAny_While<|codeAny_whileLoop (λn E=>∃T H',Inv X l T H' E/\W n T H') ?_ C ⟨σ,H,I,L⟩;rintro n J ⟨O,u,x,G⟩;refine uA hp<|bD (B l J O u _ x<|a1 n O u G) ?_;rintro b s2 ⟨H2,q,d⟩;cases b with
 | true=>
  obtain⟨N,o,d⟩:=d;rw[bG rfl];refine uA hp<|bD (z l s2 O H2 _ q d) λf s3 a=>?_;cases f with
  | next=>
   obtain⟨M,Z,i,e⟩:=a;obtain⟨m',m,j⟩:=o M Z e;exact⟨m',m,M,Z,i,j⟩
  | cont=>
   obtain⟨M,Z,i,e⟩:=a;obtain⟨m',m,j⟩:=o M Z e;exact⟨m',m,M,Z,i,j⟩
  | brk=>exact a
  | ret v=>exact a
 | false=>
  rw[bA eJ];exact Vg ⟨O,H2,q,d⟩
end
structure It where
 go:Qk->Hp->Prop
 yld:Qk->Hp->V->Hp->Prop
 stop:Qk->Hp->Prop
def fK(X:Cx)(a:Z1)(H:Hp)(b:eH):Prop:=
 H b=Qq/\b≠X.env.locals/\b∉X.fs/\(b∈X.ex\/X.s₀⁻¹<=b)/\(∀x c,X.env.cells.lookup x\c->c≠b)/\∀p∈X.pn++a,p.1≠b
def Inv.fpOk(I:Inv X pins σ H s)(a:s⁻¹<=b)(d:H' b=Qq):fK X pins H' b:=by
 refine{d,kC<|jA I.lt a,I.nofs a,.inr<|fM I.sz a,λx c e z=>?_,λp f z=>?_}
 .obtain⟨v,q⟩:=I.cell x c e;exact absurd (jA q.lt<|by rw[z];exact a)<|nU _
 .exact absurd (jA (cI (I.pin p f).1)<|by rw[z];exact a)<|nU _
structure gM(P:Py)(w:Qb)(K:Fq)(tg:Qc)(J:It)(fp:Z3)(it:eH)(tn:Qk->Qa->Prop):Prop where
 mem:it∈fp
 obj:∀i h,tn i h->∀b∈fp,∃o,h.get? b\o/\∀v,o.data≠.cell v
 keep:∀i h h',tn i h->(∀b∈fp,∀o,h.get? b\o->h'.get? b\o)->tn i h'
 item:∀(X:Cx),X.prog=P->X.w=w->X.K=K->X.calm=Qr->∀(i:Qk)(pins:Z1)(s:Pw)(σ:St)(H:Hp)(E:Vp),Inv X pins σ H s->(∀b∈fp,fK X pins H b)->tn i s.heap->J.go i H->
  Qw (Qx P w) X.A (Rq<|.ref it) (λr s1=>∃u,r\u/\ Qw (Qx P w) X.A (Tj tg (.ref it) u) (λ_ s2=>∃x H',Inv X pins σ H' s2/\RelV x u/\J.yld i H x H'/\tn (i+1) s2.heap/\∀b∈fp,H' b=Qq) E s1) E s
 done:∀(X:Cx),X.prog=P->X.w=w->X.K=K->X.calm=Qr->∀(i:Qk)(pins:Z1)(s:Pw)(σ:St)(H:Hp)(E:Vp),Inv X pins σ H s->(∀b∈fp,fK X pins H b)->tn i s.heap->J.stop i H->
  Qw (Qx P w) X.A (Rq<|.ref it) (λr s1=>r=Qq/\Inv X pins σ H s1) E s
 self:∀(A:Qf)(i:Qk)(s:Pw)(Q:Vp)(E:Vp),tn i s.heap->Q (.ref it) s->Qw (Qx P w) A (Xk<|.ref it) Q E s
abbrev TI:=St->Hp->(It->Hp->Prop)->Prop
def OP(X:Cx)(a:Z1)(l:St)(m:Qc)(R:It->Hp->Prop)(d:iH)(i:Pw):Prop:=
 ∃(h:eH)(f:Z3)(j:Qk->Qa->Prop)(J:It)(e:Hp),d=.ref h/\Inv X a l e i/\gM X.prog X.w X.K m J f h j/\j 0 i.heap/\(∀b∈f,fK X a e b)/\R J e
def PI(X:Cx)(e iter:Qc)(f:TI):Prop:=
 ∀(a:Z1)(s:Pw)(b:St)(H:Hp)(R:It->Hp->Prop),Inv X a b H s->f b H R->
  Qw ⇑{X} X.A (eval iter X.env) (λv d=>Qw ⇑{X} X.A (Xk v) (OP X a b e R) X.xe d) X.xe s
def xG(e:s.heap.get? it\o)(b:o.cls=.type n)(hd:o.data=.fields vs)
  (d:["enumerate","zip","dict_itemiterator","dict_reverseitemiterator","odict_iterator","itertools.zip_longest","itertools.pairwise"].contains n=Qs) (a:Q () s):Qw M A (Tj tg (.ref it) u) Q E s:=by
 unfold Tj;cases tg <;> first
  | exact aZ a
  | (cases u <;> first
    | exact aZ a
    | (refine aC<|wpAny_load e ?_;rw[b,hd];show Qw M A (if (["enumerate","zip","dict_itemiterator","dict_reverseitemiterator","odict_iterator","itertools.zip_longest","itertools.pairwise"].contains n && vs[0]? == Qp (rawInt _))=Qr then _ else _) Q E s;rw[bA<|by intro h;rw[d,Qm.false_and]at h;cases h];exact aZ a))
def AI(K:Fq)(a:eH):It:=
 ⟨λi H=>∃b x,SqL K H a b/\b[i]?\x,λi H x d=>d=H/\∀b,SqL K H a b->b[i]?\x,λi H=>∃b,SqL K H a b/\↑b<=i⟩
def QH(K:Fq)(a:eH):It:=
 ⟨λi H=>∃b x,SqT K H a b/\b[i]?\x,λi H x d=>d=H/\∀b,SqT K H a b->b[i]?\x,λi H=>∃b,SqT K H a b/\↑b<=i⟩
def LJ(lo:Ql)(n:Qk):It:=⟨λi _=>i<n,λi H x a=>a=H/\x=.int (lo+i),λi _=>n<=i⟩
def Mm{P:Py}{w:Qb}{K:Fq}{tg:Qc}(a it:eH):gM P w K tg (AI K a) [it] it (λi h=>h.IsListIter it a i) where
 mem:=by simp
 obj:=λi h st b f=>by
  have e:b=it:=⇑[f]
  subst e;obtain⟨o,e,c,d⟩:=st;exact{o,e,λv z=>by rw[d]at z;cases z}
 keep:=λi h h' st k=>st.at λo e=>k it ↥_ o e
 item:=by
  intro X G C n M i N s σ H E I l st m;subst G C n;obtain⟨xs,x,j,hx⟩:=m;obtain⟨its,A,p,hz⟩:=I.list j;obtain⟨u,Z,T⟩:=A.get hx;obtain⟨q,L,f2,J,r,B⟩:=l it ↥_;refine Zz st p.isList (x:=u) ⇑[Z] λh' a1 sb=>?_
  have O:Inv X N σ H {s with heap:=h'}:=I.turned (t':=s.toks) (λb o f e=>(sb.2 b f).trans e) q L J r B;obtain⟨o,e,c,d⟩:=id a1;exact{u,U,xG (s:={s with heap:=h'}) e c d ↥?_ {x,H,O,T,{U,λys W=>by rw[I.list_inj W j];exact hx},a1,λb f=>(l b f).1}}
 done:=by
  intro X G C n M i N s σ H E I l st m;subst G C n;obtain⟨xs,j,hx⟩:=m;obtain⟨its,A,p,hz⟩:=I.list j;obtain⟨q,L,f2,J,r,B⟩:=l it ↥_;have hl:=A.length;exact B6 (I.ok.hd M) st p.isList (by simp;lia) λh' eb=>{U,I.turned (t':=s.toks) (λb o f e=>eb b o f e) q L J r B}
 self:=λ_ _ _ _ _ st h=>wpAny_pyIter_listiter st h
def Jd{P:Py}{w:Qb}{K:Fq}{tg:Qc}(a it:eH):gM P w K tg (QH K a) [it] it (λi h=>h.IsTupleIter it a i) where
 mem:=by simp
 obj:=λi h st b f=>by
  have e:b=it:=⇑[f]
  subst e;obtain⟨o,e,c,d⟩:=st;exact{o,e,λv z=>by rw[d]at z;cases z}
 keep:=λi h h' st k=>st.at λo e=>k it ↥_ o e
 item:=by
  intro X G C n M i N s σ H E I l st m;subst G C n;obtain⟨xs,x,j,hx⟩:=m;obtain⟨its,A,p,hz⟩:=I.tuple j;obtain⟨u,Z,T⟩:=A.get hx;obtain⟨q,L,f2,J,r,B⟩:=l it ↥_;refine Zk st (show s.heap.IsTuple a its.toArray from p) (x:=u) ⇑[Z] λh' a1 sb=>?_
  have O:Inv X N σ H {s with heap:=h'}:=I.turned (t':=s.toks) (λb o f e=>(sb.2 b f).trans e) q L J r B;obtain⟨o,e,c,d⟩:=id a1;exact{u,U,xG (s:={s with heap:=h'}) e c d ↥?_ {x,H,O,T,{U,λys W=>by rw[I.tuple_inj W j];exact hx},a1,λb f=>(l b f).1}}
 done:=by
  intro X G C n M i N s σ H E I l st m;subst G C n;obtain⟨xs,j,hx⟩:=m;obtain⟨its,A,p,hz⟩:=I.tuple j;obtain⟨q,L,f2,J,r,B⟩:=l it ↥_;have hl:=A.length;exact Zx (I.ok.hd M) st (show s.heap.IsTuple a its.toArray from p) (by simp;lia) λh' eb=>⟨rfl,I.turned (t':=s.toks) (λb o f e=>eb b o f e) q L J r B⟩
 self:=λ_ _ _ _ _ st h=>wpAny_pyIter_tupleiter st h
def Ov{P:Py}{w:Qb}{K:Fq}{tg:Qc}(T:eH)(lo:Ql)(n:Qk):gM P w K tg (LJ lo n) [T] T (λi h=>Xz h T (lo+(i:Qk)*1) ((n:Ql)-(i:Qk)) 1) where
 mem:=by simp
 obj:=λi h st b a=>by
  have e:b=T:=⇑[a]
  subst e;exact{_,st,λv z=>by
   have G:Data.fields _=M8 v:=z;cases G}
 keep:=λi h Z st k=>k T ↥_ _ st
 item:=by
  intro X x u l j i C s σ H E I d st f;subst x u l;obtain⟨m,B,O,A,q,r⟩:=d T ↥_;have W:=Walks.range (prog:=X.prog) (w:=X.w) (I.ok.hd j) T lo 1 n;refine W.item i s _ _ f st λv Z tk L a1 M=>?_;obtain⟨t,rfl⟩:=L;have J:Inv X C σ H {s with heap:=Z,toks:=tk}:=I.turned (λb o a e=>M b o ⇑[a] e) m B A q r;refine{6,xG (s:={s with heap:=Z,toks:=tk}) (n:="range_iterator") a1 rfl rfl ↥?_ {.int<|lo+i,H,J,{t,?_},⟨rfl,rfl⟩,a1,λb a=>(d b a).1}};rw[Ql.mul_one]
 done:=by
  intro X x u l j i C s σ H E I d st f;subst x u l;obtain⟨m,B,O,A,q,r⟩:=d T ↥_;exact Zy (I.ok.hd j) st (by have:n<=i:=f;lia) λZ N=>{U,I.turned (t':=s.toks) (λb o a e=>N b o a e) m B A q r}
 self:=λ_ _ _ _ _ st h=>A0 st h
section
inductive UI(K:Fq)(x:V)(H:Hp)(R:It->Hp->Prop):Prop
 | mk(a:eH)(h:x=.ref a)(h2:∃xs,SqL K H a xs)(q:R (AI K a) H):UI K x H R
def OV(K:Fq)(a:TE):TI:=λb H R=>a b H λx d=>UI K x d R
inductive RW(K:Fq)(x:V)(H:Hp)(R:It->Hp->Prop):Prop
 | mk(a:eH)(h:x=.ref a)(h2:∃xs,SqT K H a xs)(q:R (QH K a) H):RW K x H R
def HC(K:Fq)(a:TE):TI:=λb H R=>a b H λx d=>RW K x d R
def gY{l:Qc}{A:TE}(hl:PE X l A):PI X tg l (OV X.K A):=by
 intro i s B H R I h;refine bD (hl i s B H _ I h) ?_;rintro v f ⟨x,n,d,r,u⟩;obtain⟨a,e,⟨E,m⟩,q⟩:=u;subst e;cases r;obtain⟨C,z,p,G⟩:=d.list m;refine wpAny_pyIter_list p.isList ?_;refine{f⁻¹,[f⁻¹],_,_,n,U,d.kept (t':=f.toks) λb o e=>cB _ e,Mm a _,{_,dQ _ rfl,U,U},λb j=>?_,q};have e:b=f⁻¹:=⇑[j]
 subst e;exact d.fpOk (aV _)<|d.hok.fresh<|aV _
def gB{l:Qc}{B:TE}(hl:PE X l B):PI X tg l (HC X.K B):=by
 intro i s C H R I h;refine bD (hl i s C H _ I h) ?_;rintro v d ⟨x,n,f,r,u⟩;obtain⟨a,e,⟨E,m⟩,q⟩:=u;subst e;cases r;obtain⟨A,z,p,G⟩:=f.tuple m;refine uE (show d.heap.IsTuple a A.toArray from p) ?_;refine{d⁻¹,[d⁻¹],_,_,n,U,f.kept (t':=d.toks) λb o e=>cB _ e,Jd a _,{_,dQ _ rfl,U,U},λb j=>?_,q};have e:b=d⁻¹:=⇑[j]
 subst e;exact f.fpOk (aV _)<|f.hok.fresh<|aV _
def Lp{a:Z1}{r:St}{H:Hp}{s:Pw}{R:It->Hp->Prop}{E:Vp}{lo hi:Ql}{t u v:R3}{tk:Qk}(I:Inv X a r H s)(m:-(2 ^ 62)<=lo)(i:lo<2 ^ 62)(l:-(2 ^ 62)<=hi)(n:hi<2 ^ 62)
  (q:R (LJ lo (hi-lo).toNat) H):Qw ⇑{X} X.A (Xk<|.ref s⁻¹) (OP X a r tg R) E {s with heap:=s.heap.push {cls:=.type "range",data:=.fields #[.int lo t,.int hi u,.int 1 v]},toks:=tk}:=by
 refine F6 (IsRange.new ..) (small_one m i l n) ?_;have d:Inv X a r H {s with heap:=s.heap.push {cls:=.type "range",data:=.fields #[.int lo t,.int hi u,.int 1 v]},toks:=tk}:=I.kept λb o e=>cB _ e;refine{(s.heap.push {cls:=.type "range",data:=.fields #[.int lo t,.int hi u,.int 1 v]}).objs.size,[(s.heap.push {cls:=.type "range",data:=.fields #[.int lo t,.int hi u,.int 1 v]}).objs.size],_,_,H,U, d.kept (t':=tk) λb o e=>cB _ e,Ov _ lo (hi-lo).toNat,?_,λb h=>?_,q}
 .have f:lo+((0:Qk):Ql)*1=lo:=by simp
  have j:(((hi-lo).toNat:Qk):Ql)-((0:Qk):Ql)=Tl lo hi 1:=by rw[rangeSize_one];split <;> lia
  show Xz _ _ (lo+((0:Qk):Ql)*1) ((((hi-lo).toNat:Qk):Ql)-((0:Qk):Ql)) 1;rw[f,j];exact dQ _ rfl
 .have e:b=(s.heap.push {cls:=.type "range",data:=.fields #[.int lo t,.int hi u,.int 1 v]}).objs.size:=⇑[h]
  subst e;exact d.fpOk (aV _)<|d.hok.fresh<|aV _
def sV(a:TA):TI:=λb H R=>a b H λvs d=>∃j:Ql,vs=[.int j]/\-(2 ^ 62)<=j/\j<2 ^ 62/\R (LJ 0 j.toNat) d
def oW{a:Qc}{z:TA}{p pos:Ud}(l:Gl X "range")(m:X.mg "range"=Qq)(d:PA X [a] z)(hs:X9 (starEach [a] X.env=[(Qs,eval a X.env)]) X8):PI X tg (.Call (.Name "range" p) [a] [] pos) (sV z):=by
 intro f s B H R I h;refine L3<|oP I l m boot_range<|sK (bD (d pos f s B H _ I h) λC u ⟨vs,x,i,n,b⟩=>?_) hs rfl;obtain⟨j,e,b,o,q⟩:=b;subst e;cases n with
 | cons r A=>
  cases A;obtain⟨t,rfl⟩:=r;exact call_range_1 (Lp i ∅ ∅ b o<|⇑[q])
def RA(j:TI)(g:TG)(f:TS):TS:=λD a H=>j a H λJ l=>∃W:Qk->Qk->St->Hp->Prop,(∃m,W 0 m a l)/\∀i m a H,W i m a H->
 (J.stop i H/\D.nx a H)\/(J.go i H/\∃N:St->Hp->Prop,(∀d b,N d b->∃m',m'<m/\W (i+1) m' d b)/\∀x b,J.yld i H x b->g x a b λe h=>f {D with nx:=N,ct:=N,bk:=D.nx} e h)
def CO(fp:Z3)(h:Qa):Z1:=fp.filterMap λb=>(h.get? b).map λo=>(b,o)
def IL(a:b∈fp)(e:h.get? b\o):(b,o)∈CO fp h:=Qi.mem_filterMap.mpr ⟨b,a,by rw[e];rfl⟩
def Bn(hp:p∈CO fp h):p.1∈fp/\h.get? p.1\p.2:=by
 obtain⟨b,a,e⟩:=Qi.mem_filterMap.mp hp;cases q:h.get? b with
 | none=>rw[q]at e;cases e
 | some o=>
  rw[q]at e;have d:(b,o)=p:=iZ e;subst d;exact⟨a,q⟩
def Inv.pinned(I:Inv X pins σ H s)(j:∀b∈fp,fK X pins H b)(h:∀b∈fp,∃o,s.heap.get? b\o/\∀v,o.data≠.cell v):Inv X (pins++CO fp s.heap) σ H s:=
 I.pins_of λp n=>(vj7.mp n).elim (λz=>I.pin p<|jE _ z) λz=>by
  obtain⟨a,e⟩:=Bn z;obtain⟨i,m,l,_⟩:=j p.1 a;obtain⟨o,f,d⟩:=h p.1 a;rw[e]at f;cases f;exact⟨e,i,m,l,d⟩
def Inv.unpinned(I:Inv X (pins++pl) σ H s):Inv X pins σ H s:=I.pins_of λp a=>I.pin p<|jE _<|nC _ a
def eZ{a1:Qc}{body:Qi Qd}{O:TI}{g:TG}{tb:TS}{pos:Ud}(hp:PassesOwn ⇑{X} X.A X.env X.xe)(hc:X.calm=Qr)(hi:PI X tg a1 O)(hg:PG X tg g)(a:PSs X body tb)
  (hs:X9 (∀x,Sq a1 X.env x=pure x) X5):PS X (.For tg a1 body [] pos) (RA O g tb):=by
 intro z s σ H D I h;refine wpAny_For (bD (hi z s σ H _ I h) λv s1 h1=>bD h1 λaa s2 h2=>?_) hs;obtain⟨it,fp,M,J,H2,e,I2,T,a7,f2,W,⟨m0,w0⟩,a3⟩:=h2;subst e;have G:∀{H':Hp},(∀b∈fp,H' b=Qq)->∀b∈fp,fK X z H' b:=λhn b a=>⟨hn b a,(f2 b a).2⟩;refine codeAny_forLoop_any (λn Z=>∃i σ' H',Inv X z σ' H' Z/\M i Z.heap/\(∀b∈fp,H' b=Qq)/\W i n σ' H') ?_ m0 {0,σ,H2,I2,a7,λb a=>(f2 b a).1,w0};rintro n s3 ⟨i,σ3,H3,I3,a5,L,w3⟩;obtain⟨stop,qn⟩|⟨go,N,hN,step⟩:=a3 i n σ3 H3 w3
 .refine uA hp<|bD (T.done X rfl rfl rfl hc i z s3 σ3 H3 X.xe I3 (G L) a5 stop) ?_;rintro r s4 ⟨hr,I4⟩;subst hr;exact Vg ⟨σ3,H3,I4,qn⟩
 .refine uA hp<|bD (T.item X rfl rfl rfl hc i z s3 σ3 H3 X.xe I3 (G L) a5 go) ?_;rintro r s4 ⟨u,hr,h4⟩;subst hr;refine uA hp<|bD h4 ?_;rintro _ s5 ⟨x,H5,I5,r5,y5,E,a8⟩;have a9:=I5.pinned (G a8)<|T.obj _ _ E;refine uA hp<|bD (hg _ s5 σ3 H5 x u _ a9 r5<|step x H5 y5) ?_;rintro _ s6 ⟨σ6,H6,I6,q6⟩;refine uA hp<|bD (a _ s6 σ6 H6 _ I6 q6) λf C q=>?_;have again:∀{σ7:St}{l:Hp},Inv X (z++CO fp s5.heap) σ7 l C->N σ7 l->∃m,m<n/\∃i σ' H',Inv X z σ' H' C/\M i C.heap/\(∀b∈fp,H' b=Qq)/\W i m σ' H':=λ{σ7 l} j B=>by
   obtain⟨m',hm,w7⟩:=hN σ7 l B;refine{m',hm,i+1,σ7,l,j.unpinned,T.keep _ _ _ E λb a o e=>(j.pin (b,o)<|jE _<|jE _<|IL a e).1,λb a=>?_,w7};obtain⟨o,e,d⟩:=T.obj _ _ E b a;exact(j.pin (b,o)<|jE _<|jE _<|IL a e).2.1
  cases f with
  | next=>obtain⟨σ7,l,j,B⟩:=q;exact again j B
  | cont=>obtain⟨σ7,l,j,B⟩:=q;exact again j B
  | brk=>obtain⟨σ7,l,j,q⟩:=q;exact{σ7,l,j.unpinned,q}
  | ret v=>obtain⟨x7,σ7,l,j,r7,q⟩:=q;exact{x7,σ7,l,j.unpinned,r7,q}
end
abbrev pJ(J:It)(S:V->St->Hp->(St->Hp->Prop)->Prop)(D:St->Hp->Prop)(σ:St)(H:Hp):Prop:=∃W:Qk->Qk->St->Hp->Prop,(∃m,W 0 m σ H)/\∀i m σ H,W i m σ H->
 (J.stop i H/\D σ H)\/(J.go i H/\∃N:St->Hp->Prop,(∀σ' H',N σ' H'->∃m',m'<m/\W (i+1) m' σ' H')/\∀x H',J.yld i H x H'->S x σ H' N)
def tH{J:It}{S:V->St->Hp->(St->Hp->Prop)->Prop}{D:St->Hp->Prop}(n:Qk)(d:Qk->St->Hp->Prop)(h0:d 0 f H)(hs:∀i f H,i<n->d i f H->J.go i H/\∀x H',J.yld i H x H'->S x f H' (d<|i+1))(hd:∀f H,d n f H->J.stop n H/\D f H):pJ J S D f H:=by
 exists λi m f H=>m=n-i/\i<=n/\d i f H,{6,cE _,h0};rintro i m f H ⟨rfl,l,p⟩;obtain h|rfl:=A8 l
 .obtain⟨a,b⟩:=hs i f H h p;exact .inr {a,d<|i+1,λj H' e=>{_,∅,U,h,e},b}
 .exact .inl<|hd f H p
def iT{S:V->St->Hp->(St->Hp->Prop)->Prop}{D:St->Hp->Prop}{K:Fq}(b:Qk->St->Hp->Prop)(h0:b 0 d H)(hl:∀i d H,i<=↑xs->b i d H->SqL K H a xs)(hs:∀i x d H,xs[i]?\x->b i d H->S x d H (b<|i+1))(hd:∀d H,b ↑xs d H->D d H):pJ (AI K a) S D d H:=
 tH ↑xs b h0 (λi d H h p=>have q:=hl i d H (cQ h) p; ⟨⟨xs,xs[i],q,bM h⟩,by rintro x _ ⟨rfl,y⟩;exact hs i x d _ (y xs q) p⟩) λd H p=>⟨⟨xs,hl _ d H (aV _) p,aV _⟩,hd d H p⟩
def gG{S:V->St->Hp->(St->Hp->Prop)->Prop}{D:St->Hp->Prop}{K:Fq}(b:Qk->St->Hp->Prop)(h0:b 0 d H)(hl:∀i d H,i<=↑xs->b i d H->SqT K H a xs)(hs:∀i x d H,xs[i]?\x->b i d H->S x d H (b<|i+1))(hd:∀d H,b ↑xs d H->D d H):pJ (QH K a) S D d H:=
 tH ↑xs b h0 (λi d H h p=>have q:=hl i d H (cQ h) p; ⟨⟨xs,xs[i],q,bM h⟩,by rintro x _ ⟨rfl,y⟩;exact hs i x d _ (y xs q) p⟩) λd H p=>⟨⟨xs,hl _ d H (aV _) p,aV _⟩,hd d H p⟩
def pB{S:V->St->Hp->(St->Hp->Prop)->Prop}{D:St->Hp->Prop}{lo:Ql}{n:Qk}(a:Qk->St->Hp->Prop)(h0:a 0 b H)(hs:∀i b H,i<n->a i b H->S (.int<|lo+i) b H (a<|i+1))(hd:∀b H,a n b H->D b H):pJ (LJ lo n) S D b H:=
 tH n a h0 (λi b H h p=>⟨h,by rintro _ _ ⟨rfl,rfl⟩;exact hs i b _ h p⟩) λb H p=>⟨aV _,hd b H p⟩
def MW(d:St->Hp->Prop)(h:St->Hp->Qk)(h0:d f H)
  (hs:∀f H,d f H->c f H λb a=>if b=Qr then tb {D with nx:=λσ' H'=>d σ' H'/\h σ' H'<h f H,ct:=λσ' H'=>d σ' H'/\h σ' H'<h f H,bk:=D.nx} f a else D.nx f a)
  (mono:∀f H Q i,(∀b a,Q b a->i b a)->c f H Q->c f H i):WR c tb D f H:=by
 exists λm f H=>m=h f H/\d f H,{6,h0};rintro m f H ⟨rfl,p⟩;refine mono f H _ _ (λb a q=>?_)<|hs f H p;cases b with
 | true=>exact{_,by rintro σ' H' ⟨e,l⟩;exact{_,l,U,e},q}
 | false=>exact q
abbrev R2:=V->V->Hp->VK->Prop
def dW(X:Cx)(f:iH->iH->Xg iH)(r:R2):Prop:=
 ∀(a:Z1)(s:Pw)(b:St)(H:Hp)(x y:V)(v u:iH)(Q:VK),Inv X a b H s->RelV x v->RelV y u->r x y H Q->
  Qw ⇑{X} X.A (f v u) (EP X a b Q) X.xe s
def MM(X:Cx)(f:iH->Xg iH)(r:V->Hp->VK->Prop):Prop:=
 ∀(a:Z1)(s:Pw)(b:St)(H:Hp)(x:V)(v:iH)(Q:VK),Inv X a b H s->RelV x v->r x H Q->
  Qw ⇑{X} X.A (f v) (EP X a b Q) X.xe s
def CallR(X:Cx)(f:iH)(r:Qi V->Hp->VK->Prop):Prop:=
 ∀(a:Z1)(s:Pw)(d:St)(H:Hp)(e:Qi V)(b:Qi iH)(Q:VK),Inv X a d H s->Vals e b->r e H Q->
  Qw ⇑{X} X.A (call f b) (EP X a d Q) X.xe s
def NA(X:Cx)(r:V->Hp->(Qm->Hp->Prop)->Prop):Prop:=
 ∀(a:Z1)(s:Pw)(b:St)(H:Hp)(x:V)(v:iH)(Q:Qm->Hp->Prop),Inv X a b H s->RelV x v->r x H Q->
  Qw ⇑{X} X.A (truthy v) (TP X a b Q) X.xe s
def dG(r:R2)(e b:TE):TE:=λa H Q=>e a H λx f=>b a f λy d=>r x y d Q
def RF(r:V->Hp->VK->Prop)(a:TE):TE:=λb H Q=>a b H λx d=>r x d Q
def rI(C:Ql->Ql->Prop)(g:Ql->Ql->V):R2:=λx y H Q=>∃i j,x=.int i/\y=.int j/\C i j/\Q (g i j) H
inductive Aj(g:Ql->Ql->V)(x y:V)(H:Hp)(Q:VK):Prop
 | mk(i j:Ql)(h1:x=.int i)(h2:y=.int j)(q:Q (g i j) H):Aj g x y H Q
def jO(g:Ql->Ql->V):R2:=λx y H Q=>Aj g x y H Q
def rU(g:Ql->V):V->Hp->VK->Prop:=λx H Q=>∃i,x=.int i/\Q (g i) H
section
def vB(i:PE X a ta)(m:PE X b tb){d:Z1}{s:Pw}{J:St}{H:Hp}{R:V->V->Hp->Prop}(I:Inv X d J H s)
  (h:ta J H λx e=>tb J e λy G=>R x y G) {Q:Vp} {f:iH->iH->Xg iH}
  (r:∀v u L x y G,Inv X d J G L->RelV x v->RelV y u->R x y G->Qw ⇑{X} X.A (f v u) Q X.xe L):
  Qw ⇑{X} X.A (eval a X.env) (λv n=>Qw ⇑{X} X.A (eval b X.env) (λu l=>Qw ⇑{X} X.A (f v u) Q X.xe l) X.xe n) X.xe s:=by
 refine bD (i d s J H _ I h) ?_;rintro v q ⟨x,e,j,z,C⟩;refine bD (m d q J e _ j C) ?_;rintro u L ⟨y,G,E,o,B⟩;exact r v u L x y G E z o B
def cM{d:O9}{r:R2}(j:dW X (Tf d) r)(e:PE X a ta)(i:PE X b tb):PE X (.BinOp a d b pos) (dG r ta tb):=by
 intro f s z H Q I h;exact wpAny_BinOp<|vB e i I h λv u A x y o n m l q=>j f A z o x y v u Q n m l q
def rP{d:UnaryOp}{r:V->Hp->VK->Prop}(l:MM X (unaryOp d) r)(f:PE X a ta):PE X (.UnaryOp d a pos) (RF r ta):=by
 intro b s o H Q I h;exact UnaryOp_ (bD (f b s o H _ I h) <| by rintro v m ⟨x,e,i,j,n⟩;exact l b m o e x v Q i j n)
def LH{f:iH->iH->Xg iH}{C:Ql->Ql->Prop}{g:Ql->Ql->Ql}
  (rule:∀(i j:Ql)(t u:R3)(s:Pw)(Q:Vp)(E:Vp),C i j->Q (.int (g i j) s.toks) {s with toks:=s.toks+1}->Qw ⇑{X} X.A (f (.int i t)<|.int j u) Q E s):
  dW X f (rI C λi j=>.int<|g i j):=by
 intro e s m H x y v u Q I d a h;obtain⟨i,j,rfl,rfl,b,q⟩:=h;obtain⟨t,rfl⟩:=d;obtain⟨l,rfl⟩:=a;exact rule i j t l s _ _ b {.int<|g i j,H,I.tok _,{6},q}
def HV{f:iH->iH->Xg iH}{g:Ql->Ql->Ql}
  (rule:∀(i j:Ql)(t u:R3)(s:Pw)(Q:Vp)(E:Vp),Q (.int (g i j) s.toks) {s with toks:=s.toks+1}->Qw ⇑{X} X.A (f (.int i t)<|.int j u) Q E s):
  dW X f (jO λi j=>.int<|g i j):=by
 intro d s l H x y v u Q I b a h;obtain⟨i,j,rfl,rfl,q⟩:=h;obtain⟨t,rfl⟩:=b;obtain⟨e,rfl⟩:=a;exact rule i j t e s _ _ {.int<|g i j,H,I.tok _,{6},q}
def xQ{f:iH->iH->Xg iH}{g:Ql->Ql->Qm}
  (rule:∀(i j:Ql)(t u:R3)(s:Pw)(Q:Vp)(E:Vp),Q (.bool<|g i j) s->Qw ⇑{X} X.A (f (.int i t)<|.int j u) Q E s):
  dW X f (jO λi j=>.bl<|g i j):=by
 intro d s l H x y v u Q I b a h;obtain⟨i,j,rfl,rfl,q⟩:=h;obtain⟨t,rfl⟩:=b;obtain⟨e,rfl⟩:=a;exact rule i j t e s _ _ {.bl<|g i j,H,I,U,q}
def NM(i j:Ql):Prop:=0<j/\j<1073741824
def QR(i j:Ql):Prop:=0<=j/\j<=1000000/\i.natAbs<2 ^ 64
def CMul(i j:Ql):Prop:=(-(2 ^ 64)<i/\i<2 ^ 64)\/(-(2 ^ 64)<j/\j<2 ^ 64)
def CMul.ok(h:CMul i j):IntMulOk i j:=by
 obtain⟨a,b⟩|⟨a,b⟩:=h
 .exact .of_left<|intBits_le_64 a b
 .exact .of_right<|intBits_le_64 a b
def lB:dW X (Tf .Add) (jO λi j=>.int<|i+j):=HV λ_ _ _ _ _ _ _ q=>add_int q
def pU:dW X (Tf .Sub) (jO λi j=>.int<|i-j):=HV λ_ _ _ _ _ _ _ q=>sub_int q
def vT:dW X (Tf .Mult) (rI CMul λi j=>.int<|i*j):=LH λ_ _ _ _ _ _ _ a q=>mul_int q a.ok
def EX:dW X (Tf .FloorDiv) (rI NM λi j=>.int<|i / j):=LH λi j _ _ _ _ _ a q=>by
 have b:(0:Ql)<j:=a.1;have d:j<1073741824:=a.2;exact floordiv_int ∅ (by rw[Ql.fdiv_eq_ediv_of_nonneg i ∅];exact q) (.inl<|PyProof.noPylong_small ∅)
def vY:dW X (Tf .Mod) (rI (λ_ j=>0<j) λi j=>.int<|i % j):=LH λi j _ _ _ _ _ a q=>by
 have b:(0:Ql)<j:=a;exact mod_int' ∅ (by rw[Ql.fmod_eq_emod_of_nonneg i ∅];exact q)
def yF:dW X (Tf .Pow) (rI QR λi j=>.int<|i ^ j.toNat):=LH λ_ _ _ _ _ _ _ a q=>pow_int_small a.1 a.2.1 a.2.2 q
def Hg{f:iH->Xg iH}{g:Ql->Ql}
  (rule:∀(i:Ql)(t:R3)(s:Pw)(Q:Vp)(E:Vp),Q (.int (g i) s.toks) {s with toks:=s.toks+1}->Qw ⇑{X} X.A (f<|.int i t) Q E s):
  MM X f (rU λi=>.int<|g i):=by
 intro b s d H x v Q I a h;obtain⟨i,rfl,q⟩:=h;obtain⟨t,rfl⟩:=a;exact rule i t s _ _ {.int<|g i,H,I.tok _,{6},q}
def sF:MM X (unaryOp .USub) (rU λi=>.int<|-i):=Hg λ_ _ _ _ _ q=>neg_int q
end
def EY:V->V->Qm
 | .non,.non=>Qr | .non,.int _=>Qr | .int _,.non=>Qr | .non,.bl _=>Qr | .bl _,.non=>Qr | .non,.str _=>Qr | .str _,.non=>Qr
 | .int _,.int _=>Qr | .bl _,.bl _=>Qr | .str _,.str _=>Qr | .byt _,.byt _=>Qr
 | .int _,.str _=>Qr | .str _,.int _=>Qr | .bl _,.str _=>Qr | .str _,.bl _=>Qr
 | _,_=>Qs
inductive HL(x y:V)(H:Hp)(Q:VK):Prop
 | mk(h:EY x y=Qr)(q:Q (.bl<|decide<|x=y) H):HL x y H Q
def oF:R2:=λx y H Q=>HL x y H Q
inductive GQ(x y:V)(H:Hp)(Q:VK):Prop
 | mk(h:EY x y=Qr)(q:Q (.bl<|!decide (x=y)) H):GQ x y H Q
def Lx:R2:=λx y H Q=>GQ x y H Q
def VX:decide (R8 i=R8 j)=(i == j):=by
 rw[rR];simp
def TQ:decide (V.bl i=V.bl j)=(i == j):=by
 rw[rR];simp
def SN:decide (R6 i=R6 j)=(i == j):=by
 rw[rR];simp
def UK:decide (V.byt i=V.byt j)=(i.toList == j.toList):=by
 rw[rR];cases i;cases j;simp
section
def fH(I:Inv X pins σ H s)(q:Q (.bl k) H)(e:k=k'):EP X pins σ Q (.bool k') s:=by
 subst e;exact{.bl k,H,I,U,q}
def gF:dW X (Sj .Eq) oF:=by
 intro d s l H x y v u Q I b a h;obtain⟨f,q⟩:=h;cases x with
 | non=>
  cases b;cases y with
  | non=>cases a;exact PySem.EqNone.eq_none_none (fH I q<|by simp)
  | bl j=>cases a;exact PySem.EqNone.eq_none_bool (fH I q<|by simp)
  | int j=>obtain⟨e,rfl⟩:=a;exact PySem.EqNone.eq_none_int (fH I q<|by simp)
  | str j=>obtain⟨e,rfl⟩:=a;exact PySem.EqNone.eq_none_str (fH I q<|by simp)
  | _=>exact absurd (show Qs=Qr from f) eJ
 | bl i=>
  cases b;cases y with
  | non=>cases a;exact PySem.EqNone.eq_bool_none (fH I q<|by simp)
  | bl j=>cases a;exact eq_bool<|fH I q TQ
  | str j=>obtain⟨e,rfl⟩:=a;exact PySem.EqMixed.eq_bool_str (fH I q<|by simp)
  | _=>exact absurd (show Qs=Qr from f) eJ
 | int i=>
  obtain⟨t,rfl⟩:=b;cases y with
  | non=>cases a;exact PySem.EqNone.eq_int_none (fH I q<|by simp)
  | int j=>obtain⟨e,rfl⟩:=a;exact eq_int<|fH I q VX
  | str j=>obtain⟨e,rfl⟩:=a;exact PySem.EqMixed.eq_int_str (fH I q<|by simp)
  | _=>exact absurd (show Qs=Qr from f) eJ
 | str i=>
  obtain⟨t,rfl⟩:=b;cases y with
  | non=>cases a;exact PySem.EqNone.eq_str_none (fH I q<|by simp)
  | bl j=>cases a;exact PySem.EqMixed.eq_str_bool (fH I q<|by simp)
  | int j=>obtain⟨e,rfl⟩:=a;exact PySem.EqMixed.eq_str_int (fH I q<|by simp)
  | str j=>obtain⟨e,rfl⟩:=a;exact eq_str<|fH I q SN
  | _=>exact absurd (show Qs=Qr from f) eJ
 | byt i=>
  obtain⟨t,rfl⟩:=b;cases y with
  | byt j=>obtain⟨e,rfl⟩:=a;exact PySem.W.eq_bytes<|fH I q UK
  | _=>exact absurd (show Qs=Qr from f) eJ
 | _=>cases y <;> exact absurd (show Qs=Qr from f) eJ
def EM:dW X (Sj .NotEq) Lx:=by
 intro d s l H x y v u Q I b a h;obtain⟨f,q⟩:=h;cases x with
 | non=>
  cases b;cases y with
  | non=>cases a;exact PySem.EqNone.ne_none_none (fH I q<|by simp)
  | bl j=>cases a;exact PySem.EqNone.ne_none_bool (fH I q<|by simp)
  | int j=>obtain⟨e,rfl⟩:=a;exact PySem.EqNone.ne_none_int (fH I q<|by simp)
  | str j=>obtain⟨e,rfl⟩:=a;exact PySem.EqNone.ne_none_str (fH I q<|by simp)
  | _=>exact absurd (show Qs=Qr from f) eJ
 | bl i=>
  cases b;cases y with
  | non=>cases a;exact PySem.EqNone.ne_bool_none (fH I q<|by simp)
  | bl j=>cases a;exact ne_bool<|fH I q<|cP not TQ
  | str j=>obtain⟨e,rfl⟩:=a;exact PySem.EqMixed.ne_bool_str (fH I q<|by simp)
  | _=>exact absurd (show Qs=Qr from f) eJ
 | int i=>
  obtain⟨t,rfl⟩:=b;cases y with
  | non=>cases a;exact PySem.EqNone.ne_int_none (fH I q<|by simp)
  | int j=>obtain⟨e,rfl⟩:=a;exact ne_int<|fH I q<|cP not VX
  | str j=>obtain⟨e,rfl⟩:=a;exact PySem.EqMixed.ne_int_str (fH I q<|by simp)
  | _=>exact absurd (show Qs=Qr from f) eJ
 | str i=>
  obtain⟨t,rfl⟩:=b;cases y with
  | non=>cases a;exact PySem.EqNone.ne_str_none (fH I q<|by simp)
  | bl j=>cases a;exact PySem.EqMixed.ne_str_bool (fH I q<|by simp)
  | int j=>obtain⟨e,rfl⟩:=a;exact PySem.EqMixed.ne_str_int (fH I q<|by simp)
  | str j=>obtain⟨e,rfl⟩:=a;exact ne_str<|fH I q<|cP not SN
  | _=>exact absurd (show Qs=Qr from f) eJ
 | byt i=>
  obtain⟨t,rfl⟩:=b;cases y with
  | byt j=>obtain⟨e,rfl⟩:=a;exact PySem.W.ne_bytes<|fH I q<|cP not UK
  | _=>exact absurd (show Qs=Qr from f) eJ
 | _=>cases y <;> exact absurd (show Qs=Qr from f) eJ
def tX:dW X (Sj .Lt) (jO λi j=>.bl<|decide<|i<j):=xQ λ_ _ _ _ _ _ _ q=>lt_int q
def pR:dW X (Sj .Gt) (jO λi j=>.bl<|decide<|j<i):=xQ λ_ _ _ _ _ _ _ q=>gt_int q
def NJ:dW X (Sj .GtE) (jO λi j=>.bl<|decide<|j<=i):=xQ λ_ _ _ _ _ _ _ q=>ge_int q
def cS(b:Qc)(h:X9 (op≠.In) X7)(a:X9 (op≠.NotIn) X7):Ta op b=false:=by
 have d:(op == CmpOp.In)=false:=by cases op <;> first | rfl | exact absurd rfl h
 have e:(op == CmpOp.NotIn)=false:=by cases op <;> first | rfl | exact absurd rfl a
 cases b <;> simp[Ta,d,e]
def HZ(i:dW X (Sj op) r)(d:PE X a ta)(f:PE X b tb)(j:Ta op b=Qs):PE X (.Compare a [op] [b] pos) (dG r ta tb):=by
 intro e s z H Q I h;exact N5 (vB d f I h λv u A x y o n m l q=>i e A z o x y v u Q n m l q) j
def iE(t:TE):TT:=λa H Q=>t a H λx b=>nH x b Q
def cG{f:CmpOp}{r:R2}(o:dW X (Sj f) r)(j:PE X a ta)(m:PE X b tb)(A:Ta f b=Qs):PT X (.Compare a [f] [b] pos) (iE<|dG r ta tb):=by
 intro d s N H Q I h;refine B7 (bD (j d s N H _ I h) λv q ⟨x,B,l,C,L⟩=>bD (m d q N B _ l L) λu T ⟨y,O,M,n,E⟩=>
  bD (o d T N O x y v u _ M C n E) λc Z ⟨z,W,J,i,k,e,G⟩=>?_) A
 subst e;cases i;exact CW ⟨W,J,G⟩
def GK(K:Fq)(x:V)(H:Hp)(k:Qm):Prop:=
 match x with
 | .non=>k=Qs
 | .bl b=>k=b
 | .int i=>k=(i != 0)
 | .str y=>↑y<=sizeLine/\k=((↑y:Ql) != 0)
 | .byt y=>y.size<=sizeLine/\k=((y.size:Ql) != 0)
 | .ref p=>(∃d,SqL K H p d/\k=!d.isEmpty)\/(∃d,SqT K H p d/\k=!d.isEmpty)\/∃a,H p\.dK a/\k=!a.isEmpty
 | _=>Qn
def Jt{a:Type}{kvs:Qi (a×V)}{vs:Qi (a×iH)}(r:KV kvs vs):(!vs.isEmpty)=!kvs.isEmpty:=by
 cases r <;> rfl
def VR(r:Vals xs its):(!its.toArray.isEmpty)=!xs.isEmpty:=by
 cases r <;> simp
def oR:(sizeLine:Qk)<2 ^ 63:=by rw[kZ];decide
def wV:NA X (λx H Q=>∃k,GK X.K x H k/\Q k H):=by
 intro a1 s E H x v Q I d h;obtain⟨k,e,q⟩:=h;have hl:=oR;have C:sizeLine=16777216:=kZ;cases x with
 | non=>
  cases d;have a:k=false:=e;subst a;exact truthy_none ⟨H,I,q⟩
 | bl b=>
  cases d;have a:k=b:=e;subst a;exact CW ⟨H,I,q⟩
 | int i=>
  obtain⟨t,rfl⟩:=d;have a:k=(i != 0):=e;subst a;exact PySem.P.truthy_int ⟨H,I,q⟩
 | str y=>
  obtain⟨t,rfl⟩:=d;obtain⟨l,a⟩:↑y<=sizeLine/\k=((↑y:Ql) != 0):=e;subst a;exact PySem.P.truthy_str ∅ {H,I.tok _,q}
 | byt y=>
  obtain⟨t,rfl⟩:=d;obtain⟨l,a⟩:y.size<=sizeLine/\k=((y.size:Ql) != 0):=e;subst a;exact PySem.W.truthy_bytes ∅ {H,I.tok _,q}
 | ref p=>
  cases d;have a:(∃u,SqL X.K H p u/\k=!u.isEmpty)\/(∃u,SqT X.K H p u/\k=!u.isEmpty)\/∃o,H p\.dK o/\k=!o.isEmpty:=e;obtain⟨u,z,a⟩|⟨u,z,a⟩|⟨o,z,a⟩:=a
  .subst a;obtain⟨A,r,f,B⟩:=I.list z;have j:=↑r;exact wpAny_truthy_list f.isList (by simp only[dN];lia) {H,I.tok _,by rw[VR r];exact q}
  .subst a;obtain⟨A,r,f,B⟩:=I.tuple z;have j:=↑r;exact truthy_tuple f (by simp only[dN];lia) {H,I.tok _,by rw[VR r];exact q}
  .subst a;obtain⟨B,n,vs,r,m⟩:↑o<=sizeLine/\(p == Rh)=Qs/\∃vs,KV o vs/\s.heap.DictOf (cR X.prog X.w) p vs:=I.hok p _ z;have j:↑o=↑vs:=Paired.length r;exact wpAny_truthy_dict n m ∅ {H,I.tok _,by rw[Jt r];exact q}
 | _=>exact(show Qn from e).elim
def Ga(e:PE X a ta)(he:∀m,isTrue a X.env m=(do let v <-m;Ww a.pos;holding [v]<|truthy v)):
  PT X a (λn H Q=>ta n H λx H'=>∃k,GK X.K x H' k/\Q k H'):=by
 intro b s n H Q I h;exact Q6 (bD (e b s n H _ I h) <| by rintro v j ⟨x,d,f,i,l⟩;exact wV b j n d x v Q f i l)<|he _
def LM:dW X (Tf .Add) (λx y H Q=>∃i j,x=.str i/\y=.str j/\↑i+↑j<=sizeLine/\Q (.str<|i++j) H):=by
 intro d s l H x y v u Q I b a h;obtain⟨i,j,rfl,rfl,e,q⟩:=h;obtain⟨t,rfl⟩:=b;obtain⟨f,rfl⟩:=a;exact add_str (λf tk=>{.str<|i++j,H,I.tok _,{6},q}) e
def kH(r:Vals [x] us):∃u,us=[u]/\RelV x u:=by
 cases r with
 | cons b a=>cases a;exact{6,b}
def qU(r:Vals [x,y] us):∃u a,us=[u,a]/\RelV x u/\RelV y a:=by
 cases r with
 | cons e b=>
  cases b with
  | cons d f=>cases f;exact{_,6,e,d}
def Jh:CallR X (.builtin "abs") (λxs H Q=>∃i,xs=[.int i]/\Q (.int<|if i<0 then -i else i) H):=by
 intro a s d H xs b Q I r h;obtain⟨i,rfl,q⟩:=h;obtain⟨u,rfl,t,rfl⟩:=kH r;exact call_abs_int λu tk=>{.int (if i<0 then -i else i),H,I.tok _,⟨_,rfl⟩,q}
def Iz(b:X.calm=Qr):CallR X (.builtin "max") (λxs H Q=>∃i j,xs=[.int i,.int j]/\Q (.int<|if j > i then j else i) H):=by
 intro d s m H xs l Q I r h;obtain⟨i,j,rfl,q⟩:=h;obtain⟨u,e,rfl,⟨t,rfl⟩,⟨n,rfl⟩⟩:=qU r;refine max_two_ints (I.ok.hd b) λf tk k=>{_,H,I.kept k,?_,q}
 by_cases a:j > i
 .rw[bG a,bG a];exact{6}
 .rw[bA a,bA a];exact{6}
def VM(b:X.calm=Qr):CallR X (.builtin "min") (λxs H Q=>∃i j,xs=[.int i,.int j]/\Q (.int<|if j<i then j else i) H):=by
 intro d s m H xs l Q I r h;obtain⟨i,j,rfl,q⟩:=h;obtain⟨u,e,rfl,⟨t,rfl⟩,⟨n,rfl⟩⟩:=qU r;refine min_two_ints (I.ok.hd b) λf tk k=>{_,H,I.kept k,?_,q}
 by_cases a:j<i
 .rw[bG a,bG a];exact{6}
 .rw[bA a,bA a];exact{6}
def JZ:CallR X (.type "int") (λxs H Q=>(∃i,xs=[.int i]/\Q (.int i) H)\/∃k,xs=[.bl k]/\Q (.int<|if k then 1 else 0) H):=by
 intro b s e H xs d Q I r h;obtain⟨i,rfl,q⟩|⟨k,rfl,q⟩:=h
 .obtain⟨u,rfl,t,rfl⟩:=kH r;exact call_int_int {.int i,H,I,{6},q}
 .obtain⟨u,rfl,a⟩:=kH r;cases a;exact call_int_bool {.int (if k then 1 else 0),H,I.tok _,⟨_,rfl⟩,q}
end
structure ObjM(h:Qa)(x dx C:eH)(mA:zZ->Qj iH):Prop where
 obj:h.get? x\Rv C dx
 ns:h.Ns1 dx mA
 ne:dx≠x
def Pk{h:Qa}{r:eH}{s:zZ->Qj iH}(n:h.Ns1 r s):∃u,h.get? r\u/\∀name,Wq name u\s name:=by
 obtain⟨o,m,x,d,hd,l,_,f⟩:=n;refine{o,d,λname=>?_};have e:=f name;unfold nsFind findBy at e;rw[<-Qo.find?_toList]at e;unfold Wq;rw[hd];dsimp only
 split
 .rename_i y q
  rw[q]at e;exact cP Qp e
 .rename_i q
  rw[q]at e;have a:m.toList.any (·.refKey)=false:=by
   rw[Qi.any_eq_false];intro y i;obtain⟨z,t,b⟩:=l y<|Array.mem_toList_iff.mp i;simp[Ua.refKey,b]
  have j:¬m.toList.any (·.refKey)=true:=by rw[a];exact eJ
  rw[bA j];exact cP Qp e
def ObjM.look(I:ObjM h x dx C mA):∃a,PySem.W.InstAt h x (Rv C dx) C (Qp a)/\∀name,Wq name a\mA name:=
 let ⟨a,ho,hl⟩:=Pk I.ns
 ⟨a,⟨I.obj,rfl,rfl,ho⟩,hl⟩
section
variable{K:Fq}{x dx C f:eH}{mA:zZ->Qj iH}{name:zZ}{v:iH}
def Bi(X:K.In s.heap)(I:ObjM s.heap x dx C mA)(e:Vn K C name=Qr)(f:Vj K C=Qr)
  (b:Sn K (.ref C) name\Qq) (a:mA name\v) (d:Zh v=Qr) (h:Q v {s with toks:=s.toks+1}):
  Qw ⇑[] A (Q7 (.ref x) name expr) Q E s:=by
 obtain⟨i,J,hl⟩:=I.look;exact PySem.W.get_value X J (PySem.W.plainGet_of e).1 (PySem.W.findObj_own f b rfl<|by rw[hl,a]) d h
def Ct(X:K.In s.heap)(I:ObjM s.heap x dx C mA)
  (hs:Sn K (.ref C) "__setattr__"\(Qp<|.builtin "object.__setattr__")) (hp:Yv K C=Qr) (n:Vy K C name\Qq) (j:Vj K C=Qr)
  (m:Vm mA ns) (hsz:↑ns<=sizeLine)
  (h:∀h',ObjM h' x dx C (λy=>if y=name then Qp v else mA y)->Rf dx s.heap h'->Q () {s with heap:=h',toks:=s.toks+2}):
  Qw ⇑[] A (setAttr (.ref x) name v) Q E s:=by
 obtain⟨H,J,hl⟩:=I.look;refine PySem.W.set_plain X J hs<|PySem.W.osa_open (s:={s with toks:=s.toks+1}) (r:=Qq) X J hp n λb=>?_;obtain⟨B,l,i⟩:=PySem.W.any_some j;have G:s.heap.get? x=Qp ⟨.ref C,Qp dx,.plain,#[]⟩:=I.obj;refine aC<|aZ<|aC<|aC<|wpAny_loadPart G<|aC<|PySem.W.Looks.here (s:={s with toks:=s.toks+1}) (PySem.W.looks_clsIn X l) ?_;rw[i];refine aZ (a:=Qp dx)<|aC<|aZ<|aC ?_;refine wpAny_nsSet1 (s:={s with toks:=s.toks+1}) I.ns λh' d a1=>?_;obtain⟨u,z,q,o,e,f⟩:=d.count<|Vm.cons name v m;refine aC<|wpAny_lookBehind o (by rw[e];exact pastItsLine_dict<|fM f<|by rw[cK];lia) ?_;exact aZ<|h _ {(a1.2 _<|cJ I.ne).trans I.obj,d,I.ne} a1
def Mq(X:K.In s.heap)(b:Zq K C=Qr)
  (hi:Sn K (.ref C) "__init__"\(Qp<|.ref f)) (a:PySem.W.typeIn K (.ref f)\.type "function")
  (h:Tk ⇑[] (A.under<|.builtin "type.__call__" ⟨.ref C::vs,kw⟩) (.call (.ref f) ⟨.ref (s⁻¹+1)::vs,kw⟩) (PySem.W.InitBack (s⁻¹+1) R)
   {s with heap:=(s.heap.push Ro).push<|Rv C s⁻¹}):
  Tk ⇑[] A (.call (.ref C) ⟨vs,kw⟩) R s:=by
 obtain⟨e,g,d,t,os⟩:=s;exact PySem.W.make_core (PySem.W.makes_of X b) (PySem.W.looks_findIn X hi) (λi=>PySem.W.bind_fn X i a) (.inl rfl) h
end
def dC(f:zZ)(v:V):Qi (zZ×V)->Qi (zZ×V)
 | []=>[(f,v)]
 | (g,x)::r=>if g=f then(g,v)::r else(g,x)::dC f v r
def Da(f g:zZ)(v:V):∀fs:Qi (zZ×V),(dC f v fs).lookup g=if g=f then Qp v else fs.lookup g:=by
 intro fs
 induction fs with
 | nil=>
  exact by
   show Tc g [(f,v)]=_
   by_cases h:g=f
   .have a:(g == f)=true:=uk0.mpr h;simp only[Tc,a,bG h]
   .have a:(g == f)=false:=vv3.mpr h;simp only[Tc,a,bA h]
 | cons i r j=>
  obtain⟨k,x⟩:=i;have d:=j;rw[show dC f v ((k,x)::r)=(if k=f then(k,v)::r else(k,x)::dC f v r) from rfl]
  by_cases b:k=f
  .rw[bG b]
   by_cases h:g=k
   .have a:(g == k)=true:=uk0.mpr h;simp only[Tc,a,bG<|h.trans b]
   .have a:(g == k)=false:=vv3.mpr h;simp only[Tc,a,bA (λe:g=f=>h<|e.trans b.symm)]
  .rw[bA b]
   by_cases h:g=k
   .have a:(g == k)=true:=uk0.mpr h;simp only[Tc,a,bA (λe:g=f=>b<|h.symm.trans e)]
   .have a:(g == k)=false:=vv3.mpr h;simp only[Tc,a];exact d
def WK(f:zZ)(v:V):∀fs:Qi (zZ×V),f∈(dC f v fs).map (·.1)/\∀g,g∈fs.map (·.1)->g∈(dC f v fs).map (·.1):=by
 intro fs
 induction fs with
 | nil=>
  exact{by simp[dC],λg h=>by simp at h}
 | cons i r j=>
  obtain⟨k,x⟩:=i;obtain⟨b,d⟩:=j;rw[show dC f v ((k,x)::r)=(if k=f then(k,v)::r else(k,x)::dC f v r) from rfl]
  by_cases a:k=f
  .rw[bG a];subst a;exact{by simp,λg h=>⇑[h]}
  .rw[bA a];refine{?_,λg h=>?_}
   .rw[eE];exact jD _ b
   .rw[eE]at h ⊢;obtain e|e:=vj0.mp h
    .exact vj0.mpr<|.inl e
    .exact jD _<|d g e
def Ob(f:zZ)(v:V):∀fs:Qi (zZ×V),↑(dC f v fs)<=↑fs+1:=by
 intro fs
 induction fs with
 | nil=>simp[dC]
 | cons d r e=>
  obtain⟨k,x⟩:=d;have b:=e;rw[show dC f v ((k,x)::r)=(if k=f then(k,v)::r else(k,x)::dC f v r) from rfl]
  by_cases a:k=f
  .rw[bG a,cK,cK];lia
  .rw[bA a,cK,cK];lia
def RelO.some_of(r:RelO (Qp v) o):∃u,o\u/\RelV v u:=by
 cases o with
 | none=>exact(show Qn from r).elim
 | some u=>exact⟨u,rfl,r⟩
def Jj(r:RelV v u):Zh u=true:=by
 cases v with
 | non=>cases (show u=Rm from r);rfl
 | bl b=>cases (show u=iH.bool b from r);rfl
 | int i=>obtain⟨t,e⟩:=(show ∃t,u=Xl i t from r);cases e;rfl
 | str x=>obtain⟨t,e⟩:=(show ∃t,u=Tu x t from r);cases e;rfl
 | byt b=>obtain⟨t,e⟩:=(show ∃t,u=iH.bytes b t from r);cases e;rfl
 | flt b=>obtain⟨t,e⟩:=(show ∃t,u=iH.float b t from r);cases e;rfl
 | ref a=>cases (show u=Qy a from r);rfl
 | ty n=>cases (show u=Uq n from r);rfl
section
def WF(b:HOk P w H h)(e:H a\.ins C dx fs):∃i,ObjM h a dx C i/\(∀f,RelO (fs.lookup f)<|i f)/\Vm i (fs.map (·.1))/\↑fs<=1000/\H dx\.own a:=by
 obtain⟨d,z,ne,j,i,n,r,q⟩:=(show ObjOk P w H h a (.ins C dx fs) from b a _ e);exact{i,⟨j,n,ne⟩,r,q,z,d}
end
structure Cls(K:Fq)(C:eH):Prop where
 pg:Vn K C Xm=Qr
 hd:Vj K C=Qr
 po:Yv K C=Qr
 sa:Sn K (.ref C) "__setattr__"\(Qp<|.builtin "object.__setattr__")
def Cls.get{K:Fq}{C:eH}(c:Cls K C)(f:zZ):Vn K C f=true:=c.pg
def NoAttr(K:Fq)(C:eH)(f:zZ):Prop:=Sn K (.ref C) f=Qp Qq
def NoAttr.taker{K:Fq}{C:eH}{f:zZ}(n:NoAttr K C f):Vy K C f\none:=by
 unfold Vy;rw[show Sn K (.ref C) f=Qp Qq from n];rfl
section
def SC(I:Inv X pins σ H s)(e:H a\.ins C dx fs)(c:Cls X.K C)(n:NoAttr X.K C f)(l:fs.lookup f\v)
  (h:∀u j,Inv X pins σ H j->RelV v u->Q u j):Qw ⇑{X} A (Q7 (.ref a) f b) Q E s:=by
 obtain⟨m,O,r,_,_,_⟩:=WF I.hok e;obtain⟨u,i,d⟩:=RelO.some_of (v:=v) (o:=m f) (by rw[<-l];exact r f);exact Bi I.kIn O (c.get f) c.hd n i (Jj d)<|h u _ (I.tok _) d
def WE(I:Inv X pins σ H s)(e:H a\.ins C dx fs)(c:Cls X.K C)(n:NoAttr X.K C f)(hl:↑fs<1000)(G:RelV y u)
  (h:∀J,Inv X pins σ (upd H a<|.ins C dx<|dC f y fs) J->Q () J):Qw ⇑{X} A (setAttr (.ref a) f u) Q E s:=by
 obtain⟨L,O,r,j,_,i⟩:=WF I.hok e;have N:↑(fs.map (·.1))<=sizeLine:=by rw[aF,kZ];lia
 refine Ct I.kIn O c.sa c.po n.taker c.hd j N λM d B=>h _ ?_;have hd:∃o,M.get? dx\o:=let ⟨o,_,_,e',_⟩:=d.ns;⟨o,e'⟩
 refine I.write (x:=a) (e:=dx) (by rw[e];exact fG) (.inr i) (λb q l z=>(B.2 b l).trans z) hd ?_;refine{by rw[aE O.ne];exact i,?_,O.ne,d.obj,_,d.ns,λg=>?_,λg m=>?_}
 .have:=Ob f y fs;lia
 .show RelO ((dC f y fs).lookup g) (if g=f then Qp u else L g);rw[Da]
  by_cases q:g=f
  .rw[bG q,bG q];exact G
  .rw[bA q,bA q];exact r g
 .by_cases q:g=f
  .rw[q];exact(WK f y fs).1
  .refine(WK f y fs).2 g (j g λz=>m ?_);show(if g=f then Qp u else L g)=Qq;rw[bA q];exact z
def Inv.made(I:Inv X pins σ H s):Inv X pins σ (upd (upd H s⁻¹<|.own<|s⁻¹+1) (s⁻¹+1)<|.ins C s⁻¹ [])
  {s with heap:=(s.heap.push Ro).push<|Rv C s⁻¹}:=by
 have d:(s.heap.push Ro).get? s⁻¹\Ro:=dQ s.heap rfl;have j:((s.heap.push Ro).push<|Rv C s⁻¹).get? (s⁻¹+1)\Rv C s⁻¹:=by
  have:=dQ (s.heap.push Ro) (o:=Rv C s⁻¹) rfl;rwa [pS]at this
 have f:(s.heap.push Ro).Ns s⁻¹ (λ_=>Qq):=⟨Ro,#[],_,d,rfl,(λe l=>absurd l<|by simp),λ_=>U⟩;have h:=I.laid (a:=s⁻¹) (o:=.own<|s⁻¹+1) (h':=s.heap.push Ro) (t':=s.toks) (λb u q=>cB _ q) (aV _) ⟨_,d⟩;refine h.laid (a:=s⁻¹+1) (o:=.ins C s⁻¹ []) (t':=s.toks) (λb u q=>cB _ q) (Yo<|pS _ _) ?_;have ne:s⁻¹≠s⁻¹+1:=dB<|wN _;refine{by rw[aE ne,zb0],cE _,ne,j,λ_=>Qq,(Qa.Ns1.of_empty f).at λo q=>cB _ q,λ_=>fG,λy i=>absurd rfl i}
def Pj{prog:Py}{w:Qb}{env:Yg}{e:Qc}{f:zZ}{pos:Ud}{s:Pw}{Q:Vp}(a:Th e f env (eval e env)=eval e env)
  (h:Qw ⇑[] A (eval e env) (λo b=>Qw ⇑[] A (Q7 o f Qr) Q E b) E s):Qw ⇑[] A (eval (.Attribute e f pos) env) Q E s:=
 Attribute_any_ h (by rw[arm_eval_Attribute,a])
end
def vA(X:Cx)(d:O9)(rd:V->V->Hp->VK->Prop):Prop:=
 ∀(a:Z1)(s:Pw)(b:St)(H:Hp)(x y:V)(u v:iH)(Q:VK),Inv X a b H s->RelV x u->RelV y v->rd x y H Q->Qw ⇑{X} X.A (inplaceOp d u v) (EP X a b Q) X.xe s
section
def MF:V->V->Hp->VK->Prop:=λx y H Q=>∃i j,x=.int i/\y=.int j/\Q (.int<|i+j) H
def QT:V->V->Hp->VK->Prop:=λx y H Q=>∃i j,x=.int i/\y=.int j/\Q (.int<|i-j) H
def LR:vA X .Add MF:=by
 rintro d s f H x y u v Q I b a ⟨i,j,rfl,rfl,q⟩;obtain⟨t,rfl⟩:=(show ∃t,u=Xl i t from b);obtain⟨e,rfl⟩:=(show ∃e,v=Xl j e from a);exact PyProof.Rows.iadd_int {.int<|i+j,H,I.tok _,{6},q}
def uD:vA X .Sub QT:=by
 rintro d s f H x y u v Q I b a ⟨i,j,rfl,rfl,q⟩;obtain⟨t,rfl⟩:=(show ∃t,u=Xl i t from b);obtain⟨e,rfl⟩:=(show ∃e,v=Xl j e from a);exact PyProof.Rows.isub_int {.int<|i-j,H,I.tok _,{6},q}
end
section
end
structure Room(k:Qk)(A:Qf):Prop where
 hd:A.handled=Qq
 dp:A.depth+k+5<recursionLimit
 un:A.units+16*k+200<cLine
theorem Room.deeper(r:Room (k+1) A)(env:Yg):Room k (A.deeper env):=
 ⟨r.hd,by have:=r.dp;show A.depth+1+k+5<_;lia,by have:=r.un;show A.units+3+16*k+200<_;lia⟩
theorem Room.in1(r:Room (k+1) A):Room k A.in1:=
 ⟨r.hd,by have:=r.dp;show A.depth+k+5<_;lia,by have:=r.un;show A.units+1+16*k+200<_;lia⟩
def Lf{A:Qf}{C:eH}{us:Qi iH}{a:Qi (zZ×iH)}:(A.under<|.builtin "type.__call__" ⟨.ref C::us,a⟩).depth=A.depth+1:=by
 first | rfl | simp[Yb,Code.weight,Code.isCreation,Code.isGuard,Code.isCaller,Code.frames,Code.isFrame,guardIds]
def Na{A:Qf}{C:eH}{us:Qi iH}{a:Qi (zZ×iH)}:(A.under<|.builtin "type.__call__" ⟨.ref C::us,a⟩).units=A.units+1:=by
 first | rfl | simp[Yb,Code.cUnits,Code.frames,Code.isFrame]
def Room.make(r:Room (k+1) A)(C:eH)(us:Qi iH)(a:Qi (zZ×iH)):Room k (A.under<|.builtin "type.__call__" ⟨.ref C::us,a⟩):=
 ⟨r.hd,by have:=r.dp;rw[Lf];lia,by have:=r.un;rw[Na];lia⟩
theorem Room.depth(r:Room k A):A.depth<recursionLimit:=by have:=r.dp;lia
theorem Room.units(r:Room k A):A.units+64<cLine:=by have:=r.un;lia
def bN:TA:=λ_ H Q=>Q [] H
def bJ(d:TE)(tr:TA):TA:=λa H Q=>d a H λx f=>tr a f λe b=>Q (x::e) b
section
def aA:PA X [] bN:=λ_ _ _ _ H Q I h=>pQ ⟨[],H,I,.nil,h⟩
def aI(b:PE X e te)(hr:PA X es t)(hs:X9 (starEach (e::es) X.env=(Qs,eval e X.env)::starEach es X.env) X8):PA X (e::es) (bJ te t):=by
 intro pos a s q H Q I h;rw[hs];show Qw _ _ (P9<|(Qs,eval e X.env)::backTo pos (starEach es X.env)) _ _ s;refine lY<|bD (b a s q H _ I h) ?_;rintro u i ⟨x,j,d,l,m⟩;exact bD (hr pos a i q j _ d m) <| by rintro A B ⟨z,r,o,f,n⟩;exact⟨x::z,r,o,.cons l f,n⟩
inductive Ac(xs:Qi V)(H:Hp)(Q:VK):Prop
 | mk(h:↑xs<=sizeLine)(q:∀p,H p=Qq->Q (.ref p) (upd H p<|.tup xs)):Ac xs H Q
def fF(t:TA):TE:=λa H Q=>t a H λb d=>Ac b d Q
inductive SV(xs:Qi V)(H:Hp)(Q:VK):Prop
 | mk(h:↑xs<=sizeLine)(q:∀p,H p=Qq->Q (.ref p) (upd H p<|.lst xs)):SV xs H Q
def lC(t:TA):TE:=λa H Q=>t a H λb d=>SV b d Q
def cZ{x1}(h:PA X es t):PE X (.Tuple es x1 pos) (fF t):=by
 intro i s n H Q I j;refine wpAny_Tuple_spliced<|bD (h pos i s n H _ I j) λm a ⟨o,f,d,r,z,q⟩=>{by rw[<-↑r];exact z,?_};have l:f a⁻¹=none:=d.hok.fresh<|aV _;refine{.ref a⁻¹,upd f a⁻¹<|.tup o,d.laid (t':=a.toks) (λb u e=>cB _ e) (aV _) ?_,U,q _ l};exact{{z,_,dQ _ rfl,U},m,r,{_,dQ _ rfl,U,6}}
def cX(h:PA X es t):PE X (.List es pos) (lC t):=by
 intro i s n H Q I j;refine wpAny_List_spliced<|bD (h pos i s n H _ I j) λm a ⟨o,f,d,r,z,q⟩=>{by rw[<-↑r];exact z,?_};have l:f a⁻¹=none:=d.hok.fresh<|aV _;refine{.ref a⁻¹,upd f a⁻¹<|.lst o,d.laid (t':=a.toks) (λb u e=>cB _ e) (aV _) ?_,U,q _ l};exact{z,m,0,r,dQ _ rfl}
end
abbrev Sp:=Qi V->Hp->VK->XK->Prop
abbrev mX:=Qi Yg->Hp->Pw->XK->iH->Pw->Prop
structure Env0(P:Py)(w:Qb)(K:Fq)(mg:zZ->Qj iH)(base:Qa)(A:Qf)(outer:Qi Yg)(s:Pw)(H:Hp):Prop where
 frames:A.frames\outer
 mod:Mod K mg base
 bs:∀b o,base.get? b\o->s.heap.get? b\o/\H b=Qq
 bsz:base.objs.size<=s⁻¹
 funs:s.heap.FunFrames base outer
 frf:∀b∈oM outer,H b=Qq
 hok:HOk P w H s.heap
 bare:Vx s.gens
def CE(outer:Qi Yg)(P:Py)(w:Qb)(H:Hp)(s:Pw)(Q:VK)(u:iH)(a:Pw):Prop:=
 ∃v b,a.os=s.os/\Vx a.gens/\Un (oM outer) [] H b s.heap a.heap/\HOk P w b a.heap/\RelV v u/\Q v b
def CR(CX:mX)(outer:Qi Yg)(P:Py)(w:Qb)(H:Hp)(s:Pw)(Q:VK)(E:XK)(r:O7)(a:Pw):Prop:=
 match r with
 | .ok (.ret u)=>CE outer P w H s Q u a
 | .ok _=>Qn
 | .error e=>CX outer H s E e a
structure aR(P:Py)(w:Qb)(K:Fq)(mg:zZ->Qj iH)(base:Qa)(CX:mX)(k:Qk)(f:eH)(fd:Qh)(ps:Z2)(sp:Sp):Prop where
 len:∀vs H Q E,sp vs H Q E->↑vs=↑ps
 run:∀(A:Qf)(outer:Qi Yg)(s:Pw)(H:Hp)(args:Args)(us:Qi iH)(vs:Qi V)(Q:VK)(E:XK),Room k A->Env0 P w K mg base A outer s H->Yi s fd args (ps.zip us)->Vals vs us->sp vs H Q E->
  Tk (Qx P w) A (.call (.ref f) args) (CR CX outer P w H s Q E) s
def Env0.make{P:Py}{w:Qb}{K:Fq}{mg:zZ->Qj iH}{base:Qa}{A:Qf}{outer:Qi Yg}{s:Pw}{H:Hp}(e:Env0 P w K mg base A outer s H)(C:eH)(us:Qi iH)(a:Qi (zZ×iH)):
  Env0 P w K mg base (A.under<|.builtin "type.__call__" ⟨.ref C::us,a⟩) outer s H:=⟨by first | exact e.frames | (simpa [Yb,Code.envs,Code.isFrame,pushEnvs]using e.frames),e.mod,e.bs,e.bsz,e.funs,e.frf,e.hok,e.bare⟩
theorem Env0.in1{P:Py}{w:Qb}{K:Fq}{mg:zZ->Qj iH}{base:Qa}{A:Qf}{outer:Qi Yg}{s:Pw}{H:Hp}(e:Env0 P w K mg base A outer s H):
  Env0 P w K mg base A.in1 outer s H:=⟨e.frames,e.mod,e.bs,e.bsz,e.funs,e.frf,e.hok,e.bare⟩
section
def Inv.env0(I:Inv X pins σ H s):Env0 X.prog X.w X.K X.mg X.base X.A X.stack s H:=
 ⟨I.ok.frames,I.ok.mod,I.bs,fM I.ok.bsz I.sz,I.stack,I.stkFree,I.hok,I.bare⟩
def Inv.after(I:Inv X pins σ H s)(h:CE X.stack X.prog X.w H s Q u s'):EP X pins σ Q u s':=by
 obtain⟨v,j,os,a,un,e,r,q⟩:=h;obtain⟨i,g,d,t,f⟩:=s';obtain rfl:f=s.os:=os;exact{v,j,I.call (h':=i) (g':=g) (d':=d) (t':=t) (ch:=[]) un e a (λb z=>absurd z<|by simp),r,q}
end
def hV(sp:Sp)(dvs:Qi V)(E:XK)(t:TA):TE:=λa H Q=>t a H λvs b=>sp (vs++dvs) b Q E
def Binds(K:Fq)(fd:Qh)(ps:Z2)(ds:Qi iH):Prop:=
 ∀(s:Pw)(a:Qi iH),K.In s.heap->↑(a++ds)=↑ps->Yi s fd ⟨a,[]⟩ (ps.zip<|a++ds)
def Binds.all{K:Fq}{fd:Qh}{ps:Z2}(h:∀us:Qi iH,↑us=↑ps->D8 fd ⟨us,[]⟩=pure (ps.zip us)):Binds K fd ps []:=λs us _ hl=>by
 rw[eA]at hl ⊢;exact .of_eq<|h us hl
def KO(CX:mX)(X:Cx)(E:XK):Prop:=∀(a:Z1)(d:St)(H:Hp)(s:Pw)(e:iH)(b:Pw),Inv X a d H s->CX X.stack H s E e b->X.xe e b
section
variable{CX:mX}{k:Qk}{f C:eH}{fd:Qh}{ps:Z2}{sp:Sp}{dvs:Qi V}{ds:Qi iH}{E:XK}{x m:zZ}{p pos apos:Ud}{e o:Qc}{es:Qi Qc}{ta:TE}{t:TA}
def TD(F:aR X.prog X.w X.K X.mg X.base CX k f fd ps sp)(hr:Room k X.A)(d:Binds X.K fd ps ds)(hd:Vals dvs ds)(hx:KO CX X E)
  (I:Inv X pins σ H s) (r:Vals vs us) (h:sp (vs++dvs) H Q E):Qw ⇑{X} X.A (call (.ref f) us) (EP X pins σ Q) X.xe s:=by
 have b:Vals (vs++dvs) (us++ds):=r.append hd;have hl:↑(us++ds)=↑ps:=by rw[<-↑b];exact F.len _ _ _ _ h
 refine wpAny_call<|codeAny_mono (F.run X.A X.stack s H {us,[]} (us++ds) (vs++dvs) Q E hr I.env0 (d s us I.kIn hl) b h) λr i a=>?_;cases r with
 | error e=>exact hx pins σ H s e i I a
 | ok fl=>
  cases fl with
  | ret u=>exact I.after a
  | next=>exact Sl a
  | brk=>exact Sl a
  | cont=>exact Sl a
def Ij(F:aR X.prog X.w X.K X.mg X.base CX k f fd ps sp)(hr:Room k X.A)(j:Gl X x)(l:X.mg x\.ref f)(m:Sm X.K (.ref f)=Qr)(i:Binds X.K fd ps ds)(hd:Vals dvs ds)(hx:KO CX X E)
  (b:PA X (e::es) t) (a1:X9 ((x == ("__debug__":zZ))=false) X7) (he:X9 (starEach (e::es) X.env=(Qs,eval e X.env)::starEach es X.env) X8) (n:X9 ((backTo pos<|starEach es X.env).any (·.1)=false) X8):
  PE X (.Call (.Name x p) (e::es) [] pos) (hV sp dvs E t):=by
 intro d s z H Q I h;refine zG<|MQ I j l ?_ a1;refine Vd (h₀:=X.base) I.ok.mod.kin m (bD (b pos d s z H _ I h) λB o ⟨vs,u,a,r,q⟩=>{a.kIn,?_}) he n;exact TD F hr i hd hx a r q
structure Mk(K:Fq)(C f:eH):Prop where
 makes:Zq K C=Qr
 init:Sn K (.ref C) "__init__"\(Qp<|.ref f)
 fn:PySem.W.isFn K (.ref f)=Qr
 kp:Sm K (.ref C)=Qr
def Po(M:Mk X.K C f)(F:aR X.prog X.w X.K X.mg X.base CX k f fd ps sp)(hr:Room (k+1) X.A)(j:Binds X.K fd ps ds)(hd:Vals dvs ds)
  (hx:KO CX X E) (I:Inv X pins σ H s) (r:Vals vs us)
  (h:∀x q,H x=Qq->H q=Qq->q≠x->sp (.ref x::(vs++dvs)) (upd (upd H q<|.own x) x<|.ins C q []) (λv B=>v=.non/\Q (.ref x) B) E):
  Qw ⇑{X} X.A (call (.ref C) us) (EP X pins σ Q) X.xe s:=by
 have i:=h (s⁻¹+1) s⁻¹ (I.hok.fresh<|lA _) (I.hok.fresh<|aV _)<|dB<|wN _;have b:=Inv.made (C:=C) I;have d:Vals (R7 (s⁻¹+1)::(vs++dvs)) (Qy (s⁻¹+1)::(us++ds)):=.cons rfl<|r.append hd;have hl:↑(Qy (s⁻¹+1)::us++ds)=↑ps:=by
  have e:=↑d;rw[F.len _ _ _ _ i]at e;exact e.symm
 refine wpAny_call<|Mq (f:=f) I.kIn M.makes M.init (uk0.mp M.fn)<|codeAny_mono (F.run _ X.stack _ _ {Qy (s⁻¹+1)::us,[]} (Qy (s⁻¹+1)::(us++ds)) _ _ E (hr.make C us []) (b.env0.make C us []) (j _ (Qy (s⁻¹+1)::us) b.kIn hl) d i) λr o a=>?_
 cases r with
 | error e=>exact hx pins σ _ _ e o b a
 | ok fl=>
  cases fl with
  | ret u=>
   obtain⟨v,z,n,l,ev,m⟩:=b.after a;subst ev;exact{l,{R7<|s⁻¹+1,z,n,U,m}}
  | next=>exact Sl a
  | brk=>exact Sl a
  | cont=>exact Sl a
end
section
variable{CX:mX}{k:Qk}{f C:eH}{fd:Qh}{ps ks:Z2}{sp:Sp}{E:XK}{x m:zZ}{p pos apos kpos:Ud}{e o:Qc}{es:Qi Qc}{kws:Qi Ve}{te ta:TE}{t tk:TA}{nm:Qj zZ}
end
structure cC(N P:Z2)(sc:Scope):Prop where
 kind:sc.kind=.function
 co:sc.isCoroutine=Qs
 gen:sc.isGenerator=Qs
 nd:N.Nodup
 pre:N.take P.length=P
 par:∀x∈P,sc.names.lookup x\.local\/sc.names.lookup x\.cell
 nofree:∀y∈sc.names,y.2≠.free
def Gp{kindOf:zZ->Qj Qe}{x:zZ}:∀{binds:Qi (zZ×iH)}{m:zZ->Qj iH},(∀v,(x,v)∉binds)->Zn kindOf binds m x=m x:=by
 intro binds
 induction binds with
 | nil=>
  exact λ_=>rfl
 | cons d r b=>
  obtain⟨n,v⟩:=d;intro m h;unfold Zn;rw[b λw a=>h w<|jD _ a]
  split
  .have:x≠n:=by rintro rfl;exact h v wL
   simp[this]
  .rfl
def Bg{kindOf:zZ->Qj Qe}{x:zZ}:∀{binds:Qi (zZ×iH)}{m:zZ->Qj iH},(∀v,(x,v)∉binds)->Zo kindOf binds m x=m x:=by
 intro binds
 induction binds with
 | nil=>
  exact λ_=>rfl
 | cons d r b=>
  obtain⟨n,v⟩:=d;intro m h;unfold Zo;rw[b λw a=>h w<|jD _ a]
  split
  .rfl
  .have:x≠n:=by rintro rfl;exact h v wL
   simp[this]
theorem UX{kindOf:zZ->Qj Qe}{x:zZ}{v:iH}:∀{P:Z2}{vs:Qi iH}{i:Qk}{m:zZ->Qj iH},P.Nodup->P[i]?\x->vs[i]?\v->kindOf x\.local->
  Zn kindOf (P.zip vs) m x=Qp v
 | [],_,_,_,_,h,_,_=>by simp at h
 | _::_,[],_,_,_,_,h,_=>by simp at h
 | p::P,w::vs,0,m,nd,h1,h2,hk=>by
  simp at h1 h2;subst h1;subst h2;show Zn kindOf ((p,w)::P.zip vs) m p=_;unfold Zn;rw[Gp λv a=>(vn3.mp nd).1 (xO a).1,bG hk];simp
 | p::P,w::vs,i+1,m,nd,h1,h2,hk=>by
  show Zn kindOf ((p,w)::P.zip vs) m x=_;unfold Zn;exact UX (i:=i) (vn3.mp nd).2 ⇑[h1] ⇑[h2] hk
theorem ZC{kindOf:zZ->Qj Qe}{x:zZ}{v:iH}:∀{P:Z2}{vs:Qi iH}{i:Qk}{m:zZ->Qj iH},P.Nodup->P[i]?\x->vs[i]?\v->kindOf x≠Qp .local->
  Zo kindOf (P.zip vs) m x=Qp v
 | [],_,_,_,_,h,_,_=>by simp at h
 | _::_,[],_,_,_,_,h,_=>by simp at h
 | p::P,w::vs,0,m,nd,h1,h2,hk=>by
  simp at h1 h2;subst h1;subst h2;show Zo kindOf ((p,w)::P.zip vs) m p=_;unfold Zo;rw[Bg λv a=>(vn3.mp nd).1 (xO a).1,bA hk];simp
 | p::P,w::vs,i+1,m,nd,h1,h2,hk=>by
  show Zo kindOf ((p,w)::P.zip vs) m x=_;unfold Zo;exact ZC (i:=i) (vn3.mp nd).2 ⇑[h1] ⇑[h2] hk
def start(N:Z2)(vs:Qi V):St:=vs.map Qp++Rj (N.length-↑vs) Qq
def gX(CX:mX)(P:Py)(w:Qb)(K:Fq)(mg:zZ->Qj iH)(base:Qa)(N:Z2)(a:zZ)(scope:Scope)(f:eH)(d:iH)(A:Qf)(outer:Qi Yg)(s:Pw)(H:Hp)(E:XK):Cx where
 prog:=P
 w:=w
 K:=K
 mg:=mg
 base:=base
 A:=A.deeper<|envOfC a scope s⁻¹ f d
 N:=N
 s₀:=s
 H₀:=H
 env:=envOfC a scope s⁻¹ f d
 outer:=outer
 stack:=envOfC a scope s⁻¹ f d::outer
 ex:=[]
 calm:=Qr
 fn:=λ_=>Qr
 pn:=[]
 xe:=λe i=>Qw (Qx P w) (A.deeper<|envOfC a scope s⁻¹ f d) (leaving (envOfC a scope s⁻¹ f d) e) (λ_ b=>CX outer H s E e b) (λh b=>CX outer H s E h b) i
def TY{a:Scope}{n:Qk}{x:zZ}(h:a.names.lookup x\.cell):∃c,(M3 n a.names []).lookup x\c:=by
 have q:=Xn a.names n []<|.inl h;exact uh4.mp q
def Pd{CX:mX}{P:Py}{w:Qb}{K:Fq}{mg:zZ->Qj iH}{base:Qa}{N ps:Z2}{d:zZ}{scope:Scope}{f:eH}{o:iH}{A:Qf}{outer:Qi Yg}{s I:Pw}{H:Hp}{E:XK}{us:Qi iH}{vs:Qi V}
  (S:cC N ps scope) (hd:A.handled=Qq) (l:Env0 P w K mg base A outer s H) (hl:↑vs=↑ps) (r:Vals vs us)
  (x:InCallC s s⁻¹ (Zn (envOfC d scope s⁻¹ f o).kindOf (ps.zip us) λ_=>Qq) (M3 (s⁻¹+1) scope.names []) (Zo (envOfC d scope s⁻¹ f o).kindOf (ps.zip us) λ_=>Qq) I):
  Inv (gX CX P w K mg base N d scope f o A outer s H E) [] (start N vs) H I:=by
 have T:↑ps<=N.length:=by have:=cP Rk S.pre;rw[dR]at this;lia
 obtain⟨B,tk,rfl,J⟩:=x.done;have C:∀b:eH,b∉(gX CX P w K mg base N d scope f o A outer s H E).ex:=λb z=>absurd (show b∈([]:Z3) from z) ↥_
 exists {l.mod,S.kind,U,U,aV _,λy z c B j=>?_,λy m=>?_,λy c _ h=>?_,λ_=>hd,Qf.frames_deeper l.frames,.inr ⟨rfl,rfl⟩,λb z=>absurd z<|C b,l.bs,l.bsz,λb _ _=>C b,λb z=>absurd z<|C b,l.funs,l.frf},
  rfl,l.bare,Un.kept J,⟨_,x.toInCall.ns,λi y v B j O=>?_⟩,λy c h=>⟨_,x.cell y c h⟩,l.hok.fresh<|aV _,λy c h=>?_,λp W=>absurd (show p∈([]:Z1) from W) ↥_,l.hok.kept J
 .exact name_of_addr x.apart (uK B)<|uK j
 .have m:scope.names.lookup y\.cell\/scope.names.lookup y\.free:=m;obtain m|m:=m
  .exact TY m
  .exact absurd rfl<|S.nofree _<|uK m
 .exact cQ<|x.above y c<|uK h
 .have X:i<↑vs:=by
   unfold start at j
   by_cases X:i<↑vs
   .exact X
   .rw[kU<|⇑[X]]at j;rw[Qi.getElem?_replicate]at j
    split at j <;> cases j
  have L:vs[i]?\v:=by
   unfold start at j;rw[nV ⇑[X],bP]at j;cases e:vs[i]? with
   | none=>rw[e]at j;cases j
   | some a=>rw[e]at j;cases j;rfl
  obtain⟨u,G,M⟩:=r.get L;have W:ps[i]?\y:=by
   rw[<-S.pre,ML ∅];exact B
  have a1:ps.Nodup:=by rw[<-S.pre];exact S.nd.sublist<|Vu _ _
  exists u,M;obtain k|k:=S.par y (dM W)
  .exact .inl ⟨k,UX a1 W G k⟩
  .obtain⟨c,e⟩:=TY (n:=s⁻¹+1) k;refine .inr {.inl k,c,e,?_};have q:=x.cell y c e;rw[ZC a1 W G (by show scope.names.lookup y≠_;rw[k];decide)]at q;exact q
 .exact l.hok.fresh<|cQ<|x.above y c<|uK h
 .unfold start;show _=N.length;rw[bK,aF,Qi.length_replicate];lia
def EE{CX:mX}{P:Py}{w:Qb}{K:Fq}{mg:zZ->Qj iH}{base:Qa}{k:Qk}{f:eH}{name a:zZ}{d:Arguments}{body:Qi Qd}{scope:Scope}{M kV z O h ct Z:iH}{B od:Qj eH}
  {T:Qo (Qj iH)} {N ps:Z2} {sp:Sp} (lk:K.lookup f=Qp ⟨Z,od,.func<|Sk name a d body scope M kV z O B h ct,T⟩) (a7:Uk K h a=Qr) (S:cC N ps scope)
  (len:∀vs H Q E,sp vs H Q E->↑vs=↑ps)
  (a1:∀(A:Qf)(outer:Qi Yg)(s:Pw)(H:Hp)(vs:Qi V)(Q:VK)(E:XK),Room k (A.deeper<|envOfC a scope s⁻¹ f h)->sp vs H Q E-> ∃t,PSs (gX CX P w K mg base N a scope f h A outer s H E) body t/\t {nx:=λ_ H'=>Q .non H',rt:=Q} (start N vs) H):
  aR P w K mg base CX (k+1) f (Sk name a d body scope M kV z O B h ct) ps sp:=by
 refine{len,λA outer s H args us vs Q E hr i X r m=>?_};have hl:=len _ _ _ _ m;have L:K.In s.heap:=i.mod.kin.keeps λb o e=>(i.bs b o e).1;have a8:s.heap.NoLimit:=i.mod.nolimit.keeps λb o e=>(i.bs b o e).1;have a2:∀y∈ps.zip us,scope.names.lookup y.1\.local\/(scope.names.lookup y.1\.cell/\((M3 (s⁻¹+1) scope.names []).lookup y.1).isSome=Qr):=by
  rintro⟨n,v⟩ hy;obtain q|q:=S.par n (xO hy).1
  .exact .inl q
  .exact .inr ⟨q,Xn _ _ _<|.inl q⟩
 refine codeAny_call_function hr.depth (L _ _ lk) rfl S.co S.gen rfl (PySem.W.codeRec_of L a7)<|X _ _ _ _ ?_;refine wpAny_newFunctionEnv_cells S.kind a2 λenv he G x=>?_;subst he;refine{a8.keeps x.toInCall.keep,codeAny_func ?_};obtain⟨t,ht,hq⟩:=a1 A outer s H vs Q E (hr.deeper _) m;have I:Inv (gX CX P w K mg base N a scope f h A outer s H E) [] (start N vs) H G:=Pd S hr.hd i hl r x;refine jG (ht [] G (start N vs) H _ I hq) (λfl j hs=>?_) λe j hs=>hs;have C:∀{σ':St}{H':Hp}{v:V}{u:iH},Inv (gX CX P w K mg base N a scope f h A outer s H E) [] σ' H' j->RelV v u->Q v H'->CE outer P w H s Q u j:=
  λ{σ' H' v u} J l q=>⟨v,H',J.os,J.bare,J.base,J.hok,l,q⟩
 cases fl with
 | ret u=>
  obtain⟨v,σ',H',J,l,q⟩:=hs;exact C J l q
 | next=>
  obtain⟨σ',H',J,q⟩:=hs;exact C (v:=R9) (u:=Rm) J rfl q
 | brk=>
  obtain⟨_,_,_,q⟩:=hs;exact Sl q
 | cont=>
  obtain⟨_,_,_,q⟩:=hs;exact Sl q
section
variable{x:zZ}{p pos:Ud}{e:Qc}{es:Qi Qc}{t:TA}{id T:String}{r:Qi V->Hp->VK->Prop}
def pP(r:Qi V->Hp->VK->Prop)(t:TA):TE:=λa H Q=>t a H λvs b=>r vs b Q
def fO(n:CallR X (.builtin id) r)(i:Gl X x)(l:X.mg x=Qq)(b:Ss x\.builtin id)(d:PA X (e::es) t)(o:X9 (x≠"__name__") X7)(a1:X9 ((x == ("__debug__":zZ))=false) X7)
  (he:X9 (starEach (e::es) X.env=(Qs,eval e X.env)::starEach es X.env) X8) (z:X9 ((backTo pos<|starEach es X.env).any (·.1)=false) X8):PE X (.Call (.Name x p) (e::es) [] pos) (pP r t):=by
 intro a s A H Q I h;refine zG<|oP I i l b ?_ o a1;exact PyProof.Rows.callWith_builtin1 (bD (d pos a s A H _ I h) <| by rintro B j ⟨vs,m,f,q,u⟩;exact n a j A m vs B Q f q u) he z
def eV(n:CallR X (.type T) r)(i:Gl X x)(l:X.mg x=Qq)(b:Ss x\.type T)(d:PA X (e::es) t)(o:X9 (x≠"__name__") X7)(a1:X9 ((x == ("__debug__":zZ))=false) X7)
  (he:X9 (starEach (e::es) X.env=(Qs,eval e X.env)::starEach es X.env) X8) (z:X9 ((backTo pos<|starEach es X.env).any (·.1)=false) X8):PE X (.Call (.Name x p) (e::es) [] pos) (pP r t):=by
 intro a s A H Q I h;refine zG<|oP I i l b ?_ o a1;exact sK (bD (d pos a s A H _ I h) <| by rintro B j ⟨vs,m,f,q,u⟩;exact n a j A m vs B Q f q u) he z
end
end L2
namespace HT
open PySem PyProof.Rows
section
open PySem.SeqAt
open PySem.AutoSeq1 (wpAny_loadPart')
open PySem.MeetsSeq PySem.MeetsSeq2 PySem.MeetsSeq3
end
section
def Lh(B:Vq s.heap t vs.toArray)(u:Vq s.heap b ws.toArray)(h:vs≠[])
  (z:ws=[]->Q (.ref t) s) (x:ws≠[]->Q (.ref s⁻¹) {s with heap:=s.heap.push {cls:=.type "tuple",data:=.seq (vs++ws).toArray}})
  (hsz:↑vs+↑ws<=sizeLine):Qw ⇑[] A (Tf .Add (.ref t)<|.ref b) Q E s:=by
 obtain⟨⟨cls,j,data,q⟩,d,m,n,hd⟩:=id B;obtain⟨⟨C,l,data2,a1⟩,a,i,o,r⟩:=id u;simp only at m hd i r;subst m hd i r;have e:vs.toArray++ws.toArray=(vs++ws).toArray:=by simp
 by_cases f:ws=[]
 .exact Q9 ⟨_,d,rfl⟩ ⟨_,a,rfl⟩ L8 P4 Xo Xh (Xc _ _)
   (tuple_addW1 t b vs.toArray ws.toArray n o j l q a1 ⇑[h]<|by simp[f]) ⟨d,a,z f⟩
 .refine Q9 ⟨_,d,rfl⟩ ⟨_,a,rfl⟩ L8 P4 Xo Xh (Xc _ _)
   (tuple_addW2 t b vs.toArray ws.toArray n o j l q a1 ⇑[h] ⇑[f]<|by rw[dN,dN];exact hsz) ⟨d,a,?_⟩
  rw[e];exact x f
def sIx(n d:Qk):Qj Ql->Qk
 | none=>d
 | some v=>if v<0 then(v+(n:Ql)).toNat else min v.toNat n
def ZS(n d:Qk):sIx n d Qq=d:=rfl
def FV(n d k:Qk):sIx n d (Qp (k:Ql))=min k n:=by
 show(if (k:Ql)<0 then((k:Ql)+(n:Ql)).toNat else min (k:Ql).toNat n)=min k n;rw[bA ∅,rD]
def xM(n d:Qk)(hd:d<=n)(o:Qj Ql):sIx n d o<=n:=by
 cases o with
 | none=>exact hd
 | some v=>
  show(if v<0 then(v+(n:Ql)).toNat else min v.toNat n)<=n
  by_cases a:v<0
  .rw[bG a];lia
  .rw[bA a];exact Qk.min_le_right _ _
def WW(v:Ql)(n d:Qk):(if v<0 then max (v+(n:Ql)) 0 else min v (n:Ql))=((sIx n d (Qp v):Qk):Ql):=by
 show(if v<0 then max (v+(n:Ql)) 0 else min v (n:Ql))=(((if v<0 then(v+(n:Ql)).toNat else min v.toNat n):Qk):Ql)
 by_cases a:v<0
 .simp only[bG a];lia
 .simp only[bA a];lia
def Nr(lo hi:Qj Ql)(n:Qk):Yh lo hi 1 (n:Ql)=(((sIx n 0 lo:Qk):Ql),((sIx n n hi:Qk):Ql)):=by
 have a:¬((1:Ql)<0):=by lia
 unfold Yh;simp only[a,iF];refine pO ?_ ?_
 .cases lo with
  | none=>rfl
  | some v=>exact WW v n 0
 .cases hi with
  | none=>rfl
  | some v=>exact WW v n n
def Pc(i j:Qk):Uc (i:Ql) (j:Ql) 1=j-i:=by
 unfold Uc;have a:(1:Ql) > 0:=by lia
 simp only[a,if_true,Wg]
 split <;> lia
def VA(p:Vr v o)(h:Q o s):Qw ⇑[] A (Px.Slice.slicePartIndex v) Q E s:=by
 cases p with
 | none=>exact slicePart_none h
 | int i t=>exact slicePart_int h
def SY{e:eH}{b d:iH}{lo hi:Qj Ql}{n:Qk}{Q:Ql×Ql×Qk->Pw->Prop}(hs:s.heap.IsSliceOf e b d .none)(f:Vr b lo)(i:Vr d hi)
  (h:Q (((sIx n 0 lo:Qk):Ql),1,sIx n n hi-sIx n 0 lo) s):Qw ⇑[] A (Px.Slice.sliceApplied (.ref e)<|pure (n:Ql)) Q E s:=by
 obtain⟨os,a,j,a1⟩:=id hs;unfold Px.Slice.sliceApplied Px.Slice.sliceFields;refine aC<|aC<|fQ a a1 (x:=b) rfl<|aC<|fQ a a1 (x:=d) rfl<|aC<|fQ a a1 (x:=.none) rfl<|aZ ?_;refine aC<|slicePart_none ?_;show Qw _ _ (if ((1:Ql) == 0)=Qr then _ else _) _ _ s;rw[bA<|by decide];refine aC<|VA f<|aC<|VA i<|aC<|aZ ?_;show Qw _ _ (match Yh lo hi 1 (n:Ql)with | (lo,hi)=>pure (lo,(1:Ql),Uc lo hi 1)) _ _ s;rw[Nr lo hi n];show Qw _ _ (pure (((sIx n 0 lo:Qk):Ql),(1:Ql),Uc ((sIx n 0 lo:Qk):Ql) ((sIx n n hi:Qk):Ql) 1)) _ _ s;rw[Pc];exact aZ h
def Gj(xs:Qo iH)(i k:Qk):((Tg k).filterMap λ(m:Qk)=>xs[((i:Ql)+(m:Ql)*1).toNat]?).toArray=((xs.toList.drop i).take k).toArray:=by
 have e:(λ(m:Qk)=>xs[((i:Ql)+(m:Ql)*1).toNat]?)=λm=>xs[i+m]?:=by
  funext m
  have:((i:Ql)+(m:Ql)*1).toNat=i+m:=by lia
  rw[this]
 rw[e];have:=pick_run xs i k;rw[Zw]at this;have a:((λx=>xs[x]?)∘λx=>i+x)=λm=>xs[i+m]?:=rfl;rw[a]at this;rw[this]
def Gr{t d:eH}{items:Qo iH}{f e:iH}{lo hi:Qj Ql}{Q:Vp}(b:Vq s.heap t items)(hs:s.heap.IsSliceOf d f e .none)(j:Vr f lo)(n:Vr e hi)
  (o:¬(sIx items.size 0 lo=0/\sIx items.size items.size hi=items.size))
  (h:Q (.ref s⁻¹) {s with heap:=s.heap.push {cls:=.type "tuple",data:=.seq ((items.toList.drop<|sIx items.size 0 lo).take<|sIx items.size items.size hi-sIx items.size 0 lo).toArray}})
  (hsz:items.size<=sizeLine):Qw ⇑[] A (Tx (.ref t)<|.ref d) Q E s:=by
 have a:sizeOk (.seq ((items.toList.drop<|sIx items.size 0 lo).take<|sIx items.size items.size hi-sIx items.size 0 lo).toArray):=by
  show((items.toList.drop<|sIx items.size 0 lo).take<|sIx items.size items.size hi-sIx items.size 0 lo).toArray.size<=sizeLine;rw[dN,dR,nM,iK];lia
 have x:sIx items.size items.size hi<=items.size:=xM _ _ (aV _) hi;obtain⟨os,i,r,u⟩:=id hs;have a1:s.TypeIs (.ref d) "slice":=⟨os,i,r⟩;unfold Tx
 try with_reducible refine gQ ?_
 first | refine aC (aZ ?_) | skip
 refine aC<|wpAny_sequenceKey b.typeIs ↥?_ ?_;refine aC<|kB (name:=Su "__getitem__") b.typeIs vr9<|iD vr9 b.typeIs E5 ?_<|args_tuple_getitem _ _
 show Qw _ _ (Px.Tuple.tupleItemsOf (.ref t) >>= _) _ _ s;refine aC<|tupleItemsOf_ b ?_;refine aC<|uG a1 ?_;rw[bG<|by decide];refine aC<|SY hs j n ?_;have l:¬((((sIx items.size 0 lo:Qk):Ql) == 0 && (1:Ql) == 1 && (sIx items.size items.size hi-sIx items.size 0 lo) == items.size)=Qr):=by
  intro q;rw[qT,qT]at q;have z:((sIx items.size 0 lo:Qk):Ql)=0:=eq_of_beq q.1.1;have B:sIx items.size items.size hi-sIx items.size 0 lo=items.size:=eq_of_beq q.2;exact o {∅,∅}
 show Qw _ _ (if (((sIx items.size 0 lo:Qk):Ql) == 0 && (1:Ql) == 1 && (sIx items.size items.size hi-sIx items.size 0 lo) == items.size)=Qr then _ else _) _ _ s;rw[bA l,Gj]
 first
  | exact aC (m:=Ui _) (jP (aZ {6,aZ h}) a)
  | exact aC (m:=Ui _) (jP (aC<|aZ<|aZ {6,aZ h}) a)
  | exact aC (aC (m:=Ui _)<|jP (aZ<|aZ {6,aZ h}) a)
  | exact aC (aC (m:=Ui _)<|jP (aZ {6,aZ h}) a)
end
end HT
namespace L2
open PySem PySem.Spec PyProof.Rows
open V renaming str->R6,ref->R7,int->R8,non->R9
open SqL renaming of->T1
open SqT renaming of->T2
variable{prog:Py}{w:Qb}{A:Qf}{E:Vp}{s:Pw}
variable{X:Cx}
abbrev TO:=St->Hp->(Qj Ql->Hp->Prop)->Prop
def PO(X:Cx)(e:Qj Qc)(t:TO):Prop:=
 ∀(a:Z1)(s:Pw)(b:St)(H:Hp)(Q:Qj Ql->Hp->Prop),Inv X a b H s->t b H Q->
  Qw ⇑{X} X.A (evalPart e X.env) (λu f=>∃o d,Inv X a b d f/\Vr u o/\Q o d) X.xe s
def RS:TO:=λ_ H Q=>Q Qq H
def HI(t:TE):TO:=λa H Q=>t a H λx b=>∃i,x=.int i/\Q (Qp i) b
section
variable{e:Qc}{te:TE}{lo hi:Qj Qc}{tl th:TO}{pos p2:Ud}
def mR:PO X Qq RS:=by
 intro a s b H Q I h;rw[Zb];exact aZ {Qq,H,I,.none,h}
def kM(h:PE X e te):PO X (Qp e) (HI te):=by
 intro b s n H Q I a;rw[evalPart_some];refine bD (h b s n H _ I a) ?_;rintro u m ⟨x,l,d,f,j⟩;obtain⟨i,rfl,q⟩:=j;obtain⟨t,rfl⟩:=f;exact{Qp i,l,d,.int i t,q}
def SlR(X:Cx)(r:V->Qj Ql->Qj Ql->Hp->VK->Prop):Prop:=
 ∀(a:Z1)(s:Pw)(e:St)(H:Hp)(x:V)(v f d:iH)(lo hi:Qj Ql)(b:eH)(Q:VK),Inv X a e H s->RelV x v->s.heap.IsSliceOf b f d .none->Vr f lo->Vr d hi->r x lo hi H Q->
  ∃T id,Ts (.type T) "__getitem__"=pure (Qp<|.builtin id)/\s.TypeIs v T/\Qw ⇑{X} X.A (Tx v<|.ref b) (EP X a e Q) X.xe s
def SlR.or(h:SlR X r)(h':SlR X r'):SlR X (λx lo hi H Q=>r x lo hi H Q\/r' x lo hi H Q):=by
 intro a s m H x v i d lo hi e Q I f l j b q;obtain q|q:=q
 .exact h a s m H x v i d lo hi e Q I f l j b q
 .exact h' a s m H x v i d lo hi e Q I f l j b q
def KA(r:V->Qj Ql->Qj Ql->Hp->VK->Prop)(te:TE)(b th:TO):TE:=λa H Q=>te a H λx f=>b a f λl d=>th a d λu e=>r x l u e Q
def kT(hr:SlR X r)(he:PE X e te)(hl:PO X lo tl)(m:PO X hi th):PE X (.Subscript e (.Slice lo hi Qq p2) pos) (KA r te tl th):=by
 intro a s σ H Q I h;refine Ym<|bD (he a s σ H _ I h) ?_;rintro v C ⟨x,G,i,J,O⟩;refine wpAny_Slice<|bD (hl a C σ G _ i O) λf s2 ⟨l,H2,z,o,L⟩=>bD (m a s2 σ H2 _ z L) ?_;rintro d Z ⟨u,H3,n,E,M⟩;rw[Zb];refine aZ ?_;have B:Inv X a σ H3 {Z with heap:=Z.heap.push {cls:=.type "slice",data:=.fields #[f,d,.none]}}:=n.kept (t':=Z.toks) λb ob q=>cB _ q;obtain⟨T,id,W,N,j⟩:=hr a {Z with heap:=Z.heap.push {cls:=.type "slice",data:=.fields #[f,d,.none]}} σ H3 x v f d l u Z⁻¹ Q B J (Qa.IsSliceOf.new ..) o E M;show Qw ⇑{X} X.A (Wh e (.Slice lo hi Qq p2) v<|.ref Z⁻¹) (EP X a σ Q) X.xe {Z with heap:=Z.heap.push {cls:=.type "slice",data:=.fields #[f,d,.none]}};exact N6 (ops:=[.ref Z⁻¹,v]) N W j (by with_unfolding_all rfl)
def dU(xs:Qi V)(lo hi:Qj Ql):Qi V:=(xs.drop<|HT.sIx ↑xs 0 lo).take<|HT.sIx ↑xs ↑xs hi-HT.sIx ↑xs 0 lo
def UV(xs:Qi V)(lo hi:Qj Ql):↑(dU xs lo hi)<=↑xs:=by
 unfold dU;rw[dR,nM];lia
def GN(K:Fq):V->Qj Ql->Qj Ql->Hp->VK->Prop:=λx lo hi H Q=>∃a b,x=.ref a/\SqT K H a b/\
 ¬(HT.sIx ↑b 0 lo=0/\HT.sIx ↑b ↑b hi=↑b)/\∀p,H p=Qq->Q (.ref p) (upd H p<|.tup<|dU b lo hi)
def xp1:SlR X (GN X.K):=by
 intro a1 s G H x v u m lo hi n Q I j B l f h;obtain⟨a,xs,rfl,C,i,q⟩:=h;cases j;obtain⟨z,r,e,A⟩:=I.tuple C;have d:z.toArray.size=↑xs:=by rw[dN];exact r.length.symm
 exists "tuple",_,vr9.lookup,e.typeIs;refine HT.Gr e B l f (by rw[d];exact i) ?_ (by rw[d];exact A);rw[d];refine{.ref s⁻¹,_,I.laid (t':=s.toks) (o:=.tup<|dU xs lo hi) (λb E q=>cB _ q) (aV _) ?_,U,q _<|I.hok.fresh<|aV _};exact{{fM (UV xs lo hi) A,_,dQ _ rfl,U},_,(r.drop<|HT.sIx ↑xs 0 lo).take<|HT.sIx ↑xs ↑xs hi-HT.sIx ↑xs 0 lo,Vq.new _ _}
def sX(K:Fq):R2:=λx y H Q=>∃a b e d,x=.ref a/\y=.ref b/\SqT K H a e/\SqT K H b d/\e≠[]/\↑e+↑d<=sizeLine/\
 (d=[]->Q (.ref a) H)/\(d≠[]->∀p,H p=Qq->Q (.ref p) (upd H p<|.tup<|e++d))
def Vals.nil_iff(r:Vals xs us):us=[]↔xs=[]:=by
 cases r with
 | nil=>simp
 | cons _ _=>simp
def Ke:dW X (Tf .Add) (sX X.K):=by
 intro a1 s M H x y v u Q I n l h;obtain⟨a,b,G,E,rfl,rfl,f,i,C,B,r,m⟩:=h;cases n;cases l;obtain⟨J,e,j,_⟩:=I.tuple f;obtain⟨A,d,p2,_⟩:=I.tuple i;refine HT.Lh j p2 (λz=>C<|e.nil_iff.mp z) (λz=>{.ref a,H,I,U,r<|d.nil_iff.mp z}) (λz=>?_) (by rw[<-↑e,<-↑d];exact B);refine{.ref s⁻¹,_,I.laid (t':=s.toks) (o:=.tup<|G++E) (λb L q=>cB _ q) (aV _) ?_,U,m (λw=>z<|d.nil_iff.mpr w) _<|I.hok.fresh<|aV _};exact{{by rw[bK];exact B,_,dQ _ rfl,U},_,e.append d,Vq.new _ _}
end
def pM(n:Qk)(i:Ql):Qj Nat:=if 0<=i then(if i<n then Qp i.toNat else Qq) else if -(n:Ql)<=i then Qp (i+n).toNat else Qq
def fY{a:Type}(xs:Qi a)(i:Ql):Qj a:=(pM ↑xs i).bind λj=>xs[j]?
def ZV(h:pM n i\j):Vt i n\j/\j<n/\-(n:Ql)<=i/\i<n:=by
 unfold pM at h
 by_cases b:0<=i
 .rw[bG b]at h
  by_cases a:i<n
  .rw[bG a]at h;have e:i.toNat=j:=iZ h;exact{by rw[D3 b a,e],∅,∅,a}
  .rw[bA a]at h;cases h
 .rw[bA b]at h
  by_cases a:-(n:Ql)<=i
  .rw[bG a]at h;have e:(i+n).toNat=j:=iZ h;exact{by rw[seqIndex_neg ∅ a,e],∅,a,∅}
  .rw[bA a]at h;cases h
def QP{l:Type}{xs:Qi l}{i:Ql}{v:l}(h:fY xs i\v):∃j,Vt i ↑xs\j/\xs[j]?\v/\j<↑xs/\-(↑xs:Ql)<=i/\i<↑xs:=by
 unfold fY at h;cases e:pM ↑xs i with
 | none=>rw[e]at h;cases h
 | some j=>
  rw[e]at h;obtain⟨f,b,d,a⟩:=ZV e;exact⟨j,f,h,b,d,a⟩
def sC{b:Type}{xs:Qi b}{j:Qk}{v:b}(h:xs[j]?\v):fY xs (j:Ql)\v:=by
 have a:j<↑xs:=(vh2.mp h).1;have e:pM ↑xs (j:Ql)\j:=by
  unfold pM;rw[bG ∅,bG ∅];simp
 unfold fY;rw[e];exact h
def PD(b:Qc):Prop:=∀o i,Xv b Qs o i=Q4 [o,i] (Tx o i)
def jN(X:Cx)(r:R2):Prop:=
 ∀(d a:Qc)(b:Z1)(s:Pw)(e:St)(H:Hp)(x y:V)(v u:iH)(Q:VK),Inv X b e H s->RelV x v->RelV y u->r x y H Q->
  Xv a Qs v u=Q4 [v,u] (Tx v u)->Qw ⇑{X} X.A (Wh d a v u) (EP X b e Q) X.xe s
def MB(X:Cx)(id:String)(r:V->Qi V->Hp->VK->Prop):Prop:=
 ∀(a:Z1)(s:Pw)(d:St)(H:Hp)(x:V)(e:Qi V)(v:iH)(b:Qi iH)(Q:VK),Inv X a d H s->RelV x v->Vals e b->r x e H Q->
  Qw ⇑{X} X.A (call (.builtin id)<|v::b) (EP X a d Q) X.xe s
section
variable{a b:Qc}{ta tb:TE}{pos:Ud}
def jK(hr:jN X r)(d:PE X a ta)(f:PE X b tb)(hs:PD b):PE X (.Subscript a b pos) (dG r ta tb):=by
 intro e s n H Q I h;exact Ym<|vB d f I h λv u o x y m l j i q=>hr a b e o n m x y v u Q l j i q<|hs _ _
inductive GS(K:Fq)(x y:V)(H:Hp)(Q:VK):Prop
 | mk(p:eH)(xs:Qi V)(i:Ql)(v:V)(h1:x=.ref p)(h2:y=.int i)(h3:SqL K H p xs)(h4:fY xs i\v)(q:Q v H):GS K x y H Q
def oU(K:Fq):R2:=λx y H Q=>GS K x y H Q
inductive EK(K:Fq)(x y:V)(H:Hp)(Q:VK):Prop
 | mk(p:eH)(xs:Qi V)(i:Ql)(v:V)(h1:x=.ref p)(h2:y=.int i)(h3:SqT K H p xs)(h4:fY xs i\v)(q:Q v H):EK K x y H Q
def cO(K:Fq):R2:=λx y H Q=>EK K x y H Q
def NC:R2:=λx y H Q=>∃z i c,x=.str z/\y=.int i/\↑z<=sizeLine/\fY z.cps.toList i\c/\Q (.str ⟨#[c]⟩) H
def ZT:jN X (oU X.K):=by
 intro M e f s T H x y v u Q I C n h O;obtain⟨p,xs,i,z,rfl,rfl,A,Z,q⟩:=h;cases C;obtain⟨t,rfl⟩:=n;obtain⟨N,r,d,hz⟩:=I.list A;obtain⟨j,a,m,L,E,B⟩:=QP Z;obtain⟨w,l,G⟩:=r.get m;have hl:=↑r;have J:=oR;have a1:EP X f T Q w s:=⟨z,H,I,G,q⟩
 by_cases W:0<=i
 .have b:i.toNat=j:=by
   rw[D3 W B]at a;exact iZ a
  exact item_listR d.isList W ∅ (by rw[b];simpa using l) a1 O
 .have b:(i+(N.toArray.size:Ql)).toNat=j:=by
   rw[seqIndex_neg ∅ E]at a;rw[dN,<-hl];exact iZ a
  exact A1 (x:=w) d.isList.typeIs slot_list_getitem.lookup
   (wpAny_getItem_list_neg (Q:=λr o=>r=w/\EP X f T Q r o) d.isList ∅ (by rw[dN] <;> lia) ∅ (by rw[b];simpa using l) ⟨rfl,a1⟩) O
def lU:jN X (cO X.K):=by
 intro L a d s M H x y v u Q I A f h N;obtain⟨p,Z,i,z,rfl,rfl,o,O,q⟩:=h;cases A;obtain⟨t,rfl⟩:=f;obtain⟨T,r,b,W⟩:=I.tuple o;obtain⟨j,l,e,E,J,G⟩:=QP O;obtain⟨w,n,a1⟩:=r.get e;have hl:=↑r;have C:=oR;have B:EP X d M Q w s:=⟨z,H,I,a1,q⟩;exact A1 (x:=w) b.typeIs slot_tuple_getitem.lookup
  (getItem_tuple (j:=j) (Q:=λr m=>r=w/\EP X d M Q r m) b ∅ ∅ (by rw[dN,<-hl];exact l) ⇑[n] ⟨rfl,B⟩) N
def WC:jN X NC:=by
 intro C a r s J H x y v u Q I n f h E;obtain⟨z,i,c,rfl,rfl,L,G,q⟩:=h;obtain⟨t,rfl⟩:=n;obtain⟨M,rfl⟩:=f;obtain⟨j,b,e,B,o,m⟩:=QP G;have hl:↑z.cps.toList=↑z:=by simp[zZ.length]
 rw[hl]at b o m;have A:=oR;exact N6 (F9 s z t) slot_str_getitem.lookup (getItem_str (c:=c) (by
  have d:decide (i < -(2 ^ 63:Ql))=false:=fE ∅;have l:decide (i≥2 ^ 63)=false:=fE ∅;rw[d,l,J1]) (by rw[b];simpa using e) {.str {#[c]},H,I.tok _,{6},q}) E
def Hl(its:Qi iH)(n j:Qk)(u:iH):Td (·.setIfInBounds j u) {cls:=.type "list",data:=.seq its.toArray n}={cls:=.type "list",data:=.seq (its.set j u).toArray n}:=by
 simp[Td]
theorem Inv.lst(I:Inv X pins σ H s)(h:H p\.lst xs):
  ∃(its:Qi iH)(n:Qk),Vals xs its/\s.heap.get? p=Qp {cls:=.type "list",data:=.seq its.toArray n}/\↑xs<=sizeLine:=by
 obtain⟨z,its,n,r,e⟩:=I.hok p _ h;exact⟨its,n,r,e,z⟩
def Inv.lstUpd{d:Z1}{m:St}{H:Hp}{s:Pw}{p:eH}{xs ys:Qi V}{its its':Qi iH}{n a:Qk}{f:Qg->Qg}(I:Inv X d m H s)(h:H p\.lst xs)
  (l:s.heap.get? p=Qp {cls:=.type "list",data:=.seq its.toArray n}) (i:f {cls:=.type "list",data:=.seq its.toArray n}={cls:=.type "list",data:=.seq its'.toArray a}) (r:Vals ys its') (hz:↑ys<=sizeLine) (t:Qk):
  Inv X d m (upd H p<|.lst ys) {s with heap:=s.heap.update p f,toks:=t}:=by
 have e:(s.heap.update p f).get? p=Qp {cls:=.type "list",data:=.seq its'.toArray a}:=by
  rw[tJ f l (by rw[i] <;> rfl),i]
 refine I.write (x:=p) (e:=p) (by rw[h];trivial) (.inl rfl) (λb u j q=>(AY _ _<|cJ j).trans q) {_,e} ?_;exact⟨hz,its',a,r,e⟩
def GB:V->V->V->Hp->(Hp->Prop)->Prop:=λo i v H Q=>∃p a k j,o=.ref p/\i=.int k/\H p\.lst a/\pM ↑a k\j/\Q (upd H p<|.lst<|a.set j v)
def AA:FL X GB:=by
 intro x s O H o i v G J u Q I A B z h;obtain⟨p,Z,k,j,rfl,rfl,M,m,q⟩:=h;cases A;obtain⟨t,rfl⟩:=B;obtain⟨L,n,r,b,T⟩:=I.lst M;obtain⟨a,C,e,l⟩:=ZV m;have hl:=↑r;have E:=oR;have f:Inv X x O (upd H p<|.lst<|Z.set j v) {s with heap:=s.heap.update p<|Td (·.setIfInBounds j u)}:=
  I.lstUpd M b (Hl L n j u) (r.set z j) (by rw[Qi.length_set];exact T) s.toks
 by_cases N:0<=k
 .have d:k.toNat=j:=by
   rw[D3 N l]at a;exact iZ a
  exact PySem.W.ki_setAt b N ∅ (by rw[dN,<-hl];exact l) (by rw[d];exact{_,f,q})
 .have d:(k+(L.toArray.size:Ql)).toNat=j:=by
   rw[seqIndex_neg ∅ e]at a;rw[dN,<-hl];exact iZ a
  exact PySem.W.ki_setBack b ∅ (by rw[dN,<-hl];exact e) ∅ (by rw[d];exact{_,f,q})
def Ih(lo hi:Qj Ql)(n:Qk):(Te lo hi Qq n).1=((HT.sIx n 0 lo:Qk):Ql)/\(Te lo hi Qq n).2.1=((HT.sIx n n hi:Qk):Ql)/\(Te lo hi Qq n).2.2=1:=by
 refine{?_,?_,U}
 .cases lo with
  | none=>simp[Te,HT.sIx]
  | some i=>
   simp only[Te,HT.sIx,Tz,show(1:Ql) > 0 by decide,if_true]
   by_cases h:i<0
   .simp only[h,if_true] <;> lia
   .simp only[h,iF] <;> lia
 .cases hi with
  | none=>simp[Te,HT.sIx]
  | some i=>
   simp only[Te,HT.sIx,Tz,show(1:Ql) > 0 by decide,if_true]
   by_cases h:i<0
   .simp only[h,if_true] <;> lia
   .simp only[h,iF] <;> lia
def Ez(its:Qi iH)(lo hi:Qj Ql):Zm its.toArray lo hi Qq=((its.drop<|HT.sIx ↑its 0 lo).take<|HT.sIx ↑its ↑its hi-HT.sIx ↑its 0 lo).toArray:=by
 obtain⟨d,a,b⟩:=Ih lo hi its.toArray.size;unfold Zm;rw[d,a,b];simp only[sliceRange_one,pick_run,dN] <;> rfl
def pN(K:Fq):V->Qj Ql->Qj Ql->Hp->VK->Prop:=λx lo d H Q=>∃a b,x=.ref a/\SqL K H a b/\∀p,H p=Qq->Q (.ref p) (upd H p<|.lst<|dU b lo d)
def qP:SlR X (pN X.K):=by
 intro a1 s J H x v n l lo z m Q I i A j f h;obtain⟨a,u,rfl,C,q⟩:=h;cases i;obtain⟨E,r,d,B⟩:=I.list C;have e:=↑r;exists "list",_,slot_list_getitem.lookup,d.isList.typeIs;refine Yz d.isList A j f .none ↥_ ?_ (by rw[dN] <;> lia);rw[Ez,<-e];refine{.ref s⁻¹,_,I.laid (t':=s.toks) (o:=.lst<|dU u lo z) (λb G q=>cB _ q) (aV _) ?_,U,q _<|I.hok.fresh<|aV _};exact{fM (UV u lo z) B,_,0,(r.drop<|HT.sIx ↑u 0 lo).take<|HT.sIx ↑u ↑u z-HT.sIx ↑u 0 lo,dQ _ rfl}
def kJ:V->Qm
 | .non=>Qr
 | .bl _=>Qr
 | .int _=>Qr
 | .str _=>Qr
 | _=>Qs
def kI:V->V->Qm
 | .non,.non=>Qr
 | .bl a,.bl b=>a == b
 | .bl a,.int b=>(if a then 1 else 0) == b
 | .int a,.bl b=>a == (if b then 1 else 0)
 | .int a,.int b=>a == b
 | .str a,.str b=>a == b
 | _,_=>Qs
def vJ(e:RelV y u)(d:RelV x v)(h:kJ y=Qr)(f:kJ x=Qr):Qz A s u v (kI y x):=by
 cases y with
 | non=>
  cases e;cases x with
  | non=>cases d;exact Qz.same _
  | bl b=>cases d;exact Qz.none_bool b
  | int b=>obtain⟨t,rfl⟩:=d;exact Qz.none_int b t
  | str b=>obtain⟨t,rfl⟩:=d;exact Qz.none_str b t
  | _=>exact absurd (show Qs=Qr from f) eJ
 | bl a=>
  cases e;cases x with
  | non=>cases d;exact Qz.bool_none a
  | bl b=>cases d;exact Qz.bool_bool a b
  | int b=>obtain⟨t,rfl⟩:=d;exact Qz.bool_int a b t
  | str b=>obtain⟨t,rfl⟩:=d;exact Qz.bool_str a b t
  | _=>exact absurd (show Qs=Qr from f) eJ
 | int a=>
  obtain⟨i,rfl⟩:=e;cases x with
  | non=>cases d;exact Qz.int_none a i
  | bl b=>cases d;exact Qz.int_bool a i b
  | int b=>obtain⟨t,rfl⟩:=d;exact Qz.int_int a i b t
  | str b=>obtain⟨t,rfl⟩:=d;exact Qz.int_str a i b t
  | _=>exact absurd (show Qs=Qr from f) eJ
 | str a=>
  obtain⟨i,rfl⟩:=e;cases x with
  | non=>cases d;exact Qz.str_none a i
  | bl b=>cases d;exact Qz.str_bool a i b
  | int b=>obtain⟨t,rfl⟩:=d;exact Qz.str_int a i b t
  | str b=>obtain⟨t,rfl⟩:=d;exact Qz.str_str a i b t
  | _=>exact absurd (show Qs=Qr from f) eJ
 | _=>exact absurd (show Qs=Qr from h) eJ
def iS(x:V)(u:iH):Bool:=match u with
 | .none=>kI .non x
 | .bool b=>kI (.bl b) x
 | .int i _=>kI (.int i) x
 | .str z _=>kI (.str z) x
 | _=>Qs
def NT(r:RelV y u)(f:kJ y=Qr):iS x u=kI y x:=by
 cases y with
 | non=>cases r;rfl
 | bl b=>cases r;rfl
 | int i=>obtain⟨t,rfl⟩:=r;rfl
 | str z=>obtain⟨t,rfl⟩:=r;rfl
 | _=>exact absurd (show Qs=Qr from f) eJ
def JT:∀{xs:Qi V}{us:Qi iH},Vals xs us->xs.all kJ=Qr->us.any (iS x)=xs.any λy=>kI y x:=by
 intro xs us a
 induction a with
 | nil=>
  exact λ_=>rfl
 | cons r t b=>
  intro f;rw[Xy,qT]at f;rw[yR,yR,NT r f.1,b f.2]
def FD(d:RelV x v)(e:kJ x=Qr):∀{xs:Qi V}{us:Qi iH},Vals xs us->xs.all kJ=Qr->∀u∈us,Qz A s u v (iS x u):=by
 intro xs us h
 induction h with
 | nil=>
  exact λ_=>λu a=>by cases a
 | cons r t i=>
  exact λf=>λb a=>by
   rw[Xy,qT]at f;obtain rfl|a:=vj0.mp a
   .rw[NT r f.1];exact vJ r d f.1 e
   .exact i f.2 b a
def gC(x:V)(xs:Qi V):Bool:=xs.any λy=>kI y x
inductive UY(K:Fq)(neg:Qm)(x y:V)(H:Hp)(Q:VK):Prop
 | mk(p:eH)(xs:Qi V)(h1:y=.ref p)(h2:SqL K H p xs\/SqT K H p xs)(h3:kJ x=Qr)(h4:xs.all kJ=Qr)(q:Q (.bl<|if neg then !gC x xs else gC x xs) H):UY K neg x y H Q
def jF(K:Fq)(a:Qm):R2:=λx y H Q=>UY K a x y H Q
def oH:dW X (Sj .In) (jF X.K Qs):=by
 intro j s l H x y v u Q I f i h;obtain⟨p,m,rfl,a,e,fs,q⟩:=h;cases i;obtain a|a:=a
 .obtain⟨its,r,b,hz⟩:=I.list a;refine SeqAt.in_listAt (iS x) b.isList (λw d=>FD f e r fs w<|⇑[d]) {.bl _,H,I,U,?_};rw[show its.toArray.any (iS x)=its.any (iS x) by simp,JT r fs];exact q
 .obtain⟨its,r,b,hz⟩:=I.tuple a;refine SeqAt.in_tupleAt (iS x) b (λw d=>FD f e r fs w<|⇑[d]) {.bl _,H,I,U,?_};rw[show its.toArray.any (iS x)=its.any (iS x) by simp,JT r fs];exact q
def xE:dW X (Sj .NotIn) (jF X.K Qr):=by
 intro j s l H x y v u Q I f i h;obtain⟨p,m,rfl,a,e,fs,q⟩:=h;cases i;obtain a|a:=a
 .obtain⟨its,r,b,hz⟩:=I.list a;refine SeqAt.notIn_listAt (iS x) b.isList (λw d=>FD f e r fs w<|⇑[d]) {.bl _,H,I,U,?_};rw[show its.toArray.any (iS x)=its.any (iS x) by simp,JT r fs];exact q
 .obtain⟨its,r,b,hz⟩:=I.tuple a;refine SeqAt.notIn_tupleAt (iS x) b (λw d=>FD f e r fs w<|⇑[d]) {.bl _,H,I,U,?_};rw[show its.toArray.any (iS x)=its.any (iS x) by simp,JT r fs];exact q
def lR:CallR X (.builtin "len") (λxs H Q=>∃p ys,xs=[.ref p]/\(SqL X.K H p ys\/SqT X.K H p ys)/\Q (.int ↑ys) H):=by
 intro a1 s j H xs i Q I r h;obtain⟨p,ys,rfl,a,q⟩:=h;obtain⟨u,rfl,e⟩:=kH r;cases e;have f:=oR;obtain a|a:=a
 .obtain⟨its,r',d,hz⟩:=I.list a;have b:=↑r';exact Calls.call_len_list d.isList (by simp only[dN] <;> lia) {.int ↑ys,H,I.tok _,{s.toks+1,by rw[dN,b]},q}
 .obtain⟨its,r',d,hz⟩:=I.tuple a;have b:=↑r';exact len_tuple d (by simp only[dN] <;> lia) {.int ↑ys,H,I.tok _,{s.toks+1,by rw[dN,b]},q}
def Gq:CallR X (.builtin "len") (λxs H Q=>∃z,xs=[.str z]/\↑z<=sizeLine/\Q (.int ↑z) H):=by
 intro b s f H xs d Q I r h;obtain⟨z,rfl,e,q⟩:=h;obtain⟨u,rfl,t,rfl⟩:=kH r;have a:=oR;exact len_str ∅ {.int ↑z,H,I.tok _,{6},q}
def gR:CallR X (.type "tuple") (λxs H Q=>∃p ys,xs=[.ref p]/\((SqL X.K H p ys/\∀l,H l=Qq->Q (.ref l) (upd H l<|.tup ys))\/(SqT X.K H p ys/\Q (.ref p) H))):=by
 intro d s x H xs A Q I r h;obtain⟨p,ys,rfl,h⟩:=h;obtain⟨u,rfl,i⟩:=kH r;cases i;obtain⟨n,q⟩|⟨n,q⟩:=h
 .obtain⟨its,r',a,hz⟩:=I.list n;have a1:=↑r';refine call_tuple_list a.isList (λm z=>?_) (by simp only[dN] <;> lia);have f:Inv X d x H {s with heap:=m}:=I.kept (t':=s.toks) z;have j:Inv X d x (upd H m.objs.size<|.tup ys) {s with heap:=m.push {cls:=.type "tuple",data:=.seq its.toArray}}:=
   f.laid (t':=s.toks) (λb o e=>cB _ e) (aV _) (show ObjOk X.prog X.w _ _ _ (.tup ys) from ⟨⟨hz,_,dQ _ rfl,rfl⟩,its,r',Vq.new _ _⟩)
  exact{.ref m.objs.size,_,j,U,q _<|f.hok.fresh<|aV _}
 .obtain⟨its,r',a,hz⟩:=I.tuple n;exact call_tuple_same a {.ref p,H,I,U,q}
def OO(K:Fq)(T:String)(x:V)(H:Hp):Prop:=match x with
 | .str _=>T="str"
 | .int _=>T="int"
 | .ref p=>(T="list"/\∃b,SqL K H p b)\/(T="tuple"/\∃o,K.lookup p\o/\o.cls=.type "tuple"/\o.dict=Qq)\/
   (T="dict"/\((∃a,H p\.dK a)\/∃a,H p\.dT a))\/(T="set"/\∃S n,H p\.set S n)
 | _=>Qn
def SG(I:Inv X pins σ H s)(r:RelV x v)(h:OO X.K T x H):
  s.TypeIs v T/\∀a,v=.ref a->∃ob,s.heap.get? a\ob/\ob.dict=none:=by
 cases x with
 | str z=>
  obtain⟨t,rfl⟩:=r;cases (show T="str" from h);exact{F9 s z t,λ_ e=>nomatch e}
 | int i=>
  obtain⟨t,rfl⟩:=r;cases (show T="int" from h);exact{G0 s i t,λ_ e=>nomatch e}
 | ref p=>
  cases r;obtain⟨rfl,q,l⟩|⟨rfl,o,f,m,hd⟩|⟨rfl,f⟩|⟨rfl,S,n,f⟩:=h
  .obtain⟨its,_,d,_⟩:=I.list l;refine{d.isList.typeIs,λa e=>?_};cases e;obtain⟨o,n,e,c,hd,_⟩:=d;exact⟨o,e,hd⟩
  .refine⟨⟨o,I.kIn p o f,m⟩,λa e=>?_⟩;cases e;exact{o,I.kIn _ o f,hd}
  .have z:∃o,s.heap.get? p\o/\o.ExactDict:=by
    obtain⟨j,f⟩|⟨j,f⟩:=f
    .obtain⟨_,_,_,_,o,_,_,e,ex,_⟩:=I.hok p _ f;exact⟨o,e,ex⟩
    .obtain⟨_,_,_,_,o,_,_,e,ex,_⟩:=I.hok p _ f;exact⟨o,e,ex⟩
   obtain⟨o,e,ex⟩:=z;refine{{o,e,ex.1},λa b=>?_};cases b;exact{o,e,ex.2.1}
  .obtain⟨o,_,_,_,e,ex,_⟩:=I.hok p _ f;refine{{o,e,ex.1},λa b=>?_};cases b;exact{o,e,ex.2.1}
 | _=>exact Sl h
def RB(K:Fq)(T:String)(r:V->Qi V->Hp->VK->Prop)(to:TE):TE:=λb H Q=>to b H λx a=>OO K T x a/\r x [] a Q
inductive RN(K:Fq)(T:String)(r:V->Qi V->Hp->VK->Prop)(t:TA)(x:V)(σ:Qi (Qj V))(H:Hp)(Q:VK):Prop
 | mk(h:OO K T x H)(q:t σ H λxs H2=>r x xs H2 Q):RN K T r t x σ H Q
def yP(K:Fq)(T:String)(r:V->Qi V->Hp->VK->Prop)(to:TE)(t:TA):TE:=λa H Q=>to a H λx b=>RN K T r t x a b Q
variable{o e:Qc}{es:Qi Qc}{to:TE}{t:TA}{name:zZ}{apos cpos:Ud}{T id:String}{r:V->Qi V->Hp->VK->Prop}
def vR(q:PlainAttrs T)(slot:Slot T name id)(e:typeOf (.builtin id)=pure (.type "method_descriptor"))(m:MB X id r)(i:PE X o to)
  (f:X9 (Th o name X.env (eval o X.env)=eval o X.env) X8) (a1:X9 ((apos.endLine == cpos.line)=true) X8):PE X (.Call (.Attribute o name apos) [] [] cpos) (RB X.K T r to):=by
 intro d s A H Q I h;refine wpAny_Call_method0_late f a1<|bD (i d s A H _ I h) ?_;rintro v j ⟨x,n,a,b,B,z⟩;obtain⟨u,l⟩:=SG a b B;exact{T,id,q,slot,e,u,l,oB rfl<|Yu<|m d j A n x [] v [] Q a b .nil z}
def fR(C:PlainAttrs T)(slot:Slot T name id)(n:typeOf (.builtin id)=pure (.type "method_descriptor"))(A:MB X id r)(m:PE X o to)(i:PA X (e::es) t)
  (L:X9 (Th o name X.env (eval o X.env)=eval o X.env) X8)
  (u:X9 (((backTo cpos<|starEach (e::es) X.env).all (λx=>!x.1) && (D9 cpos<|keywordEach [] X.env).all (λx=>x.1.isSome) && decide (↑(e::es)+↑([]:Qi Ve)+(if ([]:Qi Ve).isEmpty then 0 else 1)<30))=true) X8)
  (f:X9 ((apos.endLine == cpos.line)=true) X8) (hs:X9 (starEach (e::es) X.env=(Qs,eval e X.env)::starEach es X.env) X8) (j:X9 ((backTo cpos<|starEach es X.env).any (·.1)=false) X8):
  PE X (.Call (.Attribute o name apos) (e::es) [] cpos) (yP X.K T r to t):=by
 intro a1 s N H Q I h;refine wpAny_Call_method_late L u f rfl<|bD (m a1 s N H _ I h) ?_;rintro v q ⟨x,B,b,d,W,E⟩;obtain⟨J,z⟩:=SG b d W;exists T,id,C,slot,n,J,z;have a:=i cpos a1 q N B _ b E;rw[hs]at a ⊢;refine oB (by show(Qs || (backTo cpos<|starEach es X.env).any (·.1))=Qs;rw[j] <;> rfl)<|qY ?_;exact bD a <| by rintro O s2 ⟨vs,Z,M,l,G⟩;exact A a1 s2 N Z x vs v O Q M d l G
end
def KP(X:Cx)(id:String)(r:V->Qi V->Hp->VK->Prop):Prop:=
 ∀(a:Z1)(s:Pw)(d:St)(H:Hp)(x:V)(e:Qi V)(v:iH)(b:Qi iH)(Q:VK),Inv X a d H s->RelV x v->Vals e b->r x e H Q->
  Qw ⇑{X} X.A (call (.builtin id)<|v::b) (EP X a d Q) X.xe s
def Vals.one:∀{x:V}{us:Qi iH},Vals [x] us->∃u,us=[u]/\RelV x u:=by
 rintro x us (_ | ⟨r,_ | _⟩);exact{6,r}
def Vals.zero:∀{us:Qi iH},Vals [] us->us=[]
 | _,.nil=>rfl
theorem Vals.dropLast(h:Vals xs us):Vals xs.dropLast us.dropLast:=by
 induction h with
 | nil=>exact .nil
 | cons r t a=>
  cases t with
  | nil=>exact .nil
  | cons q b=>exact .cons r a
theorem Vals.eraseIdx:∀{xs:Qi V}{us:Qi iH}(i:Qk),Vals xs us->Vals (xs.eraseIdx i) (us.eraseIdx i)
 | _,_,_,.nil=>.nil
 | _,_,0,.cons _ t=>t
 | _,_,i+1,.cons r t=>.cons r<|Vals.eraseIdx i t
theorem Vals.reverse(h:Vals xs us):Vals xs.reverse us.reverse:=by
 induction h with
 | nil=>exact .nil
 | cons r t a=>rw[zT,zT];exact Vals.append a<|.cons r .nil
def Vals.rep(h:Vals xs us):∀k:Qk,Vals (Rj k xs).flatten (Rj k us).flatten:=λk=>Ul
 (.nil)
 (λk a=>by
  rw[FU,FU,LV,LV];exact Vals.append h<|a) k
def Mo{i:Type}(l:Qi i):l.eraseIdx (↑l-1)=l.dropLast:=by
 induction l with
 | nil=>rfl
 | cons a r h=>
  cases r with
  | nil=>rfl
  | cons b r=>
   have e:↑(a::b::r)-1=(↑(b::r)-1)+1:=by
    have f:↑(a::b::r)=↑r+2:=rfl;have d:↑(b::r)=↑r+1:=rfl;lia
   rw[e,Qi.eraseIdx_cons_succ,h]
   all_goals rfl
theorem WU{a:Type}:∀(l:Qi a)(i:Qk),↑(l.eraseIdx i)<=↑l
 | [],_=>aV _
 | _::_,0=>lA _
 | _::r,i+1=>Qk.succ_le_succ<|WU r i
def Bx(its:Qi iH):∀(k:Qk)(a:Qi iH),
  Zv (λb h=>b++h) a.toArray (Rj k its.toArray)=(a++(Rj k its).flatten).toArray:=λk=>Ul
 (λa=>by simp)
 (λk f a=>by
  have e:a.toArray++its.toArray=(a++its).toArray:=by simp
  have d:(a++its)++(Rj k its).flatten=a++(Rj (k+1) its).flatten:=by
   rw[FU,LV,dY]
  rw[<-d,<-f (a++its),<-e,FU,uF]) k
section
def Inv.lset{its its':Qi iH}{n:Qk}{f:Qo iH->Qo iH}{t':Qk}(I:Inv X pins σ H s)(i:H l\.lst xs)
  (e:s.heap.get? l=Qp {cls:=.type "list",data:=.seq its.toArray n}) (h:f its.toArray=its'.toArray) (b:Vals ys its') (hz:↑ys<=sizeLine):
  Inv X pins σ (upd H l<|.lst ys) {s with heap:=s.heap.update l<|Td f,toks:=t'}:=by
 have q:=PySem.IsL.update e f;rw[h]at q;refine I.write (x:=l) (e:=l) (by rw[i];exact trivial) (.inl rfl) (λj u d a=>(AY s.heap (Td f)<|cJ d).trans a) {_,q} ?_;exact{hz,its',_,b,q}
def Inv.lnew(I:Inv X pins σ H s)(a:Vals ys its)(hz:↑ys<=sizeLine):
  Inv X pins σ (upd H s⁻¹<|.lst ys) {s with heap:=s.heap.push {cls:=.type "list",data:=.seq its.toArray},toks:=t'}:=
 I.laid (λ_ _ q=>cB _ q) (aV _) ⟨hz,its,0,a,dQ _ rfl⟩
theorem Inv.fresh(I:Inv X pins σ H s):H s⁻¹=none:=I.hok.fresh<|aV _
def Inv.lstM(I:Inv X pins σ H s)(a:H l\.lst xs):↑xs<=sizeLine/\∃(its:Qi iH)(n:Qk),Vals xs its/\↑xs=↑its/\s.heap.get? l=Qp {cls:=.type "list",data:=.seq its.toArray n}:=by
 obtain⟨z,its,n,r,e⟩:=I.hok l _ a;exact{z,its,n,r,↑r,e}
def XM(h:n<=sizeLine):Uj n=false:=by
 unfold Uj;exact fE ∅
end
section
inductive EJ(x:V)(vs:Qi V)(H:Hp)(Q:VK):Prop
 | mk(l:eH)(xs:Qi V)(y:V)(h1:x=.ref l)(h2:vs=[y])(h3:H l\.lst xs)(h4:↑xs<sizeLine)(q:Q .non (upd H l<|.lst<|xs++[y])):EJ x vs H Q
def zY:V->Qi V->Hp->VK->Prop:=λx vs H Q=>EJ x vs H Q
def gS:KP X "list.append" zY:=by
 intro i s o H x vs v m Q I f d h;obtain⟨l,A,y,rfl,rfl,a,B,q⟩:=h;cases f;obtain⟨u,rfl,b⟩:=d.one;obtain⟨z,j,n,r,hl,e⟩:=I.lstM a;refine rZ F.slot_list_append {_,e,U} F.entry_list_append (F.args_list_append_2 _ _) (PySem.list_append l j.toArray n u<|by rw[dN];lia) {e,?_};refine{.non,_,I.lset (its':=j++[u]) a e ↥_ (r.append<|.cons b .nil) ?_,U,q};rw[bK,fI];lia
def Oy:V->Qi V->Hp->VK->Prop:=λx vs H Q=>∃l b d a,x=.ref l/\vs=[.ref b]/\H l\.lst d/\H b\.lst a/\↑d+↑a<=sizeLine/\Q .non (upd H l<|.lst<|d++a)
def QF:KP X "list.extend" Oy:=by
 intro J s O H x vs v N Q I A i h;obtain⟨l,b,W,G,rfl,rfl,d,B,T,q⟩:=h;cases A;obtain⟨u,rfl,f⟩:=i.one;cases f;obtain⟨z,L,n,r,hl,e⟩:=I.lstM d;obtain⟨E,a,o,j,C,m⟩:=I.lstM B;have M:L.toArray.size+a.toArray.size<=sizeLine:=by rw[dN,dN];lia
 have a1:¬(!L.toArray.isEmpty && Uj (L.toArray.size+a.toArray.size))=true:=by
  rw[XM M,F5];exact eJ
 refine rZ F.slot_list_extend {_,e,U} F.entry_list_extend (F.args_list_extend_2 _ _)
  (AutoSeq1.list_extend_list_list_0 l L.toArray n b a.toArray o a1 (by rw[dN];lia) ∅) ⟨e,m,?_⟩
 refine{.non,_,I.lset (its':=L++a) d e ↥_ (r.append j) ?_,U,q};rw[bK];lia
def PK:V->Qi V->Hp->VK->Prop:=λx vs H Q=>∃l a y,x=.ref l/\vs=[]/\H l\.lst a/\a[↑a-1]?\y/\Q y (upd H l<|.lst a.dropLast)
def wK:KP X "list.pop" PK:=by
 intro o s C H x vs v B Q I m f h;obtain⟨l,E,y,rfl,rfl,a,i,q⟩:=h;cases m;have a1:=f.zero;subst a1;obtain⟨z,A,n,r,hl,e⟩:=I.lstM a;obtain⟨u,j,d⟩:=r.get i;have b:A.toArray[A.toArray.size-1]?\u:=by
  show A.toArray[↑A-1]?=Qp u;rw[<-xK,<-hl];exact j
 refine rZ K8 {_,e,U} I0 (F.args_list_pop_1 _) (MeetsSeq.list_pop_last l A.toArray n u b<|by rw[dN];lia) {e,?_};refine{y,_,I.lset (its':=A.dropLast) a e ?_ r.dropLast ?_,d,q}
 .show A.toArray.eraseIdxIfInBounds (A.toArray.size-1)=A.dropLast.toArray;rw[dN,We,Mo]
 .rw[Qi.length_dropLast];lia
def SI:V->Qi V->Hp->VK->Prop:=λx vs H Q=>∃l a i k y,x=.ref l/\vs=[.int i]/\H l\.lst a/\-(2 ^ 63)<=i/\i<2 ^ 63/\Vt i ↑a\k/\a[k]?\y/\Q y (upd H l<|.lst<|a.eraseIdx k)
def Ic:KP X "list.pop" SI:=by
 intro a1 s L H x vs v J Q I C f h;obtain⟨l,G,i,k,y,rfl,rfl,a,B,j,A,m,q⟩:=h;cases C;obtain⟨u,rfl,d⟩:=f.one;obtain⟨t,rfl⟩:=d;obtain⟨z,E,n,r,hl,e⟩:=I.lstM a;obtain⟨w,o,b⟩:=r.get m;refine rZ K8 {_,e,U} I0 (F.args_list_pop_2 _ _)
  (MeetsSeq.list_pop_at l E.toArray n i t k w (O2 B j) (by rw[dN,<-hl];exact A) (by rw[<-xK];exact o)<|by rw[dN];lia) ⟨e,?_⟩
 refine{y,_,I.lset (its':=E.eraseIdx k) a e ?_ (r.eraseIdx k) ?_,b,q}
 .show E.toArray.eraseIdxIfInBounds k=(E.eraseIdx k).toArray;rw[We]
 .have:=WU G k;lia
def IB:R2:=λx y H Q=>∃l b d a,x=.ref l/\y=.ref b/\H l\.lst d/\H b\.lst a/\↑d+↑a<=sizeLine/\∀p,H p=Qq->Q (.ref p) (upd H p<|.lst<|d++a)
def qN:dW X (Tf .Add) IB:=by
 intro a1 s L H x y v u Q I m i h;obtain⟨l,b,M,G,rfl,rfl,o,A,N,q⟩:=h;cases m;cases i;obtain⟨z,J,n,r,hl,e⟩:=I.lstM o;obtain⟨C,a,E,f,B,j⟩:=I.lstM A;refine PySem.P.add_list e j ?_ (by rw[dN,dN];lia);have d:J.toArray++a.toArray=(J++a).toArray:=by simp
 rw[d];exact{.ref _,_,I.lnew (t':=s.toks) (r.append f) (by rw[bK];lia),U,q _ I.fresh}
def RG:R2:=λx y H Q=>∃l k a,x=.ref l/\y=.int k/\H l\.lst a/\-(2 ^ 63)<=k/\k<2 ^ 63/\↑a*k.toNat<=sizeLine/\
 ∀p,H p=Qq->Q (.ref p) (upd H p<|.lst (Rj k.toNat a).flatten)
def Cf{b:Type}(xs:Qi b)(k:Qk):(Rj k xs).flatten.length=k*↑xs:=by
 induction k with
 | zero=>simp
 | succ k a=>rw[FU,LV,bK,a,Yn,Yp]
def uP:dW X (Tf .Mult) RG:=by
 intro M s Z H x y v u Q I G o h;obtain⟨l,k,xs,rfl,rfl,J,A,j,O,q⟩:=h;cases G;obtain⟨t,rfl⟩:=o;obtain⟨z,N,n,r,hl,e⟩:=I.lstM J;have L:N.toArray.size*k.toNat<=sizeLine:=by rw[dN,<-hl];exact O
 have a1:¬N.toArray.size*k.toNat > (2 ^ 63-1) / 8:=by
  have:(sizeLine:Qk)<=(2 ^ 63-1) / 8:=by decide
  lia
 have f:¬(!Px.List.listFitsIndex k)=true:=by
  rw[O2 A j];exact eJ
 have E:¬Uj (N.toArray.size*k.toNat)=true:=by
  rw[XM L];exact eJ
 have i:Zv (λd b=>d++b) #[] (Rj (if N.toArray.isEmpty=Qr then 0 else k.toNat) N.toArray)=(Rj k.toNat N).flatten.toArray:=by
  have B:∀m:Qk,Zv (λd b=>d++b) #[] (Rj m N.toArray)=(Rj m N).flatten.toArray:=λm=>by
   have:=Bx N m [];rw[Wu]at this;exact this
  rw[B];cases N with
  | nil=>simp
  | cons a W=>rw[bA<|by simp]
 refine wpAny_binaryOp_repeat_ref (T:="list") (U:="int") ↥?_ {_,e,U} (λC=>G0 C k t) noFill_list_mul F.fills_int_mul K9 repeat_list F.slot_int_index.lookup
  (rZ K9 (G0 s k t) F.entry_int_rmul (F.args_int_rmul_2 _ _) (int___rmul___int_list k t l N.toArray n) ⟨e,rfl,⟨_,e,rfl⟩,rZ F.slot_list_mul ⟨_,e,rfl⟩ F.entry_list_mul (F.args_list_mul_2 _ _) (AutoListH.list___mul___list_int_3 l N.toArray n k t f a1 E) ⟨e,?_⟩⟩)
 rw[i];exact{.ref _,_,I.lnew (t':=s.toks) (r.rep k.toNat) (by rw[Cf,Qk.mul_comm];exact O),U,q _ I.fresh}
end
section
end
section
end
section
variable{κ:Type}[DecidableEq κ]
def aO(kvs:Qi (κ×V))(k:κ):Qj V:=(kvs.find? λa=>decide<|a.1=k).map (·.2)
def aX(kvs:Qi (κ×V))(k:κ)(v:V):Qi (κ×V):=
 if (kvs.any λa=>decide<|a.1=k)=Qr then kvs.map (λa=>if a.1=k then(a.1,v) else a) else kvs++[(k,v)]
def lV{p:κ×V}{r:Qi (κ×V)}{k:κ}(e:p.1=k):aO (p::r) k\p.2:=by simp[aO,oA,e]
def mF{p:κ×V}{r:Qi (κ×V)}{k:κ}(e:¬p.1=k):aO (p::r) k=aO r k:=by simp[aO,oA,e]
def wH(k:κ):∀kvs:Qi (κ×V),(kvs.any λb=>decide<|b.1=k)=(aO kvs k).isSome:=λkvs=>kvs.recOn
 (rfl)
 λp r a=>by
  rw[yR]
  by_cases e:p.1=k
  .simp only[lV e,cN e,Qm.true_or,Qj.isSome_some]
  .rw[mF e,fE e,Qm.false_or];exact a
def Il(k j:κ)(y:V):∀kvs:Qi (κ×V),aO (kvs.map λa=>if a.1=k then(a.1,y) else a) j=(aO kvs j).map λx=>if j=k then y else x:=λkvs=>kvs.recOn
 (rfl)
 λp r d=>by
  have b:=d;rw[eE]
  by_cases h:p.1=k
  .rw[bG h]
   by_cases e:p.1=j
   .rw[lV (p:=(p.1,y)) e,lV e,Uh,bG<|e.symm.trans h]
   .rw[mF (p:=(p.1,y)) e,mF e,b]
  .rw[bA h]
   by_cases e:p.1=j
   .rw[lV (p:=p) e,lV e,Uh,bA λz=>h<|e.trans z]
   .rw[mF (p:=p) e,mF e,b]
def Cg(k j:κ)(y:V):∀kvs:Qi (κ×V),aO kvs k=Qq->aO (kvs++[(k,y)]) j=if j=k then Qp y else aO kvs j:=λkvs=>kvs.recOn
 (λ_=>by
  by_cases e:k=j
  .rw[bG e.symm];exact lV (p:=(k,y)) e
  .rw[bA λz=>e z.symm];exact mF (p:=(k,y)) e)
 λp r f a=>by
  rw[Wp];have b:¬p.1=k:=λz=>by rw[lV z]at a;cases a
  rw[mF b]at a;have d:=f a
  by_cases e:p.1=j
  .rw[lV e,lV e,bA λz=>b<|e.trans z]
  .rw[mF e,mF e,d]
def oY(kvs:Qi (κ×V))(k j:κ)(y:V):aO (aX kvs k y) j=if j=k then Qp y else aO kvs j:=by
 unfold aX
 by_cases a:(kvs.any λb=>decide<|b.1=k)=Qr
 .rw[bG a,Il];rw[wH]at a
  by_cases e:j=k
  .obtain⟨x,hx⟩:=uh4.mp a;rw[bG e,e,hx,Uh,bG rfl]
  .rw[bA e];cases aO kvs j with
   | none=>rfl
   | some x=>rw[Uh,bA e]
 .rw[bA a];refine Cg k j y kvs ?_;rw[wH]at a;cases q:aO kvs k with
  | none=>rfl
  | some x=>rw[q]at a;exact(a rfl).elim
def mK(kvs:Qi (κ×V))(k:κ)(v:V):↑(aX kvs k v)<=↑kvs+1:=by
 unfold aX
 split
 .rw[aF];lia
 .rw[bK,cK,iX];lia
def LZ{kvs:Qi (κ×V)}{k:κ}(v:V)(h:aO kvs k=Qq):aX kvs k v=kvs++[(k,v)]:=by
 unfold aX;rw[wH,h];exact bA ↥?_
def RelO.isSome_eq(r:RelO o u):o.isSome=u.isSome:=by
 cases o with
 | none=>cases u with
  | none=>rfl
  | some _=>exact(show Qn from r).elim
 | some _=>cases u with
  | none=>exact(show Qn from r).elim
  | some _=>rfl
theorem RelO.getD(r:RelO o u)(rd:RelV d d'):RelV (o.getD d) (u.getD d'):=by
 cases o with
 | none=>cases u with
  | none=>exact rd
  | some _=>exact(show Qn from r).elim
 | some _=>cases u with
  | none=>exact(show Qn from r).elim
  | some _=>exact r
def KV.val(r:KV kvs vs)(k:κ):RelO (aO kvs k) (valueAt vs k):=by
 unfold KV at r
 induction r with
 | nil=>exact fG
 | @cons p q l i h t j=>
  obtain⟨d,f⟩:=h
  by_cases e:p.1=k
  .have a:q.1=k:=d.symm.trans e;have b:valueAt (q::i) k\q.2:=by simp[valueAt,oA,a]
   rw[lV e,b];exact f
  .have a:¬q.1=k:=λz=>e<|d.trans z;have b:valueAt (q::i) k=valueAt i k:=by simp[valueAt,oA,a]
   rw[mF e,b];exact j
theorem KV.any(r:KV kvs vs)(k:κ):(kvs.any λa=>decide<|a.1=k)=vs.any λa=>decide (a.1=k):=by
 unfold KV at r
 induction r with
 | nil=>rfl
 | cons h t b=>rw[yR,yR,b,h.1]
def KV.repl(r:KV kvs vs)(k:κ)(d:RelV y u):
  KV (kvs.map λa=>if a.1=k then(a.1,y) else a) (vs.map λa=>if a.1=k then(a.1,u) else a):=by
 unfold KV at r ⊢
 induction r with
 | nil=>exact .nil
 | @cons p q j l h t i=>
  rw[eE,eE];refine .cons ?_ i;obtain⟨b,f⟩:=h
  by_cases e:p.1=k
  .rw[bG e,bG<|b.symm.trans e];exact⟨b,d⟩
  .rw[bA e,bA λz=>e<|b.trans z];exact⟨b,f⟩
def KV.put(r:KV kvs vs)(k:κ)(a:RelV y u):KV (aX kvs k y) (stored vs k u):=by
 unfold aX stored;rw[r.any k]
 by_cases e:(vs.any λb=>decide<|b.1=k)=Qr
 .rw[bG e,bG e];exact r.repl k a
 .rw[bA e,bA e];exact Paired.snoc r ⟨rfl,a⟩
theorem KV.length(r:KV kvs vs):↑kvs=↑vs:=Paired.length r
end
def nQ(r:RelV (kV k) u):(cR P w).is k u=true:=by
 cases k with
 | inl i=>obtain⟨t,e⟩:=(show ∃t,u=Xl i t from r);subst e;exact Lk P w i t
 | inr x=>obtain⟨t,e⟩:=(show ∃t,u=Tu x t from r);subst e;exact Kn P w x t
def XZ:∀{ks:Qi aK}{us:Qi iH},Vals (ks.map kV) us->ItemsAre (cR P w) ks us:=by
 intro ks
 induction ks with
 | nil=>intro _ r;rw[Yd]at r;cases r;exact .nil
 | cons k ks a=>
  intro _ r;rw[eE]at r;cases r with
  | cons h t=>exact .cons (nQ h)<|a t
abbrev KT(H:Hp):Qi (Qi aK×V)->Qi (Qi aK×eH×iH)->Prop:=Paired λp q=>p.1=q.1/\H q.2.1\(.tup<|p.1.map kV)/\RelV p.2 q.2.2
def KT.val(r:KT H kvs xs)(k:Qi aK):RelO (aO kvs k) ((Wj xs k).map (·.2)):=by
 induction r with
 | nil=>exact fG
 | @cons p q l i h t j=>
  obtain⟨d,_,f⟩:=h
  by_cases e:p.1=k
  .have a:q.1=k:=d.symm.trans e;have b:Wj (q::i) k\q.2:=by simp[Wj,oA,a]
   rw[lV e,b];exact f
  .have a:¬q.1=k:=λz=>e<|d.trans z;have b:Wj (q::i) k=Wj i k:=by simp[Wj,oA,a]
   rw[mF e,b];exact j
def KT.repl(r:KT H kvs xs)(k:Qi aK)(i:RelV y u):
  KT H (kvs.map λb=>if b.1=k then(b.1,y) else b) (xs.map<|putAt k u):=by
 induction r with
 | nil=>exact .nil
 | @cons p q l m h t j=>
  rw[eE,eE];refine .cons ?_ j;obtain⟨a,d,f⟩:=h;unfold putAt
  by_cases e:p.1=k
  .rw[bG e,bG<|a.symm.trans e];exact⟨a,d,i⟩
  .rw[bA e,bA λz=>e<|a.trans z];exact⟨a,d,f⟩
def KT.put(r:KT H kvs xs)(k:Qi aK)(d:H b\(.tup<|k.map kV))(a:RelV y u):
  KT H (aX kvs k y) (storedH xs k b u):=by
 have e:(kvs.any λf=>decide<|f.1=k)=(Wj xs k).isSome:=by
  rw[wH,(r.val k).isSome_eq,Vk]
 unfold aX storedH;rw[e]
 by_cases q:(Wj xs k).isSome=Qr
 .rw[bG q,bG q];exact r.repl k a
 .rw[bA q,bA q];exact Paired.snoc r ⟨rfl,d,a⟩
def KT.keeps(r:KT H kvs xs)(a:∀b ys,H b\.tup ys->H' b\.tup ys):KT H' kvs xs:=
 Paired.mapP r λ_ _ z=>⟨z.1,a _ _ z.2.1,z.2.2⟩
section
def PY(ok:HOk P w H h)(e:Rd H a u):ObjOk P w H h a u:=e.ok ok
def oD(ok:HOk P w H h)(e:Rd H a (.dK kvs)):↑kvs<=sizeLine/\(a == Rh)=Qs/\∃vs,KV kvs vs/\h.DictOf (cR P w) a vs:=
 show ObjOk P w H h a (.dK kvs) from PY ok e
def pT(ok:HOk P w H h)(e:H a\.dK kvs):↑kvs<=sizeLine/\(a == Rh)=Qs/\∃vs,KV kvs vs/\h.DictOf (cR P w) a vs:=oD ok<|.inl e
def ER(ok:HOk P w H h)(e:H a\(.tup<|ks.map kV)):(tupleKind<|cR P w).is h ks a:=by
 obtain⟨_,i,r,o,d,f,n,b⟩:=(show ObjOk P w H h a (.tup<|ks.map kV) from ok a _ e);exact{o,i.toArray,n,d,f,b,⇑[XZ r]}
def yG(ok:HOk P w H h)(e:Rd H a (.dT kvs)):↑kvs<=sizeLine/\(a == Rh)=Qs/\
  ∃xs,KT H kvs xs/\h.DictOfH (tupleKind<|cR P w) a xs:=by
 obtain⟨z,y,xs,r,o,s,A,i,b,f,j,d⟩:=(show ObjOk P w H h a (.dT kvs) from PY ok e);refine{z,y,xs,r,o,s,A,i,b,f,j,λx hx=>?_,d};have all:∀{l:Qi (Qi aK×V)}{m:Qi (Qi aK×eH×iH)},KT H l m->∀x∈m,(tupleKind<|cR P w).is h x.1 x.2.1:=by
  intro l m q
  induction q with
  | nil=>intro x hx;exact nomatch hx
  | @cons p q B C n t u=>
   intro x hx;obtain e|hx:=vj0.mp hx
   .subst e;exact ER ok (by rw[<-n.1];exact n.2.1)
   .exact u x hx
 exact all r x hx
def CF(ok:HOk P w H h)(e:H a\.dT kvs):↑kvs<=sizeLine/\(a == Rh)=Qs/\
  ∃xs,KT H kvs xs/\h.DictOfH (tupleKind<|cR P w) a xs:=yG ok<|.inl e
end
def DGet(H:Hp)(a:eH)(y:V)(r:Qj V):Prop:=
 (∃d k,Rd H a (.dK d)/\y=kV k/\r=aO d k)\/∃d k b,Rd H a (.dT d)/\y=.ref b/\H b\(.tup<|k.map kV)/\r=aO d k
def DPut(H:Hp)(a:eH)(y v:V)(H':Hp):Prop:=
 (∃d k,H a\.dK d/\y=kV k/\↑d<sizeLine/\H'=upd H a (.dK<|aX d k v))\/
 ∃d k b,H a\.dT d/\y=.ref b/\H b\(.tup<|k.map kV)/\↑d<sizeLine/\H'=upd H a (.dT<|aX d k v)
theorem DGet.k{H:Hp}{a:eH}{kvs:Qi (aK×V)}{k:aK}(e:H a\.dK kvs):DGet H a (kV k) (aO kvs k):=.inl ⟨kvs,k,.inl e,rfl,rfl⟩
theorem DPut.k{H:Hp}{a:eH}{kvs:Qi (aK×V)}{k:aK}{v:V}(e:H a\.dK kvs)(hl:↑kvs<sizeLine):DPut H a (kV k) v (upd H a<|.dK<|aX kvs k v):=.inl ⟨kvs,k,e,rfl,hl,rfl⟩
def DPut.t{H:Hp}{a b:eH}{kvs:Qi (Qi aK×V)}{k:Qi aK}{v:V}(e:H a\.dT kvs)(d:H b\(.tup<|k.map kV))(hl:↑kvs<sizeLine):
  DPut H a (.ref b) v (upd H a<|.dT<|aX kvs k v):=.inr ⟨kvs,k,b,e,rfl,d,hl,rfl⟩
section
def Inv.big(I:Inv X pins σ H s):Rh<s⁻¹:=by
 have h:Re<s⁻¹:=(I.mod.glob.keeps I.bk).lt;exact Um ↥?_ h
def Cp(n:A.units+1<cLine)(I:Inv X pins σ H s)(g:DGet H a y (Qp v))(m:RelV y u)(h:∀d B,Inv X pins σ H B->RelV v d->Q d B):
  Qw ⇑{X} A (Tx (.ref a) u) Q E s:=by
 obtain⟨r,k,e,x,l⟩|⟨r,k,b,e,x,G,l⟩:=g
 .subst x;obtain⟨z,hd,vs,a1,j⟩:=oD I.hok e;obtain⟨d,f,i⟩:=RelO.some_of (v:=v) (o:=valueAt vs k) (by rw[l];exact a1.val k);exact L4 (nQ m) j.mapOf f<|h d _ (I.tok _) i
 .subst x;cases (show u=Qy b from m);obtain⟨z,hd,C,a1,j⟩:=yG I.hok e;obtain⟨d,f,i⟩:=RelO.some_of (v:=v) (o:=(Wj C k).map (·.2)) (by rw[l];exact a1.val k);obtain⟨p,J,q⟩:=vh8.mp f;refine F7 (xS n) (ER I.hok G) j J ?_;rw[q];exact h d _ (I.tok _) i
def rV(I:Inv X pins σ H s)(f:BR (H a))(hs:Rf a s.heap h')(he:∃q,h'.get? a\q)(new:ObjOk X.prog X.w (upd H a ob) h' a ob):
  Inv X pins σ (upd H a ob) {s with heap:=h',toks:=t'}:=
 I.write (x:=a) (e:=a) f (.inl rfl) (λb q d z=>(hs.2 b d).trans z) he new
def GA(z:↑kvs<=sizeLine)(hd:(a == Rh)=Qs)(d:KV kvs vs)(b:h'.DictOf (cR P w) a vs):
  ObjOk P w H' h' a (.dK kvs):=⟨z,hd,vs,d,b⟩
def Ce(x:A.units+1<cLine)(I:Inv X pins σ H s)(g:DPut H a y v H')(n:RelV y u)(j:RelV v r)(h:∀W,Inv X pins σ H' W->Q () W):
  Qw ⇑{X} A (Q0 (.ref a) u r) Q E s:=by
 obtain⟨J,k,e,O,l,N⟩|⟨J,k,b,e,O,Z,l,N⟩:=g
 .subst O N;obtain⟨z,hd,vs,d,i⟩:=pT I.hok e;have M:↑vs<=sizeLine:=by rw[<-↑d];exact z
  have hl:↑(aX J k v)<=sizeLine:=by have:=mK J k v;lia
  refine wpAny_setItem_pairs (hsz:=M) (nQ n) i λT a1 L=>h _ ?_;have he:∃q,T.get? a\q:=let ⟨q,_,_,f,_⟩:=a1;⟨q,f⟩
  exact rV I (by rw[e];exact fG) L he<|GA hl hd (d.put k j) a1
 .subst O N;cases (show u=Qy b from n);obtain⟨z,hd,xs,d,i⟩:=CF I.hok e;have M:↑xs<=sizeLine:=by rw[<-Paired.length d];exact z
  have hl:↑(aX J k v)<=sizeLine:=by have:=mK J k v;lia
  refine wpAny_setItem_heap (hsz:=M) (xS x) (ER I.hok Z) i λT a1 L=>h _ ?_;obtain⟨q,es,ep,f,o,C,G,_,B⟩:=a1;refine rV I (by rw[e];exact fG) L ⟨q,f⟩ {hl,hd,_,(d.put k Z j).keeps λc ys m=>?_,q,es,ep,f,o,C,G,B};rw[aE<|DH m e λz=>nomatch z];exact m
end
section
def GT(I:Inv X pins σ H s)(e:Rd H a (.dK kvs))(h:∀t f,Inv X pins σ H f->Q (.int ↑kvs t) f):Qw ⇑{X} A (call (.builtin "len") [.ref a]) Q E s:=by
 obtain⟨z,hd,vs,b,d⟩:=oD I.hok e;refine call_len_dict hd d (by rw[<-↑b];rw[kZ]at z;lia) ?_;rw[<-↑b];exact h _ _<|I.tok _
end
def pW(i:Qc):Prop:=∀a b,Xv i Qs a b=Q4 [a,b] (Tx a b)
def ON{prog:Py}{w:Qb}{A:Qf}{E:Vp}{s:Pw}{env:Yg}{q a:Qc}{pos:Ud}{T id:String}{Q:Vp}
  (hl:Ts (.type T) "__getitem__"=pure (Qp<|.builtin id)) (hs:pW a)
  (h:Qw ⇑[] A (eval q env) (λo f=>Qw ⇑[] A (eval a env) (λi b=>b.TypeIs o T/\Qw ⇑[] A (Tx o i) Q E b) E f) E s):
  Qw ⇑[] A (eval (.Subscript q a pos) env) Q E s:=by
 refine Ym<|jG h (λo f n=>jG n (λi b e=>?_) λ_ _ x=>x) λ_ _ x=>x;obtain⟨l,e⟩:=e;unfold Wh;refine aC ?_;rw[getitemInPython_of_ne l.not_modules];refine aC<|oO l hl ?_;have d:Qw ⇑[] A (Xv a Qs o i) (λr j=>Qw ⇑[] A (letTemporaryGo q o r >>= λ_=>pure r) Q E j) E b:=by
  rw[hs o i];exact wpAny_operating<|jG e (λr j m=>aC<|wpAny_letTemporaryGo<|aZ m) λ_ _ x=>x
 first
  | exact aZ (aC d)
  | exact aC (aZ<|aC d)
  | exact aC d
def Iy(I:Inv X pins σ H s)(g:DGet H a y o):s.TypeIs (.ref a) "dict":=by
 obtain⟨f,k,e,_,_⟩|⟨f,k,b,e,_,_,_⟩:=g
 .obtain⟨_,_,vs,_,d⟩:=oD I.hok e;exact d.typeIs
 .obtain⟨_,_,xs,_,d⟩:=yG I.hok e;exact d.typeIs
inductive SJ(x y:V)(H:Hp)(Q:VK):Prop
 | mk(a:eH)(v:V)(h1:x=.ref a)(h2:DGet H a y (Qp v))(q:Q v H):SJ x y H Q
def zS(td d:TE):TE:=λa H Q=>td a H λx e=>d a e λy b=>SJ x y b Q
def rT(td f h:TE):TS:=λD b H=>h b H λv j=>td b j λx e=>f b e λy i=>∃a d,x=.ref a/\DPut i a y v d/\D.nx b d
section
def dL(n:X.A.units+1<cLine)(f:PE X o td)(hi:PE X i ty)(hs:pW i):PE X (.Subscript o i pos) (zS td ty):=by
 intro b s G H Q I h;refine ON ug1.lookup hs<|bD (f b s G H _ I h) λu j ⟨x,l,e,r,B⟩=>bD (hi b j G l _ e B) ?_;rintro C M ⟨y,J,d,m,a,v,ex,g,q⟩;subst ex;obtain rfl:u=Qy a:=r;exact{Iy d g,Cp n d g m λE L z a1=>⟨v,J,z,a1,q⟩}
def jT(l:X.A.units+1<cLine)(e:PE X o td)(hi:PE X i ty)(q:PE X value tv)(hs:Tt value (Qp<|.Subscript o i pos') pos.line X.env=pure Qs):
  PS X (.Assign [.Subscript o i pos'] value pos) (rT td ty tv):=by
 intro b s O H D I h;refine wpAny_Assign_Subscript (bD (q b s O H _ I h) λr C ⟨v,E,d,B,L⟩=>bD (e b C O E _ d L) λu W ⟨x,T,n,G,M⟩=>bD (hi b W O T _ n M) λN s3 ⟨y,H3,m,f,a,j,ex,g,J⟩=>?_) hs;subst ex;obtain rfl:u=Qy a:=G;exact Ce l m g f B λZ z=>⟨O,j,z,J⟩
end
def OJ(h:Qa)(a:Rh<h.objs.size):ObjOk P w H (h.push {cls:=.type "dict",data:=.dict #[]}) h.objs.size (.dK []):=
 ⟨cE _,vv3.mpr<|cJ<|dB a,[],.nil,Qa.DictOf.new h⟩
def Nn(h:Qa)(a:Rh<h.objs.size):ObjOk P w H (h.push {cls:=.type "dict",data:=.dict #[]}) h.objs.size (.dT []):=
 ⟨cE _,vv3.mpr<|cJ<|dB a,[],.nil,_,#[],0,dQ _ rfl,⟨rfl,rfl,rfl⟩,rfl,rfl,lO⟩
def PQ:TE:=λ_ H Q=>∀p,H p=Qq->Q (.ref p) (upd H p<|.dK [])
def xX:TE:=λ_ H Q=>∀p,H p=Qq->Q (.ref p) (upd H p<|.dT [])
section
def pK:PE X (.Dict [] [] pos) PQ:=λb s d H Q I h=>
 L7 ⟨.ref s⁻¹,_,I.laid (a:=s⁻¹) (o:=.dK []) (t':=s.toks) (λ_ _ q=>cB _ q) (aV _)<|OJ s.heap I.big,rfl,h _<|I.hok.fresh<|aV _⟩
def Mu:PE X (.Dict [] [] pos) xX:=λb s d H Q I h=>
 L7 ⟨.ref s⁻¹,_,I.laid (a:=s⁻¹) (o:=.dT []) (t':=s.toks) (λ_ _ q=>cB _ q) (aV _)<|Nn s.heap I.big,rfl,h _<|I.hok.fresh<|aV _⟩
end
def QV:Qi (TE×TE)->St->Hp->(Qi (V×V)->Hp->Prop)->Prop
 | [],_,H,Q=>Q [] H
 | (tk,d)::r,σ,H,Q=>tk σ H λx f=>d σ f λy b=>QV r σ b λa e=>Q ((x,y)::a) e
abbrev VV:Qi (V×V)->Qi (iH×iH)->Prop:=Paired λp q=>RelV p.1 q.1/\RelV p.2 q.2
def AH(X:Cx)(pos:Ud)(d:Qi (Qj Qc))(a:Qi Qc)(f:Qi (TE×TE)):Prop:=
 ∀(b:Z1)(s:Pw)(e:St)(H:Hp)(Q:Qi (V×V)->Hp->Prop),Inv X b e H s->QV f e H Q->
  Qw ⇑{X} X.A (evalPairs<|pairTrees d a X.env pos) (λvs j=>∃i h,Inv X b e h j/\VV i vs/\Q i h) X.xe s
def UL:AH X pos [] [] []:=λa s b H Q I h=>pairTrees_nil_walk ⟨[],H,I,.nil,h⟩
def mS(j:PE X k tk)(b:PE X v tv)(hr:AH X pos ks vs trs):
  AH X pos (Qp k::ks) (v::vs) ((tk,tv)::trs):=λa s A H Q I h=>
 pairTrees_cons_walk (bD (j a s A H _ I h) λu e ⟨x,f,d,l,o⟩=>bD (b a e A f _ d o) λz E ⟨y,B,r,i,q⟩=>
  bD (hr a E A B _ r q) <| by rintro L J ⟨C,G,n,a1,m⟩;exact{(x,y)::C,G,n,.cons ⟨l,i⟩ a1,m})
def cU(kvs more:Qi (aK×V)):Qi (aK×V):=more.foldl (λa b=>aX a b.1 b.2) kvs
def KV.merge:∀{more:Qi (aK×V)}{rs:Qi (aK×iH)}{kvs:Qi (aK×V)}{vs:Qi (aK×iH)},KV more rs->KV kvs vs->KV (cU kvs more) (merged vs rs):=by
 intro more rs kvs vs r;unfold KV at r
 induction r generalizing kvs vs with
 | nil=>intro q;exact q
 | @cons p q d f h t b=>
  intro a;have e:KV (aX kvs p.1 p.2) (stored vs q.1 q.2):=by
   have:=a.put p.1 h.2;rw[<-h.1];exact this
  exact b e
def BD:∀(more kvs:Qi (aK×V)),↑(cU kvs more)<=↑kvs+↑more:=λmore=>more.recOn
 (λkvs=>by show ↑kvs<=↑kvs+0;lia)
 λp r a kvs=>by
  have b:=a<|aX kvs p.1 p.2;have d:=mK kvs p.1 p.2;show(cU (aX kvs p.1 p.2) r).length<=_;rw[cK];lia
def Kh{P:Py}{w:Qb}:∀{kvs:Qi (aK×V)}{ws:Qi (iH×iH)},VV (kvs.map λd=>(kV d.1,d.2)) ws->∃rs,Carries (cR P w) ws rs/\KV kvs rs:=by
 intro kvs
 induction kvs with
 | nil=>intro _ r;rw[Yd]at r;cases r;exact{[],fG,.nil}
 | cons p kvs f=>
  intro _ r;rw[eE]at r;cases r with
  | @cons a b i bs h t=>
   obtain⟨rs,c,q⟩:=f t;obtain⟨b1,e⟩:=b;exact{(p.1,e)::rs,{nQ h.1,U,c},.cons {U,h.2} q}
def PV(b:Qi (TE×TE)):TE:=λh H Q=>∀p,H p=Qq->QV b h (upd H p<|.dK []) λf e=>e p\.dK []/\∃a:Qi (aK×V),f=a.map (λd=>(kV d.1,d.2))/\↑a<=15/\Q (.ref p) (upd e p<|.dK<|cU [] a)
def Gw(h:AH X pos keys values trs)(r:keys.all (·.isSome)=Qr)(hl:↑keys=↑values)(h0:keys≠[])
  (f:↑keys<=15):PE X (.Dict keys values pos) (PV trs):=by
 intro a1 s G H Q I q;have m:=I.hok.fresh<|aV s⁻¹;have i:=I.laid (a:=s⁻¹) (o:=.dK []) (h':=s.heap.push {cls:=.type "dict",data:=.dict #[]}) (t':=s.toks) (λ_ _ q=>cB _ q) (aV _)<|OJ s.heap I.big;refine wpAny_Dict_walk (knd:=cR X.prog X.w) r hl h0 f<|bD (h a1 _ G _ _ i<|q _ m) ?_;rintro O Z ⟨T,W,b,l,e,C,N,lk,A⟩;subst N;obtain⟨L,c,x⟩:=Kh (P:=X.prog) (w:=X.w) l;obtain⟨z,hd,B,u,j⟩:=pT b.hok e;cases u;refine{L,c,j,λh' d E=>{.ref s⁻¹,_,?_,U,A}};have J:↑(cU [] C)<=sizeLine:=by
  have n:=BD C [];rw[iX]at n;rw[kZ];lia
 have M:∃q,h'.get? s⁻¹\q:=let ⟨q,_,_,hq,_⟩:=d;⟨q,hq⟩
 exact rV b (by rw[e];exact fG) E M<|GA J hd (x.merge .nil) d
structure M1(X:Cx)(o:Qc)(m:zZ)(apos:Ud)(e:Qc)(cpos:Ud):Prop where
 base:Th o m X.env (eval o X.env)=eval o X.env
 few:((backTo cpos<|starEach [e] X.env).all (λx=>!x.1) && (D9 cpos<|keywordEach [] X.env).all (λx=>x.1.isSome) && decide (↑([e]:Qi Qc)+↑([]:Qi Ve)+(if ([]:Qi Ve).isEmpty then 0 else 1)<30))=Qr
 line:(apos.endLine == cpos.line)=Qr
 trees:backTo cpos (starEach [e] X.env)=[(Qs,eval e X.env)]
structure M2(X:Cx)(o:Qc)(m:zZ)(apos:Ud)(e f:Qc)(cpos:Ud):Prop where
 base:Th o m X.env (eval o X.env)=eval o X.env
 few:((backTo cpos<|starEach [e,f] X.env).all (λx=>!x.1) && (D9 cpos<|keywordEach [] X.env).all (λx=>x.1.isSome) && decide (↑([e,f]:Qi Qc)+↑([]:Qi Ve)+(if ([]:Qi Ve).isEmpty then 0 else 1)<30))=Qr
 line:(apos.endLine == cpos.line)=Qr
 trees:backTo cpos (starEach [e,f] X.env)=[(Qs,eval e X.env),(Qs,eval f X.env)]
def yO(H:Hp)(a:eH):Prop:=(∃b,Rd H a<|.dK b)\/∃b,Rd H a<|.dT b
def yJ(I:Inv X pins σ H s)(d:yO H a):
  s.TypeIs (.ref a) "dict"/\(∀b,Qy a=.ref b->∃ob,s.heap.get? b\ob/\ob.dict=Qq)/\(a == Rh)=false:=by
 obtain⟨j,e⟩|⟨j,e⟩:=d
 .obtain⟨_,hd,vs,_,f⟩:=oD I.hok e;refine{f.typeIs,λb q=>?_,hd};cases q;obtain⟨ob,_,_,h,i,_⟩:=f;exact{ob,h,i.2.1}
 .obtain⟨_,hd,xs,_,f⟩:=yG I.hok e;refine{f.typeIs,λb q=>?_,hd};cases q;obtain⟨ob,_,_,h,i,_⟩:=f;exact{ob,h,i.2.1}
section
def XV(j:A.units+1<cLine)(I:Inv X pins σ H s)(g:DGet H a y o)(i:RelV y u)(h:∀q r,Inv X pins σ H r->RelV (o.getD .non) q->Q q r):
  Qw ⇑{X} A (call (.builtin "dict.get") [.ref a,u]) Q E s:=by
 obtain⟨m,k,e,n,l⟩|⟨m,k,b,e,n,B,l⟩:=g
 .subst n;obtain⟨z,hd,vs,f,d⟩:=oD I.hok e;refine nR oK d.typeIs zD (QU _ _) (O1 (cR X.prog X.w) a (nQ i) hd) {_,d.mapOf,h _ _ (I.tok _) ?_};rw[l];exact(f.val k).getD rfl
 .subst n;cases (show u=Qy b from i);obtain⟨z,hd,x,f,d⟩:=yG I.hok e;refine nR oK d.typeIs zD (QU _ _) (meetsH_dict_get (tupleKind<|cR X.prog X.w) a b hd) {xS j,k,x,ER I.hok B,d,h _ _ (I.tok _) ?_};rw[l];exact(f.val k).getD rfl
def YZ(m:A.units+1<cLine)(I:Inv X pins σ H s)(g:DGet H a y o)(j:RelV y u)(rd:RelV d r)(h:∀x B,Inv X pins σ H B->RelV (o.getD d) x->Q x B):
  Qw ⇑{X} A (call (.builtin "dict.get") [.ref a,u,r]) Q E s:=by
 obtain⟨n,k,e,q,l⟩|⟨n,k,b,e,q,G,l⟩:=g
 .subst q;obtain⟨z,hd,vs,i,f⟩:=oD I.hok e;refine nR oK f.typeIs zD (NN _ _ _) (A4 (cR X.prog X.w) a (nQ j) hd r) {_,f.mapOf,h _ _ (I.tok _) ?_};rw[l];exact(i.val k).getD rd
 .subst q;cases (show u=Qy b from j);obtain⟨z,hd,C,i,f⟩:=yG I.hok e;refine nR oK f.typeIs zD (NN _ _ _) (meetsH_dict_get_default (tupleKind<|cR X.prog X.w) a b hd r) {xS m,k,C,ER I.hok G,f,h _ _ (I.tok _) ?_};rw[l];exact(i.val k).getD rd
end
def UW(td f:TE):TE:=λd H Q=>td d H λx e=>∃a,x=.ref a/\yO e a/\f d e λy b=>∃o,DGet b a y o/\Q (o.getD .non) b
def ZI(td i f:TE):TE:=λb H Q=>td b H λx e=>∃a,x=.ref a/\yO e a/\i b e λy h=>f b h λz d=>∃o,DGet d a y o/\Q (o.getD z) d
section
def kN(z:X.A.units+1<cLine)(j:PE X o td)(he:PE X e ty)(m:M1 X o "get" apos e cpos):PE X (.Call (.Attribute o "get" apos) [e] [] cpos) (UW td ty):=by
 intro b s O H Q I h;refine rK m.base m.few m.line rQ oK KJ<|bD (j b s O H _ I h) ?_;rintro u l ⟨x,r,f,B,a,ex,d,E⟩;subst ex;obtain rfl:u=Qy a:=B;obtain⟨n,i,_⟩:=yJ f d;exists n,i;rw[m.trees];refine oB rfl<|qY<|lY<|bD (he b l O r _ f E) λL Z ⟨y,T,J,q,M,g,G⟩=>pQ ?_;exact XV z J g q λN W C a1=>{_,T,C,a1,G}
def XO(B:X.A.units+1<cLine)(l:PE X o td)(he:PE X e ty)(L:PE X f tx)(m:M2 X o "get" apos e f cpos):PE X (.Call (.Attribute o "get" apos) [e,f] [] cpos) (ZI td ty tx):=by
 intro b s σ H Q I h;refine rK m.base m.few m.line rQ oK KJ<|bD (l b s σ H _ I h) ?_;rintro u J ⟨x,M,i,N,a,ex,d,T⟩;subst ex;obtain rfl:u=Qy a:=N;obtain⟨q,j,_⟩:=yJ i d;exists q,j;rw[m.trees];refine oB rfl (qY (lY (bD (he b J σ M _ i T) λiv s2 ⟨y,H2,E,r,W⟩=>
  lY (bD (L b s2 σ H2 _ E W) λZ s3 ⟨z,H3,C,n,ov,g,O⟩=>pQ ?_))))
 exact YZ B C g r n λw' s4 G a1=>{_,H3,G,a1,O}
end
section
end
section
end
end L2
namespace Att
open PySem PySem.W PySem.Calls PyProof.Rows
def Ik{P:O8}:∀(d:Qi Ql)(vs:Qi iH),WellAll P h vs (d.map O6.int)->B3 vs d:=by
 intro d
 induction d with
 | nil=>
  intro vs w;rw[Yd]at w;cases w;exact .nil
 | cons n d e=>
  intro vs w;rw[eE]at w;cases w with
  | cons a b=>
   cases a;exact .cons _ _<|e _ b
def Ln{l:OpenLaw}{n:Qk}(z:l.most\n){P:O8}{h:Qa}{args:Qi O6}{i:Qi iH}
  (a1:l.row.toRowW.claim.pre args=Qr) (m:WellAll P h i args):
  ∃a vs b,i=[Qy a]/\args=[O6.list<|b.map O6.int]/\h.get? a=Qp {cls:=.type "list",data:=.seq vs.toArray}/\B3 vs b/\↑b<=n:=by
 have u:WShape.hasAll [] args [.list .int]=true:=(pre_splitW a1).1;have j:l.pre.holds [] {args:=args}=true:=(pre_splitW a1).2;obtain⟨d,r,rfl,B,x⟩:=hasAllW_cons u;obtain rfl:=hasAllW_nil x;obtain⟨J,rfl,A⟩:=hasW_list B;obtain⟨b,rfl⟩:=items_int A;have o:↑b<=n:=by
  unfold OpenLaw.pre at j;have f:(WTm.not<|.lt (.lit<|.int (n:Ql))<|.len<|.arg 0).holds [] {args:=[.list<|b.map .int]}=true:=by
   have f:=(holds_andW j).1;rw[z]at f;exact f
  have e:=condW_of f<|w_not<|w_lt w_lit<|w_len_list<|w_arg rfl;rw[aF]at e;refine E1 λq=>?_;have s:(n:Ql)<((↑b:Qk):Ql):=by lia
  first
   | (rw[cN s]at e;exact absurd e<|by decide)
   | (simp at e;lia)
 cases m with
 | cons H G=>
  cases G;cases H with
  | list E C=>exact{_,_,b,U,U,E,Ik b _ C,o}
def Iv(l:OpenLaw)(args:Qi O6):l.row.toRowW.claim.post args (.bool Qr) args=true:=
 postW_of (r:=l.row.toRowW) (X:=(Qr == Qr))
  (show WShape.has [] (.bool Qr) .bool=Qr by first | rfl | decide | simp[WShape.has,WShape.arms,WShape.armsAll])
  (show(WTm.eq .res<|.lit<|.bool Qr).value [] {args:=args,res:=Qp<|.bool Qr,after:=args}=Qp (.bool<|true == Qr) from w_eq_bool (w_res rfl) w_lit) rfl
def attach_call{l:OpenLaw}{n:Qk}{q:Py}{z:Z2}{A:(zZ->Qj iH)->Qa->Prop}{x:Qb->Qa->Prop}{d:DefRec}
  (N:l.most\n) (X:d.params.defaults=[])
  (call:∀(w:Qb)(s₀ b:Pw)(mg m:zZ->Qj iH)(e:eH)(o:Qg)(u h s:iH)(a:eH)(vs:Qi iH)(j:Qi Ql), Ground q z [] A w s₀ mg m b.heap->x w b.heap-> b.heap.get? e\o->o.data=.func (docDef d.name d.params d.body d.scope u h s)->b.heap.CodeRec h d.name->mg d.name\.ref e-> b.heap.get? a=Qp {cls:=.type "list",data:=.seq vs.toArray}->B3 vs j->↑j<=n->b.gens=#[]-> Tk (Qx l.prog w) Wx (.call (.ref e) ⟨[.ref a],[]⟩) (λr i=>r=.ok (.ret<|.bool Qr)/\OldK b.heap i.heap/\i.os=b.os/\Vx i.gens) b):
  WalkO q z A x l.row.toRowW d [] (λf vs=>Ze f vs):=by
 intro w s₀ b mg m G Y e o u h s Z kV I hd a7 B M H args a9 as C aa ac E ad;obtain rfl:Z=.none:=Dflts.none B X;obtain rfl:kV=.none:=Dflts.noKw B;obtain⟨a,vs,j,rfl,rfl,J,a1,a2⟩:=Ln N C E;refine enter_call<|codeAny_mono (call w s₀ b mg m e o u h s a vs j G Y I (fd_plain hd) a7 M J a1 a2 H) λr i T=>?_;obtain⟨rfl,L,O,h4⟩:=T;exact{.inl {.bool Qr,.bool Qr,[],U,λ_=>U,.bool Qr,Iv l _,λ_=>{Qi.Pairwise.nil,λ_ W=>(nomatch W)}},L,O,h4}
section
variable{prog:Py}{w:Qb}{A:Qf}{E:Vp}{s:Pw}{K:Frag}
end
end Att
namespace L2
open PySem PySem.Spec PyProof.Rows
open V renaming str->R6,ref->R7,int->R8,non->R9
open SqL renaming of->T1
open SqT renaming of->T2
variable{prog:Py}{w:Qb}{A:Qf}{E:Vp}{s:Pw}
variable{X:Cx}
def Jn:∀{vs:Qi iH}{a:Qi Ql},B3 vs a->Vals (a.map R8) vs:=by
 intro vs a b
 induction b with
 | nil=>
  exact .nil
 | cons n t h d=>
  exact .cons ⟨t,rfl⟩<|d
def vK(H:Hp):Prop:=∀b,H b=Qq\/∃o a,H b\(.frz o<|.lst a)
def Cc{P:Py}{w:Qb}{K:Fq}{mg J:zZ->Qj iH}{CX:mX}{k:Qk}{L a:eH}{fd:Qh}{x:zZ}{sp:Sp}{f:Pw}{vs:Qi iH}{B:Qi Ql}
  (X:K.In f.heap) (a7:f.heap.Ns Re mg) (i:f.heap.Ns G6 J) (ab:∀x:zZ,x≠"__name__"->J x=Ss x) (a5:f.heap.NoLimit) (hg:f.gens=#[])
  (G:f.heap.get? a=Qp {cls:=.type "list",data:=.seq vs.toArray}) (hi:B3 vs B) (hl:B.length<=sizeLine) (hr:Room k Wx)
  (F:∀base:Qa,K.In base->base.Ns Re mg->aR P w K mg base CX k L fd [x] sp) (a1:∀(s:Pw)(u:iH),Yi s fd ⟨[u],[]⟩ [(x,u)])
  (aa:∀H:Hp,vK H->SqL K H a (B.map R8)->sp [.ref a] H (λv _=>v=.bl Qr) λ_ _ _=>Qn)
  (ac:∀H e j,CX [] H f (λ_ _ _=>Qn) e j->Qn):
  Tk (Qx P w) Wx (.call (.ref L) ⟨[.ref a],[]⟩) (λr j=>r=.ok (.ret<|.bool Qr)/\OldK f.heap j.heap/\j.os=f.os/\Vx j.gens) f:=by
 have W:=Jn hi;have a4:=↑hi;have a2:∀H:Hp,vK H->SqL K H a (B.map R8)->HOk P w H f.heap->(∀b,H b≠Qq->b=a)->(H a≠Qq->K.lookup a=Qq)->
   Tk (Qx P w) Wx (.call (.ref L) ⟨[.ref a],[]⟩) (λr j=>r=.ok (.ret<|.bool Qr)/\OldK f.heap j.heap/\j.os=f.os/\Vx j.gens) f:=by
  intro H N hS C O hK;have T:∀{b:eH}{o:Qg},f.heap.get? b\o->H b=Qq->(iG f.heap H).get? b\o:=λe n=>Lq e n;have a9:∀{b:eH}{o:Qg}{es:Qo Ua}{ep:Qk},f.heap.get? b\o->o.data=.dict es ep->H b=none:=λ{b o es ep} e d=>by
   cases q:H b with
   | none=>rfl
   | some u=>
    have I:b=a:=O b (by rw[q];simp);subst I;rw[G]at e;cases e;have d':Data.seq vs.toArray _=Data.dict es ep:=d;cases d'
  have E:∀{b:eH}{m:zZ->Qj iH},f.heap.Ns b m->(iG f.heap H).Ns b m:=λ{b m} ⟨o,es,ep,e,d,r⟩=>⟨o,es,ep,T e<|a9 e d,d,r⟩;have Z:K.In (iG f.heap H):=λb o e=>T (X b o e) (by
   cases q:H b with
   | none=>rfl
   | some u=>
    have I:b=a:=O b (by rw[q];simp);subst I;rw[hK<|by rw[q];simp]at e;cases e)
  have hM:Mod K mg (iG f.heap H):=⟨Z,E a7,⟨J,E i,ab⟩,let ⟨mc,h1,h2⟩:=a5;⟨mc,E h1,h2⟩⟩;have e0:Env0 P w K mg (iG f.heap H) Wx [] f H:=⟨rfl,hM,λb o e=>Oa e,Yo<|Kv _ _,trivial,λb i=>absurd (show b∈([]:Z3) from i) ↥_,C,.of_eq hg⟩;refine codeAny_mono ((F _ Z<|E a7).run Wx [] f H {[.ref a],[]} [.ref a] [.ref a] _ _ hr e0 (a1 f<|.ref a) (.cons rfl .nil)<|aa H N hS) λr j h=>?_;cases r with
  | error e=>exact(ac H e j h).elim
  | ok fl=>
   cases fl with
   | next=>exact Sl h
   | brk=>exact Sl h
   | cont=>exact Sl h
   | ret u=>
    obtain⟨v,H',os,A,un,a6,r',q⟩:=h;have q':v=.bl true:=q;subst q';obtain rfl:u=iH.bool true:=r';refine{U,OldK.of_keep λb o e=>?_,os,A};cases q:H b with
    | none=>exact un.keep b o e q (by intro z;exact absurd (show b∈([]:Z3) from z)<|by simp) ↥_
    | some u=>
     obtain z|⟨ob,xs,z⟩:=N b
     .rw[q]at z;cases z
     .have z2:=un.frzs b ob _ z;obtain⟨M,_⟩:=C b _ z;obtain⟨e2,_⟩:=a6 b _ z2;rw[e]at M;cases M;exact e2
 cases hk:K.lookup a with
 | some o=>
  have e:=X a o hk;rw[G]at e;cases e;refine a2 (λ_=>Qq) (λ_=>.inl rfl) (.inr {_,vs.toArray,_,hk,U,U,U,by rw[dN,a4];exact hl,⇑[W]}) (λb u z=>by have l:(Qq:Qj HO)\u:=z;cases l) (λb z=>absurd rfl z) λz=>absurd rfl z
 | none=>
  refine a2 (λb=>if b=a then Qp (.frz {cls:=.type "list",data:=.seq vs.toArray}<|.lst<|B.map R8) else Qq) (λb=>?_) (.inl<|.inr ⟨{cls:=.type "list",data:=.seq vs.toArray},bG rfl⟩) (λb u z=>?_) (λb z=>?_) λ_=>hk
  .by_cases i:b=a
   .exact .inr ⟨_,_,bG i⟩
   .exact .inl<|bA i
  .by_cases i:b=a
   .have l:=(bG i).symm.trans z;cases l;subst i;exact{G,by rw[aF];exact hl,vs,_,W,G}
   .have l:=(bA i).symm.trans z;cases l
  .by_cases i:b=a
   .exact i
   .exact absurd (bA i) z
def Eu{l:Vz}{n k:Qk}{q:Py}{a2:Z2}{O:(zZ->Qj iH)->Qa->Prop}{r:Qb->Qa->Prop}{d:DefRec}{K:O8->Fq}{CX:Qb->mX}{sp:Qb->Sp}{x:zZ}
  (L:l.most\n) (C:n<=sizeLine) (Z:d.params.defaults=[]) (hr:Room k Wx)
  (hY:∀(w:Qb)(h:Qa),r w h->(K w.params).In h)
  (F:∀(w:Qb)(mg:zZ->Qj iH)(i:eH)(h:Qa),(K w.params).In h->h.Ns Re mg->mg d.name\.ref i-> ∃fd:Qh,(∀(s:Pw)(u:iH),Yi s fd ⟨[u],[]⟩ [(x,u)])/\ ∀base:Qa,(K w.params).In base->base.Ns Re mg->aR l.prog w (K w.params) mg base (CX w) k i fd [x] (sp w))
  (J:∀(w:Qb)(H:Hp)(a:eH)(j:Qi Ql),↑j<=n->vK H->SqL (K w.params) H a (j.map R8)->sp w [.ref a] H (λv _=>v=.bl Qr) λ_ _ _=>Qn)
  (a8:∀(w:Qb)(H:Hp)(s:Pw)(e:iH)(m:Pw),CX w [] H s (λ_ _ _=>Qn) e m->Qn):
  B8 q a2 O r l.row.toRowW d [] (λf vs=>Ze f vs):=by
 refine Att.attach_call L Z λw s₀ X mg mb i o pm cd aa a vs j G Y ho hd a9 a7 B a1 z I=>?_;have A:=hY w _ Y;obtain⟨fd,E,hF⟩:=F w mg i _ A G.T.g a7;exact Cc A G.T.g G.T.b G.T.builtins G.T.nolimit I B a1 (fM z C) hr hF E (λH M N=>J w H a j z M N) λH e m=>a8 w H X e m
def qM(s:Qd):Arguments:=match s with
 | .FunctionDef _ a _ _ _ _ _ _ _ _=>a
 | _=>{posonlyargs:=[],args:=[],vararg:=Qq,kwonlyargs:=[],kw_defaults:=[],kwarg:=Qq,defaults:=[]}
def gZ(s:Qd):Qi Qd:=match s with
 | .FunctionDef _ _ b _ _ _ _ _ _ _=>b
 | _=>[]
def bX(s:Qd):Scope:=match s with
 | .FunctionDef _ _ _ _ _ _ a _ _ _=>a
 | _=>{kind:=.function,names:=[],isGenerator:=Qs,isCoroutine:=Qs}
abbrev bT:mX:=λ_ _ _ _ _ _=>Qn
abbrev E0:XK:=λ_ _ _=>Qn
def OS:KO bT X E0:=λ_ _ _ _ _ _ _ h=>h.elim
structure Fun(K:Fq)(x qual:zZ)(st:Qd)(f:eH)(fd:Qh):Prop where
 ex:∃(oc:iH)(od:Qj eH)(kV doc pm:iH)(an:Qj eH)(cdv ct:iH)(osl:Qo (Qj iH)),
  fd=Sk x qual (qM st) (gZ st) (bX st) .none kV doc pm an cdv ct/\K.lookup f=Qp ⟨oc,od,.func fd,osl⟩/\Uk K cdv qual=Qr
 kp:Sm K (.ref f)=Qr
section
variable{P:Py}{w:Qb}{K:Fq}{mg:zZ->Qj iH}{base:Qa}
def Fun.ok{x a:zZ}{st:Qd}{f:eH}{fd:Qh}{N ps:Z2}{k:Qk}{sp:Sp}(F:Fun K x a st f fd)(S:cC N ps (bX st))
  (d:∀(a1:iH)(A:Qf)(outer:Qi Yg)(s:Pw)(H:Hp)(vs:Qi V)(Q:VK)(E:XK),Room k (A.deeper<|envOfC a (bX st) s⁻¹ f a1)->sp vs H Q E-> ∃t,PSs (gX bT P w K mg base N a (bX st) f a1 A outer s H E).nox (gZ st) t/\t {nx:=λ_ H'=>Q .non H',rt:=Q} (start N vs) H) (len:∀vs H Q E,sp vs H Q E->↑vs=↑ps:=by rintro _ _ _ _ ⟨⟩;subst_vars;rfl):↥ps sp:=by
 obtain⟨i,u,kV,m,n,l,a1,r,j,rfl,lk,b⟩:=F.ex;refine EE lk b S len λA outer s H vs Q E o e=>?_;obtain⟨t,h,q⟩:=d a1 A outer s H vs Q E o e;exact{t,h.nox,q}
def Fun.binds{x a:zZ}{st:Qd}{f:eH}{fd:Qh}{ps:Z2}(F:Fun K x a st f fd)
  (h:∀(kV a1 e:iH)(d:Qj eH)(b ct:iH)(us:Qi iH),↑us=↑ps->D8 (Sk x a (qM st) (gZ st) (bX st) .none kV a1 e d b ct) ⟨us,[]⟩=pure (ps.zip us)):Binds K fd ps []:=by
 obtain⟨j,m,kV,a1,e,d,b,ct,l,rfl,lk,i⟩:=F.ex;exact .all<|h kV a1 e d b ct
def SQ{x a:zZ}{st:Qd}{f:eH}{h:iH}{j d:Qj eH}{i:Qo (Qj iH)}{kV a1 e b ct:iH}(l:K.lookup f=Qp ⟨h,j,.func<|Sk x a (qM st) (gZ st) (bX st) .none kV a1 e d b ct,i⟩)
  (c:Uk K b a=Qr) (k:Sm K (.ref f)=Qr):Fun K x a st f (Sk x a (qM st) (gZ st) (bX st) .none kV a1 e d b ct):=⟨⟨h,j,kV,a1,e,d,b,ct,i,rfl,l,c⟩,k⟩
end
def fL(hr:Room k A):A.units+1<cLine:=Vo (Qk.add_le_add_left (by decide:1<=64) _) hr.units
def bS(h:n<=1000):n<sizeLine:=Vo h ↥?_
def eQ{n:Qk}(h:Qk.ble n 1000=Qr):n<=sizeLine:=cQ<|bS<|Nat.le_of_ble_eq_true h
section
def pv(i:Qk)(d:X9 (X.N[i]?\x) X8)(a:FM X.env.scope x:=by first | exact iO rfl | exact jH (iO rfl) | exact jH (jH rfl))(hd:X9 ((x == ("__debug__":zZ))=false) X7)
  (b:X9 ((x == ("__classdict__":zZ))=false) X7):PE X (.Name x pos) (aG i):=uO d a hd b
def UC:CallR X (.builtin "len") (λxs H Q=>∃a kvs,xs=[R7 a]/\H a\.dK kvs/\Q (.int ↑kvs) H):=by
 intro f s l H xs j Q I r h;obtain⟨a,kvs,rfl,b,q⟩:=h;obtain⟨u,rfl,d⟩:=kH r;cases d;exact GT I (.inl b) λt i e=>{.int ↑kvs,H,e,⟨t,rfl⟩,q}
end
def cT{A B:Prop}(h:B):if Qs=Qr then A else B:=by
 rw[bA eJ];exact h
def fX{A B:Prop}(h:A):if Qr=Qr then A else B:=by
 rw[bG rfl];exact h
def bE{c A B:Prop}[Decidable c](a:c->A)(b:¬c->B):if c then A else B:=by
 by_cases h:c
 .rw[bG h];exact a h
 .rw[bA h];exact b h
section
variable{κ:Type}[DecidableEq κ]
def LQ{kvs:Qi (κ×V)}{k:κ}(h:aO kvs k=Qq):¬k∈kvs.map (·.1):=by
 intro m;obtain⟨p,b,e⟩:=vj2.mp m;have q:(kvs.any λa=>decide<|a.1=k)=true:=ub1.mpr ⟨p,b,cN e⟩;rw[wH,h]at q;exact absurd q ↥_
def IV{kvs:Qi (κ×V)}{k:κ}{v:V}(h:aO kvs k\v):k∈kvs.map (·.1):=by
 have q:(kvs.any λa=>decide<|a.1=k)=true:=by
  rw[wH,h]
  all_goals rfl
 obtain⟨p,b,e⟩:=ub1.mp q;exact vj2.mpr {p,b,dH e}
def DX:∀{l:Qi κ}{k:κ},l.Nodup->¬k∈l->(l++[k]).Nodup:=by
 intro l
 induction l with
 | nil=>intro k _ _;simp
 | cons a r f=>
  intro k h b;obtain⟨d,e⟩:=vn3.mp h;show(a::(r++[k])).Nodup;refine vn3.mpr {λm=>?_,f e λm=>b<|vj0.mpr<|jH m};obtain q|q:=vj7.mp m
  .exact d q
  .exact b<|vj0.mpr<|iO (vj1.mp q).symm
end
def dI(env:Yg):Qi (zZ×Qe)->Qi (zZ×eH)
 | []=>[]
 | (n,k)::r=>dI env r++(if k=.free then [(n,(env.cells.lookup n).getD 0)] else [])
def Pn:∀(l:Qi (zZ×Qe))(a:Qi (zZ×eH)),(∀y∈l,y.2=.free->∃c,env.cells.lookup y.1\c)->
  (forIn l a λ(x:zZ×Qe) (r:Qi (zZ×eH))=>if (x.2 == .free)=Qr then(do let c <-cellOf env x.1;pure (Qv<|(x.1,c)::r):Xg (ForInStep<|List<|zZ×eH)) else pure (Qv r))=pure (dI env l++a):=by
 intro l
 induction l with
 | nil=>intro a _;simp[dI]
 | cons m r j=>
  obtain⟨n,k⟩:=m;intro a h;rw[yH]
  by_cases b:k=.free
  .subst b;obtain⟨c,f⟩:=h (n,.free) ↥_ rfl;have e:cellOf env n=pure c:=by unfold cellOf;rw[f]
   simp only[beq_self_eq_true,if_true,e,pure_bind];rw[j ((n,c)::a) λy d=>h y<|jD _ d];simp[dI,f]
  .have i:(k == Ri)=false:=⇑[b]
   simp only[i,oI,iF,pure_bind];rw[j a λy d=>h y<|jD _ d];simp[dI,b]
def XA(h:∀y∈scope.names,y.2=.free->∃c,env.cells.lookup y.1\c):Yl scope env=pure (dI env scope.names):=by
 have e:=Pn (env:=env) scope.names [] h;rw[eA]at e;unfold Yl;refine Eq.trans ?_<|cP (λz=>z >>= pure) e;rfl
def US:∀{l:Qi (zZ×Qe)},(x,c)∈dI env l->(x,Ri)∈l/\c=(env.cells.lookup x).getD 0:=by
 intro l
 induction l with
 | nil=>intro h;simp[dI]at h
 | cons f r i=>
  obtain⟨n,k⟩:=f;intro h;unfold dI at h;obtain h|h:=vj7.mp h
  .obtain⟨b,d⟩:=i h;exact{jD _ b,d}
  .by_cases a:k=.free
   .rw[bG a]at h;have e:=vj1.mp h;cases e;subst a;exact{by simp,U}
   .rw[bA a]at h;simp at h
def Bv:∀{l:Qi (zZ×Qe)},(x,Ri)∈l->(x,(env.cells.lookup x).getD 0)∈dI env l:=by
 intro l
 induction l with
 | nil=>intro h;simp at h
 | cons a r b=>
  obtain⟨n,k⟩:=a;intro h;unfold dI;obtain h|h:=vj0.mp h
  .cases h;exact jE _ ↥_
  .exact nC _<|b h
def Jc:∀{l:Qi (zZ×eH)},(x,v)∈l->(∀w,(x,w)∈l->w=v)->l.lookup x\v:=by
 intro l
 induction l with
 | nil=>intro h _;simp at h
 | cons i r f=>
  obtain⟨n,w⟩:=i;intro h u;rw[FF]
  by_cases e:x=n
  .subst e;simp[u w<|by simp]
  .have b:(x == n)=false:=⇑[e]
   rw[b];obtain h|h:=vj0.mp h
   .cases h;exact absurd rfl e
   .exact f h λd a=>u d<|jD _ a
def Pu(h:(x,Ri)∈l):(dI env l).lookup x\(env.cells.lookup x).getD 0:=
 Jc (Bv h) λw a=>(US a).2
def eM(X:Cx)(scope:Scope)(N':Z2)(a:Pw)(b:Hp)(C:eH)(fp:Z3):Cx:=
 {X with N:=N',s₀:=a,H₀:=b,env:=compEnvC scope (dI X.env scope.names) C X.env,outer:=X.stack,stack:=X.stack,ex:=fp,fn:=λx=>((dI X.env scope.names).lookup x).isNone,pn:=[],xe:=λ_ _=>Qn}
structure BlkN(X:Cx)(scope:Scope)(N':Z2)(src:Qi (Qj Qk)):Prop where
 kind:scope.kind=.function
 nocell:(scope.names.all λy=>decide<|y.2≠.cell)=Qr
 locs:(scope.names.all λy=>decide<|y.2=.local->scope.names.lookup y.1\.local)=Qr
 frees:(scope.names.all λy=>decide<|y.2=.free->X.env.kindOf y.1\.cell\/X.env.kindOf y.1\.free)=Qr
 slen:↑src=N'.length
 cap:((N'.zip src).all λp=>match p.2 with | some j=>decide (X.N[j]?\p.1) && decide ((p.1,Ri)∈scope.names) | none=>Qr)=Qr
def sub(src:Qi (Qj Qk))(a:St):St:=src.map λo=>o.bind λj=>(a[j]?).join
def XI(h:(J6 scope env).names.lookup x\k):(x,k)∈scope.names\/(k=.cell/\(x,Ri)∈scope.names):=by
 have m:=uK h;obtain⟨⟨n,b⟩,a,e⟩:=vj2.mp m;dsimp only at e
 split at e
 .rename_i hc
  cases e;have:b=.free:=by
   simp only[qT,uk0]at hc;exact hc.1.1
  subst this;exact .inr ⟨rfl,a⟩
 .cases e;exact .inl a
theorem XG{env:Yg}:∀{names:Qi (zZ×Qe)},(x,Ri)∈names->(∀k,(x,k)∈names->k≠.local/\k≠.globalExplicit/\k≠.globalImplicit/\k≠.cell)->
  let q:=(names.map λ(n,k)=>if (k == Ri && env.scope.kind == .function && env.kindOf n == Qp .cell) then(n,Qe.cell) else(n,k)).lookup x
  q=Qp .cell\/q\.free
 | [],h,_=>by simp at h
 | (n,k)::r,h,u=>by
  intro q;show Tc x ((if (k == Ri && env.scope.kind == .function && env.kindOf n == Qp .cell)=Qr then(n,Qe.cell) else(n,k))::_)=_\/Tc x ((if (k == Ri && env.scope.kind == .function && env.kindOf n == Qp .cell)=Qr then(n,Qe.cell) else(n,k))::_)=_
  by_cases e:x=n
  .subst e;obtain⟨m,o,s,l⟩:=u k ↥_;have i:k=.free:=by cases k <;> simp_all
   subst i
   by_cases a:(Ri == Ri && env.scope.kind == .function && env.kindOf x == Qp .cell)=Qr
   .rw[bG a];left;simp[FF]
   .rw[bA a];right;simp[FF]
  .have d:(x == n)=false:=⇑[e]
   have b:=XG (env:=env) (names:=r) (x:=x) ((vj0.mp h).resolve_left λz=>e<|by cases z;rfl) λj f=>u j<|jD _ f
   split
   .simp only[FF,d];exact b
   .simp only[FF,d];exact b
section
variable{scope:Scope}{N':Z2}{src:Qi (Qj Qk)}{pins:Z1}{σ:St}{H3:Hp}{s3 s4:Pw}{C:eH}{fp:Z3}
theorem BlkN.cells(B:BlkN X scope N' src)(ok:X.Ok)(h:(x,Ri)∈scope.names):∃c,X.env.cells.lookup x\c/\(dI X.env scope.names).lookup x\c:=by
 have q:=dH<|vr8.mp B.frees (x,.free) h;obtain⟨c,a⟩:=ok.has x<|q rfl;exact{c,a,by rw[Pu h,a];rfl}
def BlkN.back(B:BlkN X scope N' src)(ok:X.Ok)(h:(dI X.env scope.names).lookup x\c):X.env.cells.lookup x\c/\(x,Ri)∈scope.names:=by
 obtain⟨a,e⟩:=US<|uK h;obtain⟨f,d,b⟩:=B.cells ok a;rw[h]at b;cases b;exact⟨d,a⟩
def BlkN.captured(B:BlkN X scope N' src){i j:Qk}{x:zZ}(b:N'[i]?\x)(d:src[i]?\Qp j):X.N[j]?\x/\(x,Ri)∈scope.names:=by
 have e:(N'.zip src)[i]?\(x,Qp j):=by
  rw[JF];exact⟨b,d⟩
 have q:=vr8.mp B.cap (x,Qp j)<|dM e;have a:(decide (X.N[j]?\x) && decide ((x,Ri)∈scope.names))=true:=q;rw[qT]at a;exact{dH a.1,dH a.2}
def Kj(B:BlkN X scope N' src)(I:Inv X pins σ H3 s3)(r:∀b∈fp,fK X pins H3 b)(E:∀b∈fp,b<s3⁻¹)(L:∀x k,(x,k)∈scope.names->k=.free->∀k',(x,k')∈scope.names->k'=.free)
  (M:C=s3⁻¹) (O:s4.heap.Ns C (λ_=>Qq)) (s:∀b o,s3.heap.get? b\o->s4.heap.get? b\o) (J:s4.os=s3.os) (H:s4.gens=s3.gens):
  Inv (eM X scope N' s3 H3 C fp) [] (sub src σ) H3 s4:=by
 subst M;have ok:=I.ok;exists {ok.mod,B.kind,ok.glob,ok.blt,aV _,λx y c f a=>?_,λx h=>?_,λx c f a=>?_,ok.hd,ok.frames,.inl U,λb l=>{dB<|E b l,λx c h=>?_},I.bs,fM ok.bsz I.sz,λb o e l=>?_,λb l hs=>?_,I.stack,I.stkFree},
  J,?_,Un.kept s,⟨_,O,λi x v f a h3=>?_⟩,λx c h=>?_,I.hok.fresh<|aV _,λx c h=>I.freeC x c (B.back ok h).1,λp hp=>absurd (show p∈([]:Z1) from hp) ↥_,I.hok.kept s
 .exact ok.inj x y c (B.back ok f).1 (B.back ok a).1
 .have h:(J6 scope X.env).names.lookup x\.cell\/(J6 scope X.env).names.lookup x\.free:=h;have n:(x,Ri)∈scope.names:=by
   obtain h|h:=h
   .obtain q|⟨_,q⟩:=XI h
    .exact absurd rfl<|dH<|vr8.mp B.nocell _ q
    .exact q
   .obtain q|⟨z,_⟩:=XI h
    .exact q
    .cases z
  obtain⟨c,_,e⟩:=B.cells ok n;exact⟨c,e⟩
 .have f:((dI X.env scope.names).lookup x).isNone=true:=f;have a:(dI X.env scope.names).lookup x\c:=a;rw[a]at f;simp at f
 .exact(r b l).2.2.2.2.1 x c (B.back ok h).1
 .obtain z|z:=(r b l).2.2.2.1
  .exact ok.noex b o e z
  .exact absurd (jA (cI e)<|fM ok.bsz z)<|nU _
 .obtain z|z:=vj0.mp (I.stkSub b hs)
  .exact(r b l).2.1 z
  .exact(r b l).2.2.1 z
 .rw[H];exact I.bare
 .have a2:∃j,src[i]?\Qp j/\σ[j]?\Qp v:=by
   have a:(src.map λo=>o.bind λj=>(σ[j]?).join)[i]?\Qp v:=a;rw[bP]at a;cases e:src[i]? with
   | none=>rw[e]at a;cases a
   | some o=>
    rw[e]at a;cases o with
    | none=>cases a
    | some j=>
     exists j,U;have a:Qp ((σ[j]?).join)\Qp v:=a;cases e2:σ[j]? with
     | none=>rw[e2]at a;cases a
     | some z=>rw[e2]at a;cases z with
      | none=>cases a
      | some z=>cases a;rfl
  obtain⟨j,W,Z⟩:=a2;obtain⟨T,n⟩:=B.captured f W;obtain⟨c,N,a5⟩:=B.cells ok n;have A:=dH (vr8.mp B.frees _ n) rfl;obtain⟨m,_,hl⟩:=I.loc;have a0:FM X.env.scope x:=by
   obtain z|z:=A
   .exact .inr<|.inl z
   .exact .inr<|.inr z
  obtain⟨u,G,lk⟩:=hl j x v T Z a0;refine{u,G,.inr {?_,c,a5,?_}}
  .exact XG n λk a1=>by
    have:=L x .free n rfl k a1;subst this;exact{by decide,by decide,by decide,by decide}
  .obtain⟨z,_⟩|⟨_,c',e',⟨o,eo,ed⟩⟩:=lk
   .obtain y|y:=A <;> (rw[z]at y;cases y)
   .rw[N]at e';cases e';exact{o,s _ _ eo,ed}
 .obtain⟨v,o,e,d⟩:=I.cell x c (B.back ok h).1;exact{v,o,s _ _ e,d}
 .show(sub src σ).length=N'.length;unfold sub;rw[aF];exact B.slen
end
structure mY(X:Cx)(scope:Scope)(e target iter:Qc)(ifs:Qi Qc) where
 ob:Qg
 o0:eH->HO
 mkd:Xg iH
 bd:eH->Yg->Xg Unit
 pos:Ud
 cl:clausesOf e=[⟨target,iter,ifs,0⟩]
 ev:eval e X.env=comprehension e scope X.env pos mkd Qs (eval iter X.env) Qq
 eu:∀use,evalThenUse e X.env use=(do let _ <-comprehension e scope X.env pos mkd Qs (eval iter X.env) (Qp use))
 tu:∀it D env,D6 e 0 it (.ref D) env=(do
   Ww iter.pos
   match <-Rq it with
   | none=>pure<|.done .next
   | some v=>
    Tj target it v
    assign target env v
    let mut ok:=Qr
    for c in ifs do
     if ok then ok <-isTrue c env (eval c env)
    if ok then bd D env
    again (.compLoop e 0 it (.ref D) env))
 st:∀{it acc env R s},Tk ⇑{X} X.A (.compLoop e 0 it acc env) R s->Qw ⇑{X} X.A (Xk it) (λit' s'=>Tk ⇑{X} X.A (.compLoop e 0 it' acc env) R s') (notedBy ⇑{X} X.A env λx s'=>R (.error x) s') s->Tk ⇑{X} X.A (.compStart e 0 it acc env) R s
 un:∀it D env (A:Qf),A.under (.compLoop e 0 it (.ref D) env)=A
 dn:∀it D env,(⇑{X}).den (.compLoop e 0 it (.ref D) env)=(D6 e 0 it (.ref D) env).onRaise (λx=>do noteFrame x env;M9 x)
 al:∀{Q:Vp}{E s},Q (.ref s⁻¹) {s with heap:=s.heap.push ob}->Qw ⇑{X} X.A mkd Q E s
 nw:∀(h:Qa)(H:Hp),Rh<h.objs.size->ObjOk X.prog X.w H (h.push ob) h.objs.size (o0 h.objs.size)
def Jl{e b z:Qc}{i:Qi Qc}{D:eH}{bd:Xg Unit}(un:A.under (.compLoop e 0 it (.ref D) env)=A)(G:(⇑[]).den (.compLoop e 0 it (.ref D) env)=(D6 e 0 it (.ref D) env).onRaise (λx=>do noteFrame x env;M9 x)) (B:D6 e 0 it (.ref D) env=(do
   Ww z.pos
   match <-Rq it with
   | none=>pure<|.done .next
   | some v=>
    Tj b it v
    assign b env v
    let mut ok:=Qr
    for c in i do
     if ok then ok <-isTrue c env (eval c env)
    if ok then bd
    again (.compLoop e 0 it (.ref D) env))) (I:Qk->Pw->Prop) (a1:∀n s,I n s->Qw ⇑[] A (Rq it) (λr a=>match r with
   | none=>R (.ok .next) a
   | some v=>Qw ⇑[] A (Tj b it v) (λ_ a=>Qw ⇑[] A (assign b env v) (λ_ j=>
     Qw ⇑[] A (forIn i Qr λc r=>if r=Qr then do let ok <-isTrue c env (eval c env);pure (Qv ok) else pure (Qv r)) (λok f=>
      if ok=Qr then Qw ⇑[] A bd (λ_ l=>∃m,m<n/\I m l) (λ_ _=>Qn) f
      else ∃m,m<n/\I m f) (λ_ _=>Qn) j) (λ_ _=>Qn) a) (λ_ _=>Qn) a) (λ_ _=>Qn) s) (n:Qk) (h:I n s):
  Tk ⇑[] A (.compLoop e 0 it (.ref D) env) R s:=by
 refine codeAny_loop rfl I (λn s u=>?_) n h;rw[un,G];refine wpAny_noted ?_;rw[B];refine aC<|AC<|aC<|jG (a1 n s u) (λr a d=>?_) λ_ _ E=>E.elim;cases r with
 | none=>exact aZ d
 | some v=>
  refine aC<|jG d (λ_ a d=>?_) λ_ _ E=>E.elim;refine aC<|jG d (λ_ j C=>aC<|jG C (λok f o=>?_) λ_ _ E=>E.elim) λ_ _ E=>E.elim;cases ok with
  | false=>exact aZ ⟨rfl,o⟩
  | true=>exact aC<|jG o (λ_ l q=>aZ ⟨rfl,q⟩) λ_ _ E=>E.elim
def pE(X:Cx)(d:Qi Qc)(t:TT):Prop:=
 ∀(a:Z1)(s:Pw)(b:St)(H:Hp)(Q:Qm->Hp->Prop),Inv X a b H s->t b H Q->
  Qw ⇑{X} X.A (forIn d Qr λc r=>if r=Qr then do let ok <-isTrue c X.env (eval c X.env);pure (Qv ok) else pure (Qv r)) (TP X a b Q) X.xe s
def nE:TT:=λ_ H Q=>Q Qr H
def gP:pE X [] nE:=λ_ _ _ H _ I h=>wpAny_tests_nil ⟨H,I,h⟩
def mV(h:PT X c t):pE X [c] t:=λa s b H Q I q=>wpAny_tests_one<|h a s b H Q I q
def IW(o:eH->St->Hp->(Hp->Prop)->Prop)(J:It)(g:TG)(tt:TT)(D:eH)(f:St)(H0:Hp)(Q:Hp->Prop):Prop:=
 ∃W:Qk->Qk->St->Hp->Prop,(∃m,W 0 m f H0)/\∀i m h H,W i m h H->
 (J.stop i H/\Q H)\/(J.go i H/\∃N:St->Hp->Prop,(∀e d,N e d->∃m',m'<m/\W (i+1) m' e d)/\∀x d,J.yld i H x d->g x h d λa l=>tt a l λb j=>
  if b=Qr then o D a j λn=>N a n else N a j)
abbrev QO(te:TE):eH->St->Hp->(Hp->Prop)->Prop:=λD σ H K=>te σ H λv H4=>∃xs,H4 D\.lst xs/\↑xs<sizeLine/\K (upd H4 D<|.lst<|xs++[v])
abbrev sO(J:It)(g:TG)(tt:TT)(te:TE):=IW (QO te) J g tt
section
variable{scope:Scope}{N':Z2}{src:Qi (Qj Qk)}{pins:Z1}{σ:St}{H2:Hp}{s2:Pw}
def Aq{e tg ae:Qc}{aj:Qi Qc}{it:eH}{fp:Z3}{tn:Qk->Qa->Prop}{J:It}{g:TG}{tt:TT}{ac:eH->St->Hp->(Hp->Prop)->Prop}{Q:eH->Hp->Prop}
  {RR:iH->eH->O7->Pw->Prop} {E:Vp} (G:mY X scope e tg ae aj) (hc:X.calm=Qr)
  (B:BlkN X scope N' src) (av:∀x k,(x,k)∈scope.names->k=.free->∀k',(x,k')∈scope.names->k'=.free) (T:gM X.prog X.w X.K tg J fp it tn) (I:Inv X pins σ H2 s2) (h0:tn 0 s2.heap) (M:∀b∈fp,fK X pins H2 b)
  (hg:∀s3 H3 C,PG (eM X scope N' s3 H3 C fp) tg g) (ht:∀s3 H3 C,pE (eM X scope N' s3 H3 C fp) aj tt) (he:∀s3 H3 C D pins s σ H K,Inv (eM X scope N' s3 H3 C fp) pins σ H s->ac D σ H K->Qw ⇑{X} X.A (G.bd D (eM X scope N' s3 H3 C fp).env) (λ_ l=>∃H',Inv (eM X scope N' s3 H3 C fp) pins σ H' l/\K H') (λ_ _=>Qn) s)
  (hw:∀D,H2 D=Qq->IW ac J g tt D (sub src σ) (upd H2 D<|G.o0 D) (Q D))
  (hQ:∀D C H' l,C≠D->(∃m,l.heap.Ns C m)->(∀ad ,Rf C l.heap ad->Inv X pins σ H' {l with heap:=ad})->Inv X pins σ H' l->H' C=Qq->C≠X.env.locals->(∀x c,X.env.cells.lookup x\c->c≠C)->X.s₀⁻¹<=C->(∀p∈X.pn++pins,p.1≠C)->Q D H'->RR (.ref D) C (.ok .next) l):
  Qw ⇑{X} X.A G.mkd (λap s₃=>Qw ⇑{X} X.A (newFunctionEnv scope X.env.globals (dI X.env scope.names) [] X.env.qual Qq .none<|some X.env) (λa7 s₄=>
   Tk ⇑{X} X.A (.compStart e 0 (.ref it) ap {a7 with scope:=J6 scope X.env}) (RR ap a7.locals) s₄) E s₃) E s2:=by
 have a6:∀y∈scope.names,y.2≠.cell:=λy hy=>dH<|vr8.mp B.nocell y hy;refine G.al<|wpAny_newFunctionEnv a6 (by intro y hy;simp at hy) (λh₁ a4 a3=>?_) B.kind;dsimp only at a4 a3 ⊢;have az:H2 s2⁻¹=none:=I.hok.fresh<|aV _;have L:Inv X pins σ (upd H2 s2⁻¹<|G.o0 s2⁻¹) {s2 with heap:=s2.heap.push G.ob}:=
  I.laid (t':=s2.toks) (λb o e=>cB _ e) (aV _) (G.nw s2.heap _ I.big)
 generalize hH3:(s2.heap.push G.ob)=f at a4 a3 L ⊢;have a9:f.objs.size=s2⁻¹+1:=by rw[<-hH3,pS]
 have a5:∀b o,s2.heap.get? b\o->f.get? b\o:=λb o e=>by rw[<-hH3];exact cB _ e
 have a1:∀b o,f.get? b\o->h₁.get? b\o:=λb o e=>a3.extBut b o (dB<|cI e)<|cB _ e;have a2:s2⁻¹<f.objs.size:=by rw[a9];exact wN _
 have aq:∀b∈fp,fK X pins (upd H2 s2⁻¹<|G.o0 s2⁻¹) b:=λb j=>by
  obtain⟨o,e,_⟩:=T.obj _ _ h0 b j;refine{?_,(M b j).2};rw[aE<|dB<|cI e];exact(M b j).1
 have a8:∀b∈fp,b<f.objs.size:=λb j=>by
  obtain⟨o,e,_⟩:=T.obj _ _ h0 b j;exact Um (cI e) a2
 have b0:=Kj (fp:=fp) (C:=f.objs.size) (s4:={s2 with heap:=h₁,toks:=s2.toks+↑([]:Qi (zZ×iH))}) B L aq a8 av rfl a4 a1 rfl rfl;have ai:tn 0 h₁:=T.keep _ _ _ h0 λb j o e=>a1 b o<|a5 b o e;obtain⟨W,⟨m0,w0⟩,aa⟩:=hw s2⁻¹ az;have af:∀{H':Hp},(∀b∈fp,H' b=Qq)->∀b∈fp,fK (eM X scope N' {s2 with heap:=f} (upd H2 s2⁻¹<|G.o0 s2⁻¹) f.objs.size fp) [] H' b:=λhn b j=>by
  refine{hn b j,dB<|a8 b j,?_,.inl j,λx c h=>(M b j).2.2.2.2.1 x c (B.back I.ok h).1,λp hp=>absurd (show p∈([]:Z1) from hp)<|by simp};intro z;obtain y|y:=vj0.mp (L.stkSub b z)
  .exact(M b j).2.1 y
  .exact(M b j).2.2.1 y
 have b2:∀(l:Pw)(a:St)(H':Hp),Inv (eM X scope N' {s2 with heap:=f} (upd H2 s2⁻¹<|G.o0 s2⁻¹) f.objs.size fp) [] a H' l->Q s2⁻¹ H'->RR (.ref s2⁻¹) f.objs.size (.ok .next) l:=λl a H' O q=>by
  obtain⟨hh,gg,dd,ab,as⟩:=l;have ay:as=s2.os:=O.os;subst ay;have IX:Inv X pins σ H' {({s2 with heap:=f}:Pw)with heap:=hh,gens:=gg,drawn:=dd,toks:=ab}:=Inv.call (s:={s2 with heap:=f}) L (h':=hh) (g':=gg) (d':=dd) (t':=ab) (ch:=fp) O.base O.hok O.bare λb j=>⟨(M b j).2.2.2.1,(M b j).2.1,(M b j).2.2.2.2.1,(M b j).2.2.2.2.2⟩;have b3:s2⁻¹<=f.objs.size:=cQ a2;have ah:f.objs.size≠X.env.locals:=kC L.lt;have am:∀x c,X.env.cells.lookup x\c->c≠f.objs.size:=λx c e z=>by
   obtain⟨v,q⟩:=L.cell x c e;exact absurd (show c<f.objs.size from q.lt) (by rw[z];exact nU _)
  have an:∀p∈X.pn++pins,p.1≠f.objs.size:=λp hp z=>by
   have:=cI (L.pin p hp).1;exact absurd (show p.1<f.objs.size from this) (by rw[z];exact nU _)
  have ak:H' f.objs.size=none:=O.free;obtain⟨m,hm,_⟩:=O.loc;refine hQ _ _ H' _ (kC a2) ⟨m,hm⟩ (λad sb=>?_) IX ak ah am (fM L.sz<|aV _) an q;exact IX.turned (t':=ab) (λb o j e=>(sb.2 b j).trans e) ak ah (.inr<|fM L.sz<|aV _) am an
 have N:∀s₃:Pw,s₃={s2 with heap:=h₁,toks:=s2.toks+↑([]:Qi (zZ×iH))}->
   Tk ⇑{X} X.A (.compLoop e 0 (.ref it) (.ref s2⁻¹)<|compEnvC scope (dI X.env scope.names) f.objs.size X.env)
    (RR (.ref s2⁻¹) f.objs.size) s₃:=by
  rintro s₃ rfl;refine Jl (G.un _ _ _ _) (G.dn _ _ _) (G.tu _ _ _) (λn l=>∃i a H',Inv (eM X scope N' {s2 with heap:=f} (upd H2 s2⁻¹<|G.o0 s2⁻¹) f.objs.size fp) [] a H' l/\tn i l.heap/\(∀b∈fp,H' b=Qq)/\W i n a H') ?_ m0 {0,_,_,b0,ai,λb j=>(aq b j).1,w0};rintro n s5 ⟨i,σ5,H5,I5,ar,ao,w5⟩;obtain⟨stop,qn⟩|⟨go,Nx,hN,step⟩:=aa i n σ5 H5 w5
  .refine bD (T.done (eM X scope N' {s2 with heap:=f} (upd H2 s2⁻¹<|G.o0 s2⁻¹) f.objs.size fp) rfl rfl rfl hc i [] s5 σ5 H5 _ I5 (af ao) ar stop) ?_;rintro r s6 ⟨hr,I6⟩;subst hr;exact b2 s6 σ5 H5 I6 qn
  .refine bD (T.item (eM X scope N' {s2 with heap:=f} (upd H2 s2⁻¹<|G.o0 s2⁻¹) f.objs.size fp) rfl rfl rfl hc i [] s5 σ5 H5 _ I5 (af ao) ar go) ?_;rintro r s6 ⟨u,hr,h6⟩;subst hr;refine bD h6 ?_;rintro _ s7 ⟨x,H7,I7,r7,y7,ag,aw⟩;have au:=I7.pinned (af aw)<|T.obj _ _ ag;refine bD (hg _ _ _ _ s7 σ5 H7 x u _ au r7<|step x H7 y7) ?_;rintro _ s8 ⟨σ8,H8,I8,q8⟩;refine bD (ht _ _ _ _ s8 σ8 H8 _ I8 q8) ?_;rintro ok s9 ⟨H9,I9,q9⟩;have again:∀{σa:St}{Z:Hp}{sa:Pw},Inv (eM X scope N' {s2 with heap:=f} (upd H2 s2⁻¹<|G.o0 s2⁻¹) f.objs.size fp) ([]++CO fp s7.heap) σa Z sa->Nx σa Z->
     ∃m,m<n/\∃i a H',Inv (eM X scope N' {s2 with heap:=f} (upd H2 s2⁻¹<|G.o0 s2⁻¹) f.objs.size fp) [] a H' sa/\tn i sa.heap/\(∀b∈fp,H' b=Qq)/\W i m a H':=λ{σa Z sa} Ia na=>by
    obtain⟨m',hm,wa⟩:=hN σa Z na;refine{m',hm,i+1,σa,Z,Ia.unpinned,T.keep _ _ _ ag λb j o e=>(Ia.pin (b,o)<|jE _<|jE _<|IL j e).1,λb j=>?_,wa};obtain⟨o,e,d⟩:=T.obj _ _ ag b j;exact(Ia.pin (b,o)<|jE _<|jE _<|IL j e).2.1
   cases ok with
   | false=>exact again I9 q9
   | true=>
    refine bD (he _ _ _ _ _ s9 σ8 H9 _ I9 q9) ?_;rintro _ b5 ⟨b4,ax,b1⟩;exact again ax b1
 exact G.st (N _ rfl)<|T.self _ 0 _ _ _ ai<|N _ rfl
def KY(o0:eH->HO)(d:TI)(src:Qi (Qj Qk))(g:TG)(tt:TT)(b:eH->St->Hp->(Hp->Prop)->Prop):TE:=λσ H Q=>d σ H λJ H2=>∀D,H2 D=Qq->IW b J g tt D (sub src σ) (upd H2 D<|o0 D) λa=>Q (.ref D) a
def XF(G:mY X scope e tg iter ifs){n:eH->St->Hp->(Hp->Prop)->Prop}(N:X.calm=Qr)(B:BlkN X scope N' src)(hi:PI X tg iter wi)(E:∀s3 H3 C fp,PG (eM X scope N' s3 H3 C fp) tg g)(ht:∀s3 H3 C fp,pE (eM X scope N' s3 H3 C fp) ifs tt)(he:∀s3 H3 C fp D d s σ H K,Inv (eM X scope N' s3 H3 C fp) d σ H s->n D σ H K->Qw ⇑{X} X.A (G.bd D (eM X scope N' s3 H3 C fp).env) (λ_ o=>∃H',Inv (eM X scope N' s3 H3 C fp) d σ H' o/\K H') (λ_ _=>Qn) s)(a7:(scope.names.all λy=>decide (y.2=.free->∀z∈scope.names,z.1=y.1->z.2=.free))=Qr)(hs:∀x,Sq iter X.env x=pure x):
  PE X e (KY G.o0 wi src g tt n):=by
 intro d s σ H Q I h;have r:∀x k,(x,k)∈scope.names->k=.free->∀i,(x,i)∈scope.names->i=.free:=λx k f hk i L=>dH (vr8.mp a7 (x,k) f) hk (x,i) L rfl;have a2:Yl scope X.env=pure (dI X.env scope.names):=XA λy j l=>I.ok.has y.1<|dH (vr8.mp B.frees y j) l;have a1:∀y∈scope.names,y.2=.local->scope.names.lookup y.1\.local:=λy j=>dH<|vr8.mp B.locs y j;rw[G.ev];refine Za (use:=Qq) G.cl hs a2 B.kind a1<|bD (hi d s σ H _ I h) λxv s₁ O=>bD O λa9 s2 M=>?_;obtain⟨it,fp,tn,J,H2,rfl,W,T,h0,l,hw⟩:=M;refine Aq (G:=G) (RR:=λa8 C=>compPost ⇑{X} X.A X.xe Qq (EP X d σ Q) a8 C) (Q:=λD H'=>Q (.ref D) H') N B r T W h0 l (λa b c=>E a b c fp) (λa b c=>ht a b c fp) (λa b c=>he a b c fp) hw ?_;intro D C H' o ag f u IX ad ab ae aa af q;obtain⟨m,f⟩:=f;exact{m,f,λZ sb=>{.ref D,H',u Z sb,U,q}}
def TC(G:mY X scope e tg iter ifs){u:eH->St->Hp->(Hp->Prop)->Prop}(hc:X.calm=Qr)(hN:X.N.Nodup)(a9:X.N[i]?\y)(j:X.env.scope.names.lookup y\.local)(B:BlkN X scope N' src)(hi:PI X tg iter wi)(hg:∀s3 H3 C fp,PG (eM X scope N' s3 H3 C fp) tg g)(ht:∀s3 H3 C fp,pE (eM X scope N' s3 H3 C fp) ifs tt)(he:∀s3 H3 C fp D l s σ H K,Inv (eM X scope N' s3 H3 C fp) l σ H s->u D σ H K->Qw ⇑{X} X.A (G.bd D (eM X scope N' s3 H3 C fp).env) (λ_ f=>∃H',Inv (eM X scope N' s3 H3 C fp) l σ H' f/\K H') (λ_ _=>Qn) s)(ad:Tt e (Qp<|.Name y py) spos.line X.env=pure Qr)(ae:(scope.names.all λy=>decide (y.2=.free->∀z∈scope.names,z.1=y.1->z.2=.free))=Qr)(hs:∀x,Sq iter X.env x=pure x):
  PS X (.Assign [.Name y py] e spos) (gH (KY G.o0 wi src g tt u)<|cA i):=by
 intro l s σ H D I h;have a4:∀x k,(x,k)∈scope.names->k=.free->∀r,(x,r)∈scope.names->r=.free:=λx k n hk r a7=>dH (vr8.mp ae (x,k) n) hk (x,r) a7 rfl;have O:Yl scope X.env=pure (dI X.env scope.names):=XA λy j E=>I.ok.has y.1<|dH (vr8.mp B.frees y j) E;have a1:∀y∈scope.names,y.2=.local->scope.names.lookup y.1\.local:=λy j=>dH<|vr8.mp B.locs y j;rw[exec_Assign_Name_used _ _ _ _ ad];refine aC<|AC<|aC ?_;rw[G.eu];have h':wi σ H λJ H2=>∀d,H2 d=Qq->IW u J g tt d (sub src σ) (upd H2 d<|G.o0 d) λH'=>D.nx (σ.set i<|some<|.ref d) H':=h;refine aC<|jG (Za (use:=Qp<|assign (.Name y py) X.env) (Q:=λ_ f=>SP X l D .next f) G.cl hs O B.kind a1<|bD (hi l s σ H _ I h') λxv s₁ h₁=>bD h₁ λak s2 h2=>?_) (λ_ f hq=>aZ<|aZ hq) λ_ _ e=>e
 obtain⟨it,fp,tn,J,H2,rfl,I2,T,h0,E,hw⟩:=h2;refine Aq (G:=G) (RR:=λaf C=>compPost ⇑{X} X.A X.xe (Qp<|assign (.Name y py) X.env) (λ_ f=>SP X l D .next f) af C) (Q:=λd H'=>D.nx (σ.set i<|some<|.ref d) H') hc B a4 T I2 h0 E (λa b c=>hg a b c fp) (λa b c=>ht a b c fp) (λa b c=>he a b c fp) hw ?_;intro d C H' f an n am IX aa M L a8 ab q;obtain⟨m,n⟩:=n;show Qw _ X.A (assign (.Name y py) X.env<|.ref d) _ _ _;refine J4 ?_;refine WQ (v:=.ref d) IX hN a9 (.inl j) rfl (λag ai a2=>?_)<|.inr j;obtain⟨a,aj,W⟩:=a2;have ah:C≠a:=by
  rintro rfl;obtain z|z:=W
  .exact M z
  .exact L _ _ z rfl
 refine{m,n.sameBut aj ah,λal sb=>{_,H',?_,q}};exact ai.turned (t':=ag.toks) (λb o Z e=>(sb.2 b Z).trans e) aa M (.inr a8) L ab
def rE{b d iter:Qc}{a:Qi Qc}{scope:Scope}{pos:Ud}:mY X scope (.ListComp b [⟨d,iter,a,0⟩] scope pos) d iter a where
 ob:={cls:=.type "list",dict:=Qq,data:=.seq ([]:Qi iH).toArray}
 o0 _:=.lst []
 mkd:=newList []
 bd D env:=do let _ <-call (.builtin "list.append") [.ref D,<-eval b env]
 pos:=_
 cl:=rfl
 ev:=rfl
 eu _:=rfl
 tu _ _ _:=compTurn_list ..
 st:=codeAny_compStart_list
 un _ _ _ _:=rfl
 dn _ _ _:=rfl
 al h:=jP h
 nw h H _:=⟨cE _,[],_,.nil,dQ _ rfl⟩
def VH{Y:Cx}{a1:Qc}{te:TE}(hx:Y.xe=λ_ _=>Qn)(he:PE Y a1 te):∀D a s σ H K,Inv Y a σ H s->QO te D σ H K->Qw ⇑{Y} Y.A (do let _ <-call (.builtin "list.append") [.ref D,<-eval a1 Y.env]) (λ_ n=>∃H',Inv Y a σ H' n/\K H') (λ_ _=>Qn) s:=by
 intro D a s σ H K I q;rw[<-hx];refine aC<|bD (he _ s σ H _ I q) ?_;rintro y d ⟨v,f,i,j,r,l,hl,e⟩;refine aC<|bD (gS _ d σ f (.ref D) [v] (.ref D) [y] (λ_ H'=>K H') i rfl (.cons j .nil) {_,r,v,U,U,l,hl,e}) ?_;rintro _ o ⟨_,b,h,_,m⟩;exact aZ ⟨b,h,m⟩
abbrev BA(wi:TI)(src:Qi (Qj Qk))(g:TG)(tt:TT)(te:TE):TE:=KY (λ_=>.lst []) wi src g tt<|QO te
def jB(a:X.calm=Qr)(B:BlkN X scope N' src)(hi:PI X tg iter wi)(d:∀f h C fp,PG (eM X scope N' f h C fp) tg g)(e:∀f h C fp,pE (eM X scope N' f h C fp) ifs tt)(he:∀f h C fp,PE (eM X scope N' f h C fp) elt te)(b:X9 ((scope.names.all λy=>decide (y.2=.free->∀z∈scope.names,z.1=y.1->z.2=.free))=true) X6)(hs:X9 (∀x,Sq iter X.env x=pure x) X5):
  PE X (.ListComp elt [⟨tg,iter,ifs,0⟩] scope pos) (BA wi src g tt te):=
 XF rE a B hi d e (λf h C fp=>VH rfl<|he f h C fp) b hs
def nB(a:X.calm=Qr)(f:X.N.Nodup)(b:X.N[i]?\y)(h:X.env.scope.names.lookup y\.local)(B:BlkN X scope N' src)(hi:PI X tg iter wi)(e:∀l m C fp,PG (eM X scope N' l m C fp) tg g)(j:∀l m C fp,pE (eM X scope N' l m C fp) ifs tt)(he:∀l m C fp,PE (eM X scope N' l m C fp) elt te)(a1:X9 (Tt (.ListComp elt [⟨tg,iter,ifs,0⟩] scope pos) (Qp<|.Name y py) spos.line X.env=pure true) X8)(d:X9 ((scope.names.all λy=>decide (y.2=.free->∀z∈scope.names,z.1=y.1->z.2=.free))=true) X6)(hs:X9 (∀x,Sq iter X.env x=pure x) X5):
  PS X (.Assign [.Name y py] (.ListComp elt [⟨tg,iter,ifs,0⟩] scope pos) spos) (gH (BA wi src g tt te)<|cA i):=
 TC rE a f b h B hi e j (λl m C fp=>VH rfl<|he l m C fp) a1 d hs
end
section
variable{pins:Z1}{σ:St}{H:Hp}{s:Pw}{a:eH}{o:Qg}{u:HO}
def Nd(ok:HOk P w H h)(e:H a\u)(i:∀xs,u≠.tup xs)(f:∀y,u≠.own y)(new:ObjOk P w (upd H a v) h a v):HOk P w (upd H a v) h:=λb z q=>by
 by_cases d:b=a
 .subst d;rw[zb0]at q;cases q;exact new
 .rw[aE d]at q;refine(ok b z q).stay (λc j _ r=>r) (λc r=>?_) λc xs r=>?_
  .rw[aE];exact r;rintro rfl;rw[e]at r;cases r;exact f _ rfl
  .rw[aE];exact r;rintro rfl;rw[e]at r;cases r;exact i _ rfl
def Inv.swap(I:Inv X pins σ H s)(e:H a\u)(d:∀xs,u≠.tup xs)(i:∀y,u≠.own y)(j:∀ps,u≠.tbl ps)(hz:∀ob y,X.H₀ a≠Qp (.frz ob y))(new:ObjOk X.prog X.w (upd H a v) s.heap a v):Inv X pins σ (upd H a v) s:=by
 have ne:∀b,H b=Qq->b≠a:=λb n z=>by subst z;rw[e]at n;cases n
 refine{I.ok,I.os,I.bare,{I.base.keep,I.base.slot,λb ob q n r=>?_,I.base.there,λb xs q=>?_,λb ob y q=>?_,λb ps q=>?_},I.loc,I.cell,?_,λx c h=>?_,λp A=>?_,Nd I.hok e d i new,I.len}
 .have:=I.base.free b ob q n r;rw[aE<|ne b this];exact this
 .have:=I.base.tups b xs q;rw[aE];exact this;rintro rfl;rw[e]at this;cases this;exact d _ rfl
 .have:=I.base.frzs b ob y q;rw[aE];exact this;rintro rfl;exact hz _ _ q
 .obtain⟨m,this⟩:=I.base.tbls b ps q;exists m;rw[aE];exact this;rintro rfl;rw[e]at this;cases this;exact j _ rfl
 .rw[aE<|ne _ I.free];exact I.free
 .rw[aE<|ne _<|I.freeC x c h];exact I.freeC x c h
 .obtain⟨o,f,l⟩:=I.pin p A;exact{o,by rw[aE<|ne _ f];exact f,l}
def Inv.unfrozen(I:Inv X pins σ H s)(e:H a\.dK kvs):∀ob y,X.H₀ a≠Qp (.frz ob y):=λob y q=>by
 have:=I.base.frzs a ob y q;rw[e]at this;cases this
def Inv.freeze(I:Inv X pins σ H s)(e:H a\.dK kvs)(b:s.heap.get? a\o):Inv X pins σ (upd H a<|.frz o<|.dK kvs) s:=
 I.swap e (λ_ h=>nomatch h) (λ_ h=>nomatch h) (λ_ h=>nomatch h) (I.unfrozen e) ⟨b,I.hok a _ e⟩
def Inv.thaw(I:Inv X pins σ H s)(e:H a\(.frz o<|.dK kvs))(hz:∀ob y,X.H₀ a≠Qp (.frz ob y)):Inv X pins σ (upd H a<|.dK kvs) s:=
 I.swap e (λ_ h=>nomatch h) (λ_ h=>nomatch h) (λ_ h=>nomatch h) hz (I.hok a _ e).2
end
def EI(ok:Hp->Prop)(xs:Qi V):It:=⟨λi H=>ok H/\i<↑xs,λi H x a=>a=H/\xs[i]?\x,λi H=>ok H/\↑xs<=i⟩
def JP(a:eH)(o:Qg)(kvs:Qi (aK×V))(H:Hp):Prop:=H a=Qp (.frz o<|.dK kvs)
def KV.get(r:KV kvs vs):∀{i:Qk}{k:aK}{x:iH},vs[i]?\(k,x)->∃v,kvs[i]?\(k,v)/\RelV v x:=by
 unfold KV at r
 induction r with
 | nil=>intro i k x h;simp at h
 | @cons p q l m h t f=>
  intro i k x e;cases i with
  | zero=>
   simp at e;subst e;obtain⟨b,j⟩:=p;obtain⟨a,d⟩:=h;have a:b=k:=a;subst a;exact{j,by simp,d}
  | succ i=>simpa using f ⇑[e]
def IE{P:Py}{w:Qb}{h:Qa}{a:eH}{o:Qg}{kvs:Qi (aK×V)}(f:h.get? a\o)(d:∃vs,KV kvs vs/\h.DictOf (cR P w) a vs):
  ∃vs ep,KV kvs vs/\∀h':Qa,h'.get? a\o->h'.DictAt (cR P w) a vs ep:=by
 obtain⟨vs,r,i,j,ep,e,q⟩:=d;rw[f]at e;cases e;exact{vs,ep,r,λh' b=>⟨o,j,b,q⟩}
def Eg{P:Py}{w:Qb}{K:Fq}{tg:Qc}{o:Qg}{kvs:Qi (aK×V)}{vs:Qi (aK×iH)}{ep:Qk}(a it:eH)(T:a≠it)(r:KV kvs vs)(hd:∀h':Qa,h'.get? a\o->h'.DictAt (cR P w) a vs ep):
  gM P w K tg (EI (JP a o kvs)<|kvs.map λkv=>kV kv.1) [it] it (λi h=>h.IsKeyIter it a i ↑vs ep) where
 mem:=by simp
 obj:=λi h st b f=>by
  have e:b=it:=⇑[f]
  subst e;obtain⟨o,e,c,d⟩:=st;exact{o,e,λv z=>by rw[d]at z;cases z}
 keep:=λi h h' st k=>st.at λo e=>k it ↥_ o e
 item:=by
  intro X L J u q i O s σ H E I j st l;subst L J u;obtain⟨hz,hi⟩:=l;have m:=(I.hok a _ hz).1;obtain⟨B,N,f2,M,C,G⟩:=j it ↥_;have hl:i<↑vs:=by rw[<-↑r];simpa using hi
  have W:=Walks.dictKeys (prog:=X.prog) (w:=X.w) (knd:=cR X.prog X.w) (A:=X.A) (I.ok.hd q) it a T vs ep;refine W.item i s _ _ hl {st,hd _ m} λv h' tk hv a1 kk=>?_;obtain⟨k,x,hx,hk⟩:=hv;have Z:Inv X O σ H {s with heap:=h',toks:=tk}:=I.turned (λb o f e=>kk b o ⇑[f] e) B N M C G;obtain⟨o',e',c',d'⟩:=id a1.1;obtain⟨v',a4,_⟩:=r.get hx;refine{6,xG (s:={s with heap:=h',toks:=tk}) e' c' d' ↥?_ {kV k,H,Z,?_,{U,by rw[bP,a4];rfl},a1.1,λb f=>(j b f).1}};obtain⟨n,t,rfl,rfl⟩|⟨n,t,rfl,rfl⟩:=kK hk
  .exact⟨t,rfl⟩
  .exact⟨t,rfl⟩
 done:=by
  intro X L J u q i O s σ H E I j st l;subst L J u;obtain⟨hz,hi⟩:=l;have m:=(I.hok a _ hz).1;obtain⟨B,N,f2,M,C,G⟩:=j it ↥_;have hl:↑vs<=i:=by rw[<-↑r];simpa using hi
  exact wpAny_pyNext_dict_end (I.ok.hd q) st (hd _ m) ⇑[hl] λh' a2=>{U,I.turned (t':=s.toks) (λb o f e=>a2 b o f e) B N M C G}
 self:=λ_ _ _ _ _ st h=>C8 st h
def Ju{P:Py}{w:Qb}{K:Fq}{tg:Qc}{o:Qg}{kvs:Qi (aK×V)}{vs:Qi (aK×iH)}{ep:Qk}(a it:eH)(N:a≠it)(r:KV kvs vs)(hd:∀h':Qa,h'.get? a\o->h'.DictAt (cR P w) a vs ep):
  gM P w K tg (EI (JP a o kvs)<|kvs.map λkv=>kv.2) [it] it (λi h=>h.IsValIter it a i ↑vs ep) where
 mem:=by simp
 obj:=λi h st b f=>by
  have e:b=it:=⇑[f]
  subst e;obtain⟨o,e,c,d⟩:=st;exact{o,e,λv z=>by rw[d]at z;cases z}
 keep:=λi h h' st k=>st.at λo e=>k it ↥_ o e
 item:=by
  intro X G C q n i M s σ H E I j st l;subst G C q;obtain⟨hz,hi⟩:=l;have m:=(I.hok a _ hz).1;obtain⟨u,L,f2,J,x,B⟩:=j it ↥_;have hl:i<↑vs:=by rw[<-↑r];simpa using hi
  have W:=Walks.dictValues (prog:=X.prog) (w:=X.w) (knd:=cR X.prog X.w) (A:=X.A) (I.ok.hd n) it a N vs ep;refine W.item i s _ _ hl {st,hd _ m} λv h' tk hv a1 kk=>?_;obtain⟨k,hx⟩:=hv;have O:Inv X M σ H {s with heap:=h',toks:=tk}:=I.turned (λb o f e=>kk b o ⇑[f] e) u L J x B;obtain⟨o',Z,c',d'⟩:=id a1.1;obtain⟨v',T,rv⟩:=r.get hx;exact{6,xG (s:={s with heap:=h',toks:=tk}) Z c' d' ↥?_ {v',H,O,rv,{U,by rw[bP,T];rfl},a1.1,λb f=>(j b f).1}}
 done:=by
  intro X G C q n i M s σ H E I j st l;subst G C q;obtain⟨hz,hi⟩:=l;have m:=(I.hok a _ hz).1;obtain⟨u,L,f2,J,x,B⟩:=j it ↥_;have hl:↑vs<=i:=by rw[<-↑r];simpa using hi
  exact wpAny_pyNext_values_end (I.ok.hd n) st (hd _ m) ⇑[hl] λh' a2=>{U,I.turned (t':=s.toks) (λb o f e=>a2 b o f e) u L J x B}
 self:=λ_ _ _ _ _ st h=>wpAny_pyIter_valiter st h
section
variable{tg:Qc}
def EF(te:TE):TI:=λf H R=>te f H λx d=>∃a b,x=.ref a/\d a\.dK b/\∀o,R (EI (JP a o b)<|b.map λe=>kV e.1)<|upd d a<|.frz o<|.dK b
def IR(hl:PE X l te):PI X tg l (EF te):=by
 intro a1 s E H R I h;refine bD (hl a1 s E H _ I h) ?_;rintro v d ⟨x,C,j,A,B⟩;obtain⟨a,G,e,m,q⟩:=B;subst e;cases A;obtain⟨J,u,hd⟩:=pT j.hok m;obtain⟨o,f⟩:∃o,d.heap.get? a\o:=by obtain⟨vs,_,o,_,_,e,_⟩:=hd;exact⟨o,e⟩
 obtain⟨vs,L,r,n⟩:=IE f hd;refine wpAny_pyIter_dict u (n _ f) ?_;have i:=j.freeze m f;refine{d⁻¹,[d⁻¹],_,_,6,i.kept (t':=d.toks) λb o e=>cB _ e,Eg a _ (dB<|cI f) r n,{_,dQ _ rfl,U,U},λb z=>?_,q o};have e:b=d⁻¹:=⇑[z]
 subst e;exact i.fpOk (aV _)<|i.hok.fresh<|aV _
def AF(te:TE):TI:=λf H R=>te f H λx d=>∃a b,x=.ref a/\d a\.dK b/\∀o,R (EI (JP a o b)<|b.map λe=>e.2)<|upd d a<|.frz o<|.dK b
def Kz(hl:PE X l te)(base:X9 (Th l "values" X.env (eval l X.env)=eval l X.env) X8)(few:X9 (((backTo cpos<|starEach [] X.env).all (λx=>!x.1) && (D9 cpos<|keywordEach [] X.env).all (λx=>x.1.isSome) && decide (↑([]:Qi Qc)+↑([]:Qi Ve)+(if ([]:Qi Ve).isEmpty then 0 else 1)<30))=true) X8)(i:X9 ((apos.endLine == cpos.line)=true) X8)(f:X9 (backTo cpos (starEach [] X.env)=[]) X8):PI X tg (.Call (.Attribute l "values" apos) [] [] cpos) (AF te):=by
 intro C s T H R I h;refine rK base few i rQ Xa PySem.F.type_dict_values<|bD (hl C s T H _ I h) ?_;rintro u d ⟨x,L,m,M,a,O,ex,A,q⟩;subst ex;obtain rfl:u=Qy a:=M;obtain⟨B,E,N⟩:=yJ m<|.inl ⟨O,.inl A⟩;exists B,E;rw[f];refine oB rfl<|Yu ?_;obtain⟨W,_,hd⟩:=pT m.hok A;obtain⟨o,n⟩:∃o,d.heap.get? a\o:=by obtain⟨vs,_,o,_,_,e,_⟩:=hd;exact⟨o,e⟩
 obtain⟨vs,Z,r,j⟩:=IE n hd;refine nR Xa B PySem.F.entry_dict_values (PySem.F.args_dict_values_1 _) (meets_dict_values (cR X.prog X.w) a N) {{vs,(j _ n).dictOf},?_};have a1:(d.heap.push {cls:=.type "dict_values",data:=.fields #[.ref a]}).get? a\o:=cB _ n;have J:Inv X C T L {d with heap:=d.heap.push {cls:=.type "dict_values",data:=.fields #[.ref a]}}:=m.kept (t':=d.toks) λb o e=>cB _ e;refine wpAny_pyIter_values (s:={d with heap:=d.heap.push {cls:=.type "dict_values",data:=.fields #[.ref a]}}) {_,dQ _ rfl,U,U} (j _ a1) ?_;have z:=J.freeze A a1;refine{_,[_],_,_,6,z.kept (t':=d.toks) λb o e=>cB _ e,Ju a _ (dB<|cI a1) r j,{_,dQ _ rfl,U,U},λb G=>?_,q o};rw[vj1.mp G];exact z.fpOk (aV _)<|z.hok.fresh<|aV _
def BP(t:TE):TE:=λe H Q=>∃a b,H a\.dK b/\t e H λv d=>∃o,d a\(.frz o<|.dK b)/\Q v (upd d a<|.dK b)
def ZE(h:PE X e t):PE X e (BP t):=by
 intro d s r H Q I ⟨a,A,b,q⟩;have z:=I.unfrozen b;refine bD (h d s r H _ I q) <| by rintro u m ⟨x,n,f,i,o,j,l⟩;exact{x,_,f.thaw j z,i,l}
def EW(D:jC)(a:eH)(kvs:Qi (aK×V)):jC where
 nx:=λb H=>∃o,H a\(.frz o<|.dK kvs)/\D.nx b (upd H a<|.dK kvs)
 rt:=λv H=>∃o,H a\(.frz o<|.dK kvs)/\D.rt v (upd H a<|.dK kvs)
 bk:=λb H=>∃o,H a\(.frz o<|.dK kvs)/\D.bk b (upd H a<|.dK kvs)
 ct:=λb H=>∃o,H a\(.frz o<|.dK kvs)/\D.ct b (upd H a<|.dK kvs)
def GJ(t:TS):TS:=λD d H=>∃a b,H a\.dK b/\t (EW D a b) d H
def Az{st:Qd}{t:TS}(h:PS X st t):PS X st (GJ t):=by
 intro l s A H D I ⟨a,B,j,q⟩;have x:=I.unfrozen j;refine bD (h l s A H _ I q) λf m i=>?_;cases f with
 | next=>obtain⟨n,z,b,o,d,e⟩:=i;exact{n,_,b.thaw d x,e}
 | brk=>obtain⟨n,z,b,o,d,e⟩:=i;exact{n,_,b.thaw d x,e}
 | cont=>obtain⟨n,z,b,o,d,e⟩:=i;exact{n,_,b.thaw d x,e}
 | ret u=>obtain⟨v,n,z,b,r,o,d,e⟩:=i;exact{v,n,_,b.thaw d x,r,e}
end
def Iu(h:Q 0xFCA86420 {s with toks:=s.toks+1}):Qw ⇑[] A (pyHash .none) Q E s:=by
 unfold pyHash pyHashByItsType;have a:[Rm].any iH.onHeap=false:=rfl;refine aC ?_;rw[cRoomFor,bA<|by rw[a];exact eJ];refine aZ ?_;refine aC<|oO (Xu s) vz7.lookup ?_;show Qw _ _ (if (Qp (iH.builtin "NoneType.__hash__") == Qp Rm)=Qr then _ else _) Q E s;rw[bA<|by rw[beq_builtin_none];exact eJ];refine aC<|oO (Xu s) vz7.lookup ?_;show Qw _ _ (callSpecialIfBoundUnlessNone? .none "__hash__" _ >>= _) Q E s;refine aC (wpAny_callSpecialIfBoundUnlessNone?_slot (Xu s) vz7 (iD vz7 (Xu s) PySem.F.entry_NoneType_hash
   (show Qw _ _ (do ret<|<-mkInt 0xFCA86420) _ _ s from wpAny_ret_mkInt ?_) (PySem.F.args_NoneType_hash_1 _)))
 show Qw _ _ (if (decide (-(2:Ql) ^ 63<=0xFCA86420) && decide ((0xFCA86420:Ql)<2 ^ 63))=Qr then _ else _) Q E _;rw[bG<|by decide];exact aZ h
def KH:Qj aK->iH->Qm
 | some k,v=>lK k v
 | none,v=>match v with | .none=>Qr | _=>Qs
def oZ(h:KH Qq v=Qr):v=.none:=by
 cases v <;> first | rfl | (simp[KH]at h)
def PU:lK k .none=false:=by cases k <;> rfl
def HG(w:Qb):Qj aK->Ql
 | some k=>DD w k
 | none=>0xFCA86420
def OC(prog:Py)(w:Qb):E6 prog w (Qj aK) where
 is:=KH
 hash:=HG w
 inj:=λv a b f j=>by
  cases a with
  | none=>
   have e:=oZ f;subst e;cases b with
   | none=>rfl
   | some b=>have j:lK b .none=true:=j;rw[PU]at j;cases j
  | some a=>
   cases b with
   | none=>
    have e:=oZ j;subst e;have f:lK a .none=true:=f;rw[PU]at f;cases f
   | some b=>exact cP Qp<|(cR prog w).inj v a b f j
 byValue:=λk v h=>by
  cases k with
  | none=>rw[oZ h];rfl
  | some k=>exact(cR prog w).byValue k v h
 pyHash:=λ{A E s k v Q} d h=>by
  cases k with
  | none=>rw[oZ d];exact Iu h
  | some k=>exact(cR prog w).pyHash (k:=k) d h
 eqBool:=λ{A E s a b u v Q} l d h=>by
  cases a with
  | none=>
   have e:=oZ l;subst e;cases b with
   | none=>
    have e:=oZ d;subst e;have h:Q Qr s:=⇑[h]
    exact Qz.same _ _ _ _ _ h
   | some b=>
    have h:Q Qs s:=⇑[h]
    obtain⟨i,t,rfl,rfl⟩|⟨x,t,rfl,rfl⟩:=kK d
    .exact Qz.none_int _ _ _ _ _ _ h
    .exact Qz.none_str _ _ _ _ _ _ h
  | some a=>
   cases b with
   | none=>
    have e:=oZ d;subst e;have h:Q Qs s:=⇑[h]
    obtain⟨i,t,rfl,rfl⟩|⟨x,t,rfl,rfl⟩:=kK l
    .exact Qz.int_none _ _ _ _ _ _ h
    .exact Qz.str_none _ _ _ _ _ _ h
   | some b=>exact(cR prog w).eqBool (a:=a) (b:=b) l d ⇑[h]
 «strs»:=λk x t v h=>by
  cases k with
  | none=>have:=oZ h;cases this
  | some k=>exact(cR prog w).strs k x t v h
def WN{prog:Py}{w:Qb}{h:Qa}{a:eH}{vs:Qi (aK×iH)}(d:h.DictOf (cR prog w) a vs):h.MapOf (OC prog w) a (λk=>k.bind<|valueAt vs):=by
 obtain⟨o,u,B,e,c,f,i,C,n⟩:=d;refine{o,u,B,e,c,f,λx A=>?_,λk=>?_}
 .obtain⟨k,b,m⟩:=i x A;exact{Qp k,b,m}
 .cases k with
  | none=>
   show findBy KH u Qq=Qq;unfold findBy;rw[Qo.find?_eq_none.mpr]
   .rfl
   .intro x A;obtain⟨k,b,_⟩:=i x A;intro z;rw[oZ z]at b;have b:lK k .none=true:=b;rw[PU]at b;cases b
  | some k=>
   have q:=(Qa.DictOf.mapOf (knd:=cR prog w) ⟨o,u,B,e,c,f,i,C,n⟩);obtain⟨r,s,a1,l,_,j,_,q⟩:=q;rw[e]at l;cases l;rw[f]at j;cases j;exact q k
section
variable{o e f:Qc}{apos cpos:Ud}{td ty tx:TE}
def pA(H:Hp)(a:eH)(y:V)(r:Qj V):Prop:=∃b,Rd H a (.dK b)/\((y=.non/\r=Qq)\/∃k,y=kV k/\r=aO b k)
def tS(td f:TE):TE:=λd H Q=>td d H λx e=>∃a,x=.ref a/\yO e a/\f d e λy b=>∃o,pA b a y o/\Q (o.getD .non) b
def wZ(td i f:TE):TE:=λb H Q=>td b H λx e=>∃a,x=.ref a/\yO e a/\i b e λy h=>f b h λz d=>∃o,pA d a y o/\Q (o.getD z) d
def El(E:X.A.units+1<cLine)(B:PE X o td)(he:PE X e ty)(m:M1 X o "get" apos e cpos):PE X (.Call (.Attribute o "get" apos) [e] [] cpos) (tS td ty):=by
 intro n s σ H Q I h;refine rK m.base m.few m.line rQ oK KJ<|bD (B n s σ H _ I h) ?_;rintro u L ⟨x,M,f,N,a,ex,d,O⟩;subst ex;obtain rfl:u=Qy a:=N;obtain⟨C,r,_⟩:=yJ f d;exists C,r;rw[m.trees];refine oB rfl<|qY<|lY<|bD (he n L σ M _ f O) λJ s2 ⟨y,H2,b,j,W,g,q⟩=>pQ ?_;obtain⟨kvs,l,g⟩:=g;obtain⟨rfl,rfl⟩|⟨k,rfl,rfl⟩:=g
 .obtain rfl:J=Rm:=j;obtain⟨z,hd,vs,Z,i⟩:=oD b.hok l;exact nR oK i.typeIs zD (QU _ _) (O1 (OC X.prog X.w) a (k:=Qq) rfl hd) {_,WN i,{.non,H2,b.tok _,U,q}}
 .exact XV E b (.inl ⟨kvs,k,l,rfl,rfl⟩) j λT s3 G a1=>⟨_,H2,G,a1,q⟩
def Ci(L:X.A.units+1<cLine)(G:PE X o td)(he:PE X e ty)(W:PE X f tx)(m:M2 X o "get" apos e f cpos):PE X (.Call (.Attribute o "get" apos) [e,f] [] cpos) (wZ td ty tx):=by
 intro i s σ H Q I h;refine rK m.base m.few m.line rQ oK KJ<|bD (G i s σ H _ I h) ?_;rintro u T ⟨x,Z,j,rx,a,ex,d,q1⟩;subst ex;obtain rfl:u=Qy a:=rx;obtain⟨J,C,_⟩:=yJ j d;exists J,C;rw[m.trees];refine oB rfl (qY (lY (bD (he i T σ Z _ j q1) λN s2 ⟨y,H2,M,q,q2⟩=>
  lY (bD (W i s2 σ H2 _ M q2) λE s3 ⟨z,H3,b,l,ov,g,B⟩=>pQ ?_))))
 obtain⟨kvs,r,g⟩:=g;obtain⟨rfl,rfl⟩|⟨k,rfl,rfl⟩:=g
 .obtain rfl:N=Rm:=q;obtain⟨_,hd,vs,a2,n⟩:=oD b.hok r;exact nR oK n.typeIs zD (NN _ _ _) (A4 (OC X.prog X.w) a (k:=Qq) rfl hd E) {_,WN n,{z,H3,b.tok _,l,B}}
 .exact YZ L b (.inl ⟨kvs,k,r,rfl,rfl⟩) q l λw' s4 O a1=>⟨_,H3,O,a1,B⟩
def BY(td j h:TE):TE:=λd H Q=>td d H λx f=>∃a,x=.ref a/\yO f a/\j d f λy i=>h d i λz e=>∃b k,e a\.dK b/\y=kV k/\↑b<sizeLine/\
 (∀v,aO b k\v->Q v e)/\(aO b k=Qq->Q z (upd e a<|.dK<|aX b k z))
def Mf(L:PE X o td)(he:PE X e ty)(hf:PE X f tx)(m:M2 X o "setdefault" apos e f cpos):PE X (.Call (.Attribute o "setdefault" apos) [e,f] [] cpos) (BY td ty tx):=by
 intro l s σ H Q I h;refine rK m.base m.few m.line rQ Wa PySem.F.type_dict_setdefault<|bD (L l s σ H _ I h) ?_;rintro u Z ⟨x,H1,n,rx,a,ex,d,q1⟩;subst ex;obtain rfl:u=Qy a:=rx;obtain⟨M,G,_⟩:=yJ n d;exists M,G;rw[m.trees];refine oB rfl (qY (lY (bD (he l Z σ H1 _ n q1) λiv s2 ⟨y,H2,T,N,q2⟩=>
  lY (bD (hf l s2 σ H2 _ T q2) λJ s3 ⟨z,H3,i,r,kvs,k,B,W,hl,g1,O⟩=>pQ ?_))))
 subst W;obtain⟨hz,hd,vs,a1,A⟩:=pT i.hok B;have b:=a1.val k;refine nR Wa A.typeIs PySem.F.entry_dict_setdefault (PySem.F.args_dict_setdefault_3 _ _ _) (kt_meets_setdefault (cR X.prog X.w) a (nQ N) hd J) {vs,A,by rw[<-↑a1];exact hz,λv j=>?_,λj h' C hs=>?_}
 .rw[j]at b;cases q:aO kvs k with
  | none=>rw[q]at b;exact Sl b
  | some v'=>rw[q]at b;exact{v',H3,i.tok _,b,g1 v' q}
 .rw[j]at b;cases q:aO kvs k with
  | some v'=>rw[q]at b;exact Sl b
  | none=>
   have he:∃q,h'.get? a\q:=let ⟨q,_,_,hq,_⟩:=C;⟨q,hq⟩
   have E:↑(aX kvs k z)<=sizeLine:=by have:=mK kvs k z;lia
   exact{z,_,rV i (by rw[B];exact fG) hs he<|GA E hd (a1.put k r) C,r,O q}
end
def Dq:∀{us:Qi iH},↑xs=↑us->(∀(i:Qk) x u,xs[i]?\x->us[i]?\u->RelV x u)->Vals xs us:=by
 induction xs with
 | nil=>intro us hl h;cases us with
  | nil=>exact .nil
  | cons _ _=>simp at hl
 | cons x xs d=>intro us hl h;cases us with
  | nil=>simp at hl
  | cons u us=>exact .cons (h 0 x u rfl rfl) (d ⇑[hl] λi x u a b=>h (i+1) x u ⇑[a]<|⇑[b])
def TN(C:X.calm=Qr):CallR X (.type "list") (λxs H Q=>∃p kvs,xs=[.ref p]/\Rd H p (.dK kvs)/\∀l,H l=Qq->Q (.ref l) (upd H l<|.lst<|kvs.map λb=>kV b.1)):=by
 intro N s σ H xs us Q I r h;obtain⟨p,kvs,rfl,E,q⟩:=h;obtain⟨u,rfl,M⟩:=kH r;cases M;obtain⟨hz,a1,hd⟩:=oD I.hok E;obtain⟨o,m⟩:∃o,s.heap.get? p\o:=by obtain⟨vs,_,o,_,_,e,_⟩:=hd;exact⟨o,e⟩
 obtain⟨vs,ep,j,J⟩:=IE m hd;have O:=↑j;refine PySem.W.kdl_call (Zf (knd:=cR X.prog X.w) (kvs:=vs) (ep:=ep) (d:=p) a1) (I.ok.hd C) (J _ m) ∅ λZ tk f c' kp e A=>?_
 refine{.ref s⁻¹,_,I.laid (t':=tk) kp (aV _) (show ObjOk X.prog X.w _ Z _ (.lst<|kvs.map λb=>kV b.1) from ⟨by rw[aF];exact hz,f.toList,c',?_,⇑[e]⟩),U,q _<|I.hok.fresh<|aV _};refine Dq (by have a:=A.1;have z:↑f.toList=f.size:=iK;rw[aF];lia) λi x u a z=>?_
 obtain⟨k,y,B,L⟩:=A.2 i u (by rw[<-xK];exact z);obtain⟨T,G,_⟩:=j.get B;rw[bP,G]at a;cases a;obtain⟨n,t,rfl,rfl⟩|⟨n,t,rfl,rfl⟩:=kK L
 .exact⟨t,rfl⟩
 .exact⟨t,rfl⟩
def Kd{prog:Py}{w:Qb}{A:Qf}{bs:Qi Qm}{its:Qi iH}(r:Vals (bs.map V.bl) its):TruthOf prog w A (λi v=>its.toArray[i]?\v) (λi=>bs.getD i Qs):=by
 intro i v s Q E a b;have a:its[i]?\v:=⇑[a]
 have hl:=↑r;rw[aF]at hl;obtain⟨j,_⟩:=vh2.mp a;have d:bs[i]?=Qp bs[i]:=bM ∅;obtain⟨u,f,h⟩:=r.get (i:=i) (x:=V.bl bs[i]) (by rw[bP,d];rfl);rw[a]at f;cases f;obtain rfl:v=iH.bool bs[i]:=h;have e:bs.getD i Qs=bs[i]:=by rw[hJ,d];rfl
 have b:Q (bs.getD i Qs) s:=b;rw[e]at b;exact CW b
def Jp(bs:Qi Qm):(Tg ↑bs).any (λi=>bs.getD i Qs)=bs.any id:=by
 rw[rR];simp only[ub1,Uz]
 constructor
 .rintro⟨i,d,h⟩;exists bs[i],fP d;rw[hJ,bM d]at h;exact h
 .rintro⟨b,a,h⟩;obtain⟨i,d,e⟩:=pI a;exists i,d;rw[hJ,bM d,e];exact h
def Es(l:X.calm=Qr):CallR X (.builtin "any") (λxs H Q=>∃(p:eH)(bs:Qi Qm),xs=[.ref p]/\SqL X.K H p (bs.map V.bl)/\Q (.bl<|bs.any id) H):=by
 intro m s G H xs M Q I r h;obtain⟨p,bs,rfl,B,q⟩:=h;obtain⟨u,rfl,C⟩:=kH r;cases C;obtain⟨E,d,a,N⟩:=I.list B;have hl:=↑d;rw[aF]at hl;obtain⟨o,j,_⟩:=id a.isList;refine call_any_walk<|wpAny_pyIter_list a.isList ?_;have a1:p≠s⁻¹:=dB<|cI j;have f:Inv X m G H {s with heap:=s.heap.push {cls:=.type "list_iterator",data:=.fields #[.ref p,.int 0 0]}}:=I.kept (t':=s.toks) λb o e=>cB _ e;refine{_,_,_,_,_,_,6,Walks.list (A:=X.A.in1) (I.ok.hd l) _ p a1 E.toArray,{{_,dQ _ rfl,U,U},a.isList.at λo e=>cB _ e},Kd d,λL tk n=>?_};rw[dN,<-hl,Jp];refine{.bl _,H,f.turned (t':=tk) (λb o i e=>n b o ⇑[i] e) (I.hok.fresh<|aV _) (kC I.lt) (.inr I.sz) (λx c e z=>?_) λp J z=>?_,U,q}
 .obtain⟨v,q⟩:=I.cell x c e;exact absurd q.lt (by rw[z];exact nU _)
 .exact absurd (cI (I.pin p J).1) (by rw[z];exact nU _)
def Go(r:Vals (ss.map R6) its):R5 its ss:=by
 induction ss generalizing its with
 | nil=>cases r;exact .nil
 | cons x ss a=>
  cases r with
  | cons h t=>obtain⟨tk,rfl⟩:=h;exact .cons _ _<|a t
def UU(r:R5 its ss):Vals (ss.map R6) its:=by
 induction r with
 | nil=>exact .nil
 | cons _ _ _ a=>exact .cons {6} a
def MC:CallR X (.builtin "sorted") (λxs H Q=>∃(p:eH)(ss:Z2),xs=[.ref p]/\SqL X.K H p (ss.map R6)/\↑ss<64/\∀(l:eH)(a:Z2),H l=Qq->a.Perm ss->sortedS a=Qr->Q (.ref l) (upd H l<|.lst<|a.map R6)):=by
 intro a1 s J H xs G Q I r h;obtain⟨p,ss,rfl,j,z,q⟩:=h;obtain⟨u,rfl,x⟩:=kH r;cases x;obtain⟨B,d,i,C⟩:=I.list j;have hl:=↑d;rw[aF]at hl;refine sorted_strs i.isList (Go d) ∅ λA a n f m=>?_
 obtain⟨e,E⟩:=sortedAll_at s.heap B A;refine{.ref<|s⁻¹+1,_,I.laid (t':=s.toks) (λb o e=>sortedAll_old e) (lA _) (show ObjOk X.prog X.w _ _ _ (.lst<|a.map R6) from ⟨?_,A.toList,e,UU n,by simpa [seqObj]using E⟩),U,q _ _ (I.hok.fresh<|lA _) f m};rw[aF,f.length_eq];rw[aF]at C;exact C
structure pF(X:Cx)(o0:eH->HO)(pt:Hp->eH->V->V->(Hp->Prop)->Prop):Prop where
 new:∀(h:Qa)(H:Hp),Rh<h.objs.size->ObjOk X.prog X.w H (h.push {cls:=.type "dict",data:=.dict #[]}) h.objs.size (o0 h.objs.size)
 put:∀(Y:Cx),Y.prog=X.prog->Y.w=X.w->Y.K=X.K->Y.A=X.A->∀(pins:Z1)(s:Pw)(σ:St)(H:Hp)(D:eH)(k:V)(u:iH)(v:V)(y:iH)(R:Hp->Prop),Inv Y pins σ H s->RelV k u->RelV v y->pt H D k v R->
  Qw ⇑{X} X.A (dictSet D u y) (λ_ s'=>∃H',Inv Y pins σ H' s'/\R H') (λ_ _=>Qn) s
def Fc:Hp->eH->V->V->(Hp->Prop)->Prop:=λH D b v R=>∃a k,b=kV k/\H D\.dK a/\↑a<sizeLine/\R (upd H D<|.dK<|aX a k v)
def JY{X:Cx}:pF X (λ_=>.dK []) Fc where
 new h H z:=OJ h z
 put Y e1 e2 e3 e4 pins s σ H D kx u v y R I rk rv h:=by
  obtain⟨f,k,b,i,hl,q⟩:=h;subst b;rw[<-e1,<-e2];obtain⟨z,hd,vs,a,d⟩:=pT I.hok i;have l:↑vs<=sizeLine:=by rw[<-↑a];exact z
  have e:↑(aX f k v)<=sizeLine:=by have:=mK f k v;lia
  refine wpAny_dictSet_pairs (knd:=cR Y.prog Y.w) (hsz:=l) (nQ rk) d λm a1 j=>?_;exact{_,rV (t':=s.toks+1) I (by rw[i];exact fG) j (let ⟨q,_,_,hq,_⟩:=a1;⟨q,hq⟩)<|GA e hd (a.put k rv) a1,q}
abbrev YK(pt:Hp->eH->V->V->(Hp->Prop)->Prop)(tk te:TE):eH->St->Hp->(Hp->Prop)->Prop:=λD σ H K=>tk σ H λkx H4=>te σ H4 λv H5=>pt H5 D kx v K
abbrev VI(o0:eH->HO)(pt:Hp->eH->V->V->(Hp->Prop)->Prop)(wi:TI)(src:Qi (Qj Qk))(g:TG)(tt:TT)(tkx te:TE):TE:=KY o0 wi src g tt<|YK pt tkx te
noncomputable def growD{X:Cx}{kx vx tg iter:Qc}{ifs:Qi Qc}{scope:Scope}{pos:Ud}{o0:eH->HO}{pt:Hp->eH->V->V->(Hp->Prop)->Prop}(hp:pF X o0 pt):mY X scope (.DictComp kx vx [⟨tg,iter,ifs,0⟩] scope pos) tg iter ifs where
 ob:={cls:=.type "dict",data:=.dict #[]}
 o0:=o0
 mkd:=newDict
 bd D env:=do
  let kv <-eval kx env
  let vv <-holding [kv] (eval vx env)
  Ww {kx.pos with endLine:=vx.pos.endLine,endCol:=vx.pos.endCol}
  holding [kv,vv] (dictSet D kv vv)
 pos:=_
 cl:=rfl
 ev:=rfl
 eu _:=rfl
 tu _ _ _:=compTurn_dict ..
 st:=codeAny_compStart_dict
 un _ _ _ _:=rfl
 dn _ _ _:=rfl
 al h:=jP h
 nw:=hp.new
def Ap{X Y:Cx}{e i:Qc}{tk te:TE}{o0:eH->HO}{pt:Hp->eH->V->V->(Hp->Prop)->Prop}{ps:Ud}(hp:pF X o0 pt)(hx:Y.xe=λ_ _=>Qn)(d:Y.prog=X.prog)(h:Y.w=X.w)(j:Y.K=X.K)(f:Y.A=X.A)(C:PE Y e tk)(he:PE Y i te):∀D b s J H K,Inv Y b J H s->YK pt tk te D J H K->Qw ⇑{Y} Y.A (do
  let a <-eval e Y.env
  let L <-holding [a] (eval i Y.env)
  Ww ps
  holding [a,L] (dictSet D a L)) (λ_ r=>∃H',Inv Y b J H' r/\K H') (λ_ _=>Qn) s:=by
 intro D b s J H K I q;refine aC<|hx▸bD (C _ s J H _ I q) ?_;rintro a x ⟨u,o,z,E,a1⟩;refine aC<|gQ<|bD (he _ x J o _ z a1) ?_;rintro y B ⟨v,m,l,G,n⟩;refine aC<|AC<|gQ ?_;rw[d,h,f,hx];exact hp.put Y d h j f _ B J m _ u a v y _ l E G n
section
variable{scope:Scope}{N':Z2}{src:Qi (Qj Qk)}{pins:Z1}{σ:St}{H2:Hp}{s2:Pw}
def JA{o0:eH->HO}{pt:Hp->eH->V->V->(Hp->Prop)->Prop}(hp:pF X o0 pt)(a:X.calm=Qr)(B:BlkN X scope N' src)(hi:PI X tg iter wi)(e:∀h i C fp,PG (eM X scope N' h i C fp) tg g)(f:∀h i C fp,pE (eM X scope N' h i C fp) ifs tt)(d:∀h i C fp,PE (eM X scope N' h i C fp) kx tkx)(he:∀h i C fp,PE (eM X scope N' h i C fp) vx te)(b:X9 ((scope.names.all λy=>decide (y.2=.free->∀z∈scope.names,z.1=y.1->z.2=.free))=true) X6)(hs:X9 (∀x,Sq iter X.env x=pure x) X5):
  PE X (.DictComp kx vx [⟨tg,iter,ifs,0⟩] scope pos) (VI o0 pt wi src g tt tkx te):=
 XF (growD hp) a B hi e f (λh i C fp=>Ap hp rfl rfl rfl rfl rfl (d h i C fp)<|he h i C fp) b hs
def TL{o0:eH->HO}{pt:Hp->eH->V->V->(Hp->Prop)->Prop}(hp:pF X o0 pt)(e:X.calm=Qr)(h:X.N.Nodup)(l:X.N[i]?\y)(d:X.env.scope.names.lookup y\.local)(B:BlkN X scope N' src)(hi:PI X tg iter wi)(b:∀m n C fp,PG (eM X scope N' m n C fp) tg g)(j:∀m n C fp,pE (eM X scope N' m n C fp) ifs tt)(f:∀m n C fp,PE (eM X scope N' m n C fp) kx tkx)(he:∀m n C fp,PE (eM X scope N' m n C fp) vx te)(a:X9 (Tt (.DictComp kx vx [⟨tg,iter,ifs,0⟩] scope pos) (Qp<|.Name y py) spos.line X.env=pure true) X8)(a1:X9 ((scope.names.all λy=>decide (y.2=.free->∀z∈scope.names,z.1=y.1->z.2=.free))=true) X6)(hs:X9 (∀x,Sq iter X.env x=pure x) X5):
  PS X (.Assign [.Name y py] (.DictComp kx vx [⟨tg,iter,ifs,0⟩] scope pos) spos) (gH (VI o0 pt wi src g tt tkx te)<|cA i):=
 TC (growD hp) e h l d B hi b j (λm n C fp=>Ap hp rfl rfl rfl rfl rfl (f m n C fp)<|he m n C fp) a a1 hs
end
def NO(hi:Ql)(n:Qk):It:=⟨λi _=>i<n,λi H x a=>a=H/\x=.int (hi-i),λi _=>n<=i⟩
def Fd{P:Py}{w:Qb}{K:Fq}{tg:Qc}(T:eH)(hi:Ql)(n:Qk):gM P w K tg (NO hi n) [T] T (λi h=>Xz h T (hi+(i:Qk)*-1) ((n:Ql)-(i:Qk))<|-1) where
 mem:=by simp
 obj:=λi h st b a=>by
  have e:b=T:=⇑[a]
  subst e;exact{_,st,λv z=>by
   have G:Data.fields _=M8 v:=z;cases G}
 keep:=λi h Z st k=>k T ↥_ _ st
 item:=by
  intro X x u l j i C s σ H E I d st f;subst x u l;obtain⟨m,B,O,A,q,r⟩:=d T ↥_;have W:=Walks.range (prog:=X.prog) (w:=X.w) (I.ok.hd j) T hi (-1) n;refine W.item i s _ _ f st λv Z tk L a1 M=>?_;obtain⟨t,rfl⟩:=L;have J:Inv X C σ H {s with heap:=Z,toks:=tk}:=I.turned (λb o a e=>M b o ⇑[a] e) m B A q r;refine{6,xG (s:={s with heap:=Z,toks:=tk}) (n:="range_iterator") a1 rfl rfl ↥?_ {.int<|hi-i,H,J,{t,?_},⟨rfl,rfl⟩,a1,λb a=>(d b a).1}};have e:hi+(i:Ql)*-1=hi-i:=by lia
  rw[e]
 done:=by
  intro X x u l j i C s σ H E I d st f;subst x u l;obtain⟨m,B,O,A,q,r⟩:=d T ↥_;exact Zy (I.ok.hd j) st (by have:n<=i:=f;lia) λZ N=>{U,I.turned (t':=s.toks) (λb o a e=>N b o a e) m B A q r}
 self:=λ_ _ _ _ _ st h=>A0 st h
def Ox(d:-(2 ^ 30)<=a)(a1:a<2 ^ 30)(h:-(2 ^ 30)<=b)(f:b<2 ^ 30):Px.Range.small a b (-1)=true:=by
 unfold Px.Range.small;have e:Tl a b (-1)=if a > b then a-b else 0:=by
  unfold Tl;simp only[show ¬((-1:Ql) > 0) by decide,iF,show -(-1:Ql)=1 by decide,Wg]
  split <;> lia
 rw[e];simp only[Px.Range.rangeFitsLong,qT,Qm.or_eq_true,decide_eq_true_eq,uk0,show ¬((-1:Ql) > 0) by decide,iF]
 split <;> lia
def DO(a:TA):TI:=λb H R=>a b H λvs d=>∃i j:Ql,vs=[.int i,.int j,.int<|-1]/\(-(2 ^ 30)<=i/\i<2 ^ 30/\-(2 ^ 30)<=j/\j<2 ^ 30)/\R (NO i (i-j).toNat) d
def Eo(B:Gl X "range")(E:X.mg "range"=Qq)(u:PA X [a,b,c] ta)(hs:X9 (starEach [a,b,c] X.env=[(Qs,eval a X.env),(Qs,eval b X.env),(Qs,eval c X.env)]) X8)(a1:X9 (starEach [b,c] X.env=[(Qs,eval b X.env),(Qs,eval c X.env)]) X8):PI X tg (.Call (.Name "range" p) [a,b,c] [] pos) (DO ta):=by
 intro m s W H R I h;refine L3 (oP I B E boot_range<|sK (bD (u pos m s W H _ I h) λus d ⟨vs,n,z,J,f⟩=>?_) (by rw[hs,a1])<|by rw[a1];rfl);obtain⟨i,j,e,⟨f,N,L,C⟩,q⟩:=f;subst e;cases J with
 | cons r O=>
  cases O with
  | cons Z O=>
   cases O with
   | cons T O=>
    cases O;obtain⟨t,rfl⟩:=r;obtain⟨t',rfl⟩:=Z;obtain⟨M,rfl⟩:=T;refine call_range_3 ↥?_ ?_ (iO<|PyProof.noPylong_small<|by decide);refine F6 (IsRange.new ..) (Ox f N L C) ?_;have l:Inv X m W n {d with heap:=d.heap.push {cls:=.type "range",data:=.fields #[.int i t,.int j t',.int (-1) M]},toks:=d.toks}:=z.kept λb o e=>cB _ e;refine{_,[_],_,_,n,U,l.kept (t':=d.toks) λb o e=>cB _ e,Fd _ i (i-j).toNat,?_,λb A=>?_,q}
    .have x:i+((0:Qk):Ql)*-1=i:=by lia
     have G:(((i-j).toNat:Qk):Ql)-((0:Qk):Ql)=Tl i j (-1):=by
      unfold Tl;simp only[show ¬((-1:Ql) > 0) by decide,iF,show -(-1:Ql)=1 by decide,Wg]
      split <;> lia
     show Xz _ _ (i+((0:Qk):Ql)*-1) ((((i-j).toNat:Qk):Ql)-((0:Qk):Ql))<|-1;rw[x,G];exact dQ _ rfl
    .rw[vj1.mp A];exact l.fpOk (aV _)<|l.hok.fresh<|aV _
def Pf{S:V->St->Hp->(St->Hp->Prop)->Prop}{D:St->Hp->Prop}{hi:Ql}{n:Qk}(a:Qk->St->Hp->Prop)(h0:a 0 b H)(hs:∀i b H,i<n->a i b H->S (.int<|hi-i) b H (a<|i+1))(hd:∀b H,a n b H->D b H):pJ (NO hi n) S D b H:=
 tH n a h0 (λi b H h p=>⟨h,by rintro _ _ ⟨rfl,rfl⟩;exact hs i b _ h p⟩) λb H p=>⟨aV _,hd b H p⟩
def OR:V->Qj Ql->Qj Ql->Hp->VK->Prop:=λx lo a H Q=>∃z,x=.str z/\↑z<=sizeLine/\Q (.str<|Rl z lo a) H
def Ay:SlR X OR:=by
 intro a1 s L H x v B r lo G f Q I n C m e h;obtain⟨z,rfl,M,q⟩:=h;obtain⟨t,rfl⟩:=n;exists "str",_,F.slot_str_getitem.lookup,F9 _ _ _;have a:∀(l u:Qj (Ql×R3)),s.heap.IsSlice f l u Qq->l.map (·.1)=lo->u.map (·.1)=G->Qw ⇑{X} X.A (Tx (.str z t)<|.ref f) (EP X a1 L Q) X.xe s:=λl u o d b=>by
  refine wpAny_getItem_str_slice (l:=l) (u:=u) (st:=Qq) o rfl<|post_val_or_str {?_,λN k=>?_}
  .have:=Txt.slice_le z lo G;rw[<-d,<-b]at this;exact fM this M
  .refine⟨.str<|Rl z lo G,H,I.tok _,⟨N,?_⟩,q⟩;rw[<-d,<-b];rfl
 cases m with
 | none=>cases e with
  | none=>exact a Qq Qq C rfl rfl
  | int j E=>exact a Qq (Qp (j,E)) C rfl rfl
 | int i J=>cases e with
  | none=>exact a (Qp (i,J)) Qq C rfl rfl
  | int j E=>exact a (Qp (i,J)) (Qp (j,E)) C rfl rfl
def CZ:R2:=λx y H Q=>∃z n,x=.str z/\y=.int n/\(n=0\/n=1)/\Q (.str<|if n=0 then Xm else z) H
def Kl:dW X (Tf .Mult) CZ:=by
 intro a1 s f H x y v u Q I e d h;obtain⟨z,n,rfl,rfl,a,q⟩:=h;obtain⟨t,rfl⟩:=e;obtain⟨i,rfl⟩:=d;refine SB.mul {?_,?_,?_} λb k=>{.str<|Txt.mul z n,H,I.tok _,⟨b,rfl⟩,?_}
 .obtain rfl|rfl:=a <;> decide
 .obtain rfl|rfl:=a
  .intro h;exact absurd ↥?_ h
  .intro _ h;simp at h
 .obtain rfl|rfl:=a
  .intro h;exact absurd ↥?_ h
  .intro _ h;simp at h
 .obtain rfl|rfl:=a
  .exact q
  .exact q
def CT(K:Fq)(d:Qm):R2:=λx y H Q=>∃a b e,x=.ref a/\y=.ref b/\a≠b/\SqL K H a e/\SqL K H b []/\Q (.bl<|e.isEmpty != d) H
def VB(d:X.A.units<cLine):dW X (Sj .Eq) (CT X.K Qs):=by
 intro a1 s G H x y v u Q I n l h;obtain⟨a,b,J,rfl,rfl,z,m,i,q⟩:=h;cases n;cases l;obtain⟨C,r,p,L⟩:=I.list m;obtain⟨o,f,B,_⟩:=I.list i;cases f;show Qw _ _ (richCompare .Eq (.ref a)<|.ref b) _ _ _;cases r with
 | nil=>exact SeqAt.RcAt.lists (e:=λ_=>Qr) p.isList B.isList rfl d (λj h=>absurd h<|by simp) _ _ _ _ {.bl Qr,H,I,by simp;rfl,q}
 | cons r E=>exact SeqAt.RcAt.lists_lengths p.isList B.isList ↥_ d _ _ _ _ {.bl Qs,H,I,U,q}
def NY(d:X.A.units<cLine):dW X (Sj .NotEq) (CT X.K Qr):=by
 intro a1 s G H x y v u Q I n l h;obtain⟨a,b,J,rfl,rfl,z,m,i,q⟩:=h;cases n;cases l;obtain⟨C,r,p,L⟩:=I.list m;obtain⟨o,f,B,_⟩:=I.list i;cases f;show Qw _ _ (richCompare .NotEq (.ref a)<|.ref b) _ _ _;cases r with
 | nil=>exact SeqAt.RcNeAt.lists (e:=λ_=>Qr) p.isList B.isList rfl d (λj h=>absurd h<|by simp) _ _ _ _ {.bl Qs,H,I,by simp;rfl,q}
 | cons r E=>exact SeqAt.RcNeAt.lists_lengths p.isList B.isList ↥_ d _ _ _ _ {.bl Qr,H,I,U,q}
def Oq(its:Qi iH):Zm its.toArray Qq Qq (Qp<|-1)=its.reverse.toArray:=by
 unfold Zm;have e:Te Qq Qq (Qp<|-1) its.toArray.size=((↑its:Ql)-1,-1,-1):=by
  unfold Te;simp
 rw[e];unfold sliceRange;simp only[show ¬((-1:Ql) > 0) by decide,iF,show -(-1:Ql)=1 by decide,Wg];have h:(if (↑its:Ql)-1 > -1 then(↑its:Ql)-1 - -1 - -1-1 else 0).toNat=↑its:=by split <;> lia
 rw[h]
 congr 1
 rw[Zw];refine Vw λi=>?_;have a:∀(n:Qk),n<=↑its->(Tg n).filterMap ((λx=>its.toArray[x]?)∘λ(k:Qk)=>((↑its:Ql)-1+-1*(k:Ql)).toNat)=its.reverse.take n:=by
  intro n
  induction n with
  | zero=>intro _;simp
  | succ n m=>
   intro l;rw[E3,Yr,m ∅,dE]
   congr 1
   have j:((↑its:Ql)-1+-1*(n:Ql)).toNat=↑its-1-n:=by lia
   have b:its[↑its-1-n]?=Qp its[↑its-1-n]:=bM ∅;have f:its.reverse[n]?=Qp its[↑its-1-n]:=by rw[Ur ∅];exact b
   rw[f];have d:((λx=>its.toArray[x]?)∘λ(k:Qk)=>((↑its:Ql)-1+-1*(k:Ql)).toNat) n=Qp its[↑its-1-n]:=by
    show its.toArray[((↑its:Ql)-1+-1*(n:Ql)).toNat]?=_;rw[j];simpa using b
   rw[JG,d];rfl
 rw[a ↑its (aV _)];rw[cW<|by simp]
def GL(K:Fq)(te:TE)(ts:TE):TE:=λd H Q=>te d H λx f=>ts d f λy b=>y=.int (-1)/\∃a e,x=.ref a/\SqL K b a e/\∀p,b p=Qq->Q (.ref p) (upd b p<|.lst e.reverse)
def Au{e st:Qc}{te ts:TE}{M pos:Ud}(he:PE X e te)(G:PE X st ts):PE X (.Subscript e (.Slice Qq Qq (Qp st) M) pos) (GL X.K te ts):=by
 intro d s L H Q I h;refine Ym<|bD (he d s L H _ I h) ?_;rintro v z ⟨x,B,j,C,E⟩;refine wpAny_Slice ?_;rw[Zb];refine aZ<|aZ ?_;refine bD (G d z L B _ j E) ?_;rintro vs J ⟨y,W,m,l,u,a,T,ex,n,q⟩;subst u ex;obtain⟨tk,rfl⟩:=l;obtain rfl:v=Qy a:=C;have f:Inv X d L W {J with heap:=J.heap.push {cls:=.type "slice",data:=.fields #[.none,.none,.int (-1) tk]}}:=m.kept (t':=J.toks) λb N q=>cB _ q;show Qw ⇑{X} X.A (Wh e (.Slice Qq Qq (Qp st) M) (.ref a)<|.ref J⁻¹) (EP X d L Q) X.xe {J with heap:=J.heap.push {cls:=.type "slice",data:=.fields #[.none,.none,.int (-1) tk]}};obtain⟨Z,r,i,O⟩:=f.list n;have a1:=↑r;refine N6 (ops:=[.ref a,.ref J⁻¹]) i.isList.typeIs slot_list_getitem.lookup ?_ (by with_unfolding_all rfl);refine Yz i.isList (Qa.IsSliceOf.new ..) .none .none (.int (-1) tk) ↥_ ?_ (by rw[dN] <;> lia);rw[Oq];refine{.ref _,_,f.laid (t':=J.toks) (o:=.lst T.reverse) (λb N q=>cB _ q) (aV _) ?_,U,q _<|f.hok.fresh<|aV _};exact{by rw[lZ];exact O,_,0,r.reverse,dQ _ rfl}
def Inv.turnedNew{X:Cx}{a1:Z1}{O:St}{H:Hp}{s:Pw}{h':Qa}{t':Qk}{ch:Z3}{xs:Qi V}{its:Qi iH}(I:Inv X a1 O H s)(i:∀b∈ch,fK X a1 H b)
  (keep:∀b o,b∉ch->s.heap.get? b\o->h'.get? b\o) (x:h'.get? s⁻¹=Qp {cls:=.type "tuple",data:=.seq its.toArray}) (r:Vals xs its) (hz:↑xs<=sizeLine):
  Inv X a1 O (upd H s⁻¹<|.tup xs) {s with heap:=h',toks:=t'}:=by
 have B:∀b u,H b\u->b∉ch:=λb u e a=>by
  have:=(i b a).1;rw[this]at e;cases e
 have d:Inv X a1 O H {s with heap:=h',toks:=t'}:=by
  refine I.step (g':=s.gens) (d':=s.drawn) (ch:=ch) (λb a=>{(i b a).2.2.2.1,(i b a).2.1,(i b a).2.2.2.2.1,(i b a).2.2.2.2.2}) (λb o _ _ f e _=>keep b o f e) (λb o _ _ f e _=>{o.slots,keep b o f e})
   (λ_ _ _ _ n=>n) (λb o f e=>⟨o,keep b o f e⟩) (λ_ _ e=>e) (λ_ _ _ e=>e) (λb T e=>⟨#[],by rw[e];simp⟩) (λm L=>?_) (λb u eq=>?_) I.bare
  .obtain⟨o,es,ep,C,r⟩:=L;exact{o,es,ep,keep _ o (λz=>(i _ z).2.1 rfl) C,r}
  .refine(I.hok b u eq).stay (λc v f q=>keep c v ?_ q) (λ_ q=>q) λ_ _ q=>q;obtain z|z:=f
   .rw[z];exact B b u eq
   .exact B c _ z
 have j:H s⁻¹=none:=I.hok.fresh<|aV _;have base:=d.base;have l:HOk X.prog X.w (upd H s⁻¹<|.tup xs) h':=by
  intro b z q
  by_cases a:b=s⁻¹
  .subst a;rw[zb0]at q;cases q;exact{{hz,_,x,U},its,r,_,x,U,6}
  .rw[aE a]at q;refine(d.hok b z q).stay (λc M _ r=>r) (λc r=>?_) λc xs r=>?_
   .rw[aE<|bF r j];exact r
   .rw[aE<|bF r j];exact r
 have old:∀b A,X.s₀.heap.get? b\A->b≠s⁻¹:=λb A e=>dB<|jA (cI e) I.sz;refine{d.ok,d.os,d.bare,{base.keep,base.slot,λb N q n Z=>?_,base.there,λb ys q=>?_,λb N y q=>?_,λb T q=>?_},d.loc,d.cell,?_,λy c h=>?_,λp W=>?_,l,d.len}
 .rw[aE<|old b N q];exact base.free b N q n Z
 .have:=base.tups b ys q;rw[aE<|bF this j];exact this
 .have:=base.frzs b N y q;rw[aE<|bF this j];exact this
 .obtain⟨m,this⟩:=base.tbls b T q;exact{m,by rw[aE<|bF this j];exact this}
 .rw[aE<|dB I.lt];exact I.free
 .obtain⟨v,q⟩:=I.cell y c h;rw[aE<|dB q.lt];exact I.freeC y c h
 .obtain⟨J,E,G⟩:=d.pin p W;have:=cI (I.pin p W).1;exact{J,by rw[aE<|dB this];exact E,G}
def Inv.turnedAll{X:Cx}{h:Z1}{l:St}{H:Hp}{s:Pw}{h':Qa}{t':Qk}{ch:Z3}(I:Inv X h l H s)(f:∀b∈ch,fK X h H b)
  (keep:∀b o,b∉ch->s.heap.get? b\o->h'.get? b\o):Inv X h l H {s with heap:=h',toks:=t'}:=by
 have a1:∀b u,H b\u->b∉ch:=λb u e d=>by
  have:=(f b d).1;rw[this]at e;cases e
 refine I.step (g':=s.gens) (d':=s.drawn) (ch:=ch) (λb d=>{(f b d).2.2.2.1,(f b d).2.1,(f b d).2.2.2.2.1,(f b d).2.2.2.2.2}) (λb o _ _ a e _=>keep b o a e) (λb o _ _ a e _=>{o.slots,keep b o a e})
  (λ_ _ _ _ n=>n) (λb o a e=>⟨o,keep b o a e⟩) (λ_ _ e=>e) (λ_ _ _ e=>e) (λb x e=>⟨#[],by rw[e];simp⟩) (λm j=>?_) (λb u eq=>?_) I.bare
 .obtain⟨o,es,ep,i,r⟩:=j;exact{o,es,ep,keep _ o (λz=>(f _ z).2.1 rfl) i,r}
 .refine(I.hok b u eq).stay (λc v a q=>keep c v ?_ q) (λ_ q=>q) λ_ _ q=>q;obtain z|z:=a
  .rw[z];exact a1 b u eq
  .exact a1 c _ z
def ItB(tp:Qm)(h:Qa)(a l:eH)(k:Qk):Prop:=match tp with | true=>h.IsTupleIter a l k | false=>h.IsListIter a l k
def SeB(tp:Qm)(h:Qa)(l:eH)(xs:Qo iH):Prop:=match tp with | true=>h.IsTuple l xs | false=>h.IsList l xs
theorem ItB.at(x:ItB tp h it l k)(e:∀o,h.get? it\o->h'.get? it\o):ItB tp h' it l k:=by
 cases tp with
 | true=>exact Qa.IsTupleIter.at x e
 | false=>exact Wv.at x e
theorem SeB.at(x:SeB tp h l xs)(e:∀o,h.get? l\o->h'.get? l\o):SeB tp h' l xs:=by
 cases tp with
 | true=>obtain⟨o,a,r⟩:=(show h.IsTuple l xs from x);exact{o,e _ a,r}
 | false=>exact Qa.IsList.at x e
def ItB.obj(x:ItB tp h it l k):∃o,h.get? it\o/\∀v,o.data≠.cell v:=by
 cases tp with
 | true=>obtain⟨o,e,c,d⟩:=(show h.IsTupleIter it l k from x);exact{o,e,λv z=>by rw[d]at z;cases z}
 | false=>obtain⟨o,e,c,d⟩:=(show h.IsListIter it l k from x);exact{o,e,λv z=>by rw[d]at z;cases z}
def zQ(a:ItB tp s.heap it l k)(hl:SeB tp s.heap l items)(hx:items[k]?\x)(d:∀h',ItB tp h' it l (k+1)->Rf it s.heap h'->Q x {s with heap:=h'}):Qw ⇑[] A (Rc<|.ref it) Q E s:=by
 cases tp with
 | false=>exact wpAny_nextOf_list_item a hl hx d
 | true=>
  have a:s.heap.IsTupleIter it l k:=a;obtain⟨o,b,e,hd⟩:=id a;obtain⟨h,f,_,i,a1⟩:=(show s.heap.IsTuple l items from hl);unfold Rc;refine aC<|kB (name:=Su "__next__") a.typeIs JS<|iD JS a.typeIs Ya ?_<|Xs _;show Qw _ _ (Tv (.ref it) 0 >>= _) _ _ s;refine aC<|fQ b hd (x:=.ref l) rfl ?_;show Qw _ _ (if (Qy l == Rm)=Qr then _ else _) _ _ s;rw[bA (show ¬((Qy l == Rm)=Qr) from eJ)];show Qw _ _ (Tv (.ref it) 1 >>= _) _ _ s;refine aC<|fQ b hd (x:=.int k 0) rfl ?_;show Qw _ _ (seqItems? (.ref l) >>= _) _ _ s;refine aC<|lX f a1 ?_;simp only[rD,hx];refine aC<|wpAny_setField b hd ↥_<|aZ {x,U,aZ<|d _ (show Qa.IsTupleIter _ it l (k+1) from ?_)<|zH ..};exact{_,tJ _ b<|Qg.isFreed_of_fields<|Qg.data_mapFields hd _,(Qg.cls_mapFields ..).trans e,by rw[Qg.data_mapFields hd];simp[rawInt]}
def DZ(f:A.handled=Qq)(b:ItB tp s.heap it l k)(hl:SeB tp s.heap l items)(hx:items[k]?=Qq)(h:∀h' e,Tq it s.heap h'->(∃o,h'.get? e\o/\o.cls=.type "StopIteration")->E (.ref e) {s with heap:=h'}):Qw ⇑[] A (Rc<|.ref it) Q E s:=by
 cases tp with
 | false=>exact wpAny_nextOf_list_end f b hl hx h
 | true=>
  have b:s.heap.IsTupleIter it l k:=b;obtain⟨o,d,j,hd⟩:=id b;obtain⟨n,i,_,q,a1⟩:=(show s.heap.IsTuple l items from hl);unfold Rc;refine aC<|kB (name:=Su "__next__") b.typeIs JS<|iD JS b.typeIs Ya ?_<|Xs _;show Qw _ _ (Tv (.ref it) 0 >>= _) _ _ s;refine aC<|fQ d hd (x:=.ref l) rfl ?_;show Qw _ _ (if (Qy l == Rm)=Qr then _ else _) _ _ s;rw[bA (show ¬((Qy l == Rm)=Qr) from eJ)];show Qw _ _ (Tv (.ref it) 1 >>= _) _ _ s;refine aC<|fQ d hd (x:=.int k 0) rfl ?_;show Qw _ _ (seqItems? (.ref l) >>= _) _ _ s;refine aC<|lX i a1 ?_;simp only[rD,hx];refine aC<|jI<|aC<|wpAny_setField d hd ↥_ ?_;show Qw _ _ (A3 (.type "StopIteration") [] >>= _) _ _ _;refine aC ?_;simp only[A3,D4];refine aC (jP ?_<|by size_fits);refine aC (m:=Tn _ _)<|wpAny_of_eq (a:=Rm) (by first | rfl | (simp only[Tn];rfl)) ?_;refine jP ?_ (by size_fits);simp only[raiseNew];refine aC<|wpAny_handled ?_
  first | rw[show A.in1.handled=Qq from f] | rw[f]
  refine aC<|aZ<|wpAny_throw ?_;exact h _ _ (((zH ..).extBut.push _).push _) {_,dQ _ rfl,U}
def ZH{p q:Qm}{z TI TO f h B r:eH}{k:Qk}{xs ys:Qo iH}{x y a b:iH}{Q:Qj iH->Pw->Prop}(D:Us z TI TO f h B r)
  (hz:Uu s.heap z TI TO .none) (am:Ru s.heap TI (.ref f) (.ref h)) (al:Ru s.heap TO a b)
  (h1:ItB p s.heap f B k) (h2:ItB q s.heap h r k) (ap:SeB p s.heap B xs) (ai:SeB q s.heap r ys) (hx:xs[k]?\x) (hy:ys[k]?\y)
  (hQ:∀h',Uu h' z TI TO (rawInt s⁻¹)->Ru h' TO x y->ItB p h' f B (k+1)->ItB q h' h r (k+1)->Ru h' s⁻¹ x y->
   (∀c o,c≠z->c≠TO->c≠f->c≠h->s.heap.get? c\o->h'.get? c\o)->Q (Qp<|.ref s⁻¹) {s with heap:=h'}):
  Qw ⇑[] A (Rq<|.ref z) Q E s:=by
 have T:s.TypeIs (.ref z) "zip":=⟨_,hz,rfl⟩;unfold Rq;refine aC<|nD<|kB (name:=Su "__next__") T rN<|iD rN T Uo ?_<|JW _;show Qw _ _ (Tv (.ref z) 2 >>= _) _ _ _;refine aC<|fQ hz rfl (x:=.bool Qs) rfl ?_;show Qw _ _ (Tv (.ref z) 3 >>= _) _ _ _;refine aC<|fQ hz rfl (x:=.ref TI) rfl<|aC<|lX am rfl ?_;show Qw _ _ (Rb (.ref z) >>= _) _ _ _;refine aC ?_;unfold Rb;refine aC<|fQ hz rfl (x:=.none) rfl<|aZ ?_;simp only[if_true];refine aC<|jI<|aC<|fQ hz rfl (x:=.ref TO) rfl<|aC<|oG hz ↥_ λh₁ J j=>?_;replace J:Uu h₁ z TI TO .ellipsis:=J;refine aC ?_;simp only[Wm,E2,yH,Vb];refine aC<|aC<|wpAny_onRaise ?_;show Qw _ _ (Rc (.ref f) >>= _) _ _ _;refine aC<|zQ (h1.at λo e=>j.extBut _ _ D.i1z e) (ap.at λo e=>j.extBut _ _ D.l1z e) hx λh₂ aq l=>aZ ?_;have X:Ru h₂ TO a b:=l.extBut _ _ D.TOi1<|j.extBut _ _ D.TOz al;refine aC<|lX X rfl<|aC<|wpAny_updateSeq_pair X λh₃ a1 m=>?_;replace a1:Ru h₃ TO x b:=a1;refine aC<|wpAny_letGo<|aZ ?_;refine aC<|aC<|wpAny_onRaise ?_;show Qw _ _ (Rc (.ref h) >>= _) _ _ _;refine aC<|zQ (h2.at λo e=>m.extBut _ _ D.TOi2.symm<|l.extBut _ _ D.i12.symm<|j.extBut _ _ D.i2z e) (ai.at λo e=>m.extBut _ _ D.l2TO<|l.extBut _ _ D.l2i1<|j.extBut _ _ D.l2z e) hy λh₄ ah u=>aZ ?_
 have a5:Ru h₄ TO x b:=u.extBut _ _ D.TOi2 a1;refine aC<|lX a5 rfl<|aC<|wpAny_updateSeq_pair a5 λd C n=>?_;replace C:Ru d TO x y:=C;refine aC<|wpAny_letGo<|aZ<|aZ ?_;refine aC<|lX C rfl<|aC<|wpAny_newTuple ?_;have hsz:d.objs.size=s⁻¹:=by rw[n.1,u.1,m.1,l.1,j.1]
 have ad:Uu d z TI TO .ellipsis:=n.extBut _ _ D.TOz.symm<|u.extBut _ _ D.i2z.symm<|m.extBut _ _ D.TOz.symm<|l.extBut _ _ D.i1z.symm J;have ak:∀c o,c≠z->c≠TO->c≠f->c≠h->s.heap.get? c\o->d.get? c\o:=λc o i H L M e=>
  n.extBut _ _ H (u.extBut _ _ M<|m.extBut _ _ H<|l.extBut _ _ L<|j.extBut _ _ i e)
 have an:ItB p d f B (k+1):=aq.at λo e=>n.extBut _ _ D.TOi1.symm<|u.extBut _ _ D.i12<|m.extBut _ _ D.TOi1.symm e;have aj:ItB q d h r (k+1):=ah.at λo e=>n.extBut _ _ D.TOi2.symm e;have a8:z<d.objs.size:=cI ad;show Qw _ _ (N4 (.ref z) (.ref d.objs.size) >>= _) _ _ _;refine aC ?_;unfold N4;have ao:Uu (d.push {cls:=.type "tuple",data:=.seq #[x,y]}) z TI TO .ellipsis:=cB _ ad;refine aC<|oG ao ↥_ λh₇ N O=>?_;replace N:Uu h₇ z TI TO (rawInt d.objs.size):=N;refine oG N ↥_ λG I W=>?_
 replace I:Uu G z TI TO (rawInt d.objs.size):=I;have up:∀c o,c≠z->d.get? c\o->G.get? c\o:=λc o i e=>W.extBut _ _ i<|O.extBut _ _ i<|cB _ e;have Z:Ru G d.objs.size x y:=W.extBut _ _ (kC a8)<|O.extBut _ _ (kC a8)<|dQ _ rfl;rw[hsz]at I Z;refine aZ {6,?_};show Qw _ _ (pure<|some<|Qy d.objs.size) _ _ _;refine aZ ?_;rw[hsz];exact hQ G I (up _ _ D.TOz C) (an.at λo e=>up _ o D.i1z e) (aj.at λo e=>up _ o D.i2z e) Z λc o i H L M e=>up c o i<|ak c o i H L M e
def YC{p q:Qm}{z TI TO l m J C:eH}{k:Qk}{xs ys:Qo iH}{a b:iH}{Q:Qj iH->Pw->Prop}(Z:A.handled=Qq)(D:Us z TI TO l m J C)
  (hz:Uu s.heap z TI TO .none) (ai:Ru s.heap TI (.ref l) (.ref m)) (ah:Ru s.heap TO a b)
  (h1:ItB p s.heap l J k) (h2:ItB q s.heap m C k) (aj:SeB p s.heap J xs) (af:SeB q s.heap C ys) (a8:xs[k]?=Qq\/ys[k]?=Qq)
  (hQ:∀h',(∀c o,c≠z->c≠TO->c≠l->c≠m->s.heap.get? c\o->h'.get? c\o)->Q Qq {s with heap:=h'}):Qw ⇑[] A (Rq<|.ref z) Q E s:=by
 have hT:s.TypeIs (.ref z) "zip":=⟨_,hz,rfl⟩;unfold Rq;have d:∀(h':Qa)(e:eH),(∀c o,c≠z->c≠TO->c≠l->c≠m->s.heap.get? c\o->h'.get? c\o)->(∃o,h'.get? e\o/\o.cls=.type "StopIteration")->
   Qw ⇑[] A (do if (<-isInstance (.ref e) (.type "StopIteration"))=Qr then pure Qq else throw (.ref e)) Q E {s with heap:=h'}:=λh' e hk he=>by
  obtain⟨o,ho,hc⟩:=he;exact aC<|vP (T:="StopIteration") (b:=Qr) ⟨o,ho,hc⟩ BL<|aZ<|hQ _ hk
 refine aC<|nD<|kB (name:=Su "__next__") hT rN<|iD rN hT Uo ?_<|JW _;show Qw _ _ (Tv (.ref z) 2 >>= _) _ _ _;refine aC<|fQ hz rfl (x:=.bool Qs) rfl ?_;show Qw _ _ (Tv (.ref z) 3 >>= _) _ _ _;refine aC<|fQ hz rfl (x:=.ref TI) rfl<|aC<|lX ai rfl ?_;show Qw _ _ (Rb (.ref z) >>= _) _ _ _;refine aC ?_;unfold Rb;refine aC<|fQ hz rfl (x:=.none) rfl<|aZ ?_;simp only[if_true];refine aC<|jI<|aC<|fQ hz rfl (x:=.ref TO) rfl<|aC<|oG hz ↥_ λG u i=>?_;replace u:Uu G z TI TO .ellipsis:=u;refine aC ?_;simp only[Wm,E2,yH,Vb];refine aC<|aC<|wpAny_onRaise ?_;show Qw _ _ (Rc (.ref l) >>= _) _ _ _;have N:=h1.at (h':=G) λo e=>i.extBut _ _ D.i1z e;have aa:=aj.at (h':=G) λo e=>i.extBut _ _ D.l1z e;cases hx:xs[k]? with
 | none=>
  refine aC<|DZ Z N aa hx λL e f he=>?_;obtain⟨H,j,n⟩:=he;have W:Uu L z TI TO .ellipsis:=f _ _ D.i1z.symm u;have I:e≠z:=λx=>by subst x;rw[W]at j;cases j;simp at n
  refine oG W ↥_ λO _ a1=>?_
  exact d O e (λc o r _ B _ x=>a1.extBut _ _ r<|f _ _ B<|i.extBut _ _ r x) {H,a1.extBut _ _ I j,n}
 | some x=>
  have hy:ys[k]?=none:=by obtain h|h:=a8;rw[hx]at h;cases h;exact h
  refine aC<|zQ N aa hx λL ak f=>aZ ?_;have X:Ru L TO a b:=f.extBut _ _ D.TOi1<|i.extBut _ _ D.TOz ah;refine aC<|lX X rfl<|aC<|wpAny_updateSeq_pair X λO ag a1=>?_;refine aC<|wpAny_letGo<|aZ ?_;refine aC<|aC<|wpAny_onRaise ?_;show Qw _ _ (Rc (.ref m) >>= _) _ _ _;refine aC<|DZ Z (h2.at λo e=>a1.extBut _ _ D.TOi2.symm<|f.extBut _ _ D.i12.symm<|i.extBut _ _ D.i2z e) (af.at λo e=>a1.extBut _ _ D.l2TO<|f.extBut _ _ D.l2i1<|i.extBut _ _ D.l2z e) hy λh₄ e ac he=>?_
  obtain⟨H,j,n⟩:=he;have ad:Uu h₄ z TI TO .ellipsis:=ac _ _ D.i2z.symm<|a1.extBut _ _ D.TOz.symm<|f.extBut _ _ D.i1z.symm u;have I:e≠z:=λx=>by subst x;rw[ad]at j;cases j;simp at n
  refine oG ad ↥_ λh₅ _ M=>?_
  exact d h₅ e (λc o r c2 B c4 x=>M.extBut _ _ r<|ac _ _ c4<|a1.extBut _ _ c2<|f.extBut _ _ B<|i.extBut _ _ r x) {H,M.extBut _ _ I j,n}
def iM(K:Fq)(tp:Qm)(H:Hp)(a:eH)(xs:Qi V):Prop:=match tp with | true=>SqT K H a xs | false=>SqL K H a xs
def RD(K:Fq)(p q:Qm)(a b:eH):It:=
 ⟨λi H=>∃d e x y,iM K p H a d/\iM K q H b e/\d[i]?\x/\e[i]?\y, λi H v f=>∃T x y,H T=Qq/\v=.ref T/\f=upd H T (.tup [x,y])/\(∀d,iM K p H a d->d[i]?\x)/\∀e,iM K q H b e->e[i]?\y, λi H=>∃d e,iM K p H a d/\iM K q H b e/\(↑d<=i\/↑e<=i)⟩
def Inv.seqB(I:Inv X pins σ H s)(h:iM X.K tp H a xs):∃its:Qi iH,Vals xs its/\SeB tp s.heap a its.toArray/\↑xs<=sizeLine:=by
 cases tp with
 | true=>obtain⟨its,r,p,b⟩:=I.tuple h;exact⟨its,r,p,b⟩
 | false=>obtain⟨its,r,p,b⟩:=I.list h;exact{its,r,p.isList,b}
def Inv.seqB_inj(I:Inv X pins σ H s)(h:iM X.K tp H a xs)(h':iM X.K tp H a ys):xs=ys:=by
 cases tp with
 | true=>exact I.tuple_inj h h'
 | false=>exact I.list_inj h h'
def Jm{P:Py}{w:Qb}{K:Fq}{es:Qi Qc}{k:Qk}{pos:Ud}{p q:Qm}{z TI TO m r L B:eH}(D:Us z TI TO m r L B):
  gM P w K (.Tuple es k pos) (RD K p q L B) [z,TI,TO,m,r] z (λi h=>Uu h z TI TO .none/\Ru h TI (.ref m) (.ref r)/\(∃a b,Ru h TO a b)/\ItB p h m L i/\ItB q h r B i) where
 mem:=by simp
 obj:=λi h st b d=>by
  obtain⟨hz,a1,⟨a,c,l⟩,f,j⟩:=st;simp only[vj0,aN,eC]at d;obtain rfl|rfl|rfl|rfl|rfl:=d
  .exact⟨_,hz,λv e=>by
    have u:Data.fields _=M8 v:=e;cases u⟩
  .exact⟨_,a1,λv e=>by
    have u:Data.seq _ _=M8 v:=e;cases u⟩
  .exact⟨_,l,λv e=>by
    have u:Data.seq _ _=M8 v:=e;cases u⟩
  .exact f.obj
  .exact j.obj
 keep:=λi h h' st kp=>by
  obtain⟨hz,a1,⟨a,c,l⟩,f,j⟩:=st;exact{kp z ↥_ _ hz,kp TI ↥_ _ a1,{a,c,kp TO ↥_ _ l},f.at λo e=>kp m ↥_ o e,j.at λo e=>kp r ↥_ o e}
 item:=by
  intro X T hw hK hc i a3 s σ H E I J st N;subst T hw hK;obtain⟨xs,ys,x,y,G,A,hx,hy⟩:=N;obtain⟨hz,a1,⟨a,c,l⟩,f,j⟩:=st;obtain⟨a7,W,Z,_⟩:=I.seqB G;obtain⟨a9,O,p2,_⟩:=I.seqB A;obtain⟨u1,ah,ag⟩:=W.get hx;obtain⟨u2,ae,al⟩:=O.get hy;have lt:∀{c o},s.heap.get? c\o->s⁻¹≠c:=λe=>kC<|cI e;refine ZH D hz a1 l f j Z p2 (x:=u1) (y:=u2) ⇑[ah] ⇑[ae] λh' ak ab af aj hT C=>?_
  refine{6,wpAny_letOwnedTupleGo_zip (s:={s with heap:=h'}) ak λaa ad n=>?_};have am:aa.get? s⁻¹=Qp {cls:=.type "tuple",data:=.seq [u1,u2].toArray}:=n.extBut _ _ (lt hz) hT;have keep:∀b o,b∉[z,TI,TO,m,r]->s.heap.get? b\o->aa.get? b\o:=λb o d e=>
   n.extBut _ _ (λx=>d<|by simp[x]) (C b o (λx=>d<|by simp[x]) (λx=>d<|by simp[x]) (λx=>d<|by simp[x]) (λx=>d<|by simp[x]) e)
  have I1:Inv X a3 σ (upd H s⁻¹<|.tup [x,y]) {s with heap:=aa}:=I.turnedNew (t':=s.toks) J keep am (.cons ag<|.cons al .nil) (by show 2<=sizeLine;decide);refine{.ref s⁻¹,_,I1,U,{_,x,y,I.hok.fresh<|aV _,U,U,λai M=>by rw[I.seqB_inj M G];exact hx,λai M=>by rw[I.seqB_inj M A];exact hy},
   {ad,n.extBut _ _ D.TIz<|C _ _ D.TIz D.TITO D.TIi1 D.TIi2 a1,{_,_,n.extBut _ _ D.TOz ab},af.at λo e=>n.extBut _ _ D.i1z e,aj.at λo e=>n.extBut _ _ D.i2z e},λb d=>?_}
  obtain⟨o,e,_⟩:∃o,s.heap.get? b\o/\True:=by
   simp only[vj0,aN,eC]at d;obtain rfl|rfl|rfl|rfl|rfl:=d
   .exact⟨_,hz,trivial⟩
   .exact⟨_,a1,trivial⟩
   .exact⟨_,l,trivial⟩
   .obtain⟨o,e,_⟩:=f.obj;exact⟨o,e,trivial⟩
   .obtain⟨o,e,_⟩:=j.obj;exact⟨o,e,trivial⟩
  rw[aE<|cJ<|lt e];exact(J b d).1
 done:=by
  intro X T hw hK hc i a3 s σ H E I J st N;subst T hw hK;obtain⟨xs,ys,G,A,hx⟩:=N;obtain⟨hz,a1,⟨a,c,l⟩,f,j⟩:=st;obtain⟨a7,W,Z,_⟩:=I.seqB G;obtain⟨a9,O,p2,_⟩:=I.seqB A;have L:=W.length;have B:=O.length;refine YC (I.ok.hd hc) D hz a1 l f j Z p2 ?_ λh' C=>{U,I.turnedAll (t':=s.toks) J λb o d e=>C b o (λx=>d<|by simp[x]) (λx=>d<|by simp[x]) (λx=>d<|by simp[x]) (λx=>d<|by simp[x]) e}
  obtain h|h:=hx
  .exact .inl (DM<|by simp;lia)
  .exact .inr (DM<|by simp;lia)
 self:=λ_ _ _ _ _ st h=>wpAny_pyIter_zip st.1 h
abbrev GG(h:Qa)(l1:eH):Qa:=h.push {cls:=.type "tuple_iterator",data:=.fields #[.ref l1,.int 0 0]}
abbrev LC(h:Qa)(l1 l2:eH):Qa:=(GG h l1).push {cls:=.type "tuple_iterator",data:=.fields #[.ref l2,.int 0 0]}
abbrev JE(h:Qa)(l1 l2:eH):Qa:=(LC h l1 l2).push {cls:=.type "tuple",data:=.seq #[.ref h.objs.size,.ref (GG h l1).objs.size]}
abbrev KN(h:Qa)(l1 l2:eH):Qa:=(JE h l1 l2).push {cls:=.type "tuple",data:=.seq #[.none,.none]}
abbrev yE(h:Qa)(l1 l2:eH):Qa:=(KN h l1 l2).push {cls:=.type "zip",data:=.fields #[.none,.bool Qs,.bool Qs,.ref (LC h l1 l2).objs.size,.ref (JE h l1 l2).objs.size]}
def Gs(a b:eH)(xs ys:Qo iH):
  Meets (Px.«zip.__new__» ⟨[.type "zip",.ref a,.ref b],[]⟩) (λ_ R s=>s.heap.IsTuple a xs/\s.heap.IsTuple b ys/\R (.ok<|.ret<|.ref (KN s.heap a b).objs.size) {s with heap:=yE s.heap a b}):=
 .of_wp λprog w A R s h=>by
  obtain⟨m,g,d,tk,os⟩:=s;obtain⟨j,a1,h⟩:=h;have l:=sub_zip;have e:Yf (J9 ⟨m,g,d,tk,os⟩) a xs:=j;have i:Yf (J9 ⟨m.push {cls:=.type "tuple_iterator",data:=.fields #[.ref a,.int 0 0]},g,d,tk,os⟩) b ys:=by
   obtain⟨o,f,r⟩:=a1;exact{o,cB _ f,r}
  wp_walk using uE e,uE i
  exact{6,h}
def Lw(a1:s.heap.IsTuple l1 xs)(q:s.heap.IsTuple l2 ys) (h:∀h',Uu h' (s⁻¹+4) (s⁻¹+2) (s⁻¹+3) .none->Ru h' (s⁻¹+2) (.ref s⁻¹) (.ref<|s⁻¹+1)-> Ru h' (s⁻¹+3) .none .none->h'.IsTupleIter s⁻¹ l1 0->h'.IsTupleIter (s⁻¹+1) l2 0->
   (∀c o,s.heap.get? c\o->h'.get? c\o)->Q (.ref<|s⁻¹+4) {s with heap:=h'}):
  Qw ⇑[] A (call (.type "zip") [.ref l1,.ref l2]) Q E s:=by
 refine A5 F.called_zip ↥?_ (F.typeCall_zip_2 _ _) (F.newCall_zip_2 _ _) (λobj=>F.args_object_init_3 obj _ _) F.entry_zip_new (Gs l1 l2 xs ys) {a1,q,?_};have d:(GG s.heap l1).objs.size=s⁻¹+1:=pS ..;have f:(LC s.heap l1 l2).objs.size=s⁻¹+2:=by rw[pS,d]
 have b:(JE s.heap l1 l2).objs.size=s⁻¹+3:=by rw[pS,f]
 have l:(KN s.heap l1 l2).objs.size=s⁻¹+4:=by rw[pS,b]
 have up:∀c o,(GG s.heap l1).get? c\o->(yE s.heap l1 l2).get? c\o:=λc o e=>cB _<|cB _<|cB _<|cB _ e;have a:(yE s.heap l1 l2).get? (KN s.heap l1 l2).objs.size\_:=dQ _ rfl;have i:(yE s.heap l1 l2).get? (JE s.heap l1 l2).objs.size\_:=cB _<|dQ _ rfl;have j:(yE s.heap l1 l2).get? (LC s.heap l1 l2).objs.size\_:=cB _<|cB _<|dQ _ rfl;have m:(yE s.heap l1 l2).get? (GG s.heap l1).objs.size\_:=cB _<|cB _<|cB _<|dQ _ rfl;have n:(yE s.heap l1 l2).get? s⁻¹\_:=up _ _<|dQ _ rfl;show _/\_;rw[f,b,l]at a;rw[d,f]at j;rw[b]at i;rw[d]at m;rw[l];exact{{_,a,U},h _ a j i {_,n,U,U} {_,m,U,U} λc o x=>up c o<|cB _ x}
def PM(K:Fq)(p:Qm)(e:TA):TI:=λf H R=>e f H λvs d=>∃a b h i,vs=[.ref a,.ref b]/\iM K p d a h/\iM K p d b i/\R (RD K p p a b) d
theorem boot_zip:Ss "zip"\.type "zip":=by first | exact PySem.boot_zip | rfl'
def tY{X:Cx}{p:Qm}{es:Qi Qc}{k:Qk}{G:Ud}{a b:Qc}{ta:TA}{W pos:Ud}(O:Gl X "zip")(Z:X.mg "zip"=Qq)(N:PA X [a,b] ta)
  (hs:X9 (starEach [a,b] X.env=[(Qs,eval a X.env),(Qs,eval b X.env)]) X8) (J:X9 (starEach [b] X.env=[(Qs,eval b X.env)]) X8):
  PI X (.Tuple es k G) (.Call (.Name "zip" W) [a,b] [] pos) (PM X.K p ta):=by
 intro x s σ H R I h;refine L3 (oP I O Z boot_zip<|sK (bD (N pos x s σ H _ I h) λus d ⟨vs,H1,f,r1,q1⟩=>?_) (by rw[hs,J])<|by rw[J];rfl);obtain⟨M,E,xs,ys,e,T,aa,q⟩:=q1;subst e;cases r1 with
 | cons r rr=>
  cases rr with
  | cons r' rr=>
   cases rr;cases r;cases r';obtain⟨a9,ad,u,_⟩:=f.seqB T;obtain⟨a8,ac,p2,_⟩:=f.seqB aa;have z:∀{tp:Qm}{l:eH}{its:Qo iH},SeB tp d.heap l its->l<d⁻¹:=λ{tp l its} h=>by
    cases tp with
    | true=>obtain⟨o,e,_⟩:=(show d.heap.IsTuple l its from h);exact cI e
    | false=>obtain⟨o,e,_⟩:=(show d.heap.IsList l its from h);exact cI e
   have D:Us (d⁻¹+4) (d⁻¹+2) (d⁻¹+3) d⁻¹ (d⁻¹+1) M E:=P8 (z u)<|z p2;have L:∀h',Uu h' (d⁻¹+4) (d⁻¹+2) (d⁻¹+3) .none->Ru h' (d⁻¹+2) (.ref d⁻¹) (.ref<|d⁻¹+1)->
     Ru h' (d⁻¹+3) .none .none->ItB p h' d⁻¹ M 0->ItB p h' (d⁻¹+1) E 0->(∀c o,d.heap.get? c\o->h'.get? c\o)->
     Qw ⇑{X} X.A (Xk<|.ref<|d⁻¹+4) (OP X x σ (.Tuple es k G) R) X.xe {d with heap:=h'}:=λh' hz n a1 j i m=>by
    refine wpAny_pyIter_zip (s:={d with heap:=h'}) hz ?_;refine{_,_,_,_,H1,U,f.kept (t':=d.toks) m,Jm D,{hz,n,{_,_,a1},j,i},λb B=>?_,q};have C:d⁻¹<=b:=by
     simp only[vj0,aN,eC]at B;obtain rfl|rfl|rfl|rfl|rfl:=B
     .exact BQ _ _
     .exact BQ _ _
     .exact BQ _ _
     .exact aV _
     .exact BQ _ _
    exact f.fpOk C<|f.hok.fresh C
   cases p with
   | true=>exact Lw u p2 λh' hz n a1 j i m=>L h' hz n a1 j i m
   | false=>exact call_zip_2 u p2 λh' hz n a1 j i _ m=>L h' hz n a1 j i m
end L2
end
section
namespace PySem
open Sem (wp)
open AutoSeq1 (wpAny_loadPart')
def Kw(l:eH)(items:Qo iH)(n:Qk)(b:Qj eH)(e:Qo (Qj iH)):
  Meets (Px.«enumerate.__new__» ⟨[.type "enumerate",.ref l],[]⟩) (λ_ R s=>s.heap.get? l=Qp {cls:=.type "tuple",dict:=b,data:=.seq items n,slots:=e}/\ R (.ok<|.ret<|.ref (s.heap.push {cls:=.type "tuple_iterator",data:=.fields #[.ref l,.int 0 0]}).objs.size)
    {s with heap:=(s.heap.push {cls:=.type "tuple_iterator",data:=.fields #[.ref l,.int 0 0]}).push {cls:=.type "enumerate",data:=.fields #[.none,.bool Qs,.ref s⁻¹,rawInt 0,.none,.none]}}):=
 .of_wp λf w A R s h=>by
  obtain⟨i,g,d,tk,os⟩:=s;obtain⟨hl,h⟩:=h;have a1:=sub_enumerate;have a:Yf (J9 ⟨i,g,d,tk,os⟩) l items:=⟨_,hl,rfl,n,rfl⟩
  wp_walk using DK hl
  refine wpAny_stack_any λst=>aZ ?_
  split
  .rename_i c _ _ _ _ _
   cases (c == Uq "enumerate")
   .wp_walk using DK hl,uE a
    exact{6,h}
   .wp_walk using DK hl,uE a
    exact{6,h}
  .wp_walk using DK hl,uE a
   exact{6,h}
end PySem
namespace L2
open PySem PySem.Spec PyProof.Rows
open V renaming str->R6,ref->R7,int->R8,non->R9
open SqL renaming of->T1
open SqT renaming of->T2
variable{prog:Py}{w:Qb}{A:Qf}{E:Vp}{s:Pw}
variable{X:Cx}
def Ei{l:eH}{items:Qo iH}{Q:Vp}(i:s.heap.IsTuple l items)
  (h:∀h',Xq h' (s⁻¹+1) s⁻¹ 0 .none->h'.IsTupleIter s⁻¹ l 0->h'.objs.size=s⁻¹+2->
   (∀b o,s.heap.get? b\o->h'.get? b\o)->Q (.ref<|s⁻¹+1) {s with heap:=h'}):
  Qw ⇑[] A (call (.type "enumerate") [.ref l]) Q E s:=by
 obtain⟨⟨c,d,e,f⟩,hl,a,n,hd⟩:=i;replace a:c=.type "tuple":=a;replace hd:e=.seq items n:=hd;subst a hd;refine A5 PySem.F.called_enumerate ↥?_ (PySem.F.typeCall_enumerate_1 _) (PySem.F.newCall_enumerate_1 _) (λobj=>PySem.F.args_object_init_2 obj _) PySem.F.entry_enumerate_new
  (Kw l items n d f) ⟨hl,?_⟩
 have j:(s.heap.push {cls:=.type "tuple_iterator",data:=.fields #[.ref l,.int 0 0]}).objs.size=s⁻¹+1:=pS ..;show _/\_;rw[j];have m:Xq ((s.heap.push {cls:=.type "tuple_iterator",data:=.fields #[.ref l,.int 0 0]}).push {cls:=.type "enumerate",data:=.fields #[.none,.bool Qs,.ref s⁻¹,rawInt 0,.none,.none]}) (s⁻¹+1) s⁻¹ 0 .none:=by
  have:=dQ (s.heap.push {cls:=.type "tuple_iterator",data:=.fields #[.ref l,.int 0 0]})
   (o:={cls:=.type "enumerate",data:=.fields #[.none,.bool Qs,.ref s⁻¹,rawInt 0,.none,.none]}) rfl
  rw[j]at this;exact this
 exact{{_,m,U},h _ m {_,cB _<|dQ _ rfl,U,U} (by rw[pS,j]) λb o x=>cB _<|cB _ x}
def uI(d:A.handled=Qq)(n l:eH)(m:l≠n)(items:Qo iH):
  Draws prog w A n [n,l] items.size (λi v=>items[i]?\v) (λi h=>h.IsTupleIter n l i/\h.IsTuple l items) where
 live:=λ_ _ st=>let ⟨o,ho,_⟩:=st.1;⟨o,ho⟩
 frame:=λ_ _ _ st a=>⟨st.1.at λo e=>a n ↥_ o e,SeB.at (tp:=Qr) st.2 λo e=>a l ↥_ o e⟩
 item:=λi s Q E q st f=>by
  refine zQ (tp:=Qr) st.1 st.2 (x:=items[i]) (by simp[q]) λr b a1=>?_
  exact f _ r s.toks (by simp[q]) {b,SeB.at (tp:=Qr) st.2 λo e=>(a1.2 l m).trans e} a1
 done:=λs Q E st j=>DZ (tp:=Qr) d st.1 st.2 ↥_ j
def Kx{e z l:eH}{i:Qk}{items:Qo iH}{x old:iH}{Q:Qj iH->Pw->Prop}(n:A.handled=Qq)
  (he:Xq s.heap e z i old) (q:s.heap.IsTupleIter z l i) (hl:s.heap.IsTuple l items) (hx:items[i]?\x) (a:e≠z) (h:l≠z) (f:e≠l)
  (r:∀h' tk,IsEnumOut h' e z ((i:Ql)+1) x s⁻¹->h'.IsTupleIter z l (i+1)-> h'.get? s⁻¹=Qp {cls:=.type "tuple",data:=.seq #[.int i tk,x]}->h'.objs.size=s⁻¹+1->
   (∀b o,b≠e->b≠z->s.heap.get? b\o->h'.get? b\o)->Q (Qp<|.ref s⁻¹) {s with heap:=h',toks:=tk+1}):
  Qw ⇑[] A (Rq<|.ref e) Q E s:=by
 have a1:i<items.size:=(Qo.getElem?_eq_some_iff.mp hx).1;refine wpAny_pyNext_enum_itemD (uI (A:=A.in1) n z l h items) he ⟨q,hl⟩ a1 a (by simp[a,f]) λy h' tk d j st u B m=>?_
 rw[hx]at d;cases d;exact r h' tk j st.1 u B m
def Pb{tp:Qm}{l:eH}{items:Qo iH}{Q:Vp}(a:SeB tp s.heap l items)
  (h:∀h',Xq h' (s⁻¹+1) s⁻¹ 0 .none->ItB tp h' s⁻¹ l 0->h'.objs.size=s⁻¹+2->
   (∀b o,s.heap.get? b\o->h'.get? b\o)->Q (.ref<|s⁻¹+1) {s with heap:=h'}):
  Qw ⇑[] A (call (.type "enumerate") [.ref l]) Q E s:=match tp with
 | true=>Ei a h
 | false=>call_enumerate_list a h
def Oi{tp:Qm}{e G l:eH}{i:Qk}{items:Qo iH}{x old:iH}{Q:Qj iH->Pw->Prop}(q:A.handled=Qq)
  (he:Xq s.heap e G i old) (f:ItB tp s.heap G l i) (hl:SeB tp s.heap l items) (hx:items[i]?\x) (a1:e≠G)
  (j:∀h' tk,IsEnumOut h' e G ((i:Ql)+1) x s⁻¹->ItB tp h' G l (i+1)-> h'.get? s⁻¹=Qp {cls:=.type "tuple",data:=.seq #[.int i tk,x]}->
   (∀b o,b≠e->b≠G->s.heap.get? b\o->h'.get? b\o)->Q (Qp<|.ref s⁻¹) {s with heap:=h',toks:=tk+1}):
  Qw ⇑[] A (Rq<|.ref e) Q E s:=match tp with
 | true=>by
  obtain⟨B,h,m,_⟩:=id hl;refine Kx q he f hl hx a1 (λz=>?_) (λz=>?_) λh' tk a b c _ d=>j h' tk a b c d
  .obtain⟨C,r,u,_⟩:=id f;rw[z,r]at h;cases h;exact absurd (u.symm.trans m) ↥?_
  .have n:s.heap.get? e\_:=he;rw[z,h]at n;cases n;exact absurd (show Uq "enumerate"=Uq "tuple" from m) ↥?_
 | false=>wpAny_pyNext_enum_item he f hl hx a1 λh' a b c _ d=>j h' s.toks a b c d
def Bc{tp:Qm}{e q l:eH}{i:Qk}{items:Qo iH}{old:iH}{Q:Qj iH->Pw->Prop}(j:A.handled=Qq)
  (he:Xq s.heap e q i old) (a1:ItB tp s.heap q l i) (hl:SeB tp s.heap l items) (hx:items[i]?=Qq)
  (m:∀h',Tq q s.heap h'->Q Qq {s with heap:=h'}):Qw ⇑[] A (Rq<|.ref e) Q E s:=by
 have a:s.TypeIs (.ref e) "enumerate":=⟨_,he,rfl⟩;unfold Rq;refine aC<|nD<|kB (name:=Su "__next__") a Wk<|iD Wk a PySem.F.entry_enumerate_next ?_<|PySem.F.args_enumerate_next_1 _
 show Qw _ _ (Tv (.ref e) 2 >>= _) _ _ _;refine aC<|fQ he rfl (x:=.ref q) rfl ?_;refine aC<|DZ j a1 hl hx λh' x f d=>?_;obtain⟨o,h,n⟩:=d;refine aC<|vP (T:="StopIteration") (b:=Qr) ⟨o,h,n⟩ BL ?_;exact aZ<|m _ f
def xJ(tp:Qm)(K:Fq)(a:eH):It:=
 ⟨λi H=>∃b x,iM K tp H a b/\b[i]?\x,λi H x d=>∃p y,H p=Qq/\x=.ref p/\d=upd H p (.tup [.int i,y])/\∀b,iM K tp H a b->b[i]?\y,λi H=>∃b,iM K tp H a b/\↑b<=i⟩
def Gx{tp:Qm}{P:Py}{w:Qb}{K:Fq}{es:Qi Qc}{k:Qk}{pos:Ud}(a e it:eH)(M:e≠it):gM P w K (.Tuple es k pos) (xJ tp K a) [e,it] e (λi h=>(∃old,Xq h e it i old)/\ItB tp h it a i) where
 mem:=by simp
 obj:=λi h st b d=>by
  obtain⟨⟨old,he⟩,hi⟩:=st;obtain rfl|d:=vj0.mp d
  .exact⟨_,he,λv z=>by
    have z':Data.fields _=M8 v:=z;cases z'⟩
  .have e:b=it:=⇑[d]
   subst e;exact hi.obj
 keep:=λi h h' st kp=>by
  obtain⟨⟨old,he⟩,hi⟩:=st;exact{{old,kp e ↥_ _ he},hi.at λo x=>kp it ↥_ o x}
 item:=by
  intro X A J C B i L s σ H E I f st n;subst A J C;obtain⟨xs,x,l,hx⟩:=n;obtain⟨⟨old,he⟩,m⟩:=st;obtain⟨its,G,p,hz⟩:=I.seqB l;obtain⟨u,hu,ru⟩:=G.get hx;obtain⟨f0,f1,f2,f3,f4,f5⟩:=f e ↥_;obtain⟨r,Z,g2,W,T,O⟩:=f it ↥_;have a5:e<s⁻¹:=cI he;have a6:it<s⁻¹:=let ⟨_,x,_⟩:=m.obj;cI x
  refine Oi (I.ok.hd B) he m p (x:=u) ⇑[hu] M λh' tk ho a7 hT kk=>?_
  refine{6,wpAny_letOwnedTupleGo_enum (s:={s with heap:=h',toks:=tk+1}) ho λj a9 q=>?_};have aa:s⁻¹≠e:=kC a5;have ac:s⁻¹≠it:=kC a6;have a1:H s⁻¹=none:=I.hok.fresh<|aV _;have keep:∀b o,b≠e->b≠it->s.heap.get? b\o->j.get? b\o:=λb o N h2 e=>(q.2 b N).trans<|kk b o N h2 e;have ae:j.get? s⁻¹=Qp {cls:=.type "tuple",data:=.seq #[.int i tk,u]}:=(q.2 _ aa).trans hT;have I1:Inv X L σ (upd H s⁻¹<|.tup [.int i,x]) {s with heap:=j,toks:=tk+1}:=I.turnedNew (t':=tk+1) f (λb o d e=>keep b o (λz=>d<|by simp[z]) (λz=>d<|by simp[z]) e) ae (.cons ⟨_,rfl⟩<|.cons ru .nil) (by show 2<=sizeLine;decide);have a8:ItB tp j it a (i+1):=a7.at λo y=>(q.2 it M.symm).trans y;have ad:Xq j e it ((i+1:Qk):Ql) u:=⇑[a9]
  refine{.ref s⁻¹,_,I1,U,{_,x,a1,U,U,λys hy=>by rw[I.seqB_inj hy l];exact hx},{⟨u,ad⟩,a8},λb d=>?_};obtain rfl|d:=vj0.mp d
  .rw[aE<|cJ aa];exact f0
  .have e:b=it:=⇑[d]
   subst e;rw[aE<|cJ ac];exact r
 done:=by
  intro X A J C B i L s σ H E I f st n;subst A J C;obtain⟨xs,l,hx⟩:=n;obtain⟨⟨old,he⟩,m⟩:=st;obtain⟨its,G,p,hz⟩:=I.seqB l;obtain⟨r,Z,g2,W,T,O⟩:=f it ↥_;have hl:=G.length;refine Bc (I.ok.hd B) he m p (DM<|by simp;lia) λh' hx=>{U,I.turned (t':=s.toks) (λb o d e=>hx b o d e) r Z W T O}
 self:=λ_ _ _ _ _ st h=>by
  obtain⟨⟨old,he⟩,_⟩:=st;exact J3 he h
def wB(tp:Qm)(K:Fq)(d:TA):TI:=λe H R=>d e H λvs b=>∃a f,vs=[.ref a]/\iM K tp b a f/\R (xJ tp K a) b
theorem boot_enumerate:Ss "enumerate"\.type "enumerate":=by first | exact PySem.boot_enumerate | rfl
def OH(tp:Qm){X:Cx}{es:Qi Qc}{k:Qk}{a1:Ud}{a:Qc}{M:TA}{p pos:Ud}(o:Gl X "enumerate")(B:X.mg "enumerate"=Qq)(n:PA X [a] M)(hs:X9 (starEach [a] X.env=[(Qs,eval a X.env)]) X8):PI X (.Tuple es k a1) (.Call (.Name "enumerate" p) [a] [] pos) (wB tp X.K M):=by
 intro j s N H R I h;refine L3<|oP I o B boot_enumerate<|sK (bD (n pos j s N H _ I h) λus d ⟨vs,m,f,C,E⟩=>?_) hs rfl;obtain⟨l,xs,e,A,q⟩:=E;subst e;cases C with
 | cons r W=>
  cases W;cases r;obtain⟨Z,J,u,hz⟩:=f.seqB A;refine Pb u λL O G T z=>?_;refine J3 (s:={d with heap:=L}) O ?_;have x:Inv X j N m {d with heap:=L}:=f.kept (t':=d.toks) z;refine{d⁻¹+1,[d⁻¹+1,d⁻¹],_,_,m,U,x,Gx l _ _<|Nat.succ_ne_self _,{{_,O},G},λb i=>?_,q};obtain rfl|i:=vj0.mp i
  .exact f.fpOk (lA _)<|f.hok.fresh<|lA _
  .have e:b=d⁻¹:=⇑[i]
   subst e;exact f.fpOk (aV _)<|f.hok.fresh<|aV _
end L2
end
section
namespace L2
open PySem PySem.Spec PyProof.Rows HT
open V renaming str->R6,ref->R7,int->R8,non->R9
open SqL renaming of->T1
open SqT renaming of->T2
def Oj{prog:Py}{w:Qb}{A:Qf}{E:Vp}{s:Pw}{t b:eH}{items:Qo iH}{f d:iH}{lo hi:Qj Ql}{Q:Vp}(a:Vq s.heap t items)(hs:s.heap.IsSliceOf b f d .none)(j:Vr f lo)(l:Vr d hi)
  (e:sIx items.size 0 lo=0/\sIx items.size items.size hi=items.size) (h:Q (.ref t) s):Qw ⇑[] A (Tx (.ref t)<|.ref b) Q E s:=by
 obtain⟨os,a1,i,n⟩:=id hs;have m:s.TypeIs (.ref b) "slice":=⟨os,a1,i⟩;unfold Tx
 try with_reducible refine gQ ?_
 first | refine aC (aZ ?_) | skip
 refine aC<|wpAny_sequenceKey a.typeIs ↥?_ ?_;refine aC<|kB (name:=Su "__getitem__") a.typeIs vr9<|iD vr9 a.typeIs E5 ?_<|args_tuple_getitem _ _
 show Qw _ _ (Px.Tuple.tupleItemsOf (.ref t) >>= _) _ _ s;refine aC<|tupleItemsOf_ a ?_;refine aC<|uG m ?_;rw[bG<|by decide];refine aC<|SY hs j l ?_;show Qw _ _ (if (((sIx items.size 0 lo:Qk):Ql) == 0 && (1:Ql) == 1 && (sIx items.size items.size hi-sIx items.size 0 lo) == items.size)=Qr then _ else _) _ _ s;rw[bG<|by rw[e.1,e.2,M4];simp];unfold Px.Tuple.tupleIsExact;refine aC<|aC<|uG a.typeIs<|aZ ?_;rw[bG<|by decide];exact aC<|jI<|aZ {6,aZ h}
def AT(K:Fq):V->Qj Ql->Qj Ql->Hp->VK->Prop:=λx lo d H Q=>∃a b,x=.ref a/\SqT K H a b/\(HT.sIx ↑b 0 lo=0/\HT.sIx ↑b ↑b d=↑b)/\Q (.ref a) H
def Kr:SlR X (AT X.K):=by
 intro a1 s A H x v n l lo C m Q I i u j e h;obtain⟨a,xs,rfl,z,f,q⟩:=h;cases i;obtain⟨o,r,b,B⟩:=I.tuple z;have d:o.toArray.size=↑xs:=by rw[dN];exact r.length.symm
 exact{"tuple",_,vr9.lookup,b.typeIs,Oj b u j e (by rw[d];exact f) {.ref a,H,I,U,q}}
def Cu:Ts (.type "list") "keys"=pure none:=by rw[pV,pY];kernel_rfl
def Kt(hx:s.heap.get? a\o)(j:o.cls=.type "list")(f:o.data=.seq xs k)(hd:o.dict=Qq)(m:A.handled=Qq)(h:∀h' tk,(∀b ob,s.heap.get? b\ob->h'.get? b\ob)->Q Qq {s with heap:=h',toks:=tk}):
  Qw ⇑[] A (Yj (.ref a) "keys") Q E s:=by
 obtain⟨c,q,r,n⟩:=o;simp only at j f hd;subst j f hd;obtain⟨G,g,d,tk,os⟩:=s;have i:∀a1,(⟨G,g,d,a1,os⟩:Pw).TypeIs (.ref a) "list":=λ_=>⟨_,hx,rfl⟩;have C:=G3;have x:=uh7.lookup;have B:=uh7.bind<|.ref a;have u:=am_list_getattr_none;unfold Yj getAttrBy? getAttrBy
 repeat (any_goals (first | assumption | exact i _ | ((with_reducible show Qw _ _ (call (iH.builtin "list.__getattribute__") _ _) _ _ _);refine rZ uh7 (i _) am_entry_list_getattribute (F.args_list_getattribute_2 _ _) (meets_getattribute_miss_list a xs k n "keys" _ Cu ↥?_<|by size_fits) {hx,m,λh' a1 e l=>?_}) | wp_step))
 obtain⟨J,z,H⟩:=l.there;show Qw _ _ (Ub _ _ _ _ _ _ _) _ _ _;unfold Ub
 repeat (any_goals (first | assumption | wp_step))
 exact h h' a1 l.of.keeps
def Nb:Ts (.type "tuple") "keys"=pure none:=by rw[pV,pY];kernel_rfl
def Ba(hx:s.heap.get? a\o)(j:o.cls=.type "tuple")(f:o.data=.seq xs k)(hd:o.dict=Qq)(m:A.handled=Qq)(h:∀h' tk,(∀b ob,s.heap.get? b\ob->h'.get? b\ob)->Q Qq {s with heap:=h',toks:=tk}):
  Qw ⇑[] A (Yj (.ref a) "keys") Q E s:=by
 obtain⟨c,q,r,n⟩:=o;simp only at j f hd;subst j f hd;obtain⟨G,g,d,tk,os⟩:=s;have i:∀a1,(⟨G,g,d,a1,os⟩:Pw).TypeIs (.ref a) "tuple":=λ_=>⟨_,hx,rfl⟩;have C:=G3;have x:=ug2.lookup;have B:=ug2.bind<|.ref a;have u:=am_tuple_getattr_none;unfold Yj getAttrBy? getAttrBy
 repeat (any_goals (first | assumption | exact i _ | ((with_reducible show Qw _ _ (call (iH.builtin "tuple.__getattribute__") _ _) _ _ _);refine rZ ug2 (i _) am_entry_tuple_getattribute (F.args_tuple_getattribute_2 _ _) (meets_getattribute_miss_tuple a xs k n "keys" _ Nb ↥?_<|by size_fits) {hx,m,λh' a1 e l=>?_}) | wp_step))
 obtain⟨J,z,H⟩:=l.there;show Qw _ _ (Ub _ _ _ _ _ _ _) _ _ _;unfold Ub
 repeat (any_goals (first | assumption | wp_step))
 exact h h' a1 l.of.keeps
def Hj{tp:Qm}{prog:Py}{w:Qb}{A:Qf}{s:Pw}{d l:eH}{items:Qo iH}{k:Qk}{Q:Qj iH->Pw->Prop}{E:Vp}(b:A.handled=Qq)(a:ItB tp s.heap d l k)(hl:SeB tp s.heap l items)(hx:items[k]?=Qq)(h:∀h',Tq d s.heap h'->Q Qq {s with heap:=h'}):Qw ⇑[] A (Rq<|.ref d) Q E s:=by
 cases tp with
 | true=>exact Zx b a hl hx h
 | false=>exact B6 b a hl hx h
def Ey{tp:Qm}{prog:Py}{w:Qb}{A:Qf}{s:Pw}{b l:eH}{items:Qo iH}{k:Qk}{x:iH}{Q:Qj iH->Pw->Prop}{E:Vp}(a:ItB tp s.heap b l k)(hl:SeB tp s.heap l items)(hx:items[k]?\x)(h:∀h',ItB tp h' b l (k+1)->Rf b s.heap h'->Q (Qp x) {s with heap:=h'}):Qw ⇑[] A (Rq<|.ref b) Q E s:=by
 cases tp with
 | true=>exact Zk a hl hx h
 | false=>exact Zz a hl hx h
def OL(tp:Qm)(p:eH):Qg:={cls:=.type (if tp then "tuple_iterator" else "list_iterator"),data:=.fields #[.ref p,.int 0 0]}
def wE{tp:Qm}(h:Qa)(p:eH):ItB tp (h.push<|OL tp p) h.objs.size p 0:=by
 cases tp with
 | true=>exact{_,dQ _ rfl,U,U}
 | false=>exact{_,dQ _ rfl,U,U}
def GO{tp:Qm}{prog:Py}{w:Qb}{A:Qf}{s:Pw}{l:eH}{items:Qo iH}{Q:Vp}{E:Vp}(hl:SeB tp s.heap l items)(h:Q (.ref s⁻¹) {s with heap:=s.heap.push<|OL tp l}):Qw ⇑[] A (Xk<|.ref l) Q E s:=by
 cases tp with
 | true=>exact uE hl h
 | false=>exact wpAny_pyIter_list hl h
def Oc{tp:Qm}{prog:Py}{w:Qb}{A:Qf}{s:Pw}{a:eH}{o:Qg}{xs:Qo iH}{k:Qk}{Q:Qj iH->Pw->Prop}{E:Vp}(hx:s.heap.get? a\o)(e:o.cls=.type (if tp then "tuple" else "list"))(f:o.data=.seq xs k)(hd:o.dict=Qq)(d:A.handled=Qq)(h:∀h' tk,(∀b ob,s.heap.get? b\ob->h'.get? b\ob)->Q Qq {s with heap:=h',toks:=tk}):
  Qw ⇑[] A (Yj (.ref a) "keys") Q E s:=by
 cases tp with
 | true=>exact Ba hx e f hd d h
 | false=>exact Kt hx e f hd d h
def JN:plainId "dict.update.loop"=true:=by rfl'
def ZK:D5 N7 "dict.update.loop"=Qp Px.«dict.update.loop»:=entryFor_of_fast (by kernel_rfl)
def Fv(h:Qa)(its:Qi iH)(kvs:Qi (aK×V)):Prop:=↑its=↑kvs/\∀(j:Qk) p,kvs[j]?\p->∃T b a,its[j]?\.ref T/\h.IsTuple T #[b,a]/\lK p.1 b=Qr/\RelV p.2 a
def RY{kvs:Qi (aK×V)}{j:Qk}{p:aK×V}(h:kvs[j]?\p):cU [] (kvs.take<|j+1)=aX (cU []<|kvs.take j) p.1 p.2:=by
 unfold cU;rw[dE,h,yK];rfl
def Os{tp:Qm}{prog:Py}{w:Qb}{A:Qf}{R:O7->Pw->Prop}{D it l:eH}{its:Qi iH}{kvs:Qi (aK×V)}(hh:A.handled=Qq)(am:l≠D)(ak:l≠it)(E:D≠it)(hz:↑kvs<sizeLine):
  ∀(n j:Qk)(s:Pw)(vs:Qi (aK×iH)),↑kvs-j=n->j<=↑kvs->ItB tp s.heap it l j->SeB tp s.heap l its.toArray->Fv s.heap its kvs->(∀T,Qy T∈its->T≠D/\T≠it)->
  s.heap.DictOf (cR prog w) D vs->KV (cU []<|kvs.take j) vs->
  (∀h' tk i,h'.DictOf (cR prog w) D i->KV (cU [] kvs) i->(∀b o,b≠D->b≠it->s.heap.get? b\o->h'.get? b\o)->R (.ok<|.ret .none) {s with heap:=h',toks:=tk})->
  Tk ⇑[] A (.builtin "dict.update.loop" ⟨[.ref D,.ref it,rawInt j,.none],[]⟩) R s:=by
 intro n
 induction n with
 | zero=>
  intro j s vs hn hj C hl hp h hd f B;have e:j=↑kvs:=by lia
  subst e;refine zV ZK ?_;rw[yZ JN _];show Qw _ A.in1 (Rq (.ref it) >>= _) _ _ s;refine aC<|Hj (A:=A.in1) hh C hl (by simp[hp.1]) λh' O=>?_;show Qw _ A.in1 (Yy D [] >>= _) _ _ _;refine aC<|aZ<|aZ<|B h' s.toks vs ?_ ?_ λb o d a e=>O b o a e
  .exact hd.at λo e=>O D o E e
  .rw[cW<|aV _]at f;exact f
 | succ n ih=>
  intro j s vs hn hj C hl hp h hd f B;have G:j<↑kvs:=by lia
  obtain⟨T,H,I,hi,ht,X,rv⟩:=hp.2 j kvs[j]<|bM G;obtain⟨an,ad⟩:=h T<|dM hi;refine zV ZK ?_;rw[yZ JN _];show Qw _ A.in1 (Rq (.ref it) >>= _) _ _ s;refine aC<|Ey (A:=A.in1) C hl (x:=.ref T) ⇑[hi] λh' Z u=>?_;have z:h'.IsTuple T #[H,I]:=by obtain⟨o,e,r⟩:=ht;exact{o,u.extBut _ _ ad e,r}
  have ai:h'.DictOf (cR prog w) D vs:=hd.at λo e=>u.extBut _ _ E e;obtain⟨ot,J,ec,nt,ed⟩:=id z;have af:↑vs<=sizeLine:=by
   have d:=↑f;have a:=BD (kvs.take j) [];rw[dR]at a;simp at a;lia
  show Qw _ A.in1 (holding [.ref T] _ >>= _) _ _ {s with heap:=h'};refine aC<|gQ<|aC<|wpAny_tryCatch ?_;unfold Px.Dict.pairItems;refine aC<|uG (T:="tuple") ⟨ot,J,ec⟩ ?_;rw[bG<|by decide];refine aC<|lX J ed<|aZ ?_;show Qw _ A.in1 (holding [H,I]<|dictSet D H I) _ _ _;refine gQ<|wpAny_dictSet_pairs (knd:=cR prog w) (k:=kvs[j].1) (hsz:=af) X ai λa al W=>?_;refine aZ {FA JN _,?_};have q:∀b o,b≠D->b≠it->s.heap.get? b\o->a.get? b\o:=λb o d m e=>W.extBut _ _ d<|u.extBut _ _ m e;refine ih (j+1) {s with heap:=a,toks:=s.toks+1} _ ∅ G (Z.at λo e=>W.extBut _ _ (cJ E) e) (hl.at λo e=>q l o am ak e) {hp.1,λj' p ac=>?_} h al ?_ λm tk i ab aj kk=>?_
  .obtain⟨L,ag,ah,N,z,a1,ae⟩:=hp.2 j' p ac;obtain⟨q1,q2⟩:=h L<|dM N;obtain⟨o,e,r⟩:=z;exact{L,ag,ah,N,{o,q _ _ q1 q2 e,r},a1,ae}
  .rw[RY<|bM G];exact f.put _ rv
  .exact B m tk i ab aj λb o d M e=>kk b o d M<|q b o d M e
def XW(K:Fq)(tp:Qm)(H:Hp)(a:eH)(xs:Qi V):Prop:=match tp with | true=>H a=Qp (.tup xs) | false=>SqL K H a xs
def Inv.seqD{tp:Qm}(I:Inv X pins σ H s)(h:XW X.K tp H a xs):∃its:Qi iH,Vals xs its/\SeB tp s.heap a its.toArray/\↑xs<=sizeLine/\∃i n,s.heap.get? a\i/\i.cls=.type (if tp then "tuple" else "list")/\i.dict=Qq/\i.data=.seq its.toArray n:=by
 cases tp with
 | true=>
  obtain⟨⟨z,f,b,d⟩,its,r,o,e,c,n,hd⟩:=Rd.ok (.inl h) I.hok;rw[e]at b;cases b;exact{its,r,{_,e,c,n,hd},z,_,n,e,c,d,hd}
 | false=>
  obtain⟨its,r,p,j⟩:=I.list h;obtain⟨o,n,e,c,d,hd⟩:=id p;exact{its,r,p.isList,j,o,n,e,c,d,hd}
def OQ(tp:Qm)(K:Fq):Qi V->Hp->VK->Prop:=λe H Q=>∃(p:eH)(d:Z3)(a:Qi (aK×V)),e=[.ref p]/\XW K tp H p (d.map R7)/\↑d=↑a/\↑a<sizeLine/\
 (∀(j:Qk) t b,d[j]?\t->a[j]?\b->SqT K H t [kV b.1,b.2])/\∀l,H l=Qq->Q (.ref l) (upd H l<|.dK<|cU [] a)
def ZX(tp:Qm)(N:X.calm=Qr):CallR X (.type "dict") (OQ tp X.K):=by
 intro ap s σ H xs us Q I r h;obtain⟨p,ts,kvs,rfl,hq,an,am,a7,q⟩:=h;obtain⟨u,rfl,rx⟩:=kH r;cases rx;obtain⟨its,Z,pl,hz,L,nl,C,G,a6,al⟩:=I.seqD hq;have M:p<s⁻¹:=cI C;have aq:↑its=↑ts:=by have:=Z.length;rw[aF]at this;exact this.symm
 have aa:∀(j:Qk) t,ts[j]?\t->its[j]?\.ref t:=λj t e=>by
  obtain⟨u,hu,ru⟩:=Z.get (i:=j) (x:=R7 t) (by rw[bP,e];rfl);cases ru;exact hu
 refine O4 (Q₁:=λobj W=>obj=.ref s⁻¹/\W={s with heap:=s.heap.push {cls:=.type "dict",data:=.dict #[]}}) F.kt_called_dict (F.kt_typeCall_dict_1 _) F.entry_dict_init (kt_code_dict_new _ ⟨rfl,rfl⟩) ?_;rintro obj W ⟨rfl,rfl⟩;have z:(s.heap.push {cls:=.type "dict",data:=.dict #[]}).DictOf (cR X.prog X.w) s⁻¹ []:=Qa.DictOf.new s.heap;exists z.typeIs,F.args_dict_init_2 _ _;unfold Px.«dict.__init__»;refine aC ?_;unfold Yx;refine aC<|KU z.typeIs ?_;show Qw _ _ (pure (s⁻¹,[Qy p])) _ _ _;refine aZ ?_;show Qw _ _ (Uv "dict.__init__" s⁻¹ (.ref p) [] .none) _ _ _;unfold Uv;have ad:(s.heap.push {cls:=.type "dict",data:=.dict #[]}).get? p\L:=cB _ C;refine aC<|uG (T:=if tp then "tuple" else "list") ⟨L,ad,G⟩ ?_;rw[bG<|by cases tp <;> decide];refine aC<|Oc (A:=X.A.in1.in1) ad G al a6 (I.ok.hd N) λd ah J=>?_;show Qw _ _ (rule _ >>= _) _ _ _;refine aC<|jI ?_;have a1:∀b o,s.heap.get? b\o->d.get? b\o:=λb o e=>J b o<|cB _ e;have O:SeB tp d p its.toArray:=pl.at λo e=>a1 p o e;have B:d.DictOf (cR X.prog X.w) s⁻¹ []:=z.at λo e=>J _ o e;have m:s⁻¹<d.objs.size:=by obtain⟨_,_,_,e,_⟩:=B;exact cI e
 refine aC<|GO (s:={s with heap:=d,toks:=ah}) O<|aZ {FA JN _,?_};have a2:∀b o,s.heap.get? b\o->(d.push<|OL tp p).get? b\o:=λb o e=>cB _<|a1 b o e;have a5:∀(j:Qk) t,ts[j]?\t->t<s⁻¹/\∃n kvv vv,kvs[j]?\n/\s.heap.IsTuple t #[kvv,vv]/\lK n.1 kvv=Qr/\RelV n.2 vv:=λj t e=>by
  obtain⟨f,_⟩:=vh2.mp e;have hk:kvs[j]?=Qp kvs[j]:=bM ∅;obtain⟨au,rt,pt,_⟩:=I.tuple<|a7 j t _ e hk;cases rt with
  | cons r1 rr=>
   cases rr with
   | cons r2 rr=>
    cases rr;obtain⟨o,eo,rest⟩:=id pt;exact{cI eo,_,_,_,hk,pt,nQ (P:=X.prog) (w:=X.w) r1,r2}
 refine Os (A:=X.A.in1) (I.ok.hd N) (its:=its) (kvs:=kvs) (dB M) (dB<|Um M m) (dB m) am ↑kvs 0 _ [] ↥_ (cE _) (wE _ _) (O.at λo e=>cB _ e) {∅,λj n f=>?_} (λT hT=>?_)
  (B.at λo e=>cB _ e) .nil λh' tk ai ak ag kk=>?_
 .obtain⟨ar,_⟩:=vh2.mp f;have l:ts[j]?=Qp ts[j]:=bM ∅;obtain⟨_,as,a,b,E,aj,h3,h4⟩:=a5 j _ l;rw[f]at E;cases E;obtain⟨o,e,r⟩:=aj;exact{_,a,b,aa j _ l,{o,a2 _ _ e,r},h3,h4}
 .obtain⟨j,f,e⟩:=pI hT;have l:ts[j]?=Qp ts[j]:=bM ∅;have:=aa j _ l;rw[bM f,e]at this;cases this;have:=(a5 j _ l).1;exact{dB this,dB<|Um this m}
 .refine⟨rfl,⟨.ref s⁻¹,_,?_,rfl,q _<|I.hok.fresh<|aV _⟩⟩;have ao:↑(cU [] kvs)<=sizeLine:=by
   have:=BD kvs [];simp at this;lia
  have a8:(s⁻¹ == Rh)=false:=by
   have:=I.big;simpa using kC this
  exact I.laid (t':=tk) (o:=.dK<|cU [] kvs) (λb o e=>kk b o (dB<|cI e) (dB<|Um (cI e) m)<|a2 b o e) (aV _) ⟨ao,a8,ai,ag,ak⟩
abbrev xF:=OQ Qs
abbrev uR:=OQ Qr
def MA(a:X.calm=Qr):CallR X (.type "dict") (xF X.K):=ZX Qs a
def UB(a:X.calm=Qr):CallR X (.type "dict") (uR X.K):=ZX Qr a
section
variable{tg:Qc}
end
abbrev xI(h:Qa)(z TI TO T:eH)(f:Qm):Prop:=
 h.get? z=Qp {cls:=.type "zip",dict:=Qq,data:=.fields #[rawInt T,.bool f,.bool Qs,.ref TI,.ref TO],slots:=#[]}
section
variable{R:O7->Pw->Prop}
def VO{z TI TO T:eH}{f:Qm}{b:Qg}{Q:Qm->Pw->Prop}(hz:xI s.heap z TI TO T f)(e:s.heap.get? T\b)
  (h:∀a,xI a z TI TO T Qr->Rf z s.heap a->Q Qs {s with heap:=a}):Qw ⇑[] A (Rb<|.ref z) Q E s:=by
 unfold Rb;refine aC<|fQ hz rfl (x:=rawInt T) rfl ?_;show Qw _ _ (loadIfAlive ((T:Ql).toNat) >>= _) _ _ _;rw[rD];refine aC<|PySem.W.kdx_alive e ?_;show Qw _ _ (Tv (.ref z) 1 >>= _) _ _ s;refine aC<|fQ hz rfl (x:=.bool f) rfl ?_;cases f with
 | true=>exact aZ<|h s.heap hz<|Xr _ _
 | false=>exact aC<|oG hz ↥_ λa d a1=>aZ<|h a d a1
def Bq{z TI TO a b j i T:eH}{f:Qm}{n:Qg}{k:Qk}{xs ys:Qo iH}{x y:iH}{Q:Qj iH->Pw->Prop}(D:Us z TI TO a b j i)
  (hz:xI s.heap z TI TO T f) (B:s.heap.get? T\n) (q:Ru s.heap TI (.ref a) (.ref b))
  (H:s.heap.IsListIter a j k) (u:s.heap.IsListIter b i k) (O:s.heap.IsList j xs) (L:s.heap.IsList i ys) (hx:xs[k]?\x) (C:ys[k]?\y)
  (G:∀h',xI h' z TI TO T Qr->h'.IsListIter a j (k+1)->h'.IsListIter b i (k+1)->Ru h' s⁻¹ x y->
   (∀c o,c≠z->c≠a->c≠b->s.heap.get? c\o->h'.get? c\o)->Q (Qp<|.ref s⁻¹) {s with heap:=h'}):
  Qw ⇑[] A (Rq<|.ref z) Q E s:=by
 have ty:s.TypeIs (.ref z) "zip":=⟨_,hz,rfl⟩;unfold Rq;refine aC<|nD<|kB (name:=Su "__next__") ty rN<|iD rN ty Uo ?_<|JW _;show Qw _ _ (Tv (.ref z) 2 >>= _) _ _ s;refine aC<|fQ hz rfl (x:=.bool Qs) rfl ?_;show Qw _ _ (Tv (.ref z) 3 >>= _) _ _ s;refine aC<|fQ hz rfl (x:=.ref TI) rfl<|aC<|lX q rfl ?_;show Qw _ _ (Rb (.ref z) >>= _) _ _ s;refine aC<|VO hz B λZ M h=>?_;simp only[oI,iF];refine aC ?_;simp only[Zu,yH,Vb];refine aC<|aC<|gQ ?_;show Qw _ _ (Rc (.ref a) >>= _) _ _ _;refine aC<|zQ (tp:=Qs) (H.at λo e=>h.extBut _ _ D.i1z e) (O.at λo e=>h.extBut _ _ D.l1z e) hx λX J a1=>aZ ?_;refine aZ ?_;refine aC<|aC<|gQ ?_;show Qw _ _ (Rc (.ref b) >>= _) _ _ _;refine aC<|zQ (tp:=Qs) (u.at λo e=>a1.extBut _ _ D.i12.symm<|h.extBut _ _ D.i2z e) (L.at λo e=>a1.extBut _ _ D.l2i1<|h.extBut _ _ D.l2z e) C λd r l=>aZ ?_;refine aZ<|aZ ?_;have hsz:d.objs.size=s⁻¹:=by rw[l.1,a1.1,h.1]
 show Qw _ _ (D4 [x,y] >>= _) _ _ _;refine aC<|wpAny_newTuple ?_;refine aZ {6,?_};show Qw _ _ (pure<|some<|Qy d.objs.size) _ _ _;refine aZ ?_;have up:∀c o,c≠z->c≠a->c≠b->s.heap.get? c\o->(d.push {cls:=.type "tuple",data:=.seq #[x,y]}).get? c\o:=λc o W N I e=>cB _<|l.extBut _ _ I<|a1.extBut _ _ N<|h.extBut _ _ W e;have m:Ru (d.push {cls:=.type "tuple",data:=.seq #[x,y]}) d.objs.size x y:=dQ _ rfl;rw[hsz]at m ⊢;refine G _ (cB _<|l.extBut _ _ D.i2z.symm<|a1.extBut _ _ D.i1z.symm M) ?_ ?_ m up
 .exact(show Wv X a j (k+1) from J).at λo e=>cB _<|l.extBut _ _ D.i12 e
 .exact(show Wv d b i (k+1) from r).at λo e=>cB _ e
def Fj{z TI TO a i h u T:eH}{f:Qm}{l:Qg}{k:Qk}{xs:Qo iH}{Q:Qj iH->Pw->Prop}(G:A.handled=Qq)(D:Us z TI TO a i h u)
  (hz:xI s.heap z TI TO T f) (L:s.heap.get? T\l) (j:Ru s.heap TI (.ref a) (.ref i))
  (r:s.heap.IsListIter a h k) (C:s.heap.IsList h xs) (hx:xs[k]?=Qq)
  (n:∀h',(∀c o,c≠z->c≠a->s.heap.get? c\o->h'.get? c\o)->Q Qq {s with heap:=h'}):Qw ⇑[] A (Rq<|.ref z) Q E s:=by
 have W:s.TypeIs (.ref z) "zip":=⟨_,hz,rfl⟩;unfold Rq;refine aC<|nD<|kB (name:=Su "__next__") W rN<|iD rN W Uo ?_<|JW _;show Qw _ _ (Tv (.ref z) 2 >>= _) _ _ s;refine aC<|fQ hz rfl (x:=.bool Qs) rfl ?_;show Qw _ _ (Tv (.ref z) 3 >>= _) _ _ s;refine aC<|fQ hz rfl (x:=.ref TI) rfl<|aC<|lX j rfl ?_;show Qw _ _ (Rb (.ref z) >>= _) _ _ s;refine aC<|VO hz L λN M d=>?_;simp only[oI,iF];refine aC ?_;simp only[Zu,yH,Vb];refine aC<|aC<|gQ ?_;show Qw _ _ (Rc (.ref a) >>= _) _ _ _;refine aC<|DZ (tp:=Qs) G (r.at λo e=>d.extBut _ _ D.i1z e) (C.at λo e=>d.extBut _ _ D.l1z e) hx λO e a1 X=>?_;obtain⟨H,m,B⟩:=X;exact aC<|vP (T:="StopIteration") (b:=Qr) ⟨H,m,B⟩ BL<|aZ<|n _ λc o J I q=>a1 _ _ I<|d.extBut _ _ J q
def Do:Ts (.type "zip") "__len__"=pure none:=by(rw[pV,pY];kernel_rfl)
def Dt:Ts (.type "zip") "__length_hint__"=pure none:=by(rw[pV,pY];kernel_rfl)
def Ni(a:s.TypeIs (.ref z) "zip")(h:Q Qr s):Qw ⇑[] A (Px.List.listLengthHint<|.ref z) Q E s:=by
 unfold Px.List.listLengthHint;refine aC<|oO a Do ?_;refine Vf (λc=>absurd c<|by decide) λ_=>?_;refine Vf (λc=>absurd c<|by decide) λ_=>?_;refine aC<|oO a Dt ?_;exact aZ h
def SqL.up{K:Fq}{H H':Hp}(h:SqL K H l xs)(u:∀b o,H b\o->H' b\o):SqL K H' l xs:=h.imp (λh=>h.imp (u _ _) λ⟨o,e⟩=>⟨o,u _ _ e⟩) id
def BV(H:Hp)(xs ys:Qi V)(ts:Z3):Prop:=∀(j:Qk) t,ts[j]?\t->∃x y,xs[j]?\x/\ys[j]?\y/\H t\.tup [x,y]
structure ZL(X:Cx)(pins:Z1)(σ:St)(H₁ H:Hp)(s:Pw)(S z TI TO i1 i2 l1 l2:eH)(xs ys:Qi V)(ts:Z3):Prop where
 I:Inv X pins σ H s
 hf:∀b∈[z,TO,i1,i2],fK X pins H b
 zs:(ts=[]/\Uu s.heap z TI TO .none)\/∃T f,T∈ts/\xI s.heap z TI TO T f
 tI:Ru s.heap TI (.ref i1) (.ref i2)
 tO:∃a b,Ru s.heap TO a b
 a1:s.heap.IsListIter i1 l1 ↑ts
 a2:s.heap.IsListIter i2 l2 ↑ts
 hS:H S\(.lst<|ts.map R7)
 up:∀b o,H₁ b\o->H b\o
 prs:BV H xs ys ts
def Ie{X:Cx}{a0:Z1}{σ:St}{H₁:Hp}{S z TI TO d i l1 l2:eH}{xs ys:Qi V}(hh:A.handled=Qq)(D:Us z TI TO d i l1 l2)(nT:TI≠S)(a6:SqL X.K H₁ l1 xs)(a4:SqL X.K H₁ l2 ys)(hl:↑xs=↑ys)(n1:H₁ S=Qq)(res:iH)
  (hR:∀H s ts,↑ts=↑xs->Inv X a0 σ H s->H S\(.lst<|ts.map R7)->(∀b o,H₁ b\o->H b\o)->BV H xs ys ts->R (.ok<|.ret res) s):
  ∀(m:Qk)(ts:Z3)(H:Hp)(s:Pw),↑ts+m=↑xs->ZL X a0 σ H₁ H s S z TI TO d i l1 l2 xs ys ts->Tk ⇑{X} A (.builtin "list.extend.loop" ⟨[.ref S,.ref z,res],[]⟩) R s:=by
 have out:∀{c:eH},c∉[z,TO,d,i]->c≠z/\c≠TO/\c≠d/\c≠i:=λn=>⇑[n]
 intro m
 induction m with
 | zero=>
  intro ts H s hm ⟨I,M,zs,L,⟨a,b,W⟩,a1,a2,B,up,O⟩;refine zV C5 ?_;rw[yZ IH _];show Qw _ A.in1 (Rq (.ref z) >>= _) _ _ _;obtain⟨u1,r1,p1,_⟩:=I.list<|a6.up up;obtain⟨u2,r2,p2,_⟩:=I.list<|a4.up up;have e1:u1.toArray[↑ts]?=none:=DM (by rw[dN,<-↑r1];lia);have a7:∀h',(∀c o,c≠z->c≠TO->c≠d->c≠i->s.heap.get? c\o->h'.get? c\o)->R (.ok<|.ret res) {s with heap:=h'}:=λh' k=>
   hR H _ ts hm (I.turnedAll (t':=s.toks) M λb o n e=>k b o (out n).1 (out n).2.1 (out n).2.2.1 (out n).2.2.2 e) B up O
  obtain⟨e,hz⟩|⟨T,f,J,hz⟩:=zs
  .exact aC<|YC (A:=A.in1) (p:=Qs) (q:=Qs) hh D hz L W a1 a2 p1.isList p2.isList (.inl e1) λh' k=>aZ<|a7 h' k
  .obtain⟨j,l⟩:=vn2.mp J;obtain⟨_,_,_,_,eT⟩:=O j T l;obtain⟨_,its,_,_,gT,_⟩:=I.hok T _ eT;exact aC<|Fj (A:=A.in1) hh D hz gT L a1 p1.isList e1 λh' k=>aZ<|a7 h' λc o Z _ c3 _ e=>k c o Z c3 e
 | succ m ih=>
  intro ts H s hm ⟨I,M,zs,L,⟨a,b,W⟩,a1,a2,B,up,O⟩;refine zV C5 ?_;rw[yZ IH _];show Qw _ A.in1 (Rq (.ref z) >>= _) _ _ _;obtain⟨u1,r1,p1,z1⟩:=I.list<|a6.up up;obtain⟨u2,r2,p2,_⟩:=I.list<|a4.up up;have N:xs[↑ts]?\xs[↑ts]'∅:=bM ∅;have g2:ys[↑ts]?\ys[↑ts]'∅:=bM ∅;obtain⟨u,eu,ru⟩:=r1.get N;obtain⟨v,ev,rv⟩:=r2.get g2;have nx:∀E,Qw ⇑{X} A.in1 (Rq<|.ref z) (λr s'=>∃h',r\.ref s⁻¹/\s'={s with heap:=h'}/\(∃T f,T∈ts++[s⁻¹]/\xI h' z TI TO T f)/\(∃a b,Ru h' TO a b)/\
    h'.IsListIter d l1 (↑ts+1)/\h'.IsListIter i l2 (↑ts+1)/\Ru h' s⁻¹ u v/\∀c o,c≠z->c≠TO->c≠d->c≠i->s.heap.get? c\o->h'.get? c\o) E s:=λE=>by
   obtain⟨e,hz⟩|⟨T,f,J,hz⟩:=zs
   .exact ZH (p:=Qs) (q:=Qs) D hz L W a1 a2 p1.isList p2.isList (x:=u) (y:=v) ⇑[eu] ⇑[ev] λh' N g2 g3 g4 g5 C=>⟨h',rfl,rfl,⟨_,Qs,jE _<|vj1.mpr rfl,N⟩,⟨_,_,g2⟩,g3,g4,g5,C⟩
   .obtain⟨j,l⟩:=vn2.mp J;obtain⟨_,_,_,_,eT⟩:=O j T l;obtain⟨_,its,_,_,gT,_⟩:=I.hok T _ eT;exact Bq D hz gT L a1 a2 p1.isList p2.isList (x:=u) (y:=v) ⇑[eu] ⇑[ev] λh' N g3 g4 g5 C=>{h',U,U,{T,Qr,nC _ J,N},{_,_,C _ _ D.TOz D.TOi1 D.TOi2 W},g3,g4,g5,λc o Z _ c3 c4 e=>C c o Z c3 c4 e}
  refine aC<|bD (nx _) λr s' ⟨h',er,es,⟨T,f,J,hz⟩,⟨a',b',a8⟩,Z,c2,hp,C⟩=>?_;subst er es;have I1:=I.turnedNew (t':=s.toks) M (λb o n e=>C b o (out n).1 (out n).2.1 (out n).2.2.1 (out n).2.2.2 e) hp (.cons ru<|.cons rv .nil) (by show 2<=sizeLine;decide);have nS:∀{b o},H b\o->b≠s⁻¹:=λe=>dB<|I.hok.lt e;have a5:=(aE (o:=.tup [xs[↑ts]'∅,ys[↑ts]'∅])<|nS B).trans B;obtain⟨z2,its,n,rr,le,ge⟩:=I1.lstM a5;rw[aF]at le;have I2:=I1.lset (t':=s.toks) (ys:=(ts++[s⁻¹]).map R7) a5 ge (f:=(·.push (Qy s⁻¹))) (its':=its++[.ref s⁻¹]) ↥_ (by rw[bU];exact rr.append<|.cons rfl .nil) (by simp;lia);have k2:∀b o,b≠S->h'.get? b\o->(h'.update S<|Td (·.push (Qy s⁻¹))).get? b\o:=λb o n e=>(AY _ _<|cJ n).trans e;have fS:∀b∈[z,TO,d,i],b≠S:=λb G e=>by
   have:=(M b G).1;rw[e,B]at this;cases this
  have lt:∀b∈[z,TO,d,i],b≠s⁻¹:=by
   obtain⟨_,h1,_⟩:=a1;obtain⟨_,h2,_⟩:=a2;have hz:∃o,s.heap.get? z\o:=by
    obtain⟨_,hz⟩|⟨_,_,_,hz⟩:=zs
    .exact⟨_,hz⟩
    .exact⟨_,hz⟩
   obtain⟨_,hz⟩:=hz;simp only[vn4];exact{dB<|cI hz,dB<|cI W,dB<|cI h1,dB<|cI h2,λ_ h=>nomatch h}
  show Qw _ A.in1 (Zl S (·.push (Qy s⁻¹)) >>= _) _ _ _;refine aC (wpAny_updateSeq ge rfl (aZ {FA IH _,ih (ts++[s⁻¹]) _ _ (by simp;lia) {I2,λb G=>{?_,(M b G).2},.inr {T,f,J,k2 _ _ (fS z<|by simp) hz},k2 _ _ nT<|C _ _ D.TIz D.TITO D.TIi1 D.TIi2 L,{a',b',k2 _ _ (fS TO<|by simp) a8},
   by rw[bK];exact Z.at λo e=>k2 _ o (fS d<|by simp) e,by rw[bK];exact c2.at λo e=>k2 _ o (fS i<|by simp) e,zb0,λb o e=>?_,λj t e=>?_}}) ?_ ?_)
  .rw[aE<|fS b G,aE<|lt b G];exact(M b G).1
  .rw[aE<|bF e n1,aE<|nS<|up b o e];exact up b o e
  .obtain l|l:=nN j ↑ts
   .rw[nV l]at e;obtain⟨x,y,e1,e2,e3⟩:=O j t e;exists x,y,e1,e2;rw[aE (λq=>by rw[q,B]at e3;cases e3),aE<|nS e3];exact e3
   .rw[kU l]at e;obtain⟨rfl,rfl⟩:j=↑ts/\s⁻¹=t:=by
     cases h0:j-↑ts with
     | zero=>rw[h0]at e;exact{∅,iZ e}
     | succ k=>rw[h0]at e;cases e
    exact{_,_,N,g2,by rw[aE (nS B).symm];exact zb0}
  .rw[dN,<-le];lia
  .show(its.toArray.push<|Qy s⁻¹).size<=sizeLine+1;rw[C7,dN,<-le];lia
end
theorem boot_list:Ss "list"\.type "list":=by first | exact PySem.boot_list | rfl'
def Eb(K:Fq)(n:TA):TE:=λq H Q=>n q H λvs e=>∃(i m:eH)(d h:Qi V),vs=[.ref i,.ref m]/\SqL K e i d/\SqL K e m h/\↑d=↑h/\
 ∀(l:eH)(f:Z3)(a:Hp),(∀b o,e b\o->a b\o)->e l=Qq->a l\(.lst<|f.map R7)->↑f=↑d->
  (∀(j:Qk) t,f[j]?\t->∃x y,d[j]?\x/\h[j]?\y/\a t\.tup [x,y])->Q (.ref l) a
def Nm{X:Cx}{a b:Qc}{ta:TA}{p z pos n:Ud}(hc:X.calm=Qr)(a6:Gl X "list")(a9:X.mg "list"=Qq)(a7:Gl X "zip")(ab:X.mg "zip"=Qq)(ha:PA X [a,b] ta)
  (hs:X9 (starEach [a,b] X.env=[(Qs,eval a X.env),(Qs,eval b X.env)]) X8) (W:X9 (starEach [b] X.env=[(Qs,eval b X.env)]) X8)
  (he:X9 (starEach [.Call (.Name "zip" z) [a,b] [] n] X.env=[(Qs,eval (.Call (.Name "zip" z) [a,b] [] n) X.env)]) X8):
  PE X (.Call (.Name "list" p) [.Call (.Name "zip" z) [a,b] [] n] [] pos) (Eb X.K ta):=by
 intro a1 s σ H Q I h;refine zG<|oP I a6 a9 boot_list ?_;refine sK ?_ (by rw[he];rfl) rfl;rw[he];show Qw _ _ (P9<|(Qs,eval (.Call (.Name "zip" z) [a,b] [] n) X.env)::[]) _ _ s;refine lY<|bD (Q:=λu O=>Qw ⇑{X} X.A (call (.type "list") [u]) (EP X a1 σ Q) X.xe O) ?_ λu O q=>pQ q;refine L3 (oP I a7 ab boot_zip<|sK (bD (ha n a1 s σ H _ I h) λus d ⟨vs,C,i,r1,q1⟩=>?_) (by rw[hs,W])<|by rw[W];rfl);obtain⟨l1,l2,xs,ys,e,a5,L,hl,q⟩:=q1;subst e;obtain _|⟨r,_|⟨r',_|_⟩⟩:=r1;cases r;cases r';obtain⟨u1,ad,T,zz⟩:=i.list a5;obtain⟨u2,ac,p2,_⟩:=i.list L;have lt:∀{l u},d.heap.IsList l u->l<d⁻¹:=λh=>by obtain⟨o,e,_⟩:=h;exact cI e
 have D:Us (d⁻¹+4) (d⁻¹+2) (d⁻¹+3) d⁻¹ (d⁻¹+1) l1 l2:=P8 (lt T.isList)<|lt p2.isList;refine call_zip_2 T.isList p2.isList λh' hz a8 aa x E hsz kk=>?_;refine O4 (s:={d with heap:=h'}) (Q₁:=λob Z=>ob=.ref h'.objs.size/\Z={d with heap:=h'.push {cls:=.type "list",data:=.seq #[]}}) F.called_list (F.typeCall_list_1 _) F.entry_list_init (code_list_new _ ⟨rfl,rfl⟩) λob Z q'=>?_;obtain⟨rfl,rfl⟩:=q';have B:(h'.push {cls:=.type "list",data:=.seq #[]}).get? h'.objs.size=Qp {cls:=.type "list",data:=.seq #[]}:=dQ _ rfl;exists {_,B,U},F.args_list_init_2 _ _;show Qw _ X.A.in1.in1 (do let old <-Px.List.listItems (.ref h'.objs.size);Px.List.listUpdate (.ref h'.objs.size) λ_=>#[];letGo old.toList.reverse;Tw (.ref h'.objs.size) (.ref<|d⁻¹+4) .none) _ _ _;refine aC ?_;unfold Px.List.listItems;refine aC<|lX B rfl<|aZ ?_;show Qw _ _ (Zl h'.objs.size (λ_=>#[]) >>= λ_=>letGo (#[]:Qo iH).toList.reverse >>= λ_=>Tw (.ref h'.objs.size) (.ref<|d⁻¹+4) .none) _ _ _;refine aC<|wpAny_updateSeq B rfl ?_;have g2:=tJ (Td λ_=>(#[]:Qo iH)) B rfl;refine aC<|wpAny_letGo ?_;have up:∀(b:eH)(o:Qg){f:Qg->Qg}{h:Qa},(h'.get? b\o->h.get? b\o)->h'.get? b\o->(h.update h'.objs.size f).get? b\o:=λb o f h k e=>(AY _ _<|kC<|cI e).trans<|k e;have kp:∀b o,h'.get? b\o->((h'.push {cls:=.type "list",data:=.seq #[]}).update h'.objs.size<|Td λ_=>(#[]:Qo iH)).get? b\o:=λb o=>up b o<|cB _;have ty:Pw.TypeIs {d with heap:=(h'.push {cls:=.type "list",data:=.seq #[]}).update h'.objs.size<|Td λ_=>(#[]:Qo iH)} (.ref<|d⁻¹+4) "zip":=⟨_,kp _ _ hz,rfl⟩;unfold Tw;refine aC<|uG ty ?_;have e1:Px.List.listSameRef (.ref h'.objs.size) (.ref<|d⁻¹+4)=false:=by simp[Px.List.listSameRef,hsz]
 have e2:(Uq "zip" == Uq "list")=false:=by decide
 have e3:(Uq "zip" == Uq "tuple")=false:=by decide
 simp only[e1,e2,e3,J1,oI,iF];refine aC<|wpAny_pyIter_zip (kp _ _ hz)<|aC<|gQ<|Ni ty ?_;refine Vf (λ_=>?_) λc=>absurd rfl c;refine aC<|jI<|aC ?_;show Qw _ _ (Zl h'.objs.size (·.push .none) >>= λ_=>Zl h'.objs.size (·.pop)) _ _ _;refine aC<|wpAny_updateSeq g2 rfl ?_;have N:=tJ (Td (·.push Rm)) g2 rfl;refine wpAny_updateSeq (hz:=by seq_fits) N rfl ?_;have g4:=tJ (Td (·.pop)) N rfl;have M:Inv X a1 σ C {d with heap:=h'}:=i.kept (t':=d.toks) kk;have m:∀{f g:Qg->Qg} b o,h'.get? b\o->Qa.get? (M7 (M7 _ h'.objs.size f) h'.objs.size g) b\o:=λb o e=>up b o (up b o<|kp b o) e;have G:∀b,h'.objs.size<=b->C b=none:=λb hb=>M.hok.fresh hb;have lo:∀b,d⁻¹<=b->b<h'.objs.size->fK X a1 (upd C h'.objs.size<|.lst []) b:=λb x E=>i.fpOk x (by rw[aE<|dB E];exact i.hok.fresh x)
 refine aZ {FA IH _,Ie (A:=X.A.in1) (i.ok.hd hc) D (by rw[hsz];lia) a5 L hl (G _<|aV _) .none (λH s ts hn J hS u pr=>{U,.ref h'.objs.size,H,J,U,q _ ts H u (G _<|aV _) hS hn pr}) ↑xs [] _ _ (lW _)
  {M.laid (a:=h'.objs.size) (o:=.lst []) (t':=d.toks) m (aV _) {cE _,[],_,.nil,g4},?_,.inl {U,m _ _ hz},m _ _ a8,{_,_,m _ _ aa},x.at λo e=>m _ o e,E.at λo e=>m _ o e,zb0,λb o e=>?_,λj t e=>nomatch e}}
 .simp only[vn4];exact{lo _ ∅ ∅,lo _ ∅ ∅,lo _ ∅ ∅,lo _ ∅ ∅,λ_ h=>nomatch h}
 .rw[aE<|bF e<|G _<|aV _];exact e
inductive A2{α β:Type}(R:α->β->Prop):Qi α->Qi β->Prop
 | nil:A2 R [] []
 | cons {a:α} {b:β} {as:Qi α} {bs:Qi β} (h:R a b) (t:A2 R as bs):A2 R (a::as) (b::bs)
def A2.imp{e d:Type}{R S:e->d->Prop}(f:∀a b,R a b->S a b){as:Qi e}{bs:Qi d}(h:A2 R as bs):A2 S as bs:=by
 induction h with
 | nil=>exact .nil
 | cons h _ i=>exact .cons (f _ _ h) i
def A2.app{d b:Type}{R:d->b->Prop}{as a:Qi d}{bs a1:Qi b}(h:A2 R as bs)(g:A2 R a a1):A2 R (as++a) (bs++a1):=by
 induction h with
 | nil=>exact g
 | cons h _ e=>exact .cons h e
def A2.snoc{e d:Type}{R:e->d->Prop}{as:Qi e}{bs:Qi d}{a:e}{b:d}(h:A2 R as bs)(g:R a b):A2 R (as++[a]) (bs++[b]):=h.app<|.cons g .nil
def A2.len{b a:Type}{R:b->a->Prop}{as:Qi b}{bs:Qi a}(h:A2 R as bs):↑as=↑bs:=by
 induction h with
 | nil=>rfl
 | cons _ _ d=>exact cP (·+1) d
def A2.get{d f:Type}{R:d->f->Prop}{as:Qi d}{bs:Qi f}(h:A2 R as bs):∀{i:Qk}{a:d},as[i]?\a->∃b,bs[i]?\b/\R a b:=by
 induction h with
 | nil=>intro i a e;simp at e
 | cons h _ j=>
  intro i a e;cases i with
  | zero=>cases e;exact{6,h}
  | succ i=>exact j e
def VE{xs:Qi V}{us:Qi iH}(r:Vals xs us):∀{j:Qk}{u:iH},us[j]?\u->∃x,xs[j]?\x/\RelV x u:=by
 induction r with
 | nil=>intro j u e;simp at e
 | cons h _ a=>
  intro j u e;cases j with
  | zero=>cases e;exact{6,h}
  | succ j=>exact a e
section
variable{pins:Z1}{σ:Qi (Qj V)}{H:Hp}{s:Pw}{A:Qf}
def Ky{ss tt:Z2}:((Tg<|min ↑ss ↑tt).all (λj=>decide<|ss[j]?=tt[j]?) && ↑ss == ↑tt)=decide (ss=tt):=by
 by_cases h:ss=tt
 .subst h;simp
 .rw[fE h]
  by_cases hl:↑ss=↑tt
  .have:((Tg<|min ↑ss ↑tt).all λj=>decide<|ss[j]?=tt[j]?)=false:=by
    rw[<-Qm.not_eq_true,vr8];intro a;refine h<|Vw λi=>?_
    by_cases b:i<↑ss
    .have:=a i (Uz.mpr ∅);exact dH this
    .rw[tD ∅,tD ∅]
   rw[this];rfl
  .have:(↑ss == ↑tt)=false:=⇑[hl]
   rw[this,F5]
def Fo(I:Inv X pins σ H s){ss tt:Z2}{its d:Qi iH}(r:Vals (ss.map R6) its)(o:Vals (tt.map R6) d)(j:Qk)(B:j<its.toArray.size)(z:j<d.toArray.size):Qz A s its.toArray[j] d.toArray[j] (decide<|ss[j]?=tt[j]?):=by
 have q:its[j]?=Qp its.toArray[j]:=by simp
 have u:d[j]?=Qp d.toArray[j]:=by simp
 obtain⟨x,f,l⟩:=VE r q;obtain⟨y,i,m⟩:=VE o u;rw[bP,vh8]at f i;obtain⟨a,f,rfl⟩:=f;obtain⟨b,i,rfl⟩:=i;obtain⟨t,l⟩:=l;obtain⟨n,m⟩:=m;rw[l,m,f,i];have:=Qz.str_str (A:=A) (s:=s) a t b n;have e:(a == b)=decide (Qp a\b):=by
  by_cases h:a=b
  .subst h;simp
  .simp[h]
 rwa [e]at this
def VD(I:Inv X pins σ H s)(o:A.units<cLine){a b:eH}{ss tt:Z2}(l:SqT X.K H a (ss.map R6))(m:SqT X.K H b (tt.map R6)):SeqAt.RcAt A s (.ref a) (.ref b) (decide<|ss=tt):=by
 obtain⟨x,r,p,_⟩:=I.tuple l;obtain⟨u,d,z,_⟩:=I.tuple m;have h:=SeqAt.RcAt.tuples (A:=A) (e:=λj=>decide<|ss[j]?=tt[j]?) p z o λj q n=>Fo I r d j q n;have f:=↑r;have i:=↑d;rw[aF]at f i;rw[dN,dN,<-f,<-i,Ky]at h;exact h
end
def GU(K:Fq):R2:=λx y H Q=>∃(a b:eH)(e d:Z2),x=.ref a/\y=.ref b/\SqT K H a (e.map R6)/\SqT K H b (d.map R6)/\Q (.bl<|decide<|e=d) H
def vW(i:X.A.units<cLine):dW X (Sj .Eq) (GU X.K):=by
 intro l s n H x y v u Q I j f h;obtain⟨a,b,o,m,rfl,rfl,d,e,q⟩:=h;cases j;cases f;exact VD I i d e _ _ _ _ {.bl _,H,I,U,q}
open Classical in
section
variable{pins:Z1}{σ:Qi (Qj V)}{H:Hp}{s:Pw}
end
section
variable{tg:Qc}
end
section
variable{o i e value:Qc}{pos:Ud}{td ty:TE}
end
abbrev OI(w:Qb):Bool:=w.params.followText "set-order"
def CD(w:Qb)(e:Ql×iH):Prop:=∃x tk,e=(hashStr w x,.str x tk)
inductive QE(w:Qb)(h:Qa)(a:eH)(ss:Z2):Prop
 | mk(es:Qo (Ql×iH))(ep:Qk)(t:SetTable)(h1:h.get? a=Qp {cls:=.type "set",data:=.set es ep t})(h2:∀e∈es.toList,CD w e)(h3:ss=es.toList.map MV)(h4:ss.Nodup)(h5:t.fits es.size=Qr)(h6:t.led=!OI w)(h7:ss=[]\/t.plain=Qs):QE w h a ss
def Ej{I:eH}{h:Type}{s0:Pw}{Q:h->Pw->Prop}(d:A.handled=Qq)(f:Tq I s0.heap s.heap)
  (b:∀a h',Tq I s0.heap h'->({s with heap:=h'}:Pw).TypeIs a "StopIteration"->E a {s with heap:=h'}):Qw ⇑[] A (A3 (.type "StopIteration") [] >>= λe=>(raiseNew e:Xg h)) Q E s:=by
 refine aC ?_;simp only[A3,D4];refine aC (jP ?_<|by size_fits);refine aC (m:=Tn _ _)<|wpAny_of_eq (a:=Rm) (by first | rfl | (simp only[Tn];rfl)) ?_;refine jP ?_ (by size_fits);simp only[raiseNew];refine aC<|wpAny_handled ?_;rw[d];refine aC<|aZ<|wpAny_throw ?_;exact b _ _ ((f.push _).push _) {_,dQ _ rfl,U}
section
variable{a I:eH}{es:Qo (Ql×iH)}{ep:Qk}{t:SetTable}
end
theorem Inv.drawn{a:Z1}{b:St}{H:Hp}{s:Pw}{d:Drawn}(I:Inv X a b H s):Inv X a b H {s with drawn:=d}:=⟨I.ok,I.os,I.bare,I.base,I.loc,I.cell,I.free,I.freeC,I.pin,I.hok,I.len⟩
structure zK(K:Fq)(C:eH)(fs:Z2):Prop where
 c:Cls K C
 n:∀f∈fs,NoAttr K C f
inductive YT(C:eH)(f:zZ)(x:V)(H:Hp)(Q:VK):Prop
 | mk(a dx:eH)(fs:Qi (zZ×V))(v:V)(h1:x=.ref a)(h2:H a\.ins C dx fs)(h3:fs.lookup f\v)(q:Q v H)
def VG(C:eH)(f:zZ)(a:TE):TE:=λb H Q=>a b H λx d=>YT C f x d Q
inductive Gy(C:eH)(f:zZ)(x y:V)(H:Hp)(Q:Hp->Prop):Prop
 | mk(a dx:eH)(fs:Qi (zZ×V))(h1:x=.ref a)(h2:H a\.ins C dx fs)(h3:↑fs<1000)(q:Q (upd H a<|.ins C dx<|dC f y fs))
def Dm(C:eH)(f:zZ)(d e:TE):TS:=λD a H=>e a H λy h=>d a h λx b=>Gy C f x y b<|D.nx a
inductive SZ(C:eH)(f:zZ)(g:Ql->Ql->Ql)(tv:TE)(σ:St)(D:jC)(x:V)(H:Hp):Prop
 | mk(a dx:eH)(fs:Qi (zZ×V))(i:Ql)(h1:x=.ref a)(h2:H a\.ins C dx fs)(h3:fs.lookup f\.int i)(q:tv σ H λy H2=>∃j dx' fs',y=.int j/\H2 a\.ins C dx' fs'/\↑fs'<1000/\D.nx σ (upd H2 a<|.ins C dx'<|dC f (.int<|g i j) fs'))
def Ji(C:eH)(f:zZ)(g:Ql->Ql->Ql)(b d:TE):TS:=λD a H=>b a H λx e=>SZ C f g d a D x e
section
variable{o e value:Qc}{f:zZ}{pos pos' tpos:Ud}{ta tv:TE}{C:eH}{fs:Z2}
def cH(Z:zK X.K C fs)(he:PE X e ta)(o:X9 (f∈fs) X6)(m:X9 (Th e f X.env (eval e X.env)=eval e X.env) X8):PE X (.Attribute e f pos) (VG C f ta):=by
 intro d s G H Q I h;refine Pj m<|bD (he d s G H _ I h) ?_;rintro u B ⟨x,r,i,z,a,J,fs,v,ex,b,l,q⟩;subst ex;obtain rfl:u=Qy a:=z;exact SC i b Z.c (Z.n f o) l λE L A j=>⟨v,r,A,j,q⟩
def iC(Z:zK X.K C fs)(j:PE X o ta)(d:PE X value tv)(z:X9 (f∈fs) X6)(hs:X9 (Tt value (Qp<|.Attribute o f pos') pos.line X.env=pure false) X8):PS X (.Assign [.Attribute o f pos'] value pos) (Dm C f ta tv):=by
 intro b s M H D I h;refine plainObj_wpAny_Assign_Attribute (bD (d b s M H _ I h) ?_) hs;rintro u r ⟨y,A,m,B,q⟩;refine bD (j b r M A _ m q) ?_;rintro e W ⟨x,O,L,E,a,T,fs,ex,i,l,J⟩;subst ex;obtain rfl:e=Qy a:=E;exact WE L i Z.c (Z.n f z) l B λN G=>{M,_,G,J}
def AJ{e:O9}{g:Ql->Ql->Ql}(Z:zK X.K C fs)(m:PE X o ta)(O:PE X value tv)(a1:vA X e λx y H Q=>∃i j,x=.int i/\y=.int j/\Q (.int<|g i j) H)(d:X9 (f∈fs) X6):PS X (.AugAssign (.Attribute o f tpos) e value pos) (Ji C f g ta tv):=by
 intro b s σ H D I h;refine wpAny_AugAssign_AttributeAny<|bD (m b s σ H _ I h) ?_;rintro T s1 ⟨x,H1,A,rx,a,dx,fs,i,ex,ea,l,q⟩;subst ex;obtain rfl:T=Qy a:=rx;refine SC A ea Z.c (Z.n f d) l λu s2 N B=>bD (O b s2 σ H1 _ N q) ?_;rintro M s3 ⟨y,H2,L,G,j,a4,a3,ey,a2,J,q3⟩;refine bD (a1 b s3 σ H2 (.int i) y u M (λz H3=>z=.int (g i j)/\H3=H2) L B G ⟨i,j,rfl,ey,rfl,rfl⟩) ?_;rintro w4 s4 ⟨z,H3,W,E,rfl,rfl⟩;exact WE W a2 Z.c (Z.n f d) J E λs5 r=>{σ,_,r,q3}
end
def iU:Qm->Keyed->Qo Keyed->Qk->Qk->Qk->StateT Rg Xg (Qj Qk):=sortPriv% PySem.Builtin.gallop
def sH(left:Qm)(a:Keyed)(d:Qo Keyed)(base i:Qk):StateT Rg Xg (Qj Qm):=
 elem' d (base+i) >>= λx=>if left=Qr then lt' x a else lt' a x >>= λr=>pure<|Option.map (λb=>!b) r
section
variable{M:K6}{A:Qf}{E:Vp}{s:Pw}{st:Rg}{n:Qk}{act:Qk->StateT Rg Xg (Qj Qm)}
def KS(M:K6)(A:Qf)(E:Vp)(s:Pw)(act:Qk->StateT Rg Xg (Qj Qm))(n:Qk)(st:Rg):Prop:=∀i,i<n->∃b,∀Q:Qj Qm->Rg->Prop,Q (Qp b) st->Vh M A E s (act i) Q st
def WY{lo hi:Qk}{Q:(Qj (Qj Qk)×Qk×Qk)->Rg->Prop}(e:KS M A E s act n st)(o:lo<=hi)(j:hi<=n)(h:∀l k,k<=n->Q (Qq,l,k) st):
  Vh M A E s (forIn [:n] ((Qq:Qj (Qj Qk)),lo,hi) λ_ c=>
   if c.2.1≥c.2.2 then pure (Rr (Qq,c.2.1,c.2.2)) else act (c.2.1+(c.2.2-c.2.1) / 2) >>= λr=>match r with
    | some more=>if more=Qr then pure (Qv (Qq,c.2.1+(c.2.2-c.2.1) / 2+1,c.2.2)) else pure (Qv (Qq,c.2.1,c.2.1+(c.2.2-c.2.1) / 2))
    | _=>pure<|Rr (Qp Qq,c.2.1,c.2.2)) Q st:=by
 refine iW (I:=λx c f=>f=st/\∃l k,c=(Qq,l,k)/\l<=k/\k<=n) ?_ ?_ ⟨rfl,lo,hi,rfl,o,j⟩
 .rintro x c _ _ hx ⟨rfl,l,k,rfl,m,a⟩;dsimp only
  by_cases d:l≥k
  .rw[bG d];exact bV<|h l k a
  .rw[bA d];obtain⟨b,i⟩:=e (l+(k-l) / 2) ∅;refine bO<|i _ ?_;cases b <;> exact bV {U,_,6,∅,∅}
 .rintro c _ ⟨rfl,l,k,rfl,m,a⟩;exact h l k a
def Jb{Q:(Qj (Qj Qk)×Qk×Qk)->Rg->Prop}(i:KS M A E s act n st)(h0:hint<n)(h:∀last a,hint+last<n->last<a->Q (Qq,last,a) st):
  Vh M A E s (forIn [:n] ((Qq:Qj (Qj Qk)),0,1) λ_ c=>
   if c.2.2≥n-hint then pure (Rr (Qq,c.2.1,c.2.2)) else act (hint+c.2.2) >>= λr=>match r with
    | some more=>if (!more)=Qr then pure (Rr (Qq,c.2.1,c.2.2)) else pure (Qv (Qq,c.2.2,2*c.2.2+1))
    | _=>pure<|Rr (Qp Qq,c.2.1,c.2.2)) Q st:=by
 refine iW (I:=λx c a1=>a1=st/\∃last a,c=(Qq,last,a)/\hint+last<n/\last<a) ?_ ?_ {U,0,1,U,h0,by decide}
 .rintro x c _ _ hx ⟨rfl,last,a,rfl,d,e⟩;dsimp only
  by_cases f:a≥n-hint
  .rw[bG f];exact bV<|h last a d e
  .rw[bA f];obtain⟨b,j⟩:=i (hint+a) ∅;refine bO<|j _ ?_;cases b
   .exact bV<|h last a d e
   .exact bV ⟨rfl,_,_,rfl,∅,by lia⟩
 .rintro c _ ⟨rfl,last,a,rfl,d,e⟩;exact h last a d e
def Pt{Q:(Qj (Qj Qk)×Qk×Qk)->Rg->Prop}(i:KS M A E s act n st)(h0:hint<n)(h:∀last a,last<=hint->last<a->Q (Qq,last,a) st):
  Vh M A E s (forIn [:n] ((Qq:Qj (Qj Qk)),0,1) λ_ c=>
   if c.2.2≥hint+1 then pure (Rr (Qq,c.2.1,c.2.2)) else act (hint-c.2.2) >>= λr=>match r with
    | some l=>if l=Qr then pure (Rr (Qq,c.2.1,c.2.2)) else pure (Qv (Qq,c.2.2,2*c.2.2+1))
    | _=>pure<|Rr (Qp Qq,c.2.1,c.2.2)) Q st:=by
 refine iW (I:=λx c a1=>a1=st/\∃last a,c=(Qq,last,a)/\last<=hint/\last<a) ?_ ?_ {U,0,1,U,cE _,by decide}
 .rintro x c _ _ hx ⟨rfl,last,a,rfl,d,e⟩;dsimp only
  by_cases f:a≥hint+1
  .rw[bG f];exact bV<|h last a d e
  .rw[bA f];obtain⟨b,j⟩:=i (hint-a) ∅;refine bO<|j _ ?_;cases b
   .exact bV ⟨rfl,_,_,rfl,∅,by lia⟩
   .exact bV<|h last a d e
 .rintro c _ ⟨rfl,last,a,rfl,d,e⟩;exact h last a d e
end
structure SameG(st st':Rg):Prop where
 kd:kindOf st'=kindOf st
 ar:arrOf st'=arrOf st
 pe:Si st'=Si st
 fa:To st'=To st
def SameG.refl{st:Rg}:SameG st st:=⟨rfl,rfl,rfl,rfl⟩
def oC(M:K6)(A:Qf)(E:Vp)(s:Pw)(kd:Tp)(a:Keyed->Prop)(LT:Keyed->Keyed->Qm):Prop:=
 ∀{x y:Keyed}{st:Rg}{Q:Qj Qm->Rg->Prop},a x->a y->kindOf st=kd->Q (Qp<|LT x y) st->Vh M A E s (lt' x y) Q st
section
variable{kd:Tp}{U':Keyed->Prop}{LT:Keyed->Keyed->Qm}{st:Rg}
def gW{Q:Keyed->Rg->Prop}(hx:arr.toList[i]?\x)(h:Q x st):Vh M A E s (elem' arr i) Q st:=by
 rw[O3];have e:arr[i]?\x:=⇑[hx]
 rw[e];exact bV h
def zU(C:oC ⇑[] A E s kd U' LT){left:Qm}{a:Keyed}{d:Qo Keyed}{base n a1:Qk}{Q:Qj Qk->Rg->Prop}(o:kindOf st=kd)(f:a1<n)(J:base+n<=↑d.toList)(G:∀x∈d.toList,U' x)(r:U' a)(h:∀k,k<=n->Q (Qp k) st):
  Vh ⇑[] A E s (iU left a d base n a1) Q st:=by
 have e:KS ⇑[] A E s (sH left a d base) n st:=λi L=>by
  have m:=bM (show base+i<↑d.toList by lia);have u:=G _<|dM m;cases left
  .refine⟨!LT a d.toList[base+i],λQ q=>?_⟩;unfold sH;refine bO<|gW m ?_;rw[bA eJ];exact bO<|C r u o<|bV q
  .refine⟨LT d.toList[base+i] a,λQ q=>?_⟩;unfold sH;refine bO<|gW m ?_;rw[bG rfl];exact C u r o q
 unfold iU Vh
 wp_delta
 wp_delta
 show Vh ⇑[] A E s (sH left a d base a1 >>= _) Q st;obtain⟨b,B⟩:=e a1 f;refine bO<|B _ ?_;cases b
 .refine bO<|Pt (act:=sH left a d base) e f λlast z H I=>?_;dsimp only;exact bO<|WY (act:=sH left a d base) e ∅ ∅ λl k j=>bV<|h k j
 .refine bO<|Jb (act:=sH left a d base) e f λlast z H I=>?_;dsimp only;exact bO<|WY (act:=sH left a d base) e ∅ ∅ λl k j=>bV<|h k j
end
def lJ:Qo Keyed->Qo Keyed->StateT Rg Xg (Qo Keyed):=sortPriv% PySem.Builtin.mergeLo
def lS:Qk->StateT Rg Xg Unit:=sortPriv% PySem.Builtin.setMinGallop
def dO{m n:Qk}(h:¬(m == n)=Qr):m≠n:=λz=>h<|uk0.mpr z
def rB(a:Qo Keyed):(a.extract p n).toList=(a.toList.take n).drop p:=by
 rw[Ys];simp only[K7];rw[Qi.drop_take]
def IU(a:Qo Keyed)(i:Qk):(a.extract i a.size).toList=a.toList.drop i:=by
 rw[rB,cW<|by rw[iK];exact aV _]
def MS(a:Qo Keyed)(i k:Qk):(a.extract i<|i+k).toList=(a.toList.drop i).take k:=by
 rw[Ys];simp[K7]
def RK{a:Type}(l:Qi a)(i k:Qk):l.drop i=(l.drop i).take k++l.drop (i+k):=by
 rw[<-F1,vS]
def UA{b:Type}{l:Qi b}{i:Qk}{x:b}(h:l[i]?\x):l.drop i=x::l.drop (i+1):=by
 obtain⟨a,rfl⟩:=vh2.mp h;exact uM a
section
variable{a b out:Qo Keyed}{i j:Qk}{x:Keyed}
def Gd(a b out:Qo Keyed)(i j:Qk):Prop:=(out.toList++(a.toList.drop i++b.toList.drop j)).Perm<|a.toList++b.toList
def Gd.a1(g:Gd a b out i j)(h:a.toList[i]?\x):Gd a b (out.push x) (i+1) j:=by
 unfold Gd at *;rw[UA h]at g;rw[BH,dY];exact g
def Gd.b1(g:Gd a b out i j)(h:b.toList[j]?\x):Gd a b (out.push x) i (j+1):=by
 unfold Gd at *;rw[UA h]at g;rw[BH,dY];exact(FQ _ (C2 (l₁:=a.toList.drop i)).symm).trans g
def Gd.ak(g:Gd a b out i j)(k:Qk):Gd a b (out++a.extract i (i+k)) (i+k) j:=by
 unfold Gd at *;rw[RK _ i k,dY]at g;rw[kO,MS,dY];exact g
def Gd.bk(g:Gd a b out i j)(k:Qk):Gd a b (out++b.extract j (j+k)) i (j+k):=by
 unfold Gd at *;rw[RK b.toList j k]at g;rw[kO,MS,dY];refine(FQ _ ?_).trans g;rw[<-dY,<-dY];exact ub7.append_right _
def Gd.done(g:Gd a b out i j):(out++a.extract i a.size++b.extract j b.size).toList.Perm (a.toList++b.toList):=by
 rw[kO,kO,IU,IU,dY];exact g
def Gd.last(g:Gd a b out i j):(out++b.extract j b.size++a.extract i a.size).toList.Perm (a.toList++b.toList):=by
 rw[kO,kO,IU,IU,dY];exact(ub7.append_left _).trans g
structure Mi(a b out:Qo Keyed)(i j t:Qk):Prop where
 g:Gd a b out i j
 ha:i+1<a.size
 hb:j<b.size
 ht:t<=i+j
end
section
variable{kd:Tp}{U':Keyed->Prop}{LT:Keyed->Keyed->Qm}{st:Rg}
def IS{st0:Rg}{Q:Unit->Rg->Prop}(h0:SameG st0 st)(h:∀a,SameG st0 a->Q () a):Vh ⇑[] A E s (lS g) Q st:=by
 unfold lS Vh
 wp_delta
 wp_delta
 exact aZ {U,h _ {h0.kd,h0.ar,h0.pe,h0.fa}}
def dD{f:Type}[Decidable c]{b a:StateT Rg Xg f}{Q:f->Rg->Prop}(e:c->Vh ⇑[] A E s b Q st)(d:¬c->Vh ⇑[] A E s a Q st):Vh ⇑[] A E s (if c then b else a) Q st:=by
 split
 .exact e ‹_›
 .exact d ‹_›
def Sg(m:Qo Keyed->Qo Keyed->StateT Rg Xg (Qo Keyed))(a b:Qo Keyed):Prop:=∀{d:Py}{w:Qb}{A:Qf}{E:Vp}{s:Pw}{kd:Tp}{U':Keyed->Prop}{LT:Keyed->Keyed->Qm}{st:Rg}{Q:Qo Keyed->Rg->Prop},oC (Qx d w) A E s kd U' LT->kindOf st=kd->(∀x∈a.toList,U' x)->(∀x∈b.toList,U' x)->0<a.size->0<b.size->(∀r e,r.toList.Perm (a.toList++b.toList)->SameG st e->Q r e)->Vh (Qx d w) A E s (m a b) Q st
noncomputable def sgc(m:Qo Keyed->Qo Keyed->StateT Rg Xg (Qo Keyed)):Qo Keyed×Qo Keyed:=Classical.epsilon λt=>¬Sg m t.1 t.2
def WP{m:Qo Keyed->Qo Keyed->StateT Rg Xg (Qo Keyed)}(h:Sg m (sgc m).1 (sgc m).2)(a b:Qo Keyed):Sg m a b:=by
 refine @Classical.byContradiction (Sg m a b) ?_;intro z;exact Classical.epsilon_spec (p:=λt:Qo Keyed×Qo Keyed=>¬Sg m t.1 t.2) {(a,b),z} @h
noncomputable def aL:Qo Keyed:=(sgc lJ).1
noncomputable def bL:Qo Keyed:=(sgc lJ).2
def HY:Sg lJ aL bL:=by
 intro prog w A E s kd U' LT st Q C hk ua ub na nb h;have la:↑aL.toList=aL.size:=iK;have lb:↑bL.toList=bL.size:=iK;have ga:∀i,i<aL.size->∃x,aL.toList[i]?\x/\U' x:=λi hi=>⟨_,bM ∅,ua _<|fP _⟩
 have gb:∀i,i<bL.size->∃x,bL.toList[i]?\x/\U' x:=λi hi=>⟨_,bM ∅,ub _<|fP _⟩
 unfold lJ Vh
 wp_delta
 wp_delta
 show Vh ⇑[] A E s (_ >>= _) Q st;refine bO<|wpS_lift<|jI {U,?_};obtain⟨x0,a7,_⟩:=gb 0 nb;refine bO (m:=elem' bL 0)<|gW a7 ?_;have Z:Gd aL bL #[x0] 0 1:=Gd.b1 (out:=#[]) (Qi.Perm.refl _) a7;refine dD (c:=(1 == bL.size)=Qr) (λ_=>bV<|h _ _ Z.done SameG.refl) λc1=>?_;refine dD (c:=(0+1 == aL.size)=Qr) (λ_=>bV<|h _ _ Z.last SameG.refl) λc2=>?_;have c1:=dO c1;have c2:=dO c2;refine bO<|mQ ?_;refine bO<|kY (iW (I:=λx c j=>SameG st j/\∃out b a mg,c=(Qq,out,b,a,mg)/\Mi aL bL out b a (x+1)) (Q:=λc j=>SameG st j/\∃r rest,c=(Qp r,rest)/\r.toList.Perm (aL.toList++bL.toList)) ?step ?fin {SameG.refl,_,_,_,6,Z,∅,∅,∅}) ?post
 case fin=>
  rintro c j ⟨_,out,b,a,mg,rfl,_,T,h2,W⟩;lia
 case post=>
  rintro c j ⟨hs,r,rest,rfl,hr⟩;exact bV<|h r j hr hs
 case step=>
  rintro x c j _ hx ⟨hs,out,b,a,mg,rfl,m⟩;dsimp -zeta only;refine bO<|kY (iW (I:=λy c j=>SameG st j/\∃out b a n l,c=(Qq,out,b,a,n,l)/\Mi aL bL out b a (x+1+y)) (Q:=λc j=>SameG st j/\((∃r rest,c=(Qp r,rest)/\r.toList.Perm (aL.toList++bL.toList))\/∃out b a n l,c=(Qq,out,b,a,n,l)/\Mi aL bL out b a (x+2))) ?step1 ?fin1 {hs,_,_,_,_,6,m}) ?post1
  case fin1=>
   rintro c j ⟨_,out,b,a,n,l,rfl,_,T,h2,W⟩;lia
  case step1=>
   rintro y c j _ hy ⟨hs,out,b,a,n,l,rfl,g,O,H,a6⟩;dsimp -zeta only;obtain⟨p,G,pa⟩:=ga b ∅;obtain⟨q,B,X⟩:=gb a H;refine bO (m:=elem' bL a)<|gW B<|bO (m:=elem' aL b)<|gW G<|bO<|C X pa (hs.kd.trans hk) ?_;refine dD (c:=LT q p=Qr) (λ_=>bO (m:=elem' bL a)<|gW B ?_) λ_=>bO (m:=elem' aL b)<|gW G ?_
   .have g':=g.b1 B;refine dD (c:=(a+1 == bL.size)=Qr) (λ_=>bV {hs,.inl {_,6,g'.done}}) λc=>?_;have c:=dO c;exact dD (λ_=>bV {hs,.inr {_,_,_,_,6,g',O,∅,∅}}) λ_=>bV {hs,_,_,_,_,6,g',O,∅,∅}
   .have g':=g.a1 G;refine dD (c:=(b+1+1 == aL.size)=Qr) (λ_=>bV {hs,.inl {_,6,g'.last}}) λc=>?_;have c:=dO c;exact dD (λ_=>bV {hs,.inr {_,_,_,_,6,g',∅,H,∅}}) λ_=>bV {hs,_,_,_,_,6,g',∅,H,∅}
  case post1=>
   rintro c j ⟨hs,⟨r,rest,rfl,hr⟩ | ⟨out,b,a,n,l,rfl,m⟩⟩
   .exact bV ⟨hs,_,_,rfl,hr⟩
   .dsimp -zeta only;refine bO<|wpS_lift<|jI {U,?_};refine bO<|kY (iW (I:=λy c j=>SameG st j/\∃out b a mg n l,c=(Qq,out,b,a,mg,n,l)/\Mi aL bL out b a (x+2+y)) (Q:=λc j=>SameG st j/\((∃r rest,c=(Qp r,rest)/\r.toList.Perm (aL.toList++bL.toList))\/∃out b a mg n l,c=(Qq,out,b,a,mg,n,l)/\Mi aL bL out b a (x+2))) ?step2 ?fin2 {hs,_,_,_,_,_,6,m}) ?post2
    case fin2=>
     rintro c j ⟨_,out,b,a,mg,n,l,rfl,_,T,h2,W⟩;lia
    case post2=>
     rintro c j ⟨hs,⟨r,rest,rfl,hr⟩ | ⟨out,b,a,mg,n,l,rfl,m⟩⟩
     .exact bV ⟨hs,_,_,rfl,hr⟩
     .exact bO (m:=lS _)<|IS hs λN z=>bV ⟨z,_,_,_,_,rfl,m⟩
    case step2=>
     rintro y c j _ hy ⟨hs,out,b,a,mg,n,l,rfl,g,O,H,a6⟩;dsimp -zeta only
     extract_lets -underBinder _ _ _ _ _ _ _ _ _ _ _ f
     suffices J:∀m,Vh ⇑[] A E s (f () m) _ j from dD (λ_=>J _) λ_=>J _
     intro m;dsimp -zeta +zetaDelta only;refine bO (m:=lS _)<|IS hs λN z=>?_;have a8:kindOf N=kd:=z.kd.trans hk;obtain⟨q,B,X⟩:=gb a H;refine bO (m:=elem' bL a)<|gW B ?_;refine bO (m:=iU Qs q aL b (aL.size-b) 0)<|zU C a8 ∅ ∅ ua X λk aa=>?_;dsimp -zeta only
     extract_lets -underBinder _ f
     suffices J:∀o1 o,Gd aL bL o1 o a->o+1<aL.size->x+2+y<=o+a->Vh ⇑[] A E s (f () o1 o) _ N from dD (c:=k > 0) (λck=>dD (c:=(b+k+1 == aL.size)=Qr) (λc=>bV ⟨z,.inl ⟨_,_,rfl,(g.ak k).last⟩⟩) λc=>dD (c:=(b+k == aL.size)=Qr) (λc'=>bV ⟨z,.inl ⟨_,_,rfl,(g.ak k).done⟩⟩) λc'=>J _ (b+k) (g.ak k) (by have:=dO c;have:=dO c';lia) ∅) λck=>J _ b g O a6
     intro o1 o g1 T h2;dsimp -zeta +zetaDelta only;obtain⟨p,G,pa⟩:=ga o ∅;refine bO (m:=elem' bL a)<|gW B ?_;have M:=g1.b1 B;refine dD (c:=(a+1 == bL.size)=Qr) (λc=>bV {z,.inl {_,6,M.done}}) λd=>?_;have d:=dO d;refine bO (m:=elem' aL o)<|gW G ?_;refine bO (m:=iU Qr p bL (a+1) (bL.size-(a+1)) 0)<|zU C a8 ∅ ∅ ub pa λu a9=>?_;dsimp -zeta only
     extract_lets -underBinder _ f
     suffices J:∀o2 L,Gd aL bL o2 o L->a<L->L<bL.size->Vh ⇑[] A E s (f () o2 L) _ N from dD (c:=u > 0) (λcu=>dD (c:=(a+1+u == bL.size)=Qr) (λc=>bV ⟨z,.inl ⟨_,_,rfl,(M.bk u).done⟩⟩) λe=>J _ (a+1+u) (M.bk u) ∅ (by have:=dO e;lia)) λcu=>J _ (a+1) M ∅ ∅
     intro o2 L g3 W h4;dsimp -zeta +zetaDelta only;refine bO (m:=elem' aL o)<|gW G ?_;have g4:=g3.a1 G;refine dD (c:=(o+1+1 == aL.size)=Qr) (λc=>bV {z,.inl {_,6,g4.last}}) λc=>?_;have c:=dO c;exact dD (λ_=>bV {z,.inr {_,_,_,_,_,6,g4,∅,∅,∅}}) λ_=>bV {z,_,_,_,_,_,6,g4,∅,∅,∅}
def xU{a b:Qo Keyed}:Sg lJ a b:=WP @HY a b
end
def kX:Qo Keyed->Qo Keyed->StateT Rg Xg (Qo Keyed):=sortPriv% PySem.Builtin.mergeHi
def MU{a:Type}(l:Qi a)(h:p<=n):l.take n=l.take p++(l.take n).drop p:=by
 have:=(vS p<|l.take n).symm;rwa [Qi.take_take,zB h]at this
def SD{b:Type}{l:Qi b}{n:Qk}{x:b}(a:1<=n)(h:l[n-1]?\x):l.take n=l.take (n-1)++[x]:=by
 obtain⟨m,rfl⟩:∃m,n=m+1:=⟨n-1,by lia⟩;rw[JI]at h ⊢;rw[dE,h];rfl
section
variable{a b out:Qo Keyed}{i j:Qk}{x:Keyed}
def Hd(a b out:Qo Keyed)(i j:Qk):Prop:=(a.toList.take i++(b.toList.take j++out.toList.reverse)).Perm<|a.toList++b.toList
def Hd.a1(g:Hd a b out i j)(hi:1<=i)(h:a.toList[i-1]?\x):Hd a b (out.push x) (i-1) j:=by
 unfold Hd at *;rw[SD hi h,dY]at g;rw[BH,KD];exact(FQ _<|C2 (l₁:=b.toList.take j)).trans g
def Hd.b1(g:Hd a b out i j)(d:1<=j)(h:b.toList[j-1]?\x):Hd a b (out.push x) i (j-1):=by
 unfold Hd at *;rw[SD d h,dY]at g;rw[BH,KD];exact g
def Hd.ak(g:Hd a b out i j)(hp:p<=i):Hd a b (out++(a.extract p i).reverse) p j:=by
 unfold Hd at *;rw[MU _ hp,dY]at g;rw[kO,KD,JQ,Ux,rB];refine(FQ _ ?_).trans g;rw[<-dY,<-dY];exact ub7.append_right _
def Hd.bk(g:Hd a b out i j)(hp:p<=j):Hd a b (out++(b.extract p j).reverse) i p:=by
 unfold Hd at *;rw[MU b.toList hp,dY]at g;rw[kO,KD,JQ,Ux,rB];exact g
def Hd.done(g:Hd a b out i j):(a.extract 0 i++b.extract 0 j++out.reverse).toList.Perm (a.toList++b.toList):=by
 rw[kO,kO,rB,rB,JQ,dY];exact g
def Hd.first(g:Hd a b out i j):(b.extract 0 j++a.extract 0 i++out.reverse).toList.Perm (a.toList++b.toList):=by
 rw[kO,kO,rB,rB,JQ];refine(ub7.append_right _).trans ?_;rw[dY];exact g
structure Mh(a b out:Qo Keyed)(i j t:Qk):Prop where
 g:Hd a b out i j
 ha:1<=i
 hb:2<=j
 la:i<=a.size
 lb:j<=b.size
 ht:i+j+t<=a.size+b.size
end
section
variable{kd:Tp}{U':Keyed->Prop}{LT:Keyed->Keyed->Qm}{st:Rg}
noncomputable def aH:Qo Keyed:=(sgc kX).1
noncomputable def bH:Qo Keyed:=(sgc kX).2
def AS:Sg kX aH bH:=by
 intro prog w A E s kd U' LT st Q C hk ua ub na nb h;have la:↑aH.toList=aH.size:=iK;have lb:↑bH.toList=bH.size:=iK;have ga:∀i,i<aH.size->∃x,aH.toList[i]?\x/\U' x:=λi hi=>⟨_,bM ∅,ua _<|fP _⟩
 have gb:∀i,i<bH.size->∃x,bH.toList[i]?\x/\U' x:=λi hi=>⟨_,bM ∅,ub _<|fP _⟩
 unfold kX Vh
 wp_delta
 wp_delta
 show Vh ⇑[] A E s (_ >>= _) Q st;refine bO<|wpS_lift<|jI {U,?_};obtain⟨x0,a7,_⟩:=ga (aH.size-1) ∅;refine bO (m:=elem' aH<|aH.size-1)<|gW a7 ?_;have g0:Hd aH bH #[x0] (aH.size-1) bH.size:=Hd.a1 (out:=#[]) (by
  show(_++(_++[])).Perm _;rw[eA,cW ∅,cW ∅]) na a7
 refine dD (c:=(aH.size-1 == 0)=Qr) (λ_=>bV<|h _ _ g0.done SameG.refl) λc1=>?_;refine dD (c:=(bH.size == 1)=Qr) (λ_=>bV<|h _ _ g0.first SameG.refl) λc2=>?_;have c1:=dO c1;have c2:=dO c2;refine bO<|mQ ?_;refine bO<|kY (iW (I:=λx c a=>SameG st a/\∃m n out mg,c=(Qq,m,n,out,mg)/\Mh aH bH out m n (x+1)) (Q:=λc a=>SameG st a/\∃r rest,c=(Qp r,rest)/\r.toList.Perm (aH.toList++bH.toList)) ?step ?fin {SameG.refl,_,_,_,6,g0,∅,∅,∅,∅,∅}) ?post
 case fin=>
  rintro c a ⟨_,m,n,out,mg,rfl,_,O,h2,h3,L,h5⟩;lia
 case post=>
  rintro c a ⟨hs,r,rest,rfl,hr⟩;exact bV<|h r a hr hs
 case step=>
  rintro x c a _ hx ⟨hs,m,n,out,mg,rfl,G⟩;dsimp -zeta only;refine bO<|kY (iW (I:=λy c a=>SameG st a/\∃m n out j b,c=(Qq,m,n,out,j,b)/\Mh aH bH out m n (x+1+y)) (Q:=λc a=>SameG st a/\((∃r rest,c=(Qp r,rest)/\r.toList.Perm (aH.toList++bH.toList))\/∃m n out j b,c=(Qq,m,n,out,j,b)/\Mh aH bH out m n (x+2))) ?step1 ?fin1 {hs,_,_,_,_,6,G}) ?post1
  case fin1=>
   rintro c a ⟨_,m,n,out,j,b,rfl,_,O,h2,h3,L,h5⟩;lia
  case step1=>
   rintro y c a _ hy ⟨hs,m,n,out,j,b,rfl,g,M,X,N,a5,a6⟩;dsimp -zeta only;obtain⟨p,B,pa⟩:=ga (m-1) ∅;obtain⟨q,o,pb⟩:=gb (n-1) ∅;refine bO (m:=elem' bH<|n-1)<|gW o<|bO (m:=elem' aH<|m-1)<|gW B<|bO<|C pb pa (hs.kd.trans hk) ?_;refine dD (c:=LT q p=Qr) (λ_=>bO (m:=elem' aH<|m-1)<|gW B ?_) λ_=>bO (m:=elem' bH<|n-1)<|gW o ?_
   .have g':=g.a1 M B;refine dD (c:=(m-1 == 0)=Qr) (λ_=>bV {hs,.inl {_,6,g'.done}}) λc=>?_;have c:=dO c;exact dD (λ_=>bV {hs,.inr {_,_,_,_,6,g',∅,X,∅,a5,∅}}) λ_=>bV {hs,_,_,_,_,6,g',∅,X,∅,a5,∅}
   .have g':=g.b1 ∅ o;refine dD (c:=(n-1 == 1)=Qr) (λ_=>bV {hs,.inl {_,6,g'.first}}) λc=>?_;have c:=dO c;exact dD (λ_=>bV {hs,.inr {_,_,_,_,6,g',M,∅,N,∅,∅}}) λ_=>bV {hs,_,_,_,_,6,g',M,∅,N,∅,∅}
  case post1=>
   rintro c a ⟨hs,⟨r,rest,rfl,hr⟩ | ⟨m,n,out,j,b,rfl,G⟩⟩
   .exact bV ⟨hs,_,_,rfl,hr⟩
   .dsimp -zeta only;refine bO<|wpS_lift<|jI {U,?_};refine bO<|kY (iW (I:=λy c a=>SameG st a/\∃m n out mg j b,c=(Qq,m,n,out,mg,j,b)/\Mh aH bH out m n (x+2+y)) (Q:=λc a=>SameG st a/\((∃r rest,c=(Qp r,rest)/\r.toList.Perm (aH.toList++bH.toList))\/∃m n out mg j b,c=(Qq,m,n,out,mg,j,b)/\Mh aH bH out m n (x+2))) ?step2 ?fin2 {hs,_,_,_,_,_,6,G}) ?post2
    case fin2=>
     rintro c a ⟨_,m,n,out,mg,j,b,rfl,_,O,h2,h3,L,h5⟩;lia
    case post2=>
     rintro c a ⟨hs,⟨r,rest,rfl,hr⟩ | ⟨m,n,out,mg,j,b,rfl,G⟩⟩
     .exact bV ⟨hs,_,_,rfl,hr⟩
     .exact bO (m:=lS _)<|IS hs λT l=>bV ⟨l,_,_,_,_,rfl,G⟩
    case step2=>
     rintro y c a _ hy ⟨hs,m,n,out,mg,j,b,rfl,g,M,X,N,a5,a6⟩;dsimp -zeta only
     extract_lets -underBinder _ _ _ _ _ _ _ _ _ _ _ f
     suffices J:∀m,Vh ⇑[] A E s (f () m) _ a from dD (λ_=>J _) λ_=>J _
     intro mg;dsimp -zeta +zetaDelta only;refine bO (m:=lS _)<|IS hs λT l=>?_;have a8:kindOf T=kd:=l.kd.trans hk;obtain⟨q,o,pb⟩:=gb (n-1) ∅;refine bO (m:=elem' bH<|n-1)<|gW o ?_;refine bO (m:=iU Qs q aH 0 m<|m-1)<|zU C a8 ∅ ∅ ua pb λp a9=>?_;dsimp -zeta only
     extract_lets -underBinder _ _ f
     have W:=g.ak a9
     suffices J:∀p o1,Hd aH bH o1 p n->1<=p->p<=aH.size->p+n+(x+2+y)<=aH.size+bH.size->Vh ⇑[] A E s (f () p o1) _ T from dD (c:=m-p > 0) (λck=>dD (c:=(p == 0)=Qr) (λc=>bV ⟨l,.inl ⟨_,_,rfl,W.done⟩⟩) λc=>J p _ W (by have:=dO c;lia) ∅ ∅) λck=>J m _ g M N a6
     intro p o1 W O h2 h3;dsimp -zeta +zetaDelta only;obtain⟨z,B,pa⟩:=ga (p-1) ∅;refine bO (m:=elem' bH<|n-1)<|gW o ?_;have Z:=W.b1 ∅ o;refine dD (c:=(n-1 == 1)=Qr) (λc=>bV {l,.inl {_,6,Z.first}}) λd=>?_;have d:=dO d;refine bO (m:=elem' aH<|p-1)<|gW B ?_;refine bO (m:=iU Qr z bH 0 (n-1)<|n-1-1)<|zU C a8 ∅ ∅ ub pa λu aa=>?_;dsimp -zeta only
     extract_lets -underBinder _ _ f
     have H:=Z.bk aa
     suffices J:∀u o2,Hd aH bH o2 p u->2<=u->u<n->Vh ⇑[] A E s (f () u o2) _ T from dD (c:=n-1-u > 0) (λcu=>dD (c:=(u == 1)=Qr) (λc=>bV ⟨l,.inl ⟨_,_,rfl,H.first⟩⟩) λe=>dD (c:=(u == 0)=Qr) (λc'=>bV ⟨l,.inl ⟨_,_,rfl,H.done⟩⟩) λe'=>J u _ H (by have:=dO e;have:=dO e';lia) ∅) λcu=>J (n-1) _ Z ∅ ∅
     intro u o2 H L h5;dsimp -zeta +zetaDelta only;refine bO (m:=elem' aH<|p-1)<|gW B ?_;have g4:=H.a1 O B;refine dD (c:=(p-1 == 0)=Qr) (λc=>bV {l,.inl {_,6,g4.done}}) λc=>?_;have c:=dO c;exact dD (λ_=>bV {l,.inr {_,_,_,_,_,6,g4,∅,L,∅,∅,∅}}) λ_=>bV {l,_,_,_,_,_,6,g4,∅,L,∅,∅,∅}
def tW{a b:Qo Keyed}:Sg kX a b:=WP @AS a b
end
structure SB(kd:Tp)(a₀:Qo Keyed)(pe:Qo (Qk×Qk×Qk))(st:Rg):Prop where
 pm:(arrOf st).Perm a₀
 kd:kindOf st=kd
 fa:To st=Qq
 pe:Si st=pe
section
variable{kd:Tp}{LT:Keyed->Keyed->Qm}{a₀:Qo Keyed}{pe:Qo (Qk×Qk×Qk)}{st:Rg}{lo:Qk}
def SB.put(h:SB kd a₀ pe st)(hp:xs.Perm (arrOf st)):SB kd a₀ pe (setArr st xs):=⟨hp.trans h.pm,h.kd,h.fa,h.pe⟩
def SB.at(h:SB kd a₀ pe st)(hi:i<a₀.size):∃x,(arrOf st)[i]?\x/\x∈a₀.toList:=by
 have a:i<(arrOf st).size:=by rw[h.pm.size_eq];exact hi
 refine{_,ID a,(vz9.mp h.pm).mem_iff.mp ?_};simp
def ET(C:oC ⇑[] A E s kd (·∈a₀.toList) LT){Q:Qj Qm->Rg->Prop}(h:SB kd a₀ pe st)(hi:i<a₀.size)(e:j<a₀.size)(q:∀b,Q (Qp b) st):Vh ⇑[] A E s (ltAt' i j) Q st:=by
 rw[ltAt'_eq];refine bO<|mQ ?_;show Vh _ _ _ _ (do let x <-elem' (arrOf st) i;let y <-elem' (arrOf st) j;lt' x y) Q st;obtain⟨x,l,d⟩:=h.at hi;obtain⟨y,f,a⟩:=h.at e;rw[O3,O3,l,f];exact bO<|bV<|bO<|bV<|C d a h.kd<|q _
def wM(C:oC ⇑[] A E s kd (·∈a₀.toList) LT){Q:Qm->Rg->Prop}(q:lo+n<=a₀.size)(f:SB kd a₀ pe st)(h:∀a,SB kd a₀ pe a->Q Qr a):Vh ⇑[] A E s (binarySort' lo n ok) Q st:=by
 rw[binarySort'_eq];refine bO<|kY (iW (I:=λk c a=>c=(Qq,())/\SB kd a₀ pe a) (Q:=λc a=>c=(Qq,())/\SB kd a₀ pe a) ?_ (λ_ _ h=>h) ⟨rfl,f⟩) ?_
 .rintro k c a j o ⟨rfl,d⟩;refine bO<|kY (iW (I:=λx c a1=>a1=a/\∃l r,c=(Qq,l,r)/\r<=k) (Q:=λc a1=>a1=a/\∃l r,c=(Qq,l,r)/\r<=k) ?_ (λ_ _ h=>h) {U,0,k,U,aV _}) ?_
  .rintro x c _ _ i ⟨rfl,l,r,rfl,e⟩;dsimp only;refine dD (λ_=>bV ⟨rfl,l,r,rfl,e⟩) λu=>?_;refine bO<|ET C d ∅ ∅ λb=>?_;cases b <;> exact bV {U,_,6,∅}
  .rintro c _ ⟨rfl,l,r,rfl,m⟩;show Vh _ _ _ _ (do moveDown' (lo+k)<|lo+l;pure<|Qv (Qq,())) _ _;rw[moveDown'_eq];exact bO<|wQ<|bV {U,d.put<|bubble_perm _ _ _}
 .rintro c a ⟨rfl,d⟩;exact bV<|h a d
def KI{Q:Unit->Rg->Prop}(h:SB kd a₀ pe st)(q:∀a,SB kd a₀ pe a->Q () a):Vh ⇑[] A E s (reverseSlice' i j) Q st:=by
 rw[reverseSlice'_eq];exact wQ<|q _<|h.put<|mirror_perm _ _ _ _
def XC(C:oC ⇑[] A E s kd (·∈a₀.toList) LT){Q:(Qj (Qj Qk)×Qk)->Rg->Prop}(j:lo+nrem<=a₀.size)(l:1<=n0)(i:n0<=nrem)(f:SB kd a₀ pe st)(h:∀n,n0<=n->n<=nrem->Q (Qq,n) st):
  Vh ⇑[] A E s (forIn [n0:nrem] ((Qq:Qj (Qj Qk)),n0) λ_ c=>ltAt' (lo+c.2) (lo+c.2-1) >>= λr=>match r with
   | some m=>if m=Qr then pure (Rr (Qq,c.2)) else pure (Qv (Qq,c.2+1))
   | _=>pure<|Rr (Qp Qq,c.2)) Q st:=by
 refine iW (I:=λx c e=>st=e/\c=(Qq,x)/\n0<=x/\x<=nrem) ?_ ?_ {U,U,aV _,i}
 .rintro x c _ _ hx ⟨rfl,rfl,a,d⟩;refine bO<|ET C f (by dsimp only;lia) (by dsimp only;lia) λb=>?_;cases b
  .exact bV ⟨rfl,rfl,∅,by lia⟩
  .exact bV<|h x a d
 .rintro c _ ⟨rfl,rfl,a,d⟩;exact h _ a d
def vH(C:oC ⇑[] A E s kd (·∈a₀.toList) LT){Q:Qj Qk->Rg->Prop}(l:lo+nrem<=a₀.size)(H:1<=nrem)(d:SB kd a₀ pe st)(h:∀m a1,SB kd a₀ pe a1->1<=m->m<=nrem->Q (Qp m) a1):Vh ⇑[] A E s (countRun' lo nrem) Q st:=by
 rw[countRun'_eq];refine bO<|XC C l (aV 1) H d λn o u=>?_;dsimp only;refine dD (λ_=>bV<|h n st d o u) λr=>?_;have r:=dO r;refine dD (λG=>bO<|ET C d ∅ ∅ λb=>dD (c:=b=Qr) (λ_=>bV<|h n st d o u) λ_=>bO<|KI d λM z=>?_) λG=>?_
 all_goals
  first
   | have d:=z
   | skip
  refine bO<|wpS_lift<|jI {U,?_};refine bO<|kY (iW (I:=λx c a1=>∃q,c=(Qq,x,q)/\n+1<=x/\x<=nrem/\SB kd a₀ pe a1) (Q:=λc a1=>∃m q,c=(Qq,m,q)/\n+1<=m/\m<=nrem/\SB kd a₀ pe a1) ?_ ?_ {0,U,aV _,∅,d}) ?_
  .rintro x c a1 _ hx ⟨q,rfl,f,e,a⟩;dsimp only;exact bO<|ET C a ∅ ∅ λb=>dD (c:=b=Qr) (λ_=>dD (λ_=>bO<|KI a λB i=>bV {6,∅,∅,i}) λ_=>bV {6,∅,∅,a}) λ_=>bO<|ET C a ∅ ∅ λb=>dD (c:=b=Qr) (λ_=>bV {_,6,f,e,a}) λ_=>bV {6,∅,∅,a}
  .rintro c a1 ⟨q,rfl,f,e,a⟩;exact{_,q,U,f,e,a}
  .rintro c a1 ⟨m,q,rfl,f,e,a⟩;dsimp only;refine dD (λ_=>bO<|KI a λB i=>?_) λ_=>?_
   all_goals
    first
     | have a:=i
     | skip
    exact bO<|KI a λL j=>bO<|XC C l ∅ e j λk N J=>bV<|h k _ j ∅ J
end
def Oo{l:Type}:∀(d:Qi l)(i o:Qk)(b:Qo l),o+i+↑d<=b.size->
  ((d.zipIdx i).foldl (λa x=>a.setIfInBounds (o+x.2) x.1) b).toList=b.toList.take (o+i)++d++b.toList.drop (o+i+↑d):=λd=>d.recOn
 (λi o b _=>by simp)
 λx d j i o b h=>by
  have hl:o+i<b.size:=by rw[cK]at h;lia
  rw[Wm,uF];have:=j (i+1) o (b.setIfInBounds (o+i) x) (by rw[Qo.size_setIfInBounds];rw[cK]at h;lia);rw[this,Qo.toList_setIfInBounds,cK];have a1:o+i<↑b.toList:=by rw[iK];exact hl
  rw[Qi.take_set,Qi.drop_set_of_lt ∅];have e:(b.toList.take<|o+(i+1)).set (o+i) x=b.toList.take (o+i)++[x]:=by
   rw[show o+(i+1)=o+i+1 by lia,dE,bM a1];rw[Qi.set_append_right _ _<|by rw[dR];lia];have f:o+i-↑(b.toList.take<|o+i)=0:=by rw[dR];lia
   rw[f];rfl
  rw[e,show o+(i+1)+↑d=o+i+(↑d+1) by lia,dY,dY];simp
def Hs(h:2<=n)(a:n<128):∃m,minRun' n n 0=m/\1<=m/\m<=n/\n<=2*m:=by
 exists 6;obtain⟨f,rfl⟩:∃f,n=f+1+1:=⟨n-2,by lia⟩;rw[Q5]
 by_cases c:f+1+1<64
 .rw[bG c];lia
 .rw[bA c,Q5,bG ∅];have:max 0 ((f+1+1) % 2)=(f+1+1) % 2:=by lia
  rw[this];lia
section
variable{kd:Tp}{LT:Keyed->Keyed->Qm}{a₀:Qo Keyed}{st:Rg}
def Ja{b:Type}{M:K6}{st a:b}{Q:PUnit->b->Prop}(h:Q ⟨⟩ a):Vh M A E s (set a:StateT b Xg PUnit) Q st:=by
 unfold Vh;exact aZ ⟨rfl,h⟩
def uN(C:oC ⇑[] A E s kd (·∈a₀.toList) LT){m r j:Qk}{Q:Qm->Rg->Prop}(hB:SB kd a₀ #[(0,m,j),(m,r,0)] st)(hm:1<=m)(hr:1<=r)(hz:m+r=a₀.size)
  (h:∀st',(arrOf st').Perm a₀->To st'=Qq->(Si st').size=1->Q Qr st'):Vh ⇑[] A E s (O0 0) Q st:=by
 obtain⟨hp,n,z,Z⟩:=id hB;have hsz:(arrOf st).size=m+r:=by rw[hp.size_eq];exact hz.symm
 have J:=vz9.mp hp;have l:∀x∈(arrOf st).toList,x∈a₀.toList:=λx hx=>J.mem_iff.mp hx;have L:(arrOf st).toList.length=m+r:=by rw[iK];exact hsz
 have M:∀i,i<m+r->∃x,(arrOf st).toList[i]?\x/\x∈a₀.toList:=λi hi=>⟨_,bM ∅,l _<|fP _⟩
 unfold O0 Vh
 wp_delta
 wp_delta
 show Vh ⇑[] A E s (get >>= _) Q st;refine bO<|mQ ?_;have q:(((#[(0,m,j),(m,r,0)]:Qo (Qk×Qk×Qk)).setIfInBounds 0 (0,m+r,j)).eraseIdxIfInBounds<|0+1).size=1:=by simp[Qo.eraseIdxIfInBounds]
 have a1:=Z;unfold Si at a1;rw[a1];refine bO<|Ja ?_;obtain⟨x,hx,ux⟩:=M m ∅;refine bO (m:=elem' (arrOf st) m)<|gW hx ?_;refine bO (m:=iU Qs x (arrOf st) 0 m 0)<|zU C n ∅ ∅ l ux λk a7=>?_;refine dD (c:=(m-k == 0)=Qr) (λc=>bV<|h _ hp z q) λc=>?_;have c:=dO c;obtain⟨y,X,uy⟩:=M (0+k+(m-k)-1) ∅;refine bO (m:=elem' (arrOf st)<|0+k+(m-k)-1)<|gW X ?_;refine bO (m:=iU Qr y (arrOf st) m r<|r-1)<|zU C n ∅ ∅ l uy λb a6=>?_;refine dD (c:=(b == 0)=Qr) (λc=>bV<|h _ hp z q) λd=>?_;have d:=dO d;have u:((arrOf st).extract (0+k) m).toList=((arrOf st).toList.take m).drop k:=by rw[rB,lW]
 have B:((arrOf st).extract m<|m+b).toList=((arrOf st).toList.drop m).take b:=MS _ _ _;have H:((arrOf st).extract (0+k) m).size=m-k:=by rw[<-iK,u,nM,dR,L];lia
 have G:((arrOf st).extract m<|m+b).size=b:=by rw[<-iK,B,dR,nM,L];lia
 have T:∀x∈((arrOf st).extract (0+k) m).toList,x∈a₀.toList:=λx hx=>l x (by rw[u]at hx;exact lT<|FJ hx)
 have N:∀x∈((arrOf st).extract m<|m+b).toList,x∈a₀.toList:=λx hx=>l x (by rw[B]at hx;exact FJ<|lT hx)
 have last:∀(mg:Qo Keyed)(f:Rg),mg.toList.Perm (((arrOf st).extract (0+k) m).toList++((arrOf st).extract m<|m+b).toList)->SameG (setPending st<|((#[(0,m,j),(m,r,0)]:Qo (Qk×Qk×Qk)).setIfInBounds 0 (0,m+r,j)).eraseIdxIfInBounds<|0+1) f->
   Q (To f).isNone (setArr f<|(mg.toList.zipIdx).foldl (λa x=>a.setIfInBounds (0+k+x.2) x.1)<|arrOf f):=λmg f O hs=>by
  have W:To f=none:=hs.fa.trans z;rw[W];refine h _ ?_ W ?_
  .show((mg.toList.zipIdx).foldl (λa x=>a.setIfInBounds (0+k+x.2) x.1)<|arrOf f).Perm a₀;rw[show arrOf f=arrOf st from hs.ar];have I:↑mg.toList=m-k+b:=by rw[O.length_eq,bK,iK,iK,H,G]
   have e:=Oo mg.toList 0 (0+k) (arrOf st) (by rw[I];lia);rw[Qk.add_zero,lW,I,show k+(m-k+b)=m+b by lia]at e;rw[lW];have eL:(arrOf st).toList=(arrOf st).toList.take k++(((arrOf st).toList.take m).drop k++((arrOf st).toList.drop m).take b)++(arrOf st).toList.drop (m+b):=by
    rw[dY,dY,<-RK,<-dY,<-MU _ (by lia:k<=m),vS]
   rw[vz9,e];refine Qi.Perm.trans ?_ J
   conv=>rhs;rw[eL]
   refine Qi.Perm.append_right _<|FQ _ ?_;rw[<-u,<-B];exact O
  .show(Si f).size=1;rw[hs.pe];exact q
 refine dD (λ_=>?_) λ_=>?_
 .exact bO (m:=lJ ((arrOf st).extract (0+k) m)<|(arrOf st).extract m<|m+b)<|xU C n T N (by rw[H];lia) (by rw[G];lia) λmg f o hs=>bO<|wQ<|bO<|mQ<|bV<|last mg f o hs
 .exact bO (m:=kX ((arrOf st).extract (0+k) m)<|(arrOf st).extract m<|m+b)<|tW C n T N (by rw[H];lia) (by rw[G];lia) λmg f o hs=>bO<|wQ<|bO<|mQ<|bV<|last mg f o hs
inductive Rn(n mr lo:Qk)(st:Rg):Prop
 | zero:lo=0->Si st=#[]->Rn n mr lo st
 | one (p:Qk):1<=lo->lo<=n->(lo=n\/mr<=lo)->Si st=#[(0,lo,p)]->Rn n mr lo st
 | two (m r p:Qk):lo=n->m+r=n->1<=m->1<=r->Si st=#[(0,m,p),(m,r,0)]->Rn n mr lo st
def Nv(C:oC ⇑[] A E s kd (·∈a₀.toList) LT){Q:Unit->Rg->Prop}(u:SB kd a₀ #[] st)(M:2<=a₀.size)(N:a₀.size<128)
  (h:∀a1,(arrOf a1).Perm a₀->To a1=Qq->Q () a1):Vh ⇑[] A E s sortRuns' Q st:=by
 rw[sortRuns'_eq];refine bO<|mQ ?_;obtain⟨b,W,m1,m2,m3⟩:=Hs M N;dsimp only;rw[u.pm.size_eq,W];refine bO<|kY (iW (I:=λx c a1=>∃lo,c=(Qq,lo)/\x<=lo/\lo<=a₀.size/\SB kd a₀ (Si a1) a1/\Rn a₀.size b lo a1) (Q:=λc a1=>c=(Qq,a₀.size)/\SB kd a₀ (Si a1) a1/\Rn a₀.size b a₀.size a1) ?step ?fin ?init) ?post
 case init=>exact{0,U,aV _,cE _,{u.pm,u.kd,u.fa,U},.zero rfl u.pe}
 case fin=>
  rintro c a1 ⟨lo,rfl,X,Z,T,q⟩;have e:lo=a₀.size:=by lia
  subst e;exact⟨rfl,T,q⟩
 case step=>
  rintro x c a1 _ hx ⟨lo,rfl,X,Z,o,q⟩;dsimp only
  by_cases J:lo≥a₀.size
  .rw[bG J];have e:lo=a₀.size:=by lia
   subst e;exact bV ⟨rfl,o,q⟩
  rw[bA J];refine bO<|vH C (nrem:=a₀.size-lo) ∅ ∅ o λn d j f i=>?_;dsimp only;refine dD (λL=>bO<|wpS_lift<|jI {U,bO<|wM C (n:=min (a₀.size-lo) b) ∅ j λd j=>?_}) λL=>?_
  all_goals first
   | (rw[bA<|by decide];(have l:1<=min (a₀.size-lo) b/\min (a₀.size-lo) b<=a₀.size-lo/\(min (a₀.size-lo) b=a₀.size-lo\/b<=min (a₀.size-lo) b):=by lia);clear f i L;generalize min (a₀.size-lo) b=n at l)
   | ((have l:1<=n/\n<=a₀.size-lo/\(n=a₀.size-lo\/b<=n):=by lia))
  all_goals
   refine bO<|mQ ?_;have ep:=j.pe;cases q with
   | zero el el2=>
    subst el;rw[el2]at ep;rw[ep];refine bO<|wQ<|bV {0+n,U,∅,∅,{j.pm,j.kd,j.fa,U},(.one 0 ∅ ∅ ∅ ?_)};show(Si d).push (0,n,0)=_;rw[ep,lW];rfl
   | one p q1 q2 q3 q4=>
    rw[q4]at ep;rw[ep];have O:(#[(0,lo,p)]:Qo (Qk×Qk×Qk)).back?\(0,lo,p):=rfl;rw[O];refine bO<|kY (iW (I:=λx c a=>d=a/\c=(Qq,())) (Q:=λc a=>d=a/\c=(Qq,())) ?_ (λ_ _ h=>h) ⟨rfl,rfl⟩) ?_
    .rintro x c _ _ hx ⟨rfl,rfl⟩;refine bO<|mQ ?_;rw[ep];exact bV ⟨rfl,rfl⟩
    rintro c _ ⟨rfl,rfl⟩;dsimp only;refine bO<|wQ<|bO<|wQ<|bV {lo+n,U,∅,∅,{j.pm,j.kd,j.fa,U},(.two lo n (power' a₀.size (2*0+lo) (2*0+lo+lo+n) a₀.size) ∅ ∅ ∅ ∅ ?_)};show((Si d).modify ((Si d).size-1) _).push (lo,n,0)=_;rw[ep];simp[Qo.modify,Qo.modifyM,Id.run];rfl
   | two m' r p q1=>lia
 case post=>
  rintro c B ⟨rfl,o,q⟩;dsimp only;cases q with
  | zero e=>lia
  | one p q1 q2 q3 q4=>
   refine bO<|kY (iW (I:=λx c a=>B=a/\c=(Qq,())) (Q:=λc a=>B=a/\c=(Qq,())) ?_ (λ_ _ h=>h) ⟨rfl,rfl⟩) ?_
   .rintro x c _ _ hx ⟨rfl,rfl⟩;refine bO<|mQ ?_;rw[q4];exact bV ⟨rfl,rfl⟩
   rintro c _ ⟨rfl,rfl⟩;exact bV<|h _ o.pm o.fa
  | two m r p q0 q1 q2 q3 q4=>
   rw[q4]at o;refine bO<|kY (iW (I:=λx c a=>c=(Qq,())/\(x=0->B=a)/\(x≠0->(arrOf a).Perm a₀/\To a=Qq/\(Si a).size=1)) (Q:=λc a=>c=(Qq,())/\(arrOf a).Perm a₀/\To a=Qq) ?_ ?_ {U,λ_=>U,λz=>absurd rfl z}) ?_
   .rintro x c d _ hx ⟨rfl,H,G⟩;refine bO<|mQ ?_
    by_cases ex:x=0
    .cases H ex;rw[q4];refine dD (λz=>absurd z (show ¬2<=1 by decide)) λ_=>?_;refine bO (m:=O0 0)<|uN C o q2 q3 q1 λa8 f i l=>?_;rw[bA<|by decide];exact bV {U,λz=>by lia,λ_=>⟨f,i,l⟩}
    .obtain⟨f,i,l⟩:=G ex;refine dD (λ_=>bV ⟨rfl,f,i⟩) λz=>absurd (by rw[l];exact aV _) z
   .rintro c d ⟨rfl,H,G⟩;obtain⟨f,i,l⟩:=G ∅;exact⟨rfl,f,i⟩
   rintro c d ⟨rfl,f,i⟩;exact bV<|h _ f i
end
section
variable{kd:Tp}{LT:Keyed->Keyed->Qm}
def pG(h:Qa)(a:eH)(vs:Qi iH):Qa:=((h.update a<|Td λ_=>#[]).push<|seqObj "tuple" vs.toArray 0).push<|seqObj "list" #[] 0
def Gz{P:N1->Pw->Prop}(i:s.heap.get? a\seqObj "list" vs.toArray n)(hl:↑vs<128)(G:2<=↑vs->∀Q:Tp->Pw->Prop,Q kd {s with heap:=pG s.heap a vs}->Qw ⇑[] A (keyKind' vs.toArray) Q E {s with heap:=pG s.heap a vs})(C:oC ⇑[] A E {s with heap:=pG s.heap a vs} kd (·∈(Ti vs).toList) LT)(h:∀out:Qo Keyed,out.Perm (Ti vs)->P (.done<|.ret .none) {s with heap:=sortedHeap s.heap a vs<|out.map (·.2)}):
  Qw ⇑[] A (Px.«list.sort» {pos:=[.ref a]}) P E s:=by
 rw[list_sort_plain];have o:=cI i;have x:vs.toArray.size<=sizeLine:=by rw[kZ,dN];lia
 refine aC<|listItems_at i rfl<|aC<|listUpdate_at i rfl ?_ x<|cE _;obtain⟨q,u⟩:∃e,(s.heap.update a<|Td λ_=>#[]).get? a\seqObj "list" #[] e:=⟨_,get?_update_seq i λ_=>#[]⟩;refine aC<|seqEpoch_at u rfl<|aC<|wpAny_newTuple<|aC<|wpAny_newList<|gQ ?_;have a1:(pG s.heap a vs).get? a\seqObj "list" #[] q:=by
  unfold pG;rw[B4 _ _ _ (by rw[G5,C4];exact dB<|Wb o),B4 _ _ _<|by rw[C4];exact dB o];exact u
 have m:∀(r:Xg N1)(st:Rg),To st=Qq->(arrOf st).Perm (Ti vs)->
   Qw ⇑[] A (seqEpoch a >>= λl=>Px.List.listUpdate (.ref a) (λ_=>(arrOf st).map (·.2)) >>= λ_=>if (l != q)=Qr then r else ret Rm) P E {s with heap:=pG s.heap a vs}:=λr st H b=>by
  refine aC<|seqEpoch_at a1 rfl<|aC<|listUpdate_at a1 rfl ?_ (cE _) ?_
  .simp only[bne_self_eq_false,oI,iF];exact aZ<|h _ b
  .rw[Qo.size_map,b.size_eq,Q3,kZ];lia
 dsimp only
 by_cases b:vs.toArray.size<2
 .rw[bG b,bG b];refine aC<|aZ ?_;rw[StateT.run_pure];refine aC<|aZ ?_;exact m _ (Rg.mk' general' (Ti vs) #[] 7 Qq) rfl<|Array.Perm.refl _
 .rw[bA b,bA b];have B:2<=↑vs:=⇑[b]
  refine aC<|G B _ ?_;refine aC ?_;have J:(Ti vs).size=↑vs:=Q3 vs;have:=Nv (Q:=λ_ d=>To d=Qq/\(arrOf d).Perm (Ti vs)) (st:=Rg.mk' kd (Ti vs) #[] 7 Qq) C ⟨Qo.Perm.refl _,rfl,rfl,rfl⟩ ∅ ∅ λd j f=>⟨f,j⟩
  unfold Vh at this;refine jG this ?_ λ_ _ z=>z;rintro⟨⟨⟩,d⟩ I ⟨rfl,f,j⟩;dsimp only at j f ⊢;rw[f];exact m _ d f j
end
def PH(a b:zZ):Bool:=decide<|a.cps.toList<b.cps.toList
abbrev Pr:=zZ×zZ
def MH(x y:Pr):Bool:=if x.1=y.1 then PH x.2 y.2 else PH x.1 y.1
def Kf(a:zZ):PH a a=false:=strKind.irrefl _
def IsP(h:Qa)(v:iH)(p:Pr):Prop:=∃a o n t u,v=.ref a/\h.get? a\o/\o.cls=.type "tuple"/\o.data=.seq #[.str p.1 t,.str p.2 u] n
def IsP.keep(x:IsP h v p)(k:∀b o,h.get? b\o->h'.get? b\o):IsP h' v p:=by
 obtain⟨a,o,n,t,u,e,g,c,d⟩:=x;exact{a,o,n,t,u,e,k _ _ g,c,d}
def Np{dec:iH->Pr}{vs:Qi iH}{Q:Tp->Pw->Prop}(b:∀v∈vs,IsP s.heap v<|dec v)(j:vs≠[])(h:Q (J5 Qr) s):Qw ⇑[] A (keyKind' vs.toArray) Q E s:=by
 have f:∀vs:Qi iH,(∀v∈vs,IsP s.heap v<|dec v)->∃fs:Qi iH,↑fs=↑vs/\PySem.W.KatTups s.heap vs fs/\∀v∈fs,∃x t,v=.str x t:=by
  intro vs
  induction vs with
  | nil=>intro _;exact{[],U,.nil,λ_ h=>nomatch h}
  | cons v vs q=>
   intro b;obtain⟨fs,l,k,c⟩:=q λv h=>b v<|.tail _ h;obtain⟨a,o,n,t,u,rfl,g,m,d⟩:=b v<|.head _;refine{.str (dec<|.ref a).1 t::fs,cP (·+1) l,.cons g m d rfl k,λv b=>?_};obtain e|b:=vj0.mp b
   .exact⟨_,_,e⟩
   .exact c v b
 obtain⟨fs,l,k,c⟩:=f vs b;have r:0<↑fs:=by rw[l];exact uh2.mpr j
 refine PySem.W.kat_kind (T:=.type "str") k r (λv b=>?_) ↥?_ h;obtain⟨x,t,rfl⟩:=c v b;intro A Q E s _ i;exact aZ i
def Cd{dec:iH->Pr}{vs:Qi iH}(j:∀v∈vs,IsP s.heap v<|dec v):oC ⇑[] A E s (J5 Qr) (·∈(Ti vs).toList) (λx y=>MH (dec x.1)<|dec y.1):=by
  intro x y st Q N B C h;have mem:∀z:Keyed,z∈(Ti vs).toList->z.1∈vs:=λz M=>by
   have:=Qo.mem_toList_iff.mp M;unfold Ti at this;rw[Wl]at this;exact(xO<|⇑[this]).1
  obtain⟨a,o,n,t,u,l,g,c,d⟩:=j _<|mem x N;obtain⟨b,H,G,J,q,m,O,T,L⟩:=j _<|mem y B;rw[lt'_eq];refine bO<|mQ ?_;rw[C];have hl:Qw ⇑[] A (keyLt' (J5 Qr) x.1 y.1) (λb i=>i=s/\b=MH (dec x.1) (dec y.1)) (λ_ _=>Qn) s:=by
   rw[l,m];refine PySem.W.kat_lt g d O L ?_;rw[<-l,<-m];have z:decide ((#[Tu (dec x.1).1 t,Tu (dec x.1).2 u]:Qo iH).size<(#[Tu (dec y.1).1 J,Tu (dec y.1).2 q]:Qo iH).size)=false:=rfl;rw[z];show PySem.W.KatLex prog w A Qr Qs _ [(Tu (dec x.1).1 t,Tu (dec y.1).1 J),(Tu (dec x.1).2 u,Tu (dec y.1).2 q)] 0 s;unfold MH;refine Zg<|wpAny_eqBool_str ?_
   by_cases e:(dec x.1).1=(dec y.1).1
   .rw[cN e,bG e];refine Zr<|Zg<|wpAny_eqBool_str ?_
    by_cases f:(dec x.1).2=(dec y.1).2
    .rw[cN f,f,Kf];exact Zr<|PySem.W.kat_nil ⟨rfl,rfl⟩
    .rw[fE f];exact A6<|PySem.W.kat_one _ _<|lt_str ⟨rfl,rfl⟩
   .rw[fE e,bA e];exact A6<|oneLt_str ⟨rfl,rfl⟩
  refine bO<|wpS_lift<|nD<|jG hl ?_ ?_
  .rintro r i ⟨rfl,rfl⟩;exact{U,bV h}
  .intro _ _ z;exact z.elim
section
variable{it d:eH}{od:Qg}{es:Qo Ua}{i ep:Qk}
def On(f:s.heap.IsKeyIter it d i es.size ep)(l:s.heap.get? d\od)(m:od.data=.dict es ep)(he:es[i]?\e)(r:∀h',h'.IsKeyIter it d (i+1) es.size ep->Rf it s.heap h'->Q (Qp e.key) {s with heap:=h'}):Qw ⇑[] A (Rq<|.ref it) Q E s:=by
 obtain⟨⟨C,z,B,u⟩,b,n,hd⟩:=f;dsimp only at n hd;subst n hd;have hd:(Qg.mk (.type "dict_keyiterator") z (.fields #[.ref d,.int (i:Ql) 0,.int (es.size:Ql) 0,.int (ep:Ql) 0]) u).data=.fields #[.ref d,.int (i:Ql) 0,.int (es.size:Ql) 0,.int (ep:Ql) 0]:=rfl;have f:s.heap.IsKeyIter it d i es.size ep:=⟨_,b,rfl,rfl⟩;have a:=f.typeIs;unfold Rq;refine aC<|nD<|kB a vt9<|iD vt9 a Xj ?_<|Xe<|.ref it;refine aC<|aZ<|aC<|aC<|aC<|LB a<|aZ<|aC<|wpAny_fieldsOf b hd ?_;have j:Px.Dict_items.ownsTuple "dict_keyiterator"=false:=by decide
 simp only[j,oI,iF];show Qw _ _ (if (Qy d == Rm)=Qr then _ else _) _ _ s;rw[bA<|by exact eJ];refine aC<|aZ<|aC<|sJ l m ?_;rw[bA<|by simp];refine aC<|aZ<|aC<|BG l m ?_;rw[bA<|by simp];refine aZ ?_;dsimp only;have G:i<es.size:=(Qo.getElem?_eq_some_iff.mp he).1;have q:(if (i:Ql)<0 then Qq else es[(i:Ql).toNat]?)\e:=by rw[bA ∅,rD];exact he
 rw[q];dsimp only;refine aC<|aC<|LB a<|aZ ?_;simp only[j,oI,iF];refine aC<|wpAny_isOneOf_keyiter a ?_;have h:=tJ (Qg.mapFields λx=>x.setIfInBounds (0+1)<|rawInt<|i+1) b rfl;refine aC<|wpAny_setField (x:=rawInt<|i+1) b hd (show 0+1<4 by decide) ?_;have a1:(s.heap.update it<|Qg.mapFields λx=>x.setIfInBounds (0+1)<|rawInt<|i+1).IsKeyIter it d (i+1) es.size ep:=⟨_,h,rfl,rfl⟩;have o:Pw.TypeIs {s with heap:=s.heap.update it<|Qg.mapFields λx=>x.setIfInBounds (0+1)<|rawInt<|i+1} (.ref it) "dict_keyiterator":=⟨_,h,rfl⟩;refine aC<|gQ ?_;refine aC<|wpAny_isOneOf_keyiter o ?_;rw[bG<|by decide];exact aZ<|aZ {6,aZ<|r _ a1<|zH _ _ _}
def tL(q:A.handled=Qq)(a1:s.heap.IsKeyIter it d i es.size ep)(h:s.heap.get? d\od)(m:od.data=.dict es ep)(he:es[i]?=Qq)(r:∀h',Tq it s.heap h'->Q Qq {s with heap:=h'}):Qw ⇑[] A (Rq<|.ref it) Q E s:=by
 obtain⟨⟨B,u,z,o⟩,f,l,hd⟩:=a1;dsimp only at l hd;subst l hd;have hd:(Qg.mk (.type "dict_keyiterator") u (.fields #[.ref d,.int (i:Ql) 0,.int (es.size:Ql) 0,.int (ep:Ql) 0]) o).data=.fields #[.ref d,.int (i:Ql) 0,.int (es.size:Ql) 0,.int (ep:Ql) 0]:=rfl;have a1:s.heap.IsKeyIter it d i es.size ep:=⟨_,f,rfl,rfl⟩;have e:=a1.typeIs;unfold Rq;refine aC<|nD<|kB e vt9<|iD vt9 e Xj ?_<|Xe<|.ref it;refine aC<|aZ<|aC<|aC<|aC<|LB e<|aZ<|aC<|wpAny_fieldsOf f hd ?_;have j:Px.Dict_items.ownsTuple "dict_keyiterator"=false:=by decide
 simp only[j,oI,iF];show Qw _ _ (if (Qy d == Rm)=Qr then _ else _) _ _ s;rw[bA<|by exact eJ];refine aC<|aZ<|aC<|sJ h m ?_;rw[bA<|by simp];refine aC<|aZ<|aC<|BG h m ?_;rw[bA<|by simp];refine aZ ?_;dsimp only;have n:(if (i:Ql)<0 then Qq else es[(i:Ql).toNat]?)=none:=by rw[bA ∅,rD];exact he
 rw[n];dsimp only;refine aC<|aC<|LB e<|aZ ?_;simp only[j,oI,iF];refine aC<|wpAny_setField (x:=.none) f hd (show 0<4 by decide) ?_;refine Ej (s:={s with heap:=_}) (s0:=s) q (Rf.extBut<|zH _ _ _) λa h' k C=>?_;refine aC<|vP (T:="StopIteration") (b:=Qr) C BL ?_;exact aZ<|r h' k
def Mb(lo:(d == Rh)=Qs)(a:s.heap.get? d\od)(e:od.cls=.type "dict")(a1:od.data=.dict es ep)(f:Q (.ref s⁻¹) {s with heap:=s.heap.push {cls:=.type "dict_keyiterator",data:=.fields #[.ref d,.int 0 0,.int (es.size:Ql) 0,.int (ep:Ql) 0]}}):Qw ⇑[] A (Xk<|.ref d) Q E s:=by
 have b:s.TypeIs (.ref d) "dict":=⟨_,a,e⟩;refine J2 b Xd<|iD Xd b F.entry_dict_iter ?_<|F.args_dict_iter_1 _;unfold Px.«dict.__iter__» Px.Dict.dictSlotNone;refine aC<|aC<|KU b ?_;refine aC<|aZ<|aZ<|aC<|aZ ?_;refine aC (m:=Vs d) ?_;unfold Vs;rw[bA<|by rw[lo];exact eJ];refine aZ ?_;refine aC<|sJ a a1<|aC<|BG a a1<|aC<|jP<|aZ {6,"dict_keyiterator",_,{_,dQ _ rfl,U},vt9.lookup,f}
def DE(h:Qa)(d:eH)(es:Qo Ua)(ep:Qk):Prop:=∃od,h.get? d\od/\od.cls=.type "dict"/\od.data=.dict es ep
def DE.at(x:DE h d es ep)(k:∀o,h.get? d\o->h'.get? d\o):DE h' d es ep:=by
 obtain⟨od,a,b⟩:=x;exact{od,k _ a,b}
def DE.lt(x:DE h d es ep):d<h.objs.size:=by obtain⟨od,a,b⟩:=x;exact cI a
def Cq(q:A.handled=Qq)(I:eH)(n:d≠I):Walks prog w A I [I,d] [I] es.size (λi v=>∃e,es[i]?\e/\v=e.key) (λi h=>h.IsKeyIter I d i es.size ep/\DE h d es ep) where
 sub:=λb f=>by simp at f;simp[f]
 frame:=λi h u st l=>⟨st.1.at λo e=>l I ↥_ o e,st.2.at λo e=>l d ↥_ o e⟩
 item:=λi s Q E x st j=>by
  obtain⟨od,a,b,c⟩:=st.2;refine On st.1 a c (ID x) λu r m=>?_;exact j _ u s.toks {_,ID x,U} {r,st.2.at λo e=>m.extBut _ _ n e} λb o f e=>m.extBut b o (λz=>f<|by simp[z]) e
 done:=λs Q E st j=>by
  obtain⟨od,a,b,c⟩:=st.2;exact tL q st.1 a c (Qo.getElem?_eq_none_iff.mpr<|aV _) λu k=>j u s.toks λb o f e=>k b o (λz=>f<|by simp[z]) e
 self:=λ_ _ _ _ st j=>C8 st.1 j
def Lo(lo:(d == Rh)=Qs):A7 prog w "dict" d d es.size (λi v=>∃e,es[i]?\e/\v=e.key) (λh=>DE h d es ep) where
 type:=λs x=>by obtain⟨od,a,b,c⟩:=x;exact⟨od,a,b⟩
 there:=λh x=>⟨x.lt,x.lt⟩
 keep:=λh l x k=>x.at λo e=>k d (.inl rfl) o e
 notList:=by decide
 notTuple:=by decide
 hint:=λA E s Q x f=>by
  obtain⟨od,a,b,c⟩:=x;exact PySem.W.kdl_hint_dict ⟨od,a,b⟩ f
 iter:=λA s j x=>by
  obtain⟨od,a,b,c⟩:=x;refine{{cls:=.type "dict_keyiterator",data:=.fields #[.ref d,.int 0 0,.int (es.size:Ql) 0,.int (ep:Ql) 0]},λi h=>h.IsKeyIter s⁻¹ d i es.size ep/\DE h d es ep,λE Q f=>Mb lo a b c f,Cq j _<|dB<|cI a,{_,dQ _ rfl,U,U},od,cB _ a,b,c}
end
section
variable{T:String}{r d:eH}{n:Qk}{P:Qk->iH->Prop}{OK:Qa->Prop}
def RZ(S:A7 prog w T r d n P OK)(m:A.handled=Qq)(ok:OK s.heap)(u:n<=sizeLine)(q:∀h' tk (f:Qo iH),(∀b o,s.heap.get? b\o->h'.get? b\o)->ItemsOf P f n->s⁻¹<h'.objs.size->Q f.toList {s with heap:=h',toks:=tk}):Qw ⇑[] A (J7<|.ref r) Q E s:=by
 unfold J7;refine aC<|wpAny_runValue<|zV F.entry_proto_collect ?_;rw[yZ F.plain_proto_collect _];show Qw _ A.in1 (newList [] >>= λl=>again<|.builtin "list.__iadd__" ⟨[l,.ref r],[]⟩) _ _ s;refine aC<|jP ?_;refine aZ {FA F3 _,zV F.entry_list_iadd ?_};rw[yZ F3 _];have C:=S.there _ ok;have z:(s.heap.push {cls:=.type "list",data:=.seq ([]:Qi iH).toArray}).get? s⁻¹=Qp {cls:=.type "list",data:=.seq ([]:Qi iH).toArray}:=dQ _ rfl;have a1:OK (s.heap.push {cls:=.type "list",data:=.seq ([]:Qi iH).toArray}):=S.keep _ _ ok λb B o e=>cB _ e;show Qw _ A.in1 (Tw (.ref s⁻¹) (.ref r)<|.ref s⁻¹) _ _ _;refine PySem.W.kdl_extend (R:=λr h=>match r with
    | .ok (.ret v)=>Qw ⇑[] A (match v with
      | .ref a=>do
       match (<-load a).data with
        | .seq G _=>pure G.toList
        | _=>Xt "internal:collect"
      | _=>Xt "internal:collect") Q E h
    | .ok _=>Qn
    | .error e=>E e h) (s:={s with heap:=s.heap.push {cls:=.type "list",data:=.seq ([]:Qi iH).toArray}}) S m a1 s⁻¹ (kC C.1) (kC C.2) _ 0 z (λh' tk f H x i j=>?_) u
 show Qw _ A (load s⁻¹ >>= _) _ _ _;refine aC<|wpAny_load (s:={s with heap:=h',toks:=tk}) i ?_;exact aZ<|q h' tk f (λb o e=>x b o (dB<|cI e)<|cB _ e) j<|cI i
end
def Di(hz:z∈(Ti vs).toList):z.1∈vs/\z.2=z.1:=by
 have:=Qo.mem_toList_iff.mp hz;unfold Ti at this;rw[Wl]at this;have h:z∈P5 vs vs:=⇑[this]
 exists (xO h).1;obtain⟨i,a,e⟩:=pI h;rw[<-e,Qi.getElem_zip]
def Mv(vs:Qi iH):(Ti vs).toList=vs.map λv=>(v,v):=by
 unfold Ti;rw[Wl];show P5 vs vs=_
 induction vs with
 | nil=>rfl
 | cons v vs a=>rw[Qi.zip_cons_cons,a];rfl
def Eh{x:iH}{dec:iH->Pr}{Q:Vp}
  (B:Qw ⇑[] A.in1 (J7 x) (λvs a=>↑vs<128/\(∀v∈vs,IsP a.heap v<|dec v)/\
   ∀h' e (i:Qi iH),i.Perm vs->(∀b o,a.heap.get? b\o->h'.get? b\o)->h'.get? a⁻¹\seqObj "list" i.toArray e->Q (.ref a⁻¹) {a with heap:=h'}) E s):
  Qw ⇑[] A (call (.builtin "sorted") [x]) Q E s:=by
 refine QG kind_sorted Q2 Q8 (R0 x) ?_;unfold Px.«sorted»;refine aC (m:=checkCount "sorted" 1 1 _)<|aZ ?_;refine aC<|jG B ?_ λ_ _ z=>z;rintro vs a ⟨L,I,G⟩;have f:↑vs<=sizeLine:=by rw[kZ];lia
 refine aC<|wpAny_newList ?_ f;have h:(a.heap.push<|seqObj "list" vs.toArray 0).get? a⁻¹\seqObj "list" vs.toArray 0:=dQ _ rfl;have M:∀b o,a.heap.get? b\o->(pG (a.heap.push<|seqObj "list" vs.toArray 0) a⁻¹ vs).get? b\o:=λb o e=>by
  have d:=cI e;unfold pG;refine cB _<|cB _ ?_;rw[AY _ _<|kC d];exact cB _ e
 have j:∀v∈vs,IsP (pG (a.heap.push<|seqObj "list" vs.toArray 0) a⁻¹ vs) v (dec v):=λv f=>(I v f).keep M;refine aC<|gQ<|iD N9 (s:={a with heap:=a.heap.push<|seqObj "list" vs.toArray 0}) {_,h,U} N0 (Gz (kd:=J5 Qr) (s:={a with heap:=a.heap.push<|seqObj "list" vs.toArray 0}) h L (λl J q=>Np (dec:=dec) j (λz=>by rw[z]at l;simp at l) q) (Cd j) λout a1=>{6,?_})<|args_list_sort _;obtain⟨e,N⟩:=P2 (out:=out.map (·.2)) h;have r:=vz9.mp a1;have H:out.toList.map (·.2)=out.toList.map (·.1):=nL λz L=>(Di<|r.mem_iff.mp L).2;have O:(out.toList.map (·.1)).Perm vs:=by
  have:=r.map (·.1);rw[Mv,gU]at this;have C:vs.map ((λx:Keyed=>x.1)∘λv=>(v,v))=vs:=by
   show vs.map (λv=>v)=vs;exact Qi.map_id' vs
  rwa [C]at this
 refine aZ {6,G _ e (out.toList.map (·.1)) O (λb o n=>?_) ?_}
 .have d:=cI n;rw[N8 (dB d)<|by rw[G5];exact Wb d];exact cB _ n
 .rw[<-H];have u:(out.toList.map (·.2)).toArray=out.map (·.2):=by rw[<-Qo.toList_map,Yt]
  rw[u];exact N
def jY(p:Pr):Qi aK:=[Qt p.1,Qt p.2]
def XJ(h:jY p=jY q):p=q:=by
 unfold jY at h;injection h with h1 h2;injection h2 with h2 _;exact pO (oT h1)<|oT h2
abbrev rX(P:Py)(w:Qb):=tupleKind<|cR P w
section
variable{α:Type}{f:α->iH}{qs:Qi (Pr×eH×α)}
def lG(f:α->iH)(q:Pr×eH×α):Qi aK×eH×iH:=(jY q.1,q.2.1,f q.2.2)
def ZU(f:α->iH)(P:Py)(w:Qb)(a:eH)(qs:Qi (Pr×eH×α))(h:Qa):Prop:=↑qs<=sizeLine/\(a == Rh)=Qs/\
 ∃o b d,h.get? a\o/\o.ExactDict/\o.data=.dict b d/\b.toList=(qs.map<|lG f).map (Yk<|rX P w)/\((qs.map<|lG f).map (·.1)).Nodup
def xZ(f:α->iH)(P:Py)(w:Qb)(a:eH)(qs:Qi (Pr×eH×α)):HO:=.ext<|ZU f P w a qs
def OT(x:ZU f P w a qs h):ObjOk P w H h a (xZ f P w a qs):=by
 refine{x,?_,λb d y k=>?_}
 .obtain⟨_,_,o,_,_,e,_⟩:=x;exact⟨o,e⟩
 .obtain⟨z,hd,ob,es,ep,e,c⟩:=y;exact{z,hd,ob,es,ep,k _ e,c}
def PvOk(K:Fq)(H:Hp)(qs:Qi (Pr×eH×α)):Prop:=∀q∈qs,SqT K H q.2.1 [.str q.1.1,.str q.1.2]
def iB(qs:Qi (Pr×eH×α))(n:Pr)(b:eH)(l:α):Qi (Pr×eH×α):=
 if n∈qs.map (·.1) then qs.map λq=>if q.1=n then(q.1,q.2.1,l) else q else qs++[(n,b,l)]
def RI{n:Pr}:Wj (qs.map<|lG f) (jY n)=(qs.find? λq=>decide<|q.1=n).map λq=>(q.2.1,f q.2.2):=by
 unfold Wj;rw[Qi.find?_map];have:((λx:Qi aK×eH×iH=>decide<|x.1=jY n)∘lG f)=λq=>decide (q.1=n):=by
  funext q
  exact decide_eq_decide.mpr {λh=>XJ h,λh=>by show jY q.1=_;rw[h]}
 rw[this,Wt];rfl
def Ax{n:Pr}{b:eH}{l:α}:storedH (qs.map<|lG f) (jY n) b (f l)=(iB qs n b l).map (lG f):=by
 unfold storedH iB;rw[RI,Vk]
 by_cases h:n∈qs.map (·.1)
 .obtain⟨q,a,e⟩:=vj2.mp h;rw[bG h,bG<|List.find?_isSome.mpr ⟨q,a,cN e⟩,gU,gU];refine nL λz _=>?_;show(if jY z.1=jY n then(jY z.1,z.2.1,f l) else lG f z)=lG f (if z.1=n then(z.1,z.2.1,l) else z)
  by_cases c:z.1=n
  .rw[bG (by rw[c]),bG c];rfl
  .rw[bA λh=>c<|XJ h,bA c]
 .rw[bA h,bA (λz=>let ⟨q,a,e⟩:=Qi.find?_isSome.mp z;h<|vj2.mpr ⟨q,a,dH e⟩),bU];rfl
def PvOk.put{K:Fq}{n:Pr}(h:PvOk K H qs)(d:SqT K H b [.str n.1,.str n.2]):PvOk K H (iB qs n b l):=by
 intro q a;unfold iB at a
 split at a
 .obtain⟨z,hz,rfl⟩:=vj2.mp a
  split
  .exact h z hz
  .exact h z hz
 .obtain a|a:=vj7.mp a
  .exact h q a
  .rw[vj1.mp a];exact d
def VW:↑(iB qs n b l)<=↑qs+1:=by
 unfold iB
 split
 .rw[aF];exact lA _
 .rw[bK];exact aV _
end
section
variable{pins:Z1}{σ:St}{H:Hp}{s:Pw}{α:Type}{f:α->iH}{qs:Qi (Pr×eH×α)}
def KR(I:Inv X pins σ H s)(h:SqT X.K H b [.str n.1,.str n.2]):(rX X.prog X.w).is s.heap (jY n) b:=by
 obtain⟨f,r,⟨o,d,e,m,a⟩,_⟩:=I.tuple h;exact{o,f.toArray,m,d,e,a,⇑[XZ (ks:=jY n) r]}
def EV(I:Inv X pins σ H s)(hx:H a\xZ f X.prog X.w a qs)(ok:PvOk X.K H qs):↑qs<=sizeLine/\(a == Rh)=Qs/\s.heap.DictOfH (rX X.prog X.w) a (qs.map<|lG f):=by
 obtain⟨z,hd,o,n,m,e,j,d,h,b⟩:=(I.hok a _ hx).1;refine{z,hd,o,n,m,e,j,d,h,λx l=>?_,b};obtain⟨q,i,rfl⟩:=vj2.mp l;exact KR I<|ok q i
def IP(f:α->iH)(g:α->V)(P:Py)(w:Qb)(K:Fq):Hp->eH->V->V->(Hp->Prop)->Prop:=λH D a v R=>∃qs b n l,a=.ref b/\v=g l/\H D\xZ f P w D qs/\PvOk K H qs/\SqT K H b [.str n.1,.str n.2]/\↑qs<sizeLine/\R (upd H D<|xZ f P w D<|iB qs n b l)
def XU{g:α->V}(j:∀l y,RelV (g l) y->y=f l)(x:X.A.units<cLine):pF X (λa=>xZ f X.prog X.w a []) (IP f g X.prog X.w X.K) where
 new h H z:=OT ⟨cE _,vv3.mpr<|cJ<|dB z,_,_,_,dQ _ rfl,⟨rfl,rfl,rfl⟩,rfl,rfl,lO⟩
 put Y e1 e2 e3 e4 pins s σ H D kx u v y R I rk rv h:=by
  obtain⟨qs,b,n,l,rfl,rfl,J,ok,e,hl,q⟩:=h;cases rk;cases j _ _ rv;rw[<-e1,<-e2]at J q ⊢;rw[<-e3]at ok e;obtain⟨z,hd,m⟩:=EV I J ok;refine wpAny_dictSet_heap (knd:=rX Y.prog Y.w) x (KR I e) m (λO d L=>?_) (by rw[aF];exact z);rw[Ax]at d;obtain⟨o,M,N,i,E,B,r,G,C⟩:=d;refine{_,rV I (by rw[J];exact fG) L ⟨o,i⟩<|OT {?_,hd,o,M,N,i,E,B,r,C},q};have:=VW (qs:=qs) (n:=n) (b:=b) (l:=l);lia
def RV(o0:eH->HO)(pt:Hp->eH->V->V->(Hp->Prop)->Prop)(tk b:TE):TE:=λσ H Q=>∀p,H p=Qq->tk σ (upd H p<|o0 p) λx d=>b σ d λy a=>pt a p x y<|Q<|.ref p
def Bk{o0:eH->HO}{pt:Hp->eH->V->V->(Hp->Prop)->Prop}{k v:Qc}{tk B:TE}(f:pF X o0 pt)(m:PE X k tk)(h:PE X v B):PE X (.Dict [Qp k] [v] pos) (RV o0 pt tk B):=by
 intro d s σ H Q I q;have i:=I.laid (a:=s⁻¹) (o:=o0 s⁻¹) (h':=s.heap.push {cls:=.type "dict",data:=.dict #[]}) (t':=s.toks) (λ_ _ q=>cB _ q) (aV _)<|f.new _ _ I.big;have C:AH X pos [Qp k] [v] [(tk,B)]:=mS m h UL;rw[arm_eval_Dict,zip_pairTrees [Qp k] [v] X.env pos rfl rfl,dictDisplay_pairs _ (by intro z;cases z) (by show 1<17;decide)];refine aC<|AC<|aC ?_;unfold subDict;refine aC<|wpAny_alloc<|aC<|gQ ?_;rw[bG (by show 1<=15;decide)];refine aC<|bD (C d _ σ _ (λu A=>match u with | [(x,y)]=>pt A s⁻¹ x y (Q<|.ref s⁻¹) | _=>Qn) i<|q _<|I.hok.fresh<|aV s⁻¹) ?_;rintro N M ⟨u,A,l,a1,b⟩;obtain _|⟨⟨x,y⟩,_|⟨_,_⟩⟩:=u
 .exact b.elim
 rotate_left
 .exact b.elim
 cases a1 with
 | @cons p c u bs E G=>
  cases G;obtain⟨b1,e⟩:=c;obtain⟨n,j⟩:=E;refine gQ<|aC ?_;show Qw _ _ (forIn [(b1,e)] E7 _) _ _ _;rw[yH];exact aC<|aC<|jG (f.put X rfl rfl rfl rfl d M σ A s⁻¹ x b1 y e _ l n j b) (λ_ r ⟨L,J,q⟩=>aZ<|aZ<|aZ<|aZ<|aZ {.ref s⁻¹,L,J,U,q}) λ_ _ z=>z.elim
end
section
variable{KK:Type}[DecidableEq KK]{knd:HeapKind prog w KK}
def Gm(hr:knd.room A)(z:knd.is s.heap k a)(hd:s.heap.DictOfH knd d xs)(hsz:↑xs<=sizeLine)(u:∀h',h'.DictOfH knd d (storedH xs k a v)->Rf d s.heap h'->Q () {s with heap:=h'}):Qw ⇑[] A (Zc d (.ref a) (knd.hash k) v) Q E s:=by
 obtain⟨o,G,H,f,r,b,m,q,h⟩:=hd;unfold Zc;refine gQ<|aC<|wpAny_dictFind_heap hr z f b m q h (λl=>?_) λj p n=>?_
 .refine aC<|jI ?_;refine wpAny_updateDictKeys f b ?_ (by rw[CS m];exact hsz) ↥_;have i:Rf d s.heap (s.heap.update d<|Qg.mapDictKeys λx=>x.push ⟨knd.hash k,.ref a,v⟩):=zH _ _ _;have g:=tJ (Qg.mapDictKeys λx=>x.push ⟨knd.hash k,.ref a,v⟩) f<|Qg.isFreed_of_dict<|Qg.data_mapDictKeys b _;refine u _ {_,_,_,g,r.mapDictKeys _,Qg.data_mapDictKeys b _,?_,λx hx=>?_,?_} i
  .rw[D0<|atKey_none_of_get l,BH,m,bU];rfl
  .rw[D0<|atKey_none_of_get l]at hx;obtain hx|hx:=vj7.mp hx
   .exact knd.keeps (q x hx) f b i
   .cases vj1.mp hx;exact knd.keeps z f b i
  .rw[D0<|atKey_none_of_get l,bU];exact DX h<|not_mem_keys_of_get l
 .refine aC (jI<|aC<|wpAny_updateDict f b (wpAny_point ?_)<|by simp);have i:Rf d s.heap (s.heap.update d<|Qg.mapDict λx=>x.modify j λe=>⟨e.hash,e.key,v⟩):=zH _ _ _;have g:=tJ (Qg.mapDict λx=>x.modify j λe=>⟨e.hash,e.key,v⟩) f<|Qg.isFreed_of_dict<|Qg.data_mapDict b _;refine u _ {_,_,_,g,r.mapDict _,Qg.data_mapDict b _,?_,λx hx=>?_,?_} i
  .rw[C9<|atKey_of_get h n,Qo.toList_modify,m];exact modify_map_putAt (Yk knd) (λe=>{e.hash,e.key,v}) k v (λa C=>U) h n
  .rw[C9<|atKey_of_get h n]at hx;obtain⟨y,B,rfl⟩:=vj2.mp hx;have:=knd.keeps (q y B) f b i;unfold putAt
   split
   .exact this
   .exact this
  .rw[C9<|atKey_of_get h n,keys_map_putAt];exact h
def mE(xs more:Qi (KK×eH×iH)):Qi (KK×eH×iH):=more.foldl (λa x=>storedH a x.1 x.2.1 x.2.2) xs
def Cw(xs:Qi (KK×eH×iH))(k:KK)(a:eH)(v:iH):↑(storedH xs k a v)<=↑xs+1:=by
 unfold storedH
 split
 .rw[aF];lia
 .rw[bK];exact aV _
def Je(hr:knd.room A)(B:d≠o)(hs:(o == Rh)=Qs)(hd:s.heap.DictOfH knd d xs)(X:s.heap.DictOfH knd o more)(h0:xs≠[])(hsz:↑xs+↑more<=sizeLine)(hQ:∀h',h'.DictOfH knd d (mE xs more)->Rf d s.heap h'->Q () {s with heap:=h'}):Qw ⇑[] A (Px.Dict.mergeDict nm d o) Q E s:=by
 obtain⟨od,N,a9,O,d2,J,d4,d5,d6⟩:=id hd;obtain⟨Z,C,a8,h,o2,n,M,o5,o6⟩:=id X;unfold Px.Dict.mergeDict;rw[bA<|by rw[uk0];exact B];refine aC (m:=Vs o) ?_;unfold Vs;rw[bA<|by rw[hs];exact eJ];refine aZ<|aC<|sJ h n ?_;have L:Qw ⇑[] A (dictEpoch o >>= λa0=>dictEntries o >>= λl=>(forIn [:l.size] E7 λi _=>dictEntries o >>= λl2=>match l2[i]? with
   | some e=>holding [e.key,e.val] (Zc d e.key e.hash e.val) >>= λ_=>dictEpoch o >>= λW=>if (W != a0)=Qr then Xt (toString nm++toString ":source-changed-during-callback") >>= λ(_:Unit)=>pure (Qv E7) else pure (Qv E7)
   | _=>Xt "internal:dict-merge" >>= λ(_:Unit)=>pure<|Qv E7) >>= λ_=>pure ()) Q E s:=by
  refine aC<|BG h n<|aC<|sJ h n<|aC ?_;have a2:C.size=↑more:=CS M;rw[Zp];refine L5 _ (λrest _ H=>∃j a,rest=Uy j (↑more-j)/\j<=↑more/\H={s with heap:=a}/\a.DictOfH knd d (mE xs<|more.take j)/\Rf d s.heap a) _ ?_ ?_ _ _ ?_
  .rintro i rest b H ⟨j,a,f,hj,rfl,r,q⟩;have a1:j<↑more:=by
    obtain z|z:=nN j ↑more
    .exact z
    .rw[Qk.sub_eq_zero_of_le z]at f;cases f
   rw[show ↑more-j=(↑more-(j+1))+1 by lia,Ue]at f;injection f with ei er;subst er;subst ei;obtain⟨j,rfl⟩:∃j,j=i:=⟨i,rfl⟩;have g1:a.get? o\Z:=q.extBut _ _ (cJ B) h;refine aC<|sJ (s:={s with heap:=a}) g1 n ?_;have T:C[j]?\Yk knd more[j]:=by
    rw[<-xK,M,bP,bM a1];rfl
   rw[T];have a7:↑(mE xs<|more.take j)<=↑xs+j:=by
    have u:∀(l ys:Qi (KK×eH×iH)),↑(mE ys l)<=↑ys+↑l:=by
     intro l
     induction l with
     | nil=>intro ys;exact aV _
     | cons x l ih=>
      intro ys;have:=ih<|storedH ys x.1 x.2.1 x.2.2;have G:=Cw ys x.1 x.2.1 x.2.2;show(mE (storedH ys x.1 x.2.1 x.2.2) l).length<=_;rw[cK];lia
    have:=u (more.take j) xs;rw[dR]at this;lia
   have hm:more[j]∈more:=fP a1;refine aC<|gQ<|Gm (s:={s with heap:=a}) hr (knd.keeps (o5 _ hm) O J q) r ∅ λG q1 q2=>?_;have I:=q.trans q2;refine aC<|BG (s:={s with heap:=G}) (I.extBut _ _ (cJ B) h) n ?_;rw[bA<|by simp];refine aZ {j+1,G,U,a1,U,?_,I};have e2:mE xs (more.take<|j+1)=storedH (mE xs<|more.take j) more[j].1 more[j].2.1 more[j].2.2:=by
    unfold mE;rw[dE,bM a1,yK];rfl
   rw[e2];exact q1
  .rintro b H ⟨j,a,f,hj,rfl,r,q⟩;have ej:j=↑more:=by
    obtain z|z:=nN j ↑more
    .rw[show ↑more-j=(↑more-(j+1))+1 by lia,Ue]at f;cases f
    .lia
   subst ej;rw[Qi.take_length]at r;exact aZ<|hQ a r q
  .refine⟨0,s.heap,?_,cE _,rfl,hd,Xr _ _⟩;show Uy 0 ((C.size-0+1-1) / 1)=Uy 0 (↑more-0);rw[a2,Qk.div_one];rfl
 have he:N.isEmpty=false:=by
  have:=CS d4;cases e:N.isEmpty with
  | false=>rfl
  | true=>
   rw[Qo.isEmpty_iff_size_eq_zero]at e;rw[e]at this;exact absurd (ud5.mp this.symm) h0
 dsimp only;refine Vf (λ_=>?_) λ_=>L;refine aC<|sJ O J ?_;rw[bA<|by rw[he];exact eJ];exact L
end
abbrev tU:Unit->iH:=λ_=>.bool Qr
def mC(q:Pr×eH):Pr×eH×Unit:=(q.1,q.2,())
def iQ(P:Py)(w:Qb)(a:eH)(qs:Qi (Pr×eH)):HO:=xZ tU P w a<|qs.map mC
def PdOk(K:Fq)(H:Hp)(qs:Qi (Pr×eH)):Prop:=∀q∈qs,SqT K H q.2 [.str q.1.1,.str q.1.2]
def PdOk.ex{K:Fq}(h:PdOk K H qs):PvOk K H (qs.map mC):=λz b=>by
 obtain⟨q,a,rfl⟩:=vj2.mp b;exact h q a
def YU{qs:Qi (Pr×eH)}:(qs.map mC).map (·.1)=qs.map (·.1):=gU
def kG(qs:Qi (Pr×eH))(q:Pr×eH):Qi (Pr×eH):=if q.1∈qs.map (·.1) then qs else qs++[q]
def oJ(qs more:Qi (Pr×eH)):Qi (Pr×eH):=more.foldl kG qs
def YH{qs:Qi (Pr×eH)}{n:Pr}{b:eH}:iB (qs.map mC) n b ()=(kG qs (n,b)).map mC:=by
 unfold iB kG;rw[YU]
 split
 .rw[gU];refine nL λq _=>?_;show(if q.1=n then(q.1,q.2,()) else mC q)=mC q
  split <;> rfl
 .rw[bU];rfl
def rY{P:Py}{w:Qb}{K:Fq}{n:Pr}{b:eH}{R:Hp->Prop}(h:H D\iQ P w D qs)(ok:PdOk K H qs)(a:SqT K H b [.str n.1,.str n.2])(hl:↑qs<sizeLine)(q:R (upd H D<|iQ P w D<|kG qs (n,b))):IP tU (λ_=>.bl Qr) P w K H D (.ref b) (.bl Qr) R:=
 ⟨qs.map mC,b,n,(),rfl,rfl,h,ok.ex,a,by rw[aF];exact hl,by rw[YH];exact q⟩
def ZD{X:Cx}(b:X.A.units<cLine):pF X (λa=>iQ X.prog X.w a []) (IP tU (λ_=>.bl Qr) X.prog X.w X.K):=XU (λ_ _ h=>h) b
def Pi{more:Qi (Pr×eH)}:∀{qs:Qi (Pr×eH)},mE ((qs.map mC).map<|lG tU) ((more.map mC).map<|lG tU)=((oJ qs more).map mC).map (lG tU):=by
 induction more with
 | nil=>intro qs;rfl
 | cons m more a=>
  intro qs;show mE (storedH _ (jY m.1) m.2<|tU ()) _=_;rw[Ax,YH];exact a
section
variable{i o:Qc}{ty td:TE}
def MI(P:Py)(w:Qb)(K:Fq)(i td:TE):TE:=λf H Q=>i f H λy h=>td f h λx d=>∃a b e n,x=.ref a/\y=.ref b/\d a\iQ P w a e/\PdOk K d e/\SqT K d b [.str n.1,.str n.2]/\Q (.bl<|decide<|n∈e.map (·.1)) d
def xP(C:X.A.units+1<cLine)(hi:PE X i ty)(m:PE X o td):PC X .In i o (MI X.prog X.w X.K ty td):=by
 intro f s T H Q I h;refine bD (hi f s T H _ I h) λE J ⟨y,L,j,B,N⟩=>bD (m f J T L _ j N) ?_;rintro u s2 ⟨x,Z,d,M,a,b,W,n,ex,G,g,ok,l,O⟩;subst ex G;obtain rfl:u=Qy a:=M;obtain rfl:E=Qy b:=B;obtain⟨z,hd,r⟩:=EV d g ok.ex;refine wpAny_in_heap (xS C) (KR d l) hd r ?_;have e:(Wj ((W.map mC).map<|lG tU)<|jY n).isSome=decide (n∈W.map (·.1)):=by
  rw[RI,Vk,rR,DW,Qi.find?_isSome,<-YU,vj2];exact{λ⟨q,a,b⟩=>{q,a,dH b},λ⟨q,a,b⟩=>{q,a,cN b}}
 rw[e];exact{.bl _,Z,d.tok _,U,O}
def Iw(hs:(d == Rh)=Qs)(b:s.heap.get? d\od)(e:od.cls=.type "dict")(i:od.data=.dict es ep)(hz:es.size<=sizeLine)(h:∀t t',Q (.int (es.size:Ql) t) {s with toks:=t'}):Qw ⇑[] A (call (.builtin "len") [.ref d]) Q E s:=by
 have a:s.TypeIs (.ref d) "dict":=⟨_,b,e⟩;rw[kZ]at hz;refine QG kind_len plain_len entry_len (args_len1<|.ref d) ?_;unfold Px.len;refine aC (m:=oneArg _ _)<|aZ ?_;refine aC<|kB a L0<|iD L0 a F.entry_dict_len ?_<|F.args_dict_len_1<|.ref d;unfold Px.«dict.__len__» Px.Dict.dictSlotNone;refine aC<|aC<|KU a ?_;refine aC<|aZ<|aZ<|aC<|aZ ?_;unfold dictSize Px.Dict.pendingCount;refine aC<|aC<|sJ b i<|aZ<|aC ?_;rw[bA<|by rw[hs];exact eJ];refine aZ ?_;unfold retInt;refine aC<|wpAny_mkInt<|aZ {6,?_};dsimp only;have f:((es.size:Ql)+((0:Qk):Ql))=(es.size:Ql):=by simp
 rw[f];refine aC<|gQ<|aZ<|aC<|wpAny_letGo ?_;rw[bA ∅,bA ∅];exact aC<|wpAny_mkInt<|aZ {6,h _ _}
def WM:CallR X (.builtin "len") (λxs H Q=>∃a qs,xs=[R7 a]/\H a\iQ X.prog X.w a qs/\Q (.int ↑qs) H):=by
 intro l s A H xs x Q I r h;obtain⟨a,qs,rfl,b,q⟩:=h;obtain⟨u,rfl,d⟩:=kH r;cases d;obtain⟨z,hd,o,n,B,i,e,f,j,m⟩:=(I.hok a _ b).1;rw[aF]at z;have hl:n.size=↑qs:=by rw[CS j,aF,aF]
 refine Iw hd i e.1 f (by rw[hl];exact z) λt C=>?_
 rw[hl];exact{.int ↑qs,H,I.tok _,⟨t,rfl⟩,q}
def Mg(qs:Qi (Pr×eH))(q:Pr×eH):↑(kG qs q)<=↑qs+1:=by
 unfold kG
 split
 .lia
 .rw[bK];exact aV _
def Ft:∀(more qs:Qi (Pr×eH)),↑(oJ qs more)<=↑qs+↑more:=λmore=>more.recOn
 (λqs=>aV _)
 λq more a qs=>by
  have:=a<|kG qs q;have h:=Mg qs q;show(oJ (kG qs q) more).length<=_;rw[cK];lia
def Oh{prog:Py}{w:Qb}{A:Qf}{E:Vp}{s:Pw}{d o:eH}{xs more:Qi (Qi aK×eH×iH)}{Q:Vp}(f:A.units+1<cLine)(a1:d≠o)(hs:(o == Rh)=Qs)(hd:s.heap.DictOfH (rX prog w) d xs)(a:s.heap.DictOfH (rX prog w) o more)(h0:xs≠[])(hsz:↑xs+↑more<=sizeLine)
  (e:∀h',h'.DictOfH (rX prog w) d (mE xs more)->Rf d s.heap h'->Q .none {s with heap:=h'}):Qw ⇑[] A (call (.builtin "dict.update") [.ref d,.ref o]) Q E s:=by
 refine iD E4 hd.typeIs C6 ?_<|B5 _ _;unfold Px.«dict.update»;refine aC (m:=Yx _ _) ?_;unfold Yx;refine aC<|KU hd.typeIs ?_;refine aC (m:=Px.Dict.addrOf _)<|aZ<|aZ ?_;show Qw _ _ (Uv "dict.update" d (.ref o) [] .none) _ _ s;unfold Uv;refine aC<|uG a.typeIs ?_;rw[bA<|by decide];refine aC ?_;have b:∀h',h'.DictOfH (rX prog w) d (mE xs more)->Rf d s.heap h'->Qw ⇑[] A.in1 (Yy d [] >>= λ_=>ret Rm) (λb j=>∃v,b=Fin.done (Flow.ret v)/\Q v j) E {s with heap:=h'}:=λh' h i=>aC (m:=Yy d [])<|aZ<|aZ ⟨_,rfl,e h' h i⟩;unfold Px.Dict.merge Px.Dict.readDirectly;refine aC<|aC<|vP a.typeIs isSubtype_dict_dict ?_;simp only[Qm.not_true,oI,iF];refine aC<|oO a.typeIs Xd.lookup<|aZ ?_;simp only[beq_self_eq_true,if_true];refine aC (m:=Px.Dict.addrOf _)<|aZ ?_;exact Je (xS f) a1 hs hd a h0 hsz b
def sY(P:Py)(w:Qb)(K:Fq):V->Qi V->Hp->VK->Prop:=λx vs H Q=>∃a b d more,x=.ref a/\vs=[.ref b]/\a≠b/\H a\iQ P w a d/\d≠[]/\PdOk K H d/\H b\iQ P w b more/\PdOk K H more/\↑d+↑more<=sizeLine/\Q .non (upd H a<|iQ P w a<|oJ d more)
def Mp(n:X.A.units+1<cLine):MB X "dict.update" (sY X.prog X.w X.K):=by
 intro O s σ H x vs v us Q I L C h;obtain⟨a,b,qs,more,rfl,rfl,B,d,h0,ok,j,a1,hz,q⟩:=h;cases L;obtain⟨u,rfl,l⟩:=C.one;cases l;obtain⟨z,hd,m⟩:=EV I d ok.ex;obtain⟨Z,M,i⟩:=EV I j a1.ex;refine Oh n B M m i ⇑[h0] ⇑[hz] λh' f G=>?_
 rw[Pi]at f;obtain⟨o,es,ep,e,N,J,E,W,r⟩:=f;have T:=Ft more qs;exact{.non,_,rV (t':=s.toks) I (by rw[d];exact fG) G ⟨o,e⟩<|OT {by rw[aF];lia,hd,o,es,ep,e,N,J,E,r},U,q}
end
def FR:V->Qi V->Hp->VK->Prop:=λx vs H Q=>∃a b d more,x=.ref a/\vs=[.ref b]/\a≠b/\H a\.dK d/\H b\.dK more/\↑d+↑more<=sizeLine/\Q .non (upd H a<|.dK<|cU d more)
def Gb:MB X "dict.update" FR:=by
 intro E s σ H x vs v Z Q I r n h;obtain⟨a,b,L,more,rfl,rfl,A,d,j,hz,q⟩:=h;cases r;obtain⟨u,rfl,l⟩:=n.one;cases l;obtain⟨z,hd,T,a1,e⟩:=pT I.hok d;obtain⟨J,i,O,f,m⟩:=pT I.hok j;have G:=↑a1;have C:=↑f;refine nR E4 e.typeIs C6 (B5 _ _) (meets_dict_update (cR X.prog X.w) a b A i) {T,O,e,m,∅,λN M _ o=>?_};have W:∃q,N.get? a\q:=let ⟨q,_,_,hq,_⟩:=M;⟨q,hq⟩
 have B:=BD more L;exact{.non,_,rV (t':=s.toks) I (by rw[d];exact fG) o W<|GA ∅ hd (f.merge a1) M,U,q}
def Dr(hc:X.calm=Qr):CallR X (.builtin "sorted") (λxs H Q=>∃(p:eH)(ss:Z2)(kvs:Qi (aK×V)),xs=[.ref p]/\H p\.dK kvs/\kvs.map (·.1)=ss.map Qt/\↑ss<64/\∀(l:eH)(A:Z2),H l=Qq->A.Perm ss->sortedS A=Qr->Q (.ref l) (upd H l<|.lst<|A.map R6)):=by
 intro ac s σ H xs us Q I r h;obtain⟨p,ss,kvs,rfl,hp,N,ae,q⟩:=h;obtain⟨u,rfl,ru⟩:=kH r;cases ru;obtain⟨z,hd,vs,C,Z⟩:=pT I.hok hp;obtain⟨o,T⟩:∃o,s.heap.get? p\o:=by obtain⟨o,_,_,e,_⟩:=id Z;exact⟨o,e⟩
 obtain⟨vs,ep,C,ad⟩:=IE T ⟨vs,C,Z⟩;have aa:=C.length;have a9:↑kvs=↑ss:=by have:=cP Rk N;rwa [aF,aF]at this
 refine QG kind_sorted Q2 Q8 (R0 _) ?_;unfold Px.«sorted»;refine aC (m:=checkCount "sorted" 1 1 _)<|aZ ?_;refine aC<|RZ (Zf (knd:=cR X.prog X.w) (kvs:=vs) (ep:=ep) (d:=p) hd) (I.ok.hd hc) (ad _ T) ∅ λj tk f k B hsz=>?_;have J:R5 f.toList ss:=by
  have hi:∀(i:Qk)(v:iH),f.toList[i]?\v->∃x t,ss[i]?\x/\v=.str x t:=λi v L=>by
   obtain⟨k,y,G,a8⟩:=B.2 i v (by rw[<-xK];exact L);obtain⟨v',ab,_⟩:=C.get G;have:(kvs.map (·.1))[i]?\k:=by rw[bP,ab];rfl
   rw[N,bP,vh8]at this;obtain⟨x,hx,e⟩:=this;obtain⟨n,t,rfl,rfl⟩|⟨n,t,rfl,rfl⟩:=kK a8
   .cases e
   .cases e;exact{_,t,hx,U}
  have hl:↑f.toList=↑ss:=by rw[iK,B.1];lia
  clear B k q N
  revert hi hl
  generalize f.toList=as;intro hi hl;clear ae a9
  induction as generalizing ss with
  | nil=>cases ss with
   | nil=>exact .nil
   | cons=>cases hl
  | cons a as ih=>
   cases ss with
   | nil=>cases hl
   | cons x ss=>
    obtain⟨y,t,G,rfl⟩:=hi 0 a rfl;cases G;exact .cons _ _ (ih (ss:=ss) (λi v L=>hi (i+1) v L)<|⇑[hl])
 have af:↑f.toList=↑ss:=by rw[iK,B.1];lia
 refine aC (wpAny_newList ?_<|by rw[kZ];lia);have M:(j.push<|seqObj "list" f.toList.toArray 0).get? j.objs.size\seqObj "list" f.toList.toArray 0:=dQ _ rfl;refine aC<|gQ<|iD N9 (s:={s with heap:=j.push<|seqObj "list" f.toList.toArray 0,toks:=tk}) {_,M,U} N0 (list_sort_treeK strKind_oneLt M J.keysOf (λv₁ v₂ rest e=>keyKind_strs<|by rw[<-e];exact J) ∅ λE a1 a2=>{6,?_})<|args_list_sort _;obtain⟨A,q1,q2,q3⟩:=sorted_out_str J a1 a2;obtain⟨e,he⟩:=P2 (out:=(arrOf E).map (·.2)) M;have kk:∀b o,s.heap.get? b\o->(sortedHeap (j.push<|seqObj "list" f.toList.toArray 0) j.objs.size f.toList<|(arrOf E).map (·.2)).get? b\o:=λb o eb=>by
  have O:b<j.objs.size:=cI<|k b o eb;rw[N8 (dB O)<|by rw[G5];exact Wb O];exact cB _<|k b o eb
 have I2:=I.laid (t':=tk) (a:=j.objs.size) (o:=.lst<|A.map R6) kk (cQ hsz) (show ObjOk X.prog X.w _ _ _ (.lst<|A.map R6) from ⟨?_,((arrOf E).map (·.2)).toList,e,UU q1,by rw[Yt];exact he⟩)
 .exact aZ ⟨_,rfl,.ref j.objs.size,_,I2,rfl,q _ _ (I.hok.fresh<|cQ hsz) q2 q3⟩
 .rw[aF,q2.length_eq,kZ];lia
def No(I:Inv X pins σ H s)(ok:PdOk X.K H qs)(C:↑qs<128)(T:∀Q1:Qi iH->Pw->Prop,(∀f tk,(∀b o,s.heap.get? b\o->f.get? b\o)->s⁻¹<f.objs.size->Q1 (qs.map λq=>Qy q.2) {s with heap:=f,toks:=tk})->Qw ⇑{X} X.A.in1 (J7 x) Q1 X.xe s)(q:∀(l:eH)(u:Qi (Pr×eH)),H l=Qq->u.Perm qs->Q (.ref l) (upd H l<|.lst<|u.map λq=>R7 q.2)):Qw ⇑{X} X.A (call (.builtin "sorted") [x]) (EP X pins σ Q) X.xe s:=by
 have inj:∀q∈qs,∀h∈qs,q.2=h.2->q=h:=λq d h a7 e=>by
  have f:=ok q d;rw[e]at f;have:=I.tuple_inj f<|ok h a7;injection this with a b;injection b with b _;exact pO (pO (R6.inj a)<|R6.inj b) e
 let dec:iH->Pr:=λv=>((qs.find? λq=>match v with | .ref a=>decide (q.2=a) | _=>Qs).map (·.1)).getD (("",""):Pr)
 have a1:∀q∈qs,dec (.ref q.2)=q.1:=λq d=>by
  show((qs.find? λh=>decide<|h.2=q.2).map (·.1)).getD (("",""):Pr)=q.1;cases e:qs.find? λh=>decide (h.2=q.2)with
  | none=>exact absurd (cN rfl)<|ub8.mp e q d
  | some h=>
   have f:=uT e;have j:=oE e;rw[inj h j q d<|dH f];rfl
 have W:∀q∈qs,IsP s.heap (.ref q.2) (dec<|.ref q.2):=λq d=>by
  rw[a1 q d];obtain⟨its,r,⟨o,f,j,m,L⟩,_⟩:=I.tuple<|ok q d;cases r with
  | cons a t=>cases t with
   | cons b t=>cases t;obtain⟨J,rfl⟩:=a;obtain⟨E,rfl⟩:=b;exact{q.2,o,m,J,E,U,f,j,L}
 refine Eh (dec:=dec)<|T _ λf tk k hsz=>?_;refine{by rw[aF];exact C,λv n=>?_,λh' e i z N he=>?_}
 .obtain⟨q,d,rfl⟩:=vj2.mp n;exact(W q d).keep k
 let back:iH->Pr×eH:=λv=>(dec v,match v with | .ref a=>a | _=>0)
 have a2:∀q∈qs,back (.ref q.2)=q:=λq d=>pO (a1 q d) rfl;have p2:(i.map back).Perm qs:=by
  have:=z.map back;rw[gU]at this;have O:qs.map (back∘λq=>Qy q.2)=qs:=by
   conv=>rhs;rw[<-M5 qs]
   exact nL λq d=>a2 q d
  rwa [O]at this
 have B:(i.map back).map (λq=>Qy q.2)=i:=by
  rw[gU]
  conv=>rhs;rw[<-M5 i]
  refine nL λv n=>?_;obtain⟨q,d,rfl⟩:=vj2.mp<|z.mem_iff.mp n;rfl
 have G:Vals ((i.map back).map λq=>R7 q.2) i:=by
  conv=>rhs;rw[<-B]
  generalize i.map back=l
  induction l with
  | nil=>exact .nil
  | cons x l ih=>exact .cons rfl ih
 have M:=I.laid (t':=tk) (a:=f.objs.size) (o:=.lst<|(i.map back).map λq=>R7 q.2) (λb o Z=>N b o<|k b o Z) (cQ hsz) (show ObjOk X.prog X.w _ _ _ (.lst _) from ⟨?_,i,e,G,he⟩)
 .exact⟨.ref f.objs.size,_,M,rfl,q _ _ (I.hok.fresh<|cQ hsz) p2⟩
 .rw[aF,p2.length_eq,kZ];lia
def Ko(C:X.calm=Qr):CallR X (.builtin "sorted") (λxs H Q=>∃(p:eH)(qs:Qi (Pr×eH)),xs=[.ref p]/\H p\iQ X.prog X.w p qs/\PdOk X.K H qs/\↑qs<128/\ ∀(l:eH)(m:Qi (Pr×eH)),H l=Qq->m.Perm qs->Q (.ref l) (upd H l<|.lst<|m.map λq=>R7 q.2)):=by
 intro Z s σ H xs us Q I r h;obtain⟨p,qs,rfl,hp,ok,M,q⟩:=h;obtain⟨u,rfl,B⟩:=kH r;cases B;obtain⟨z,hd,o,es,ep,J,N,L,n,T⟩:=(I.hok p _ hp).1;rw[aF]at z;have f:es.size=↑qs:=by rw[CS n,aF,aF]
 have kq:∀(i:Qk)(e:Ua),es[i]?\e->∃q,qs[i]?\q/\e.key=.ref q.2:=λi e he=>by
  rw[<-xK,n,bP,bP,bP,Wt,Wt,vh8]at he;obtain⟨q,G,rfl⟩:=he;exact⟨q,G,rfl⟩
 refine No I ok M (λO h=>RZ (Lo (es:=es) (ep:=ep) (d:=p) hd) (I.ok.hd C) {o,J,N.1,L} (by rw[f];exact z) λE tk a k b hsz=>?_) q;have a1:a.toList=qs.map λq=>Qy q.2:=by
  refine Vw λi=>?_;rw[bP];obtain hi|hi:=nN i ↑qs
  .have j:i<↑a.toList:=by rw[iK,b.1,f];exact hi
   obtain⟨e,he,ev⟩:=b.2 i a.toList[i] (by rw[<-xK,bM j]);obtain⟨W,A,x⟩:=kq i e he;rw[bM j,A,ev,x];rfl
  .rw[tD (by rw[iK,b.1,f];exact hi),tD hi];rfl
 rw[a1];exact h E tk k hsz
inductive BS(K:Fq)(neg:Qm)(x y:V)(H:Hp)(Q:VK):Prop
 | mk(a p:eH)(n:Pr)(qs:Qi (Pr×eH))(h1:x=.ref a)(h2:y=.ref p)(h3:SqT K H a [.str n.1,.str n.2])(h4:SqL K H p (qs.map λq=>R7 q.2)\/SqT K H p (qs.map λq=>R7 q.2))(h5:PdOk K H qs)(q:Q (.bl<|neg ^^ decide (n∈qs.map (·.1))) H):BS K neg x y H Q
def wT(K:Fq)(a:Qm):R2:=λx y H Q=>BS K a x y H Q
open Classical in
def KZ(o:X.A.units+1<cLine)(I:Inv X pins σ H s)(j:SqT X.K H a [.str n.1,.str n.2])(r:Vals (qs.map λq=>R7 q.2) its)(ok:PdOk X.K H qs):
  (∀y,y∈its.toArray->Qz X.A.in1 s y (.ref a) ((λv=>match v with | .ref q=>decide (SqT X.K H q [.str n.1,.str n.2]) | _=>Qs) y))/\
  its.toArray.any (λv=>match v with | .ref q=>decide (SqT X.K H q [.str n.1,.str n.2]) | _=>Qs)=decide (n∈qs.map (·.1)):=by
 have u:∀q∈qs,decide (SqT X.K H q.2 [.str n.1,.str n.2])=decide (q.1=n):=λq d=>by
  by_cases e:q.1=n
  .subst e;rw[cN rfl,cN<|ok q d]
  .rw[fE e,fE λf=>e ?_];have:=I.tuple_inj (ok q d) f;injection this with a b;injection b with b _;exact pO (R6.inj a)<|R6.inj b
 have l:its=qs.map λq=>Qy q.2:=by
  clear u ok
  induction qs generalizing its with
  | nil=>cases r;rfl
  | cons q qs x=>
   cases r with
   | cons h t=>
    have e:_=Qy q.2:=h;rw[x t,e];rfl
 subst l;exists λv i=>?_
 .obtain⟨q,d,rfl⟩:=vj2.mp (by simpa using i:v∈qs.map λq=>Qy q.2);show Qz _ _ _ _<|decide<|SqT X.K H q.2 [.str n.1,.str n.2]
  by_cases e:q.2=a
  .rw[e,cN j];exact Qz.same _
  .have:=Qz.of_refs e<|VD (A:=X.A.in1) (ss:=[q.1.1,q.1.2]) (tt:=[n.1,n.2]) I o (ok q d) j;rw[u q d];have m:decide (q.1=n)=decide ([q.1.1,q.1.2]=[n.1,n.2]):=by
    by_cases c:q.1=n
    .rw[cN c,c,cN rfl]
    .rw[fE c,fE λh=>c ?_];injection h with h1 f;injection f with f _;exact pO h1 f
   rw[m];exact this
 .rw[rR,DW];rw[show(qs.map λq=>Qy q.2).toArray.any (λv=>match v with | .ref q=>decide (SqT X.K H q [.str n.1,.str n.2]) | _=>Qs)=(qs.map λq=>Qy q.2).any (λv=>match v with | .ref q=>decide (SqT X.K H q [.str n.1,.str n.2]) | _=>Qs) by simp,ub1]
  constructor
  .rintro⟨v,i,e⟩;obtain⟨q,d,rfl⟩:=vj2.mp i;have e:decide (SqT X.K H q.2 [.str n.1,.str n.2])=true:=e;rw[u q d]at e;exact vj2.mpr {q,d,dH e}
  .intro h;obtain⟨q,d,e⟩:=vj2.mp h;exists .ref q.2,vj2.mpr ⟨q,d,rfl⟩;show decide (SqT X.K H q.2 [.str n.1,.str n.2])=Qr;rw[u q d];exact cN e
open Classical in
def wW(i:X.A.units+1<cLine):dW X (Sj .In) (wT X.K Qs):=by
 intro m s o H x y v u Q I l j h;obtain⟨a,p,n,z,rfl,rfl,f,hp,ok,q⟩:=h;cases l;cases j;rw[F4]at q;obtain hp|hp:=hp
 .obtain⟨its,r,e,hz⟩:=I.list hp;obtain⟨d,b⟩:=KZ i I f r ok;exact SeqAt.in_listAt _ e.isList d (by rw[b];exact{.bl _,H,I,U,q})
 .obtain⟨its,r,e,hz⟩:=I.tuple hp;obtain⟨d,b⟩:=KZ i I f r ok;exact SeqAt.in_tupleAt _ e d (by rw[b];exact{.bl _,H,I,U,q})
open Classical in
def Dj(i:X.A.units+1<cLine):dW X (Sj .NotIn) (wT X.K Qr):=by
 intro m s o H x y v u Q I l j h;obtain⟨a,p,n,z,rfl,rfl,f,hp,ok,q⟩:=h;cases l;cases j;rw[Qm.true_xor]at q;obtain hp|hp:=hp
 .obtain⟨its,r,e,hz⟩:=I.list hp;obtain⟨d,b⟩:=KZ i I f r ok;exact SeqAt.notIn_listAt _ e.isList d (by rw[b];exact{.bl _,H,I,U,q})
 .obtain⟨its,r,e,hz⟩:=I.tuple hp;obtain⟨d,b⟩:=KZ i I f r ok;exact SeqAt.notIn_tupleAt _ e d (by rw[b];exact{.bl _,H,I,U,q})
section
variable{o e:Qc}{apos cpos:Ud}{td ty:TE}
def GF(P:Py)(w:Qb)(K:Fq)(td h:TE):TE:=λd H Q=>td d H λx b=>∃a f,x=.ref a/\b a\iQ P w a f/\h d b λy e=>sY P w K x [y] e Q
def Et(B:X.A.units+1<cLine)(n:PE X o td)(he:PE X e ty)(m:M1 X o "update" apos e cpos):PE X (.Call (.Attribute o "update" apos) [e] [] cpos) (GF X.prog X.w X.K td ty):=by
 intro f s Z H Q I h;refine rK m.base m.few m.line rQ Xb Wy<|bD (n f s Z H _ I h) ?_;rintro u G ⟨x,J,i,L,a,qs,ex,d,M⟩;subst ex;obtain rfl:u=Qy a:=L;obtain⟨z,hd,ob,es,ep,j,l,W,T,O⟩:=(i.hok a _ d).1;exists {ob,j,l.1},?_
 .intro b q;cases q;exact{ob,j,l.2.1}
 rw[m.trees];refine oB rfl<|qY<|lY<|bD (he f G Z J _ i M) λE s2 ⟨y,H2,C,r,N⟩=>pQ ?_;exact Mp B f s2 Z H2 (.ref a) [y] (.ref a) [E] Q C rfl (.cons r .nil) N
end
def UR:Manifest.owners.lookup (String.ofList ['d','e','s','r','e','v','e','r'].reverse)\Manifest.sig_reversed:=by kernel_rfl
def Ii:Slot "reversed" "__init__" "object.__init__":=.of (owner:="object") (n:="__init__") (by(rw[pV,pY];kernel_rfl)) (by rfl') (by rfl') (by rfl') (by first | exact .inl (by rfl') | exact .inr (by rfl')) (by(rw[yN];kernel_rfl))
def zw8:Slot "reversed" "__next__" "reversed.__next__":=.of (owner:="reversed") (n:="__next__") (by(rw[pV,pY];kernel_rfl)) (by rfl') (by rfl') (by rfl') (by first | exact .inl (by rfl') | exact .inr (by rfl')) (by(rw[yN];kernel_rfl))
def YI:Slot "reversed" "__iter__" "reversed.__iter__":=.of (owner:="reversed") (n:="__iter__") (by(rw[pV,pY];kernel_rfl)) (by rfl') (by rfl') (by rfl') (by first | exact .inl (by rfl') | exact .inr (by rfl')) (by(rw[yN];kernel_rfl))
def ZY:D5 N7 "reversed.__next__"=Qp Px.«reversed.__next__»:=L9 (by kernel_rfl)
def Nf:D5 N7 "reversed.__new__"=Qp Px.«reversed.__new__»:=L9 (by kernel_rfl)
def Em:D5 N7 "reversed.__iter__"=Qp Px.«dict_keyiterator.__iter__»:=
 entryFor_alias (id':="dict_keyiterator.__iter__") (by kernel_rfl) (by first | rfl | rfl' | (unfold String.splitOn;(simp +decide [String.splitOnAux]))) (by rfl') (by kernel_rfl)
def ZR(a:iH):O5 "reversed.__next__" ⟨[a],[]⟩:=by
 unfold O5;(rw[P3 (id:="reversed.__next__") (n:=['_','_','t','x','e','n','_','_']) (o:=['d','e','s','r','e','v','e','r']) (by kernel_rfl) UR];kernel_rfl)
def Ol(a:iH):O5 "reversed.__iter__" ⟨[a],[]⟩:=by
 unfold O5;(rw[P3 (id:="reversed.__iter__") (n:=['_','_','r','e','t','i','_','_']) (o:=['d','e','s','r','e','v','e','r']) (by kernel_rfl) UR];kernel_rfl)
def Ak:mroOf (.type "reversed")=pure [.type "reversed",.type "object"]:=by(rw[mroOf_type];kernel_rfl)
def Ph:Ts (.type "reversed") "__new__"=pure (Qp<|.builtin "reversed.__new__"):=by(rw[pV,pY];kernel_rfl)
def Ps:TypeCalled "reversed" "reversed.__new__" "object.__init__":=
 ⟨by rfl',by rfl',⟨_,_,Ak⟩,madeBy_type Ak Ph (by rfl'),by rfl',by(rw[yN];kernel_rfl),Ii⟩
def DU(a:iH):checkTypeCall "reversed" ⟨[a],[]⟩=pure ():=by kernel_rfl
def HH(a:iH):checkBuiltinCall "reversed.__new__" ⟨[.type "reversed",a],[]⟩=pure ():=by kernel_rfl
def uJ:isSubtype (.type "reversed") (.type "reversed")=pure true:=by(rw[yN];kernel_rfl)
def VJ:Ts (.type "tuple") "__reversed__"=pure none:=by(rw[pV,pY];kernel_rfl)
abbrev oQ(h:Qa)(it a:eH)(j:Ql):Prop:=h.get? it=Qp {cls:=.type "reversed",dict:=Qq,data:=.fields #[.ref a,.int j 0],slots:=#[]}
def Ep(a:eH)(xs:Qo iH)(j:xs.size<=sizeLine):
  Meets (Px.«reversed.__new__» ⟨[.type "reversed",.ref a],[]⟩) (λ_ R s=>s.heap.IsTuple a xs/\∀tk,R (.ok<|.ret<|.ref s⁻¹) {s with heap:=s.heap.push {cls:=.type "reversed",data:=.fields #[.ref a,.int ((xs.size:Ql)-1) 0]},toks:=tk}):=
 .of_wp λo w A R s h=>by
  obtain⟨b,h⟩:=h;have a1:=uJ;have r:s.TypeIs (.ref a) "tuple":=b.typeIs;obtain⟨q,g,d,tk,os⟩:=s;have i:isSubtype (.type "tuple") (.type "dict")=pure false:=by(rw[yN];kernel_rfl)
  have n:=uf8.lookup;have l:=VJ;have m:=oR;have hl:Vq (J9 ⟨q,g,d,tk,os⟩) a xs:=b;have f:(xs.size:Ql)<2 ^ 63:=by lia
  have e:∀{Q:Vp}{A:Qf}{E:Vp},Q (.int xs.size<|tk+1) ⟨q,g,d,tk+1+1,os⟩->Qw (Qx o w) A (call (.builtin "len") [.ref a]) Q E ⟨q,g,d,tk,os⟩:=λh=>len_tuple (s:=⟨q,g,d,tk,os⟩) hl f h
  wp_walk using oO r VJ,vP r i,oO r uf8.lookup,e
  exact{6,h _}
def Bb(b:xs.size<=sizeLine)(d:s.heap.IsTuple a xs)(h:∀tk,oQ (s.heap.push {cls:=.type "reversed",data:=.fields #[.ref a,.int ((xs.size:Ql)-1) 0]}) s⁻¹ a ((xs.size:Ql)-1)->Q (.ref s⁻¹) {s with heap:=s.heap.push {cls:=.type "reversed",data:=.fields #[.ref a,.int ((xs.size:Ql)-1) 0]},toks:=tk}):
  Qw ⇑[] A (call (.type "reversed") [.ref a]) Q E s:=by
 refine A5 Ps ↥?_ (DU _) (HH _) (λobj=>F.args_object_init_2 obj _) Nf (Ep a xs b) {d,λtk=>?_};have g:(s.heap.push {cls:=.type "reversed",data:=.fields #[.ref a,.int ((xs.size:Ql)-1) 0]}).get? s⁻¹\_:=dQ _ rfl;exact{{_,g,U},h tk g}
def Aw(b:oQ s.heap it a j)(h:Q (.ref it) s):Qw ⇑[] A (Xk<|.ref it) Q E s:=by
 have d:s.TypeIs (.ref it) "reversed":=⟨_,b,rfl⟩;refine J2 d YI<|iD YI d Em ?_<|Ol _;refine aZ {6,"reversed",_,d,zw8.lookup,h}
def Ir{q a:eH}{j:Qk}{xs:Qo iH}{x:iH}{Q:Qj iH->Pw->Prop}(b:oQ s.heap q a (j:Ql))(d:Vq s.heap a xs)(m:a≠q)(l:xs.size<=sizeLine)(hx:xs[j]?\x)
  (i:∀h' tk,oQ h' q a ((j:Ql)-1)->Rf q s.heap h'->Q (Qp x) {s with heap:=h',toks:=tk}):Qw ⇑[] A (Rq<|.ref q) Q E s:=by
 have r:s.TypeIs (.ref q) "reversed":=⟨_,b,rfl⟩;unfold Rq;refine aC<|nD<|kB (name:=Su "__next__") r zw8<|iD zw8 r ZY ?_<|ZR _;show Qw _ _ (Tv (.ref q) 0 >>= _) _ _ s;refine aC<|fQ b rfl (x:=.ref a) rfl ?_;show Qw _ _ (Tv (.ref q) 1 >>= _) _ _ s;refine aC<|fQ b rfl (x:=.int (j:Ql) 0) rfl ?_;show Qw _ _ (if (j:Ql)<0 then _ else _) _ _ s;rw[bA ∅];refine aC<|oO d.typeIs uf8.lookup ?_;show Qw _ _ (mkInt (j:Ql) >>= _) _ _ s;refine aC<|wpAny_mkInt ?_;have o:j<xs.size:=by
  obtain h|h:=nN j xs.size
  .exact h
  .rw[DM h]at hx;cases hx
 have n:=oR;have e:Vq (J9 {s with toks:=s.toks+1}) a xs:=d;refine aC<|nD<|getItem_tuple (s:={s with toks:=s.toks+1}) (j:=j) e ∅ ∅ (by unfold Vt;(simp only[show ¬((j:Ql)<0) by lia,iF];rw[bG<|by simp;lia];simp)) hx ?_;show Qw _ _ (Tv (.ref q) 1 >>= _) _ _ _;refine aC<|fQ b rfl (x:=.int (j:Ql) 0) rfl ?_;refine aC<|oG b ↥_ λh' f a1=>?_;refine aZ {6,?_};exact aZ<|i h' _ f a1
def wG(h:A.handled=Qq)(d:oQ s.heap it a j)(l:j<0)(q:∀h' tk,Tq it s.heap h'->Q Qq {s with heap:=h',toks:=tk}):Qw ⇑[] A (Rq<|.ref it) Q E s:=by
 have B:s.TypeIs (.ref it) "reversed":=⟨_,d,rfl⟩;unfold Rq;refine aC<|nD<|kB (name:=Su "__next__") B zw8<|iD zw8 B ZY ?_<|ZR _;show Qw _ _ (Tv (.ref it) 0 >>= _) _ _ s;refine aC<|fQ d rfl (x:=.ref a) rfl ?_;show Qw _ _ (Tv (.ref it) 1 >>= _) _ _ s;refine aC<|fQ d rfl (x:=.int j 0) rfl ?_;show Qw _ _ (if j<0 then _ else _) _ _ s;rw[bG l];refine aC<|jI ?_;refine aC ?_;show Qw _ _ (setField (.ref it) 1 (rawInt<|-1) >>= λ_=>setField (.ref it) 0 .none) _ _ s;refine aC<|oG d ↥_ λr n i=>?_;refine oG n ↥_ λz u a1=>?_
 refine aC ?_;show Qw _ _ (A3 (.type "StopIteration") [] >>= _) _ _ _;refine aC ?_;simp only[A3,D4];refine aC (jP ?_<|by size_fits);refine aC (m:=Tn _ _)<|wpAny_of_eq (a:=Rm) (by first | rfl | (simp only[Tn];rfl)) ?_;refine jP ?_ (by size_fits);simp only[raiseNew];refine aC<|wpAny_handled ?_;first | rw[show A.in1.handled=Qq from h] | rw[h]
 refine aC<|aZ<|wpAny_throw ?_;refine aC<|vP (T:="StopIteration") (b:=Qr) {_,dQ _ rfl,U} BL<|aZ<|q _ _ ?_;exact λb o f e=>cB _<|cB _<|a1.extBut _ _ f<|i.extBut _ _ f e
def uW(K:Fq)(a:eH)(n:Qk):It:=
 ⟨λi H=>∃b x,SqT K H a b/\↑b=n/\b.reverse[i]?\x,λi H x d=>d=H/\∀b,SqT K H a b->b.reverse[i]?\x,λi H=>∃b,SqT K H a b/\↑b=n/\n<=i⟩
def Me{P:Py}{w:Qb}{K:Fq}{tg:Qc}(a it:eH)(a2:a≠it)(n:Qk):gM P w K tg (uW K a n) [it] it (λi h=>oQ h it a<|(n:Ql)-1-(i:Qk)) where
 mem:=by simp
 obj:=λi h st b d=>by
  have e:b=it:=⇑[d]
  subst e;exact{_,st,λv z=>by cases z}
 keep:=λi h h' st k=>k it ↥_ _ st
 item:=by
  intro X C B l L i M s σ H E I f st j;subst C B l;obtain⟨xs,x,r,hn,hx⟩:=j;obtain⟨its,N,p,hz⟩:=I.tuple r;have hi:i<↑xs:=by
   have:=(vh2.mp hx).1;rwa [lZ]at this
  have a5:xs[↑xs-1-i]?\x:=by rw[<-Ur hi];exact hx
  obtain⟨u,hu,W⟩:=N.get a5;obtain⟨m,J,f2,G,q,A⟩:=f it ↥_;have ej:((n:Ql)-1-(i:Qk))=((↑xs-1-i:Qk):Ql):=by lia
  have Z:oQ s.heap it a ((↑xs-1-i:Qk):Ql):=by rw[<-ej];exact st
  have hl:=N.length;refine Ir Z p a2 (by rw[dN,<-hl];exact hz) (x:=u) ⇑[hu] λh' tk O sb=>?_
  have T:Inv X M σ H {s with heap:=h',toks:=tk}:=I.turned (t':=tk) (λb o d e=>(sb.2 b d).trans e) m J G q A;have a1:oQ h' it a ((n:Ql)-1-((i+1:Qk):Ql)):=by
   have e2:((n:Ql)-1-((i+1:Qk):Ql))=((↑xs-1-i:Qk):Ql)-1:=by lia
   rw[e2];exact O
  exact{u,U,xG (s:={s with heap:=h',toks:=tk}) a1 rfl rfl ↥?_ {x,H,T,W,{U,λys hy=>by rw[I.tuple_inj hy r];exact hx},a1,λb d=>(f b d).1}}
 done:=by
  intro X C B l L i M s σ H E I f st j;subst C B l;obtain⟨xs,r,hn,hx⟩:=j;obtain⟨m,J,f2,G,q,A⟩:=f it ↥_;exact wG (I.ok.hd L) st ∅ λh' tk eb=>{U,I.turned (t':=tk) (λb o d e=>eb b o d e) m J G q A}
 self:=λ_ _ _ _ _ st h=>Aw st h
section
variable{tg:Qc}
def NV(K:Fq)(e:TA):TI:=λf H R=>e f H λvs d=>∃a b,vs=[.ref a]/\SqT K d a b/\R (uW K a ↑b) d
def Bs:Ss "reversed"\.type "reversed":=by rfl'
def XS(A:Gl X "reversed")(B:X.mg "reversed"=Qq)(j:PA X [a] ta)(hs:X9 (starEach [a] X.env=[(Qs,eval a X.env)]) X8):PI X tg (.Call (.Name "reversed" p) [a] [] pos) (NV X.K ta):=by
 intro m s N H R I h;refine L3<|oP I A B Bs<|sK (bD (j pos m s N H _ I h) λT d ⟨vs,C,f,E,G⟩=>?_) (by rw[hs];rfl) rfl;obtain⟨l,xs,e,z,q⟩:=G;subst e;cases E with
 | cons r M=>
  cases M;cases r;obtain⟨J,x,i,O⟩:=f.tuple z;have hl:=↑x;have a1:l<d⁻¹:=by obtain⟨o,e,_⟩:=i;exact cI e
  refine Bb (xs:=J.toArray) (by rw[dN,<-hl];exact O) i λtk L=>?_
  refine Aw (s:={d with heap:=_,toks:=tk}) L ?_;refine{d⁻¹,[d⁻¹],_,_,C,U,f.kept (t':=tk) λb o e=>cB _ e,Me l _ (dB a1) ↑xs,?_,λb n=>?_,q}
  .have u:(((↑xs:Qk):Ql)-1-((0:Qk):Ql))=((J.toArray.size:Qk):Ql)-1:=by rw[dN,hl];lia
   show oQ _ _ _ _;rw[u];exact L
  .have e:b=d⁻¹:=⇑[n]
   subst e;exact f.fpOk (aV _)<|f.hok.fresh<|aV _
end
def Ki(l:eH)(items:Qo iH)(n:Qk)(q:Qj eH)(B:Qo (Qj iH))(x:iH)(e:iH->Qm)(j:Qk)(E:j<items.size)(r:∀i (h:i<items.size),i<j->e items[i]=Qs)(C:e items[j]=Qr):
  Meets (Px.«tuple.index» ⟨[.ref l,x],[]⟩)
   (λA R s=>s.heap.get? l=Qp {cls:=.type "tuple",dict:=q,data:=.seq items n,slots:=B}/\(∀y,y∈items->Qz A.in1 s y x (e y))/\R (.ok<|.ret<|.int (j:Qk) s.toks) {s with toks:=s.toks+1}):=
 .of_wp λJ w A R s h=>by
  obtain⟨M,g,d,tk,os⟩:=s;obtain⟨hl,O,h⟩:=h;have N:∀{L:Type}(b:L)(f:Qk->L->Xg (ForInStep L)),forIn ([0:min items.size items.size]:Uw) b f=forIn (Uy 0 items.size) b f:=by
   intro L b f;rw[Zp];simp[Uw.size]
  wp_walk using DK hl
  show Qw _ _ (forIn (m:=Xg) ([0:min items.size items.size]:Uw) ((Qq,()):Qj Fin×Unit) (λ(i:Qk) G=>match items[i]? with
      | some y=>do
       let H <-eqBool y x
       if H=Qr then do
         let H <-retInt (i:Ql)
         pure (Rr (Qp H,()))
        else pure<|Qv (Qq,())
      | x=>pure<|Qv (Qq,()))) _ _ _
  rw[N];refine L5 _ (λrest b a=>b=(Qq,())/\a=⟨M,g,d,tk,os⟩/\∃i,rest=Uy i (items.size-i)/\i<=j) _ ?_ ?_ _ _ {U,U,0,U,cE _}
  .rintro y rest b a ⟨rfl,rfl,i,hi,a1⟩;have o:i<items.size:=by lia
   rw[show items.size-i=(items.size-i-1)+1 by lia,Ue]at hi;obtain⟨rfl,rfl⟩:=zL hi;have u:items[y]?=Qp items[y]:=ID o;show Qw _ _ (match items[y]? with
      | some z=>do
       let H <-eqBool z x
       if H=Qr then do
         let H <-retInt (y:Ql)
         pure (Rr (Qp H,()))
        else pure<|Qv (Qq,())
      | x=>pure<|Qv (Qq,())) _ _ _
   rw[u];refine aC<|O items[y] (Qo.getElem_mem o) J w _ _ ?_;obtain hy|hy:=nN y j
   .rw[r y o hy]
    wp_walk
    exact{U,U,y+1,by rw[show items.size-y-1=items.size-(y+1) by lia],∅}
   .obtain rfl:y=j:=by lia
    rw[C]
    wp_walk
    exact{6,h}
  .rintro b a ⟨rfl,rfl,i,hi,a1⟩;rw[show items.size-i=(items.size-i-1)+1 by lia,Ue]at hi;cases hi
def ixV(x:V)(xs:Qi V):Nat:=xs.findIdx λy=>kI y x
def PZ(td h:TE):TE:=λe H Q=>td e H λv f=>∃a b,v=.ref a/\Rd f a (.tup b)/\h e f λy d=>kJ y=Qr/\Rd d a (.tup b)/\b.all kJ=Qr/\gC y b=Qr/\Q (.int<|ixV y b) d
section
variable{o e:Qc}{apos cpos:Ud}{td ty:TE}
theorem UM{x:V}:∀{xs:Qi V}{us:Qi iH},Vals xs us->xs.all kJ=Qr->∀(i:Qk)(u:iH),us[i]?\u->∃y,xs[i]?\y/\iS x u=kI y x
 | _,_,.nil,_=>λi u h=>by cases h
 | y::xs,u::us,.cons r t,f=>λi a h=>by
  rw[Xy,qT]at f;cases i with
  | zero=>cases h;exact{y,U,NT r f.1}
  | succ i=>exact UM t f.2 i a h
def uC(N:PE X o td)(he:PE X e ty)(m:M1 X o "index" apos e cpos):PE X (.Call (.Attribute o "index" apos) [e] [] cpos) (PZ td ty):=by
 intro a1 s σ H Q I h;refine rK m.base m.few m.line PySem.F.plainAttrs_tuple Wz PySem.F.type_tuple_index<|bD (N a1 s σ H _ I h) λu E ⟨v,G,l,rx,a,xs,ex,hq,q1⟩=>?_;subst ex;obtain rfl:u=Qy a:=rx;obtain⟨⟨z1,od,M,c0⟩,a2,a6,o1,g1,W,_⟩:=(show ObjOk X.prog X.w G E.heap a (.tup xs) from PY l.hok hq);exists {_,g1,W},λb z=>?_
 .cases z;exact⟨od,M,c0⟩
 rw[m.trees];refine oB rfl<|qY<|lY<|bD (he a1 E σ G _ l q1) λiv s2 ⟨y,H2,B,Z,fy,O,fs,J,q2⟩=>pQ ?_;obtain⟨its,j,⟨f,C,q,n,hd⟩,hz⟩:=B.tuple<|.inl O;have hl:=↑j;have a5:ixV y xs<↑xs:=Qi.findIdx_lt_length.mpr<|ub1.mp J;have hs:ixV y xs<its.toArray.size:=by rw[dN];lia
 have AX:∀i (h:i<its.toArray.size) b,(∀z,xs[i]?\z->kI z y=b)->iS y its.toArray[i]=b:=λi h b k=>by
  obtain⟨z,d,e2⟩:=UM (x:=y) j fs i its.toArray[i] ↥_;rw[e2];exact k z d
 have L:s2.heap.get? a=Qp {cls:=.type "tuple",dict:=f.dict,data:=.seq its.toArray n,slots:=f.slots}:=by
  rw[C,<-q,<-hd]
 refine nR Wz (T:="tuple") {_,C,q} PySem.F.entry_tuple_index (PySem.F.args_tuple_index_2 _ _) (λA R s=>Ki a its.toArray n f.dict f.slots iv (iS y) (ixV y xs) hs ?_ ?_ X.prog X.w A R s) {L,λv hv=>FD Z fy j fs v ⇑[hv],{.int (ixV y xs:Qk),H2,B.tok _,{6},q2}}
 .intro i h hi;refine AX i h Qs λz d=>?_;have:=Qi.not_of_lt_findIdx hi;obtain⟨r,rfl⟩:=vh2.mp d;simpa using this
 .refine AX _ hs Qr λz d=>?_;obtain⟨r,rfl⟩:=vh2.mp d;exact Qi.findIdx_getElem (w:=r)
end
abbrev kE:=xZ Qy
def Mc(b:X.A.units<cLine):pF X (λa=>kE X.prog X.w a []) (IP Qy R7 X.prog X.w X.K):=XU (λ_ _ h=>h) b
inductive Ny(P:Py)(w:Qb)(K:Fq)(x y:V)(H:Hp)(Q:VK):Prop
 | mk(a b:eH)(qs:Qi (Pr×eH×eH))(n:Pr)(z:Pr×eH×eH)(h1:x=.ref a)(h2:y=.ref b)(h3:H a\kE P w a qs)(h4:PvOk K H qs)(h5:SqT K H b [.str n.1,.str n.2])(h6:qs.find? (λq=>decide<|q.1=n)\z)(q:Q (.ref z.2.2) H)
def Gk(P:Py)(w:Qb)(K:Fq)(td e:TE):TE:=λa H Q=>td a H λx d=>e a d λy b=>Ny P w K x y b Q
def qZ{o i:Qc}{td Z:TE}{pos:Ud}(r:X.A.units+1<cLine)(m:PE X o td)(hi:PE X i Z)(hs:pW i):PE X (.Subscript o i pos) (Gk X.prog X.w X.K td Z):=by
 intro f s W H Q I h;refine ON ug1.lookup hs<|bD (m f s W H _ I h) λu E ⟨x,J,j,M,N⟩=>bD (hi f E W J _ j N) ?_;rintro B s2 ⟨y,H2,d,q,a,b,qs,n,z,ex,C,g,ok,l,G,T⟩;subst ex C;obtain rfl:u=Qy a:=M;obtain rfl:B=Qy b:=q;obtain⟨_,hd,e⟩:=EV d g ok;obtain⟨o,es,ep,L,O,_⟩:=id e;refine{{o,L,O.1},F7 (xS r) (KR d l) e (p:=(z.2.1,Qy z.2.2)) (by rw[RI,G];rfl) ?_};exact{.ref z.2.2,H2,d.tok _,U,T}
def cF{N P:Z2}{a:Scope}(e:X9 (a.kind=.function) X8)(j:X9 (a.isCoroutine=false) X8)(d:X9 (a.isGenerator=false) X8)(i:X9 (N.Nodup) X6)(b:X9 (N.take P.length=P) X8)(f:X9 (∀x∈P,a.names.lookup x\.local\/a.names.lookup x\.cell) X6)(h:X9 (∀y∈a.names,y.2≠.free) X6):cC N P a:=⟨e,j,d,i,b,f,h⟩
section
variable{x:zZ}{pos pos':Ud}{e:Qc}{te:TE}{scope:Scope}{N':Z2}{src:Qi (Qj Qk)}
def eW(h:X9 (scope.kind=.function) X8)(b:X9 ((scope.names.all λy=>decide<|y.2≠.cell)=true) X6)(f:X9 ((scope.names.all λy=>decide<|y.2=.local->scope.names.lookup y.1\.local)=true) X6)(a:X9 ((scope.names.all λy=>decide<|y.2=.free->X.env.kindOf y.1\.cell\/X.env.kindOf y.1\.free)=true) X8)(d:X9 (↑src=N'.length) X8)
  (e:X9 (((N'.zip src).all λp=>match p.2 with | some j=>decide (X.N[j]?\p.1) && decide ((p.1,Ri)∈scope.names) | none=>Qr)=true) X8):BlkN X scope N' src:=⟨h,b,f,a,d,e⟩
def sL(i:Qk)(b:X.N.Nodup)(he:PE X e te)(hi:X9 (X.N[i]?\x) X8)(hx:yM X.env.scope x:=by exact .inl rfl)(hs:X9 (Tt e (Qp<|.Name x pos') pos.line X.env=pure false) X8)(a:X.fn x=Qr\/X.env.scope.names.lookup x\.local:=by first | exact .inl rfl | exact .inr rfl):PS X (.Assign [.Name x pos'] e pos) (gH te<|cA i):=jU b hi hx he hs a
def gL(i:Qk)(b:X.N.Nodup)(hi:X9 (X.N[i]?\x) X8)(hx:yM X.env.scope x:=by exact .inl rfl)(a:X.fn x=Qr\/X.env.scope.names.lookup x\.local:=by first | exact .inl rfl | exact .inr rfl):PG X (.Name x pos) (cA i):=rH b hi hx a
end
end L2
local macro_rules | `(tactic| trivial)=>`(tactic| first | exact aN | exact .head _ | exact .tail _ (.head _) | exact .tail _ (.tail _ (.head _)) | exact λ_ h=>absurd h aN | simp)
local macro_rules|`(tactic|ac_rfl)=>`(tactic|first|dsimp only[L2.gX,L2.Cx.nox]|skip)
namespace Gn
open PySem L2
open L2.V renaming str->R6,ref->R7,int->R8,non->R9
open L2.SqL renaming of->T1
open L2.SqT renaming of->T2
variable{f:eH}{fd:Qh}
def av{X:Cx}{x:zZ}{pos:Ud}{es:Qi Qc}{t:TA}(i:Qk)(h:PA X es t)(d:X9 (X.N[i]?\x) X8)(a:FM X.env.scope x:=by first | exact iO rfl | exact jH (iO rfl) | exact jH (jH rfl))(hd:X9 ((x == ("__debug__":zZ))=false) X7)(b:X9 ((x == ("__classdict__":zZ))=false) X7):PA X (.Name x pos::es) (bJ (aG i) t):=aI (pv i d a hd b) h
abbrev qH:zZ:="_law_hand_here"
abbrev qW:zZ:="_law_world_here"
abbrev qA:Z2:=[qH,qW,"_law_env"]
abbrev qB:Z2:=[qH,"_law_many"]
abbrev qC:Z2:=[qH,"_law_some"]
abbrev qD:Z2:=[qH,qW,"_law_env","_law_above","_law_deed_here"]
abbrev qE:Z2:=[qW,"_law_kind","_law_deed_here"]
abbrev qF:Z2:=[qH,qW,"_law_env","_law_level"]
abbrev qG:Z2:=[qW,"_law_kind"]
abbrev qI:Z2:=["program","kind","deed"]
abbrev qJ:Z2:=["_law_program_here"]
abbrev qK:Z2:=["program"]
def top(i:Qk):Qd:=PySem.Challenge.pw_surecall_k18_whole_runs_stay_within.main.body.getD i<|.Pass ⟨0,0,0,0⟩
def zA(i:Qk):Qd:=match top i with
 | .ClassDef _ _ _ b _ _ _ _ _ _ _=>b.getD 0<|.Pass ⟨0,0,0,0⟩
 | s=>s
structure Cz where
 (th du rn:eH)
abbrev YV:Z2:=["program","made","forms","bodies","choices","many_read","many_done","under_way","here","todo","log","looks"]
abbrev WX:Z2:=["number","row","inners","names"]
abbrev YD:Z2:=["kind","fields"]
structure dS(K:Fq)(C:Cz):Prop where
 t:zK K C.th YD
 d:zK K C.du WX
 r:zK K C.rn YV
 nd:C.du≠C.rn
 nt:C.th≠C.rn
structure Ry where
 C:Cz
 pr:Py
 w:Qb
 K:Fq
 nd:C.du≠C.rn
 nt:C.th≠C.rn
abbrev jZ:Qd:=top 83
inductive CQ(K:Fq)(vs:Qi V)(H:Hp)(Q:VK)(_:XK):Prop
 | mk(a:eH)(ns:Qi Ql)(h1:vs=[.ref a])(h2:SqL K H a (ns.map R8))(h3:↑ns<=63)(h4:∀H',Q (.bl Qr) H')
inductive Fh(K:Fq)(nm qn:zZ)(st:Qd)(f:eH):Prop
 | mk {od an:Qj eH} {sl:Qo (Qj iH)} {oc kV dc pm cd ct:iH} (l:K.lookup f=Qp ⟨oc,od,.func<|Sk nm qn (qM st) (gZ st) (bX st) .none kV dc pm an cd ct,sl⟩) (c:Uk K cd qn=Qr) (k:Sm K (.ref f)=Qr):Fh K nm qn st f
inductive Fg(K:Fq)(nm:zZ)(st:Qd):Prop
 | mk {f:eH} (a:Rt K Re nm\(Qp<|.ref f)) (h:Fh K nm nm st f):Fg K nm st
structure Ck(K:Fq)(x qn:zZ)(st:Qd)(fs:Z2)(C g:eH):Prop where
 a:Rt K Re x\(Qp<|.ref C)
 c:Cls K C
 n:∀f∈fs,Sn K (.ref C) f\Qq
 m:Mk K C g
 h:Fh K "__init__" qn st g
structure Fa(w:Qb)(K:Fq)(h:Qa)(mg:zZ->Qj iH)(fa:eH)(am ah ap ad:eH)(odm odh odp:Qj eH)(slm slh slp:Qo (Qj iH))(tm1 tm2 nm th1 th2 nh tp np nd tw tb tt tu:Qk)(e1 e2 e3 e4 e5 e6 e7 e8 e9:Qk)(g1 g2 g3 g4 g5 g6 g7 g8 g9 c1 c2 c3 i1 i2 i3:eH):Prop where
 X:K.In h
 G:h.Ns Re mg
 hfa:mg "law"\.ref fa
 p1:Fg K "elders" (top 1)
 p2:Fg K "is_below" (top 2)
 p3:Fg K "deed_of" (top 4)
 p4:Fg K "answer" (top 5)
 p5:Fg K "asked" (top 6)
 p6:Fg K "bodies" (top 10)
 p7:Fg K "rows_within" (top 11)
 p8:Fg K "lay" (top 12)
 p9:Fg K "laid" (top 14)
 p10:Fg K "numbered" (top 13)
 p11:Fg K "calls" (top 17)
 p12:Fg K "all_below" (top 3)
 p13:Fg K "told_among" (top 19)
 p14:Fg K "by_tree" (top 20)
 p15:Fg K "kinds_by" (top 22)
 p16:Fg K "bodies_by" (top 23)
 p17:Fg K "made_paper" (top 24)
 p18:Fg K "by_made" (top 25)
 p19:Fg K "forms_of" (top 32)
 p20:Fg K "turned_back" (top 33)
 p21:Fg K "found_by" (top 29)
 p22:Fg K "cost_by" (top 30)
 p23:Fg K "end_call" (top 53)
 p24:Fg K "next_choice" (top 42)
 p25:Fg K "add_due" (top 41)
 p26:Fg K "start_call" (top 52)
 p27:Fg K "do_row" (top 55)
 p28:Fg K "run_on" (top 56)
 p29:Fg K "whole_run" (top 57)
 p30:Fg K "plain_run" (top 59)
 p31:Fg K "_law_hand" (top 61)
 p32:Fg K "_law_take" (top 62)
 p33:Fg K "_law_of" (top 63)
 p34:Fg K "_law_words" (top 64)
 p35:Fg K "_law_tree" (top 65)
 p36:Fg K "_law_world" (top 66)
 p37:Fg K "_law_line" (top 67)
 p38:Fg K "_law_has" (top 68)
 p39:Fg K "_law_variable" (top 69)
 p40:Fg K "_law_target" (top 70)
 p41:Fg K "_law_make" (top 71)
 p42:Fg K "_law_args" (top 72)
 p43:Fg K "_law_call" (top 73)
 p44:Fg K "_law_field" (top 74)
 p45:Fg K "_law_row" (top 75)
 p46:Fg K "_law_rows" (top 76)
 p47:Fg K "_law_deed" (top 77)
 p48:Fg K "_law_program" (top 78)
 p49:Fg K "_law_choices" (top 79)
 p50:Fg K "_law_flat" (top 80)
 p51:Fg K "_law_numbered" (top 81)
 p52:Fg K "_law_within" (top 82)
 pL:Fg K "law" (top 83)
 q1:Fh K "do_make" "do_make" (top 43) g1
 q2:Fh K "do_copy" "do_copy" (top 44) g2
 q3:Fh K "do_put" "do_put" (top 45) g3
 q4:Fh K "do_take" "do_take" (top 46) g4
 q5:Fh K "do_say" "do_say" (top 47) g5
 q6:Fh K "do_either" "do_either" (top 48) g6
 q7:Fh K "do_again" "do_again" (top 49) g7
 q8:Fh K "do_bring" "do_bring" (top 50) g8
 q9:Fh K "do_call" "do_call" (top 51) g9
 k1:Ck K "Thing" "Thing.__init__" (zA 38) YD c1 i1
 k2:Ck K "Due" "Due.__init__" (zA 39) WX c2 i2
 k3:Ck K "Run" "Run.__init__" (zA 40) YV c3 i3
 nd1:c2≠c3
 nd2:c1≠c3
 aM:Rt K Re "MAIN"\(Qp<|.ref am)
 lM:K.lookup am=Qp ⟨.type "tuple",odm,.seq #[.str "" tm1,.str "" tm2] nm,slm⟩
 aH:Rt K Re "HOLDERS"\(Qp<|.ref ah)
 lH:K.lookup ah=Qp ⟨.type "tuple",odh,.seq #[.str "either" th1,.str "again" th2] nh,slh⟩
 aP:Rt K Re "PLAIN"\(Qp<|.ref ap)
 lP:K.lookup ap=Qp ⟨.type "tuple",odp,.seq #[.str "plain" tp] np,slp⟩
 aW:Rt K Re "OWN"\(Qp<|.str "own" tw)
 aB:Rt K Re "BACK"\(Qp<|.str "back" tb)
 aT:Rt K Re "MOST_TIMES"\(Qp<|.int 9 tt)
 aU:Rt K Re "MOST_UNDER_WAY"\(Qp<|.int 40 tu)
 aD:Rt K Re "DOERS"\(Qp<|.ref ad)
 lD:K.lookup ad=Qp ⟨.type "dict",Qq,.dict #[⟨Sr w.params "make",.str "make" e1,.ref g1⟩,⟨Sr w.params "copy",.str "copy" e2,.ref g2⟩,⟨Sr w.params "put",.str "put" e3,.ref g3⟩,⟨Sr w.params "take",.str "take" e4,.ref g4⟩,⟨Sr w.params "say",.str "say" e5,.ref g5⟩,⟨Sr w.params "either",.str "either" e6,.ref g6⟩,⟨Sr w.params "again",.str "again" e7,.ref g7⟩,⟨Sr w.params "bring",.str "bring" e8,.ref g8⟩,⟨Sr w.params "call",.str "call" e9,.ref g9⟩] nd,#[]⟩
 z:∀x∈(["len","abs","int","range","tuple","dict","list","any","zip","enumerate","sorted","max","min","reversed","all","isinstance","bool","str"]:Z2),Rt K Re x\Qq
def Mn(Y:Ry)(mg:zZ->Qj iH)(base:Qa):Prop:=∀{h:Qa}{b:eH}{fd:Qh}{O ah ap ad:eH}{j d i:Qj eH}{a l n:Qo (Qj iH)}{e m Z f o G tp u nd M J q H:Qk}{e1 z e3 W e5 e6 e7 X e9:Qk}{T g2 L r g5 s E A B i1 x N:eH},Fa Y.w Y.K h mg b O ah ap ad j d i a l n e m Z f o G tp u nd M J q H e1 z e3 W e5 e6 e7 X e9 T g2 L r g5 s E A B Y.C.th Y.C.du Y.C.rn i1 x N->Fun Y.K "law" "law" jZ b fd->aR Y.pr Y.w Y.K mg base bT 260 b fd ["_law_script"] (CQ Y.K)
instance:Nonempty Ry:=⟨⟨⟨0,0,1⟩,default,⟨λ_ _=>0,{strHash:=λ_=>0,shareClass:=λ_=>0,mergeTok:=id,idOf:=λ_=>0,idOfShared:=λ_ _=>0,followText:=λ_=>Qs,idOfImm:=λ_=>0}⟩,[],by decide,by decide⟩⟩
noncomputable def cc:Ry×(zZ->Qj iH)×Qa:=Classical.epsilon λt=>¬Mn t.1 t.2.1 t.2.2
noncomputable def Y:Ry:=cc.1
noncomputable def mg:zZ->Qj iH:=cc.2.1
noncomputable def base:Qa:=cc.2.2
noncomputable abbrev P:Py:=Y.pr
noncomputable abbrev w:Qb:=Y.w
noncomputable abbrev K:Fq:=Y.K
abbrev X0 s:=Fun K s s
def wI(h:Mn Y mg base)(y:Ry)(m:zZ->Qj iH)(b:Qa):Mn y m b:=by
 refine @Classical.byContradiction (Mn y m b) ?_;intro z;exact Classical.epsilon_spec (p:=λt:Ry×(zZ->Qj iH)×Qa=>¬Mn t.1 t.2.1 t.2.2) {(y,m,b),z} @h
abbrev rC:Qd:=top 61
abbrev sE:Qd:=top 62
abbrev MV:Qd:=top 63
structure pZ(d m t:Ql):Prop where
 d0:0<=d
 m0:0<=m
 m1:m<4611686018427387904
 t0:0<=t
def Hand(H:Hp)(a:eH)(d m t r:Ql):Prop:=H a=Qp (.lst [.int d,.int m,.int t,.int r])/\pZ d m t
abbrev hl(d m t r:Ql):HO:=.lst [.int d,.int m,.int t,.int r]
inductive iL(vs:Qi V)(H:Hp)(Q:VK)(_:XK):Prop
 | mk(a:eH)(d m t r n:Ql)(h1:vs=[.ref a,.int n])(h2:Hand H a d m t r)(h3:t<1000000)(h4:0<n)(h5:n<1000000)(h6:∀(x d' m' t':Ql),0<=x->x<n->pZ d' m' t'->t'<=t+1->Q (.int x) (upd H a<|hl d' m' t' r))
def eI(e:PE X a ta)(d:PE X b tb)(hs:X9 (PD b) X3):PE X (.Subscript a b pos) (dG (oU X.K) ta tb):=jK ZT e d hs
def xb7:cC [qH,"_law_many","_law_digit","_law_turn","_law_mixed"] qB (bX sE):=cF
def JM:fY [a,b,c,d] 0\a:=rfl
def AX:fY [a,b,c,d] 1\b:=rfl
def QK:fY [a,b,c,d] 2\c:=rfl
def FZ:fY [a,b,c,d] 3\d:=rfl
def Ll(F:X0 "_law_take" sE f fd):↥qB iL:=by
 refine F.ok xb7 ⇑?_;obtain⟨a,d,m,t,r,n,rfl,⟨b,ok⟩,u,e,x,q⟩:=h;exists _,aJ (cY (cG pR (eI ⇑0 aQ) aQ<|cS _) (aJ (sL 2 xb7.nd<|cM vY (eI ⇑0 aQ)<|pv 1)<|aJ (hZ (cM EX (eI ⇑0 aQ)<|pv 1)<|yX ⇑0 aQ AA)<|aY<|bR<|pv 2) dJ)
  (aJ (hZ (cM lB (eI ⇑0 aQ) aQ)<|yX ⇑0 aQ AA)<|aJ (sL 3 xb7.nd<|eI ⇑0 aQ)<|aJ (sL 4 xb7.nd<|cM vY (cM vT (cM lB (eI ⇑0 aQ)<|cM vT aQ<|pv 3)<|cM lB aQ<|cM vT ⇑3<|pv 3) aQ)<|aJ (hZ (cM vY (cM vT ⇑4<|cM lB (cM vY ⇑4 aQ) aQ) aQ)<|yX ⇑0 aQ AA)<|aY<|bR<|cM vY (cM EX (eI ⇑0 aQ) aQ)<|pv 1)
 exists 6,a,_,_,6,U,T1 b,JM,_,6,U,6;refine bE (λc=>?_) λc=>?_
 .have c':d > 0:=dH c;exists 6,a,_,_,6,U,T1 b,JM,6,_,6,U,e;exists 6,a,_,_,6,U,T1 b,JM,6,_,6,U,{e,∅};exists 6,a,_,0,0,U,U,b,U;exists 6;exact q (d % n) (d / n) m t (yU _ ∅) (zI _ e) {Ql.ediv_nonneg ok.d0 ∅,ok.m0,ok.m1,ok.t0} ∅
 .exists _,rfl,a,_,_,_,rfl,rfl,T1 b,QK,_,_,rfl,rfl;exists 6,a,_,2,2,U,U,b,U;have i:upd H a (.lst<|[R8 d,.int m,.int t,.int r].set 2<|.int<|t+1) a\.lst [.int d,.int m,.int<|t+1,.int r]:=zb0;exists 6,a,_,_,6,U,T1 i,QK;exists 6,a,_,_,6,U,T1 i,AX,6,_,6,U,.inl (by constructor <;> decide),_,_,rfl,rfl;exists 6,6,_,6,U,.inl {by have:=ok.t0;lia,∅},_,_,rfl,rfl,_,_,rfl,rfl,.inr ?_,_,_,rfl,rfl,?_
  .have l:0<=(t+1)*(t+1):=Ql.mul_nonneg (by have:=ok.t0;lia) (by have:=ok.t0;lia);have j:(t+1)*(t+1)<=1000000*1000000:=Ql.mul_le_mul ∅ ∅ (by have:=ok.t0;lia) ∅
   constructor <;> lia
  .show(0:Ql)<2305843009213693921
   decide
  have z:0<=(m+39373*(t+1))*(48271+(t+1)*(t+1)) % 2305843009213693921:=yU _ ↥?_;have o:(m+39373*(t+1))*(48271+(t+1)*(t+1)) % 2305843009213693921<2305843009213693921:=zI _ ↥?_;exists 6,6,_,6,U,?_,_,6,U,_,6,U,.inl {∅,∅},_,6,U,?_
  .show(0:Ql)<1000003
   decide
  .show(0:Ql)<2305843009213693907
   decide
  exists 6,a,_,1,1,U,U,i,U;exists 6,a,_,_,6,U,T1 zb0,U,_,6,U,{by decide,by decide},6,_,6,U,e;rw[iN];exact q _ d _ (t+1) (yU _ ∅) (zI _ e) {ok.d0,yU _ ↥?_,Ql.lt_trans (zI _<|by decide) ↥?_,by have:=ok.t0;lia} ∅
def FrS(S:Z3)(H H':Hp):Prop:=∀b o,b∉S->H b\o->H' b\o
def FrS.refl:FrS S H H:=λ_ _ _ h=>h
def FrS.trans(a:FrS S H H1)(b:FrS S H1 H2):FrS S H H2:=λc o n h=>b c o n<|a c o n h
def FrS.mono(a:FrS S H H1)(h:∀b∈S,b∈T):FrS T H H1:=λc o n q=>a c o (λz=>n<|h c z) q
def FrS.chg(h:a∈S):FrS S H (upd H a o):=λb u n q=>by
 rw[aE λz=>n<|by rw[z];exact h];exact q
open FrS renaming chg->T0
def FrS.new(h:H a=Qq):FrS S H (upd H a o):=λb u n q=>by
 rw[aE<|bF q h];exact q
open FrS renaming new->S0
def FrS.seq(e:FrS S H H')(n:a∉S)(h:SqL K H a xs):SqL K H' a xs:=by
 obtain(h|⟨o,h⟩)|h:=h
 .exact .inl<|.inl<|e _ _ n h
 .exact .inl<|.inr ⟨o,e _ _ n h⟩
 .exact .inr h
def Hand.at(h:pZ d m t):Hand (upd H a<|hl d m t r) a d m t r:=⟨zb0,h⟩
def Hand.new(h:Hand H a d m t r)(n:H b=Qq):Hand (upd H b o) a d m t r:=⟨by rw[aE<|bF h.1 n];exact h.1,h.2⟩
inductive dP(K:Fq)(vs:Qi V)(H:Hp)(Q:VK)(_:XK):Prop
 | mk(a p:eH)(d m t r:Ql)(xs:Qi V)(h1:vs=[.ref a,.ref p])(h2:Hand H a d m t r)(h3:t<1000000)(h4:p≠a)(h5:SqL K H p xs)(h6:xs≠[])(h7:↑xs<1000)(h8:∀(x:V)(d' m' t':Ql),x∈xs->pZ d' m' t'->t'<=t+1->Q x (upd H a<|hl d' m' t' r))
section
variable{f g:eH}{fd gd:Qh}
def NI:cC qC qC (bX MV):=cF
structure aS(P:Py)(w:Qb)(K:Fq)(mg:zZ->Qj iH)(base:Qa)(k:Qk)(x:zZ)(ps:Z2)(sp:Sp):Prop where
 ex:∃g gd,aR P w K mg base bT k g gd ps sp/\Binds K gd ps []/\Sm K (.ref g)=Qr/\mg x\.ref g
abbrev X1:=@aS P w K mg base
abbrev X2{x p}(n:Qk)s:=∀k:Qk,X1 (k+n) x p s
def bC(C:aS X.prog X.w X.K X.mg X.base k x ps sp)(hr:Room k X.A)(f:Gl X x)(a:PA X (e::es) t)(a1:X9 ((x == ("__debug__":zZ))=false) X7)(he:X9 (starEach (e::es) X.env=(Qs,eval e X.env)::starEach es X.env) X8)(d:X9 ((backTo pos<|starEach es X.env).any (·.1)=false) X8):
  PE X (.Call (.Name x p) (e::es) [] pos) (hV sp [] E0 t):=by
 obtain⟨g,gd,G,b,h,m⟩:=C.ex;exact Ij G hr f m h b .nil OS a a1 he d
def TZ(h0:0<=i)(d:i<(↑xs:Ql)):∃v,fY xs i\v/\v∈xs:=by
 have a:i.toNat<↑xs:=by lia
 have b:i=((i.toNat:Qk):Ql):=by lia
 refine{xs[i.toNat],?_,fP a};have:=sC (xs:=xs) (j:=i.toNat)<|bM a;rw[<-b]at this;exact this
def BC(F:X0 "_law_of" MV f fd)(T:X1 k "_law_take" qB iL)(n:mg "len"=Qq):
  ↥qC (dP K):=by
 refine F.ok NI ⇑?_;obtain⟨a,p,d,m,t,r,xs,rfl,z,C,o,b,e,a1,q⟩:=h;exists _,aY<|bR<|eI ⇑1<|⇑@T<|av 0<|aI (fO lR rfl n iP<|av 1 aA) aA;have I:0<↑xs:=uh2.mpr e;refine{6,6,6,p,6,.inl b,a,d,m,t,r,6,z,C,∅,∅,λx G m' J M j u i=>?_};obtain⟨v,l,B⟩:=TZ M j;have L:FrS [a] H (upd H a<|hl G m' J r):=T0 ↥_;exact{p,_,_,v,U,U,L.seq ⇑[o] b,l,q v G m' J B u i}
end
abbrev sQ:Qd:=top 64
abbrev lets:zZ:="abcdefghijklmnopqrstuvwxyz"
def iA(pre suf:zZ)(c:Qk):zZ:=pre++⟨#[c]⟩++suf
def sM(pre suf:zZ)(c:Qk):zZ:=iA pre suf c++(if iA pre suf c=("own":zZ) then("q":zZ) else Xm)
def KM(x y:zZ):(x++y).cps=x.cps++y.cps:=rfl
def YG(h:iA pre suf c=iA pre suf c'):c=c':=by
 have e:(pre.cps++#[c])++suf.cps=(pre.cps++#[c'])++suf.cps:=cP zZ.cps h;have a:=cP Yc e;simp at a;exact a
def Kg:(iA pre suf c).cps.size=(iA pre suf c').cps.size:=by
 unfold iA;simp[KM]
def Pq(h:sM pre suf c=sM pre suf c'):c=c':=by
 have m:=cP (λz:zZ=>z.cps.size) h;have hl:=Kg (pre:=pre) (suf:=suf) (c:=c) (c':=c');have j:("q":zZ).cps.size=1:=by decide
 have i:Xm.cps.size=0:=by decide
 unfold sM at h m
 by_cases f:iA pre suf c=("own":zZ)
 .by_cases d:iA pre suf c'=("own":zZ)
  .exact YG<|f.trans d.symm
  .rw[bG f,bA d]at m;simp only[KM,sD,j,i]at m;lia
 .by_cases d:iA pre suf c'=("own":zZ)
  .rw[bA f,bG d]at m;simp only[KM,sD,j,i]at m;lia
  .rw[bA f,bA d]at h;have e:=cP (λz:zZ=>z.cps.toList) h;simp only[KM,kO]at e;have l:(iA pre suf c).cps.toList=(iA pre suf c').cps.toList:=Qi.append_cancel_right e;refine YG (pre:=pre) (suf:=suf) ?_;cases o:iA pre suf c with
   | mk a=>cases n:iA pre suf c' with
    | mk b=>
     rw[o,n]at l;have:a=b:=Qo.toList_inj.mp l;rw[this]
def fJ(first a:Ql)(k:Qk):Nat:=(97+(first+a*(k:Ql)) % 26).toNat
def nY(pre suf:zZ)(first a:Ql)(n:Qk):Z2:=(Tg n).map λk=>sM pre suf<|fJ first a k
def Gi(hs:stride∈([1,3,5,7,9,11]:Qi Ql))(h0:0<=first)(d:j<=12)(b:k<=12)(h:fJ first stride j=fJ first stride k):j=k:=by
 have a:∀s∈([1,3,5,7,9,11]:Qi Ql),∀j k:Fin 13,(s*(j.val:Ql)-s*(k.val:Ql)) % 26=0->j=k:=by rfl'
 have e:(first+stride*(j:Ql)) % 26=(first+stride*(k:Ql)) % 26:=by unfold fJ at h;lia
 refine Fin.mk.inj<|a stride hs {j,B9 d} {k,B9 b} ?_;rw[<-Ql.add_sub_add_left (k:=first)];exact Ql.emod_eq_emod_iff_emod_sub_eq_zero.mp e
def Io(hs:stride∈([1,3,5,7,9,11]:Qi Ql))(h0:0<=first)(i:n<=12):(nY pre suf first stride n).Nodup:=by
 unfold nY;refine Qi.Pairwise.map _ (R:=λj k=>j≠k/\j<n/\k<n) (λj k ⟨h,o,m⟩ e=>h ?_) ?_
 .exact Gi hs h0 ∅ ∅<|Pq e
 .have:(Tg n).Pairwise (λj k=>j<k):=Qi.pairwise_lt_range;refine Qi.Pairwise.imp_of_mem (λ{a b} d f l=>?_) this;rw[Uz]at d f;exact{∅,d,f}
def Bl:nY pre suf first stride (n+1)=nY pre suf first stride n++[sM pre suf<|fJ first stride n]:=by
 unfold nY;rw[E3,bU];rfl
def SR(h0:0<=i)(b:i<26):fY lets.cps.toList i=Qp (97+i).toNat:=by
 have a:∀j:Fin 26,lets.cps.toList[j.val]?\(97+j.val):=by rfl'
 have e:i=((i.toNat:Qk):Ql):=by lia
 have:=sC (xs:=lets.cps.toList) (j:=i.toNat)<|a ⟨i.toNat,by lia⟩;rw[<-e]at this;rw[this]
 congr 1
 simp only;lia
def odd:Z2:=["end","or","main","gives","kind","under","late","deed","call","say","make","take","put"]
def Km:odd.Nodup:=by rfl'
def Fb:∀x∈odd,x≠("own":zZ)/\x≠("":zZ):=by rfl'
def Pa:∀x∈nY pre suf first stride n,x≠("own":zZ)/\x≠("":zZ):=by
 intro x a;obtain⟨k,_,rfl⟩:=vj2.mp a
 constructor
 .unfold sM
  split
  .next h=>rw[h];rfl'
  .next h=>
   intro z;have e:iA pre suf (fJ first stride k)++Xm=iA pre suf (fJ first stride k):=cP zZ.mk Qo.append_empty;exact h<|e▸z
 .intro z;have h:=cP (λs=>s.cps.size) z;have h:((pre.cps.push (fJ first stride k)++suf.cps)++_:Qo Qk).size=0:=h;rw[sD,sD,C7]at h;lia
inductive IN(vs:Qi V)(H:Hp)(Q:VK)(_:XK):Prop
 | mk(a:eH)(d m t r:Ql)(n:Qk)(h1:vs=[.ref a,.int (n:Ql)])(h2:Hand H a d m t r)(h3:t+10<1000000)(h4:n<=12)(h5:∀(p:eH)(ws:Z2)(d' m' t':Ql)(H':Hp),FrS [a] H H'->Hand H' a d' m' t' r->t'<=t+10->H p=Qq->H' p\(.lst<|ws.map R6)->↑ws=n->ws.Nodup->(∀x∈ws,x≠("own":zZ)/\x≠("":zZ))->Q (.ref p) H')
def TJ{c:Const}{j}{pos:Ud}{es:Qi Qc}{env:Yg}:starEach (.Constant c j pos::es) env=(Qs,eval (.Constant c j pos) env)::starEach es env:=by
 first | rfl | (rw[starEach])
def NL{X:Cx}{x:zZ}{j}{pos:Ud}{es:Qi Qc}{t:TA}(h:PA X es t):PA X (.Constant (.str x) j pos::es) (bJ (tC<|.str x) t):=aI bW h TJ
def eY{X:Cx}{x:Ql}{j}{pos:Ud}{es:Qi Qc}{t:TA}(h:PA X es t):PA X (.Constant (.int x) j pos::es) (bJ (tC<|.int x) t):=aI aQ h TJ
def DI:Qi Qc->Qj Z2
 | []=>Qp []
 | .Constant (.str x) _ _::r=>(DI r).map (x::·)
 | _=>Qq
def Bh{X:Cx}:∀(es:Qi Qc)(ss:Z2),DI es\ss->PA X es (λ_ H Q=>Q (ss.map R6) H):=λes=>es.recOn
 (λss h=>by
  cases h;exact aA)
 λe r a ss h=>by
  cases e with
  | Constant c j pos=>
   cases c with
   | str x=>
    have h:(DI r).map (x::·)\ss:=h;cases b:DI r with
    | none=>rw[b]at h;cases h
    | some d=>
     rw[b]at h;cases h;exact NL<|a d b
   | _=>cases h
  | _=>cases h
def SM(e:Qc):Qj Z2:=match e with
 | .List a _=>DI a
 | _=>Qq
def Hr{X:Cx}{e:Qc}{ss:Z2}(h:SM e\ss):PE X e (λ_ H Q=>↑ss<=sizeLine/\∀p,H p=Qq->Q (.ref p) (upd H p<|.lst<|ss.map R6)):=by
 cases e with
 | List d pos=>
  have q:=cX (pos:=pos)<|Bh (X:=X) d ss h;intro b s f H Q I a;exact q b s f H Q I {by rw[aF];exact a.1,a.2}
 | _=>cases h
def pH(l:Qi Qd):Qc:=match l with
 | .Assign _ v _::_=>v
 | _=>.Constant .none 0 ⟨0,0,0,0⟩
def MO(l:Qi Qd)(v:Qc):Qi Qd:=match l with
 | .Assign t _ p::r=>.Assign t v p::r
 | l=>l
def body{X:Cx}{l a:Qi Qd}{t:TS}(e:l=a)(h:PSs X a t):PSs X l t:=by subst e;exact h
def RP(xs:Qi V){n:Qk}(h:n<=↑xs):dU xs Qq (Qp (n:Ql))=xs.take n:=by
 unfold dU;rw[HT.ZS,HT.FV,zB h];simp
def YX(xs:Qi V){n:Qk}(h:n<=↑xs):dU xs (Qp (n:Ql)) Qq=xs.drop n:=by
 unfold dU;rw[HT.ZS,HT.FV,zB h];exact cW (by rw[nM];lia)
def sA{a p:eH}{H H':Hp}{d m t r:Ql}(f:FrS [a] H H')(h:Hand H' a d m t r)(hp:H' p=Qq):H p=none:=by
 cases i:H p with
 | none=>rfl
 | some o=>
  have b:p≠a:=λe=>by rw[e,h.1]at hp;cases hp
  have:=f p o ⇑[b] i;rw[hp]at this;cases this
inductive tG(H:Hp)(a po:eH)(n:Qk)(t2 r:Ql)(i:Qk)(σ:St)(Hx:Hp):Prop
 | mk(stem:zZ)(kx:Qj V)(dx mx tx:Ql)(h1:σ=[Qp<|.ref a,Qp<|.int n,Qp<|.ref po,Qq,Qp<|.str lets,Qp<|.str stem,kx,Qq,Qq,Qq,Qq])(h2:↑stem<=i)(h3:FrS [a] H Hx)(h4:Hand Hx a dx mx tx r)(h5:tx<=t2+i):tG H a po n t2 r i σ Hx
inductive qO(H:Hp)(a po pw:eH)(n:Qk)(r d m t v u st:Ql)(stem:zZ)(i:Qk)(σ:St)(Hx:Hp):Prop
 | mk(kx wx:Qj V)(h1:σ=[Qp<|.ref a,Qp<|.int n,Qp<|.ref po,Qp<|.int v,Qp<|.str lets,Qp<|.str stem,kx,Qp<|.int u,Qp<|.int st,Qp<|.ref pw,wx])(h2:FrS [a] H Hx)(h3:Hand Hx a d m t r)(h4:Hx pw\(.lst<|(nY (Rl stem Qq<|some u) (Rl stem (Qp u) Qq) v st i).map R6)):qO H a po pw n r d m t v u st stem i σ Hx
section
variable{f g:eH}{fd gd:Qh}
abbrev tN:Z2:=["_law_hand_here","_law_many","_law_odd","_law_first","_law_letters","_law_stem","_law_k","_law_at","_law_stride","_law_words_here","_law_word"]
def zm2:cC tN ["_law_hand_here","_law_many"] (bX sQ):=⟨rfl,rfl,rfl,by rfl',rfl,by rfl',by rfl'⟩
def Ow{k:Qk}(F:X0 "_law_words" sQ f fd)(T:X1 k "_law_take" ["_law_hand_here","_law_many"] iL)(ml:mg "len"=Qq)(mr:mg "range"=Qq)(mi:mg "int"=Qq):
  ↥["_law_hand_here","_law_many"] IN:=by
 refine F.ok zm2 ⇑?_;obtain⟨a,d,m,t,r,n,rfl,hh,ht,hn,q⟩:=h;have G:∀{n:Qk},n<=1000->n<=sizeLine:=λh=>cQ<|bS h;have eB:gZ sQ=MO (gZ sQ) (pH<|gZ sQ):=rfl;have hO:SM (pH<|gZ sQ)\odd:=by rfl'
 have ax:∀(x:zZ)(p:Ud)(n:Qk)(env:Yg),Tt (pH<|gZ sQ) (Qp<|.Name x p) n env=pure false:=λ_ _ _ _=>rfl;rw[eB];generalize pH (gZ sQ)=L at hO ax;exists _,aJ (jU (i:=2) zm2.nd rfl (iO U) (Hr hO)<|ax _ _ _ _)
  (aJ (cY (cG gF (⇑@T<|av 0<|aI aQ aA) aQ<|cS _) (aJ (jU (i:=3) zm2.nd rfl (iO rfl)<|⇑@T<|av 0<|aI aQ aA)<|aY<|bR<|kT qP (cM qN (kT qP ⇑2 (kM<|pv 3) mR)<|kT qP ⇑2 mR<|kM<|pv 3) mR<|kM<|pv 1) dJ) (aJ (jU (i:=4) zm2.nd rfl (iO rfl) bW) (aJ (jU (i:=5) zm2.nd rfl (iO rfl) bW) (aJ (eZ eN rfl (oW rfl mr<|aI (⇑@T<|av 0<|aI aQ aA) aA) (rH (i:=6) zm2.nd rfl<|iO rfl)<|aY<|jU (i:=5) zm2.nd rfl (iO rfl)<|cM LM ⇑5<|jK WC ⇑4 (⇑@T<|av 0<|aI aQ aA) λ_ _=>U) (aJ (jU (i:=7) zm2.nd rfl (iO rfl)<|⇑@T<|av 0<|aI (cM lB (fO Gq rfl ml iP<|av 5 aA) aQ) aA) (aJ (jU (i:=3) zm2.nd rfl (iO rfl)<|⇑@T<|av 0<|aI aQ aA) (aJ (jU (i:=8) zm2.nd rfl (iO rfl)<|eI (cX<|eY<|eY<|eY<|eY<|eY<|eY aA)<|⇑@T<|av 0<|aI aQ aA) (aJ (jU (i:=9) zm2.nd rfl (iO rfl)<|cX aA) (aJ (eZ eN rfl (oW rfl mr<|av 1 aA) (rH (i:=6) zm2.nd rfl<|iO rfl)<|aJ (jU (i:=10) zm2.nd rfl (iO rfl)<|cM LM (cM LM (kT Ay ⇑5 mR<|kM<|pv 7)<|jK WC ⇑4 (cM vY (cM lB ⇑3<|cM vT ⇑8<|pv 6) aQ) λ_ _=>U)<|kT Ay ⇑5 (kM<|pv 7) mR)<|aY<|eX<|fR fU hH hX gS ⇑9<|aI (cM LM ⇑10<|cM Kl bW<|eV JZ rfl mi (by rfl')<|aI (HZ gF ⇑10 bW<|cS _) aA) aA)
  (aY<|bR<|pv 9))))))))))
 refine{G (by show 13<=1000;decide),λC ad=>?_};have b7:Hand (upd H C<|.lst<|odd.map R6) a d m t r:=hh.new ad;have bd:FrS [a] H (upd H C<|.lst<|odd.map R6):=S0 ad;have aw:C≠a:=λe=>by rw[e,hh.1]at ad;cases ad
 refine{6,a,d,m,t,r,8,U,b7,∅,by decide,by decide,λx O M t1 x0 x1 bb bo=>?_};have ak:FrS [a] H _:=bd.trans (T0 (a:=a) (o:=hl O M t1 r)<|by simp);have a7:upd (upd H C<|.lst<|odd.map R6) a (hl O M t1 r) C\(.lst<|odd.map R6):=by rw[aE aw,zb0]
 have aq:Hand (upd (upd H C<|.lst<|odd.map R6) a<|hl O M t1 r) a O M t1 r:=Hand.at bb;generalize upd (upd H C<|.lst<|odd.map R6) a (hl O M t1 r)=H2 at ak a7 aq ⊢;exists U,6;refine bE (λc=>?_) λc=>?_
 .refine⟨_,rfl,a,O,M,t1,r,13,rfl,aq,∅,by decide,by decide,λy J I B y0 y1 ar bc=>?_⟩;have a5:FrS [a] H _:=ak.trans (T0 (a:=a) (o:=hl J I B r)<|by simp);have a2:upd H2 a (hl J I B r) C\(.lst<|odd.map R6):=by rw[aE aw];exact a7
  have a6:Hand (upd H2 a<|hl J I B r) a J I B r:=Hand.at ar;generalize upd H2 a (hl J I B r)=H3 at a5 a2 a6 ⊢;obtain⟨j,rfl⟩:∃j:Qk,y=(j:Ql):=⟨y.toNat,by lia⟩;have hj:j<=↑(odd.map R6):=by show j<=13;lia
  refine{6,6,6,C,6,T1 a2,λp1 af=>?_};have e1:∀o,upd H3 p1 o C\(.lst<|odd.map R6):=λo=>by rw[aE<|bF a2 af];exact a2
  refine{6,6,6,C,6,T1<|e1 _,λp2 a4=>?_};have e2:p1≠p2:=λz=>by rw[<-z,zb0]at a4;cases a4
  rw[YX _ hj,RP _ hj]at *;have b6:↑((odd.map R6).drop j)+↑((odd.map R6).take j)<=sizeLine:=by
   rw[nM,dR];exact G (by show(odd.map R6).length-j+min j ↑(odd.map R6)<=1000;have:↑(odd.map R6)=13:=rfl;lia)
  refine{p1,p2,_,6,U,by rw[aE e2];exact zb0,zb0,b6,λp3 ah=>?_};refine{6,6,p3,6,T1 zb0,λp4 ae=>?_};have am:(odd.map R6).drop j++(odd.map R6).take j=((odd.drop j++odd.take j)).map R6:=by rw[bU,FX,xL]
  have b0:↑(odd.drop j++odd.take j)=13:=by
   rw[bK,nM,dR];have:↑odd=13:=rfl;lia
  have be:(odd.drop j++odd.take j).Nodup:=by
   have hp:(odd.drop j++odd.take j).Perm odd:=ub7.trans (by rw[vS]);exact hp.nodup_iff.mpr Km
  rw[am]at ae ⊢;rw[RP _<|by rw[aF,b0];lia];have f1:FrS [a] H3 (upd H3 p1<|.lst<|(odd.map R6).drop j):=S0 af;refine q p4 ((odd.drop j++odd.take j).take n) J I B _ (a5.trans<|(f1.trans<|S0 a4).trans<|(S0 ah).trans<|S0 ae) (((((a6.new af).new a4).new ah).new ae)) ∅ ?_ (by rw[zb0,xL]) (by rw[dR,b0];lia) (be.sublist<|Vu _ _) λx hx=>Fb x (by have:=lT hx;obtain h|h:=vj7.mp this;exact FJ h;exact lT h);exact sA (H':=upd (upd (upd H3 p1 _) p2 _) p3 _) (a5.trans<|(f1.trans<|S0 a4).trans<|S0 ah) (((a6.new af).new a4).new ah) ae
 .-- the loop that makes the l
  refine{6,a,O,M,t1,r,5,U,aq,∅,by decide,by decide,λy J I B y0 y1 ar bc=>?_};have a5:FrS [a] H _:=ak.trans (T0 (a:=a) (o:=hl J I B r)<|by simp);have a6:Hand (upd H2 a<|hl J I B r) a J I B r:=Hand.at ar;generalize upd H2 a (hl J I B r)=H3 at a5 a6 ⊢;refine{6,∅,∅,pB (lo:=0) (n:=y.toNat) (tG H a C n B r) {Xm,Qq,J,I,B,U,aV _,a5,a6,∅} (λi σ Hx hi ⟨l,kx,dx,mx,tx,W,b9,as,aj,bl⟩=>?_) λσ Hx ⟨l,kx,dx,mx,tx,W,b9,as,aj,bl⟩=>?_}
  .subst W;refine{6,6,6,a,dx,mx,tx,r,26,U,aj,∅,by decide,by decide,λz d3 m3 t3 z0 z1 bg bp=>?_};exists lets,z,6,U,G ↥?_,SR z0 z1;exists l,6,U,?_
   .show ↑l+1<=sizeLine;exact G ∅
   .refine⟨_,_,d3,m3,t3,rfl,?_,as.trans (T0<|by simp),Hand.at bg,by lia⟩;show(l.cps++#[_]).size<=i+1;rw[sD];show ↑l+1<=i+1;lia
  .subst W;have bu:(y.toNat:Ql)<=4:=by lia
   refine{6,6,6,G ∅,_,6,U,a,dx,mx,tx,r,6,aj,∅,∅,∅,λu d4 m4 t4 u0 u1 bk bv=>?_};have au:FrS [a] H _:=as.trans (T0 (a:=a) (o:=hl d4 m4 t4 r)<|by simp);have b1:Hand (upd Hx a<|hl d4 m4 t4 r) a d4 m4 t4 r:=Hand.at bk;generalize upd Hx a (hl d4 m4 t4 r)=H4 at au b1 ⊢;refine{6,a,d4,m4,t4,r,26,U,b1,∅,by decide,by decide,λv d5 m5 t5 v0 v1 bh br=>?_};have ay:FrS [a] H _:=au.trans (T0 (a:=a) (o:=hl d5 m5 t5 r)<|by simp);have ap:Hand (upd H4 a<|hl d5 m5 t5 r) a d5 m5 t5 r:=Hand.at bh;generalize upd H4 a (hl d5 m5 t5 r)=H5 at ay ap ⊢;refine{G (by show 6<=1000;decide),λps ag=>?_};have b8:=ap.new (o:=.lst [.int 1,.int 3,.int 5,.int 7,.int 9,.int 11]) ag;have ai:ps≠a:=λe=>by rw[e,ap.1]at ag;cases ag
   refine{6,a,d5,m5,t5,r,(6),U,b8,∅,by decide,by decide,λz X m6 N z0 z1 bi bn=>?_};obtain⟨sv,bj,b2⟩:=TZ (xs:=[R8 1,.int 3,.int 5,.int 7,.int 9,.int 11]) z0 z1;exists ps,_,_,sv,U,U,T1 (by rw[aE ai,zb0]),bj;have b4:FrS [a] H _:=(ay.trans<|S0 (o:=.lst [.int 1,.int 3,.int 5,.int 7,.int 9,.int 11]) ag).trans (T0 (a:=a) (o:=hl X m6 N r)<|by simp);have ao:Hand (upd (upd H5 ps<|.lst [.int 1,.int 3,.int 5,.int 7,.int 9,.int 11]) a<|hl X m6 N r) a X m6 N r:=Hand.at bi;obtain⟨a1,rfl,ab⟩:∃st:Ql,sv=.int st/\st∈([1,3,5,7,9,11]:Qi Ql):=by
    simp only[vj0,aN,eC]at b2;obtain rfl|rfl|rfl|rfl|rfl|rfl:=b2
    all_goals exact{6,by simp}
   have ba:0<=a1/\a1<=11:=by
    simp only[vj0,aN,eC]at ab;lia
   refine{G ↥?_,λZ a9=>?_};have a3:=sA b4 ao a9;have b3:FrS [a] H _:=b4.trans<|S0 (o:=.lst []) a9;have b5:=ao.new (o:=.lst []) a9;have aa:upd (upd (upd H5 ps<|.lst [.int 1,.int 3,.int 5,.int 7,.int 9,.int 11]) a<|hl X m6 N r) Z (.lst []) Z\.lst []:=zb0;have an:Z≠a:=λe=>by rw[e,ao.1]at a9;cases a9
   generalize upd (upd (upd H5 ps<|.lst [.int 1,.int 3,.int 5,.int 7,.int 9,.int 11]) a<|hl X m6 N r) Z (.lst [])=H8 at b3 b5 aa ⊢;refine{6,n,U,∅,∅,pB (lo:=0) (n:=(n:Ql).toNat) (qO H a C Z n r X m6 N v u a1 l) ⟨kx,Qq,rfl,b3,b5,aa⟩ (λi σ Hx hi ⟨kx,wx,W,al,ac,a8⟩=>?_) λσ Hx ⟨kx,wx,W,al,ac,a8⟩=>?_}
   .subst W;have bq:i<n:=by lia
    have az:↑l<=sizeLine:=G ∅;have pl:=Txt.slice_le l Qq<|some u;have sl:=Txt.slice_le l (Qp u) Qq;have bm:0<=(v+a1*(0+(i:Ql))) % 26:=yU _ ↥?_;have bf:(v+a1*(0+(i:Ql))) % 26<26:=zI _ ↥?_;exists 6,6,u,U,l,U,az,6,6,6,6,_,6,U,.inl {∅,∅},_,6,U,_,6,U,by show(0:Ql)<26;decide,lets,_,_,rfl,rfl,G ↥?_,SR bm bf,
     _,_,rfl,rfl,?_,_,rfl,_,rfl,u,rfl,l,rfl,az,_,_,rfl,rfl,?_
    .show(Rl l Qq<|some u).length+1<=sizeLine;exact G ∅
    .have e:↑(Rl l Qq (Qp u)++(⟨#[(97+(v+a1*(0+(i:Ql))) % 26).toNat]⟩:zZ))=↑(Rl l Qq<|some u)+1:=by
      show(_++#[_]).size=_;rw[sD];rfl
     show(Rl l Qq (Qp u)++(⟨#[(97+(v+a1*(0+(i:Ql))) % 26).toNat]⟩:zZ)).length+↑(Rl l (Qp u) Qq)<=sizeLine;rw[e];exact G ∅
    have ew:Rl l Qq (Qp u)++(⟨#[(97+(v+a1*(0+(i:Ql))) % 26).toNat]⟩:zZ)++Rl l (Qp u) Qq=iA (Rl l Qq<|some u) (Rl l (Qp u) Qq) (fJ v a1 i):=by
     unfold iA fJ;rw[M6]
    have bs:↑(iA (Rl l Qq<|some u) (Rl l (Qp u) Qq)<|fJ v a1 i)<=20:=by
     show((_++#[_])++_).size<=20;rw[sD,sD];show(Rl l Qq<|some u).length+1+↑(Rl l (Qp u) Qq)<=20;lia
    rw[ew];generalize hw:iA (Rl l Qq<|some u) (Rl l (Qp u) Qq) (fJ v a1 i)=wd at *;refine{6,.inl {U,_,T1 a8},6,6,U,.inr {6,_,6,U,?_,_,6,U,?_,Z,_,6,U,a8,?_,?_}}
    .cases decide (R6 wd=R6 ("own":zZ)) <;> simp
    .have h1:∀c:Prop,[Decidable c]->↑(if c then Xm else("q":zZ))<=1:=λc _=>by
      by_cases h:c
      .rw[bG h];decide
      .rw[bA h];decide
     have h2:=h1<|(if decide (R6 wd=R6 ("own":zZ))=Qr then(1:Ql) else 0)=0;exact G ∅
    .have:↑((nY (Rl l Qq<|some u) (Rl l (Qp u) Qq) v a1 i).map R6)=i:=by
      unfold nY;rw[aF,aF,A9]
     rw[this];exact bS ∅
    .exists _,_,rfl,?_,?_
     .intro b o hb hx;rw[aE λe=>by rw[e,a3]at hx;cases hx];exact al b o hb hx
     .exact⟨by rw[aE<|cJ an];exact ac.1,ac.2⟩
     .rw[zb0,Bl,bU];have e1:sM (Rl l Qq<|some u) (Rl l (Qp u) Qq) (fJ v a1 i)=wd++(if (if decide (R6 wd=R6 ("own":zZ))=Qr then(1:Ql) else 0)=0 then Xm else("q":zZ)):=by
       unfold sM;rw[hw]
       by_cases h:wd=("own":zZ)
       .rw[bG h,bG (cN<|by rw[h]),bA<|by decide]
       .have h':¬(R6 wd=R6 ("own":zZ)):=λz=>h<|R6.inj z;rw[bA h,fE h'];rfl
      rw[e1];rfl
   .subst W;exists 6;rw[rD]at a8;refine q Z _ X m6 N Hx al ac ∅ a3 a8 (by unfold nY;rw[aF,A9]) (Io ab v0 hn) Pa
end
inductive OW(K:Fq)(vs:Qi V)(H:Hp)(Q:VK)(_:XK):Prop
 | mk(p:eH)(ns:Qi Ql)(k:Qk)(h1:vs=[.ref p,.int (k:Ql)])(h2:SqL K H p (ns.map R8))(h3:↑ns<=63)(h4:k<=63)(h5:∀(a:eH)(d m:Ql),H a=Qq->pZ d m 0->Q (.ref a) (upd H a<|hl d m 0 0))
def xn6:cC ["_law_script","_law_k","_law_cell"] ["_law_script","_law_k"] (bX rC):=cF
def ZB(h0:0<=c)(f:0<=k)(a:k<=63)(b:Qm):pZ (c*(if b then 1 else 0)) (c % 2305843009213693951+7919*k+11) 0:=by
 have e:0<=c % 2305843009213693951:=yU _ ↥?_;have d:c % 2305843009213693951<2305843009213693951:=zI _ ↥?_;refine{?_,∅,∅,N3 0};cases b
 .show 0<=c*0;lia
 .show 0<=c*1;lia
def Fu(F:X0 "_law_hand" rC f fd)(m:mg "len"=Qq)(x:mg "abs"=Qq)(o:mg "int"=Qq):↥["_law_script","_law_k"] (OW K):=by
 refine F.ok xn6 ⇑?_;obtain⟨p,b,j,rfl,i,a1,B,q⟩:=h;exists _,aJ (sL 2 xn6.nd aQ)
  (aJ (cY (cG tX ⇑1 (fO lR rfl m iP<|av 0 aA)<|cS _) (aY<|sL 2 xn6.nd<|fO Jh rfl x (by rfl')<|aI (eI ⇑0<|pv 1) aA) dJ)
  (aY (bR (cX (aI (cM vT ⇑2<|eV JZ rfl o (by rfl')<|aI (HZ NJ ⇑2 (cM yF aQ aQ)<|cS _) aA)
   (aI (cM lB (cM lB (cM vY ⇑2 aQ)<|cM vT aQ<|pv 1) aQ)<|aI aQ<|aI aQ aA))))))
 have e:∀{n:Qk},n<=1000->n<=sizeLine:=λh=>cQ<|bS h;have hl:↑(b.map R8)=↑b:=yB _;exists 6,6,p,6,.inl i,_,6,U,6;refine bE (λc=>?_) λc=>?_
 .have c':(j:Ql)<((↑(b.map R8):Qk):Ql):=dH c;rw[hl]at c';have r:j<↑b:=by lia
  have l:fY (b.map R8) (j:Ql)\.int b[j]:=sC (by rw[bP,bM r];rfl);exists 6,6,p,_,_,6,U,i,l,6;have u:0<=(if b[j]<0 then -b[j] else b[j]):=by split <;> lia
  refine{6,6,_,6,U,{by decide,by decide,by decide},_,6,U,.inr {6,_,6,U,.inr ?_,6,_,6,U,by show(0:Ql)<2305843009213693951;decide,6,_,6,U,.inl (by constructor <;> decide),_,6,U,_,6,U,e (by show 4<=1000;decide),λa d=>?_}}
  .cases decide ((if b[j]<0 then -b[j] else b[j])≥10 ^ (18:Ql).toNat) <;> (constructor <;> decide)
  .exact q a _ _ d<|ZB u ∅ ∅ _
 .refine⟨_,rfl,_,rfl,_,_,rfl,rfl,⟨by decide,by decide,by decide⟩,_,_,rfl,rfl,.inr ⟨_,rfl,_,_,rfl,rfl,.inr ?_,_,rfl,_,_,rfl,rfl,by show(0:Ql)<2305843009213693951;decide,_,rfl,_,_,rfl,rfl,.inl (by constructor <;> decide),_,_,rfl,rfl,_,_,rfl,rfl,e (by show 4<=1000;decide),λa d=>?_⟩⟩
  .cases decide ((0:Ql)≥10 ^ (18:Ql).toNat) <;> (constructor <;> decide)
  .exact q a _ _ d<|ZB (N3 0) ∅ ∅ _
abbrev Tr:=Qi<|zZ×Qj zZ
structure TrOk(tr:Tr):Prop where
 nd:(tr.map (·.1)).Nodup
 up:∀(i:Qk) n e,tr[i]?\(n,Qp e)->∃j,j<i/\∃g,tr[j]?\(e,g)
def TrOk.nil:TrOk []:=⟨lO,λi n e h=>by simp at h⟩
def TrOk.snoc(h:TrOk tr)(o:n∉tr.map (·.1))(he:∀x,e\x->x∈tr.map (·.1)):TrOk (tr++[(n,e)]):=by
 refine{?_,λi d b r=>?_}
 .rw[bU];exact DX h.nd o
 .by_cases f:i<↑tr
  .rw[nV f]at r;obtain⟨j,a,g,m⟩:=h.up i d b r;exact{j,a,g,by rw[nV ∅];exact m}
  .rw[kU ∅]at r;have u:i-↑tr=0:=by
    cases s:i-↑tr with
    | zero=>rfl
    | succ k=>rw[s]at r;simp at r
   rw[u]at r;simp only[PX,Ut,Prod.mk.injEq]at r;obtain⟨_,a1⟩:=r;obtain⟨p,z,l⟩:=vj2.mp<|he b a1;obtain⟨j,a,q⟩:=pI z;exact{j,∅,p.2,by rw[nV a,bM a,q,<-l]}
def TrOk.one{tr:Tr}(h:TrOk tr){i j:Qk}{n:zZ}{a b:Qj zZ}(hi:tr[i]?\(n,a))(f:tr[j]?\(n,b)):i=j:=by
 have d:(tr.map (·.1))[i]?\n:=by rw[bP,hi];rfl
 have e:(tr.map (·.1))[j]?\n:=by rw[bP,f];rfl
 obtain⟨l,d⟩:=vh2.mp d;obtain⟨m,e⟩:=vh2.mp e;exact(Uf h.nd).mp<|d.trans e.symm
inductive Up(tr:Tr):zZ->Z2->Prop
 | root {i:Qk} {n:zZ}:tr[i]?\(n,Qq)->Up tr n [n]
 | step {i:Qk} {n e:zZ} {l:Z2}:tr[i]?\(n,Qp e)->Up tr e l->Up tr n (n::l)
def Up.exists(h:TrOk tr):∀(i:Qk) n g,tr[i]?\(n,g)->∃l,Up tr n l:=by
 intro i
 induction i using E8 with
 | ind i f=>
  intro n g d;cases g with
  | none=>exact{_,.root d}
  | some e=>
   obtain⟨j,b,m,a⟩:=h.up i n e d;obtain⟨l,hl⟩:=f j b e m a;exact{_,.step d hl}
def Up.inj{tr:Tr}(h:TrOk tr){n:zZ}{l d:Z2}(a:Up tr n l)(b:Up tr n d):l=d:=by
 induction a generalizing d with
 | root f=>
  cases b with
  | root _=>rfl
  | step e _=>have:=h.one f e;subst this;rw[f]at e;cases e
 | step f _ i=>
  cases b with
  | root e=>have:=h.one f e;subst this;rw[f]at e;cases e
  | step e j=>
   have:=h.one f e;subst this;rw[f]at e;cases e;rw[i j]
def Up.mem(a:Up tr n l):∀x∈l,x∈tr.map (·.1):=by
 induction a with
 | root b=>
  intro x hx;rw[vj1]at hx;subst hx;exact vj2.mpr {_,dM b,U}
 | step b _ d=>
  intro x hx;obtain rfl|hx:=vj0.mp hx
  .exact vj2.mpr ⟨_,dM b,rfl⟩
  .exact d x hx
def Up.len{tr:Tr}(h:TrOk tr):∀(i:Qk) n g l,tr[i]?\(n,g)->Up tr n l->↑l<=i+1:=by
 intro i
 induction i using E8 with
 | ind i o=>
  intro n g l q hl;cases hl with
  | root _=>show 1<=i+1;lia
  | @step s _ e d f m=>
   have:=h.one q f;subst this;obtain⟨j,a,r,b⟩:=h.up i n e f;have:=o j a e r d b m;show ↑d+1<=i+1;lia
def bB:Qj zZ->V
 | none=>.non
 | some e=>.str e
abbrev Af:Qd:=top 1
def KindsAt(H:Hp)(p:eH)(tr:Tr):Prop:=∃(b:eH)(a:Z3)(x y:V),H p\.tup [.ref b,x,y]/\H b\(.tup<|a.map R7)/\↑a=↑tr/\
 ∀(j:Qk) t z,a[j]?\t->tr[j]?\z->∃v,H t\.tup [.str z.1,bB z.2,v]
def ym5:cC ["program","kind","elder_of","line"] ["program","kind"] (bX Af):=cF
def eT(e:PE X a ta)(d:PE X b tb)(hs:X9 (PD b) X3):PE X (.Subscript a b pos) (dG (cO X.K) ta tb):=jK lU e d hs
def eU(tr:Tr):Qi (aK×V):=tr.map λz=>((Qt z.1:aK),bB z.2)
def Jr(h:n∉tr.map (·.1)):aO (eU tr) (Qt n)=none:=by
 cases e:aO (eU tr) (Qt n)with
 | none=>rfl
 | some v=>
  have:=IV e;unfold eU at this;rw[gU]at this;obtain⟨z,b,a⟩:=vj2.mp this;exact absurd (vj2.mpr {z,b,oT a}) h
def WS(ok:TrOk tr)(h:tr[i]?\(n,e)):eU (tr.take<|i+1)=aX (eU<|tr.take i) (Qt n) (bB e):=by
 have a:n∉(tr.take i).map (·.1):=λm=>by
  obtain⟨z,o,l⟩:=vj2.mp m;obtain⟨j,f,b⟩:=pI o;rw[dR]at f;have d:tr[j]?\(n,z.2):=by
   rw[bM ∅,<-l,<-b,Vv]
  have:=ok.one h d;lia
 rw[LZ _<|Jr a];unfold eU;rw[dE,h,bU];rfl
def CK{tr:Tr}(ok:TrOk tr){i:Qk}{n:zZ}{e:Qj zZ}(h:tr[i]?\(n,e)):aO (eU tr) (Qt n)\bB e:=by
 obtain⟨C,_⟩:=vh2.mp h;have a:∀(tr:Tr)(i:Qk),TrOk tr->tr[i]?\(n,e)->(eU tr).find? (λd=>decide<|d.1=(Qt n:aK))\((Qt n:aK),bB e):=by
  intro tr i ok h;cases q:(eU tr).find? (λd=>decide<|d.1=(Qt n:aK))with
  | none=>
   have:=ub8.mp q ((Qt n:aK),bB e)<|vj2.mpr ⟨(n,e),dM h,rfl⟩;simp at this
  | some r=>
   have x:=uT q;have o:=oE q;obtain⟨z,B,f⟩:=vj2.mp o;obtain⟨j,A,u⟩:=pI B;have l:r.1=(Qt n:aK):=dH x;rw[<-f]at l;have m:z.1=n:=oT l;have b:tr[j]?\(n,z.2):=by rw[bM A,u,<-m]
   have:=ok.one h b;subst this;rw[h]at b;have s:z.2=e:=by cases b;rfl
   rw[<-f,m,s]
 unfold aO;rw[a tr i ok h];rfl
def zX(f:FrS [] H H')(hp:H' p=Qq):H p=none:=by
 cases a:H p with
 | none=>rfl
 | some o=>have:=f p o ↥_ a;rw[hp]at this;cases this
def Up.at(h:Up tr n l):∃(i:Qk)(g:Qj zZ),tr[i]?\(n,g):=by
 cases h with
 | root h=>exact{_,_,h}
 | step h _=>exact{_,_,h}
def QM(b:Z2)(x:zZ):fY ((b++[x]).map R6) (-1)\.str x:=by
 rw[bU];unfold fY pM;have a:↑(b.map R6++[x].map R6)=↑b+1:=by simp
 rw[a,bA ↥?_,bG ∅];have e:(-1+((↑b+1:Qk):Ql)).toNat=↑b:=by lia
 show(b.map R6++[x].map R6)[(-1+((↑b+1:Qk):Ql)).toNat]?=_;rw[e,kU<|by simp];simp
inductive zP(vs:Qi V)(H:Hp)(Q:VK)(_:XK):Prop
 | mk(p:eH)(n:zZ)(tr:Tr)(l:Z2)(h1:vs=[.ref p,.str n])(h2:KindsAt H p tr)(h3:TrOk tr)(h4:↑tr<=12)(h5:Up tr n l)(h6:∀(a:eH)(H':Hp),FrS [] H H'->H a=Qq->H' a\(.tup<|l.reverse.map R6)->Q (.ref a) H')
def Jw{k:Qk}(F:X0 "elders" Af f fd)(mt:mg "tuple"=Qq):↥["program","kind"] zP:=by
 refine F.ok ym5 ⇑?_;obtain⟨p,n,tr,l,rfl,⟨J,ts,x,y,hp,W,a1,ag⟩,ok,ao,T,q⟩:=h;have hu:=fL hr;have ah:↑l<=12:=by
  obtain⟨i,g,hi⟩:=T.at;have:=Up.len ok i n g l hi T;obtain⟨B,_⟩:=vh2.mp hi;lia
 have L:(["name","elder","deeds"]:Z2).Nodup:=by rfl'
 exists _,aJ (TL (hp:=JY) (i:=2) (N':=["name","elder","deeds"]) (src:=[Qq,Qq,Qq]) rfl ym5.nd rfl rfl eW (gB<|eT ⇑0 aQ) (g:=eP K 3<|eG (cA 0)<|eG (cA 1)<|eG (cA 2) eO) (λ_ _ _ _=>dX (n:=3) rfl<|bI (gL 0 L)<|bI (gL 1 L)<|bI (gL 2 L) dV) (λ_ _ _ _=>gP) (λ_ _ _ _=>pv 0) λ_ _ _ _=>pv 1)
  (aJ (sL 3 ym5.nd<|cX<|av 1 aA)<|aJ (KG eN (kP<|AE<|dL hu ⇑2 (eI ⇑3<|rP sF aQ) λ_ _=>U)<|aY<|eX<|fR fU hH hX gS ⇑3<|aI (dL hu ⇑2 (eI ⇑3<|rP sF aQ) λ_ _=>U) aA)<|aY<|bR<|eV gR rfl mt (by rfl')<|aI (Au ⇑3<|rP sF aQ) aA)
 ac_rfl
 refine{6,p,_,_,6,U,T2 hp,U,J,U,{_,T2 W},λD C=>?_};have ak:p≠D:=bF hp C;have aj:J≠D:=bF W C;exists λi m σ j=>m=↑ts-i/\i<=↑ts/\(∃a b c,σ=[a,b,c])/\j=upd H D (.dK<|eU<|tr.take i),{6,cE _,{_,_,6},U};rintro i m σ j ⟨rfl,hi,⟨a0,b0,c0,rfl⟩,rfl⟩;have O:∀o,upd H D o J\(.tup<|ts.map R7):=λo=>by rw[aE aj];exact W
 by_cases u:i<↑ts
 .refine .inr ⟨⟨_,_,T2<|O _,by rw[bP,bM u];rfl⟩,λσ' H'=>(∃a b c,σ'=[a,b,c])/\H'=upd H D (.dK<|eU<|tr.take<|i+1),by rintro σ' H' ⟨B,N⟩;exact{_,∅,U,u,B,N},λv H' M=>?_⟩;obtain⟨rfl,M⟩:=M;have Z:=M _<|T2<|O _;rw[bP,bM u]at Z;cases Z;have ad:tr[i]?=Qp tr[i]:=bM ∅;obtain⟨I,ac⟩:=ag i _ _ (bM u) ad;have ae:∀o,upd H D o ts[i]\.tup [.str tr[i].1,bB tr[i].2,I]:=λo=>by rw[aE<|bF ac C];exact ac
  exists ts[i],6,T2<|ae _,U,_,6,_,6,_,6,U;exists 6,6,_,Qt tr[i].1,U,zb0,?_,{_,_,6}
  .unfold eU;rw[aF,dR];exact bS ∅
  .rw[iN,WS ok ad];rfl
 .refine .inl ⟨⟨_,T2<|O _,by rw[aF];lia⟩,?_⟩;have e:i=↑tr:=by lia
  rw[e,cW<|aV _];refine{6,by show 1<=sizeLine;decide,λd r=>?_};have a9:D≠d:=λz=>by rw[<-z,zb0]at r;cases r
  have am:H d=none:=by rw[aE<|cJ a9]at r;exact r
  refine MW (λσ j=>∃(dn rs:Z2)(x:zZ),σ=[Qp<|.ref p,Qp<|.str n,Qp<|.ref D,Qp<|.ref d]/\j=upd (upd H D<|.dK<|eU tr) d (.lst<|(dn++[x]).map R6)/\Up tr x rs/\dn++rs=l/\↑dn<=12)
   (λσ j=>match j d with | some (.lst xs)=>100-↑xs | _=>0) ⟨[],l,n,rfl,rfl,T,rfl,by decide⟩ ?_ ?_
  .rintro σ j ⟨dn,rs,x,rfl,rfl,hx,hl,hd⟩;have G:∀o,upd (upd H D<|.dK<|eU tr) d o D\(.dK<|eU tr):=λo=>by rw[aE a9];exact zb0
   have al:∀o,upd (upd H D<|.dK<|eU tr) d o d\o:=λo=>zb0;have a1:∀y:zZ,↑((dn++[y]).map R6)=↑dn+1:=λy=>by simp
   cases hx with
   | @root i _ hi=>
    exists 6,6,6,d,_,_,6,U,T1 zb0,QM dn x,D,R9,U,?_,6
    .have:=DGet.k (k:=(Qt x:aK))<|G<|.lst<|(dn++[x]).map R6;rw[CK ok hi]at this;exact this
    .show if (!decide (R9=R9))=Qr then _ else _
     rw[bA<|by simp];refine{6,6,U,d,6,T1 zb0,λp2 a8=>?_};have X:FrS [] H (upd (upd H D<|.dK<|eU tr) d<|.lst<|(dn++[x]).map R6):=(S0 C).trans<|S0 r;refine{p2,6,.inl {T1 zb0,λp3 aa=>?_}};refine q p3 _ ((X.trans<|S0 a8).trans<|S0 aa) ?_ ?_
     .exact zX (X.trans<|S0 a8) aa
     .rw[zb0,<-hl,GH]
   | @step i _ e l' hi hb=>
    exists 6,6,6,d,_,_,6,U,T1 zb0,QM dn x,D,R6 e,U,?_,6
    .have:=DGet.k (k:=(Qt x:aK))<|G<|.lst<|(dn++[x]).map R6;rw[CK ok hi]at this;exact this
    .show if (!decide (R6 e=R9))=Qr then _ else _
     rw[bG<|by simp];exists 6,.inl {U,_,T1 zb0},6,6,6,d,_,_,6,U,T1 zb0,QM dn x,D,R6 e,U,?_,d,_,6,U,zb0,?_,{dn++[x],l',e,U,?_,hb,by rw[<-hl];simp,?_}
     .have:=DGet.k (k:=(Qt x:aK))<|G<|.lst<|(dn++[x]).map R6;rw[CK ok hi]at this;exact this
     .rw[a1];exact bS ∅
     .rw[iN,bU (l₁:=dn++[x])];rfl
     .have:=cP Rk hl;rw[bK,cK]at this;rw[bK,fI];lia
     .show(match upd _ d _ d with | some (HO.lst xs)=>100-↑xs | _=>0)<(match upd _ d _ d with | some (HO.lst xs)=>100-↑xs | _=>0);rw[zb0,zb0];show 100-↑(((dn++[x]).map R6)++[R6 e])<100-↑((dn++[x]).map R6);rw[bK,a1,fI];lia
  .intro σ j R R' hR hc;obtain⟨v1,B,v2,N,I,h3,p',xs,i',v',h4,h5,h6,h7,a',v8,h8,h9,c,ai,af⟩:=hc;exact{v1,B,v2,N,I,h3,p',xs,i',v',h4,h5,h6,h7,a',v8,h8,h9,c,ai,hR _ _ af}
abbrev ZF:Qd:=top 2
def jS(n:zZ)(l:Z2):gC (.str n) (l.map R6)=decide (n∈l):=by
 unfold gC
 induction l with
 | nil=>rfl
 | cons x r a=>
  rw[eE,yR,a];have e:kI (.str x) (.str n)=decide (x=n):=by
   first | rfl | simp[kI] | (unfold kI;by_cases h:x=n <;> simp[h])
  rw[e]
  by_cases h:x=n
  .subst h;simp
  .have h':¬n=x:=λz=>h z.symm;simp[h,h']
def jL(l:Z2):(l.map R6).all kJ=true:=by
 rw[Qi.all_map,vr8];intro x _;rfl
inductive CJ(vs:Qi V)(H:Hp)(Q:VK)(_:XK):Prop
 | mk(p:eH)(n o:zZ)(tr:Tr)(l:Z2)(h1:vs=[.ref p,.str n,.str o])(h2:KindsAt H p tr)(h3:TrOk tr)(h4:↑tr<=12)(h5:Up tr n l)(h6:∀(H':Hp),FrS [] H H'->Q (.bl<|decide<|o∈l) H')
def Nl:cC ["program","one","other"] ["program","one","other"] (bX ZF):=cF
def Ek(F:X0 "is_below" ZF f fd)(T:X1 k "elders" ["program","kind"] zP):↥["program","one","other"] CJ:=by
 refine F.ok Nl ⇑?_;obtain⟨p,n,o,u,l,rfl,d,ok,i,a1,q⟩:=h;exists _,aY<|bR<|HZ oH ⇑2 (⇑@T<|av 0<|av 1 aA) U;refine{6,6,6,p,n,u,l,U,d,ok,i,a1,λa j r m b=>?_};exists a,6,.inr<|T2 b,U,jL _;have e:gC (.str o) (l.reverse.map R6)=decide (o∈l):=by
  rw[jS]
  by_cases h:o∈l
  .rw[cN h,cN<|vx4.mpr h]
  .rw[fE h,fE λz=>h<|vx4.mp z]
 show Q (.bl<|if Qs=Qr then _ else _) j;rw[bA ↥?_,e];exact q j r
def FrS.put(f:FrS S H H')(h:H a=Qq):FrS S H (upd H' a o):=λb u n q=>by
 rw[aE<|bF q h];exact f b u n q
def FrS.put'(f:FrS S H H')(h:a∈S):FrS S H (upd H' a o):=f.trans<|T0 h
def FrS.old(f:FrS S H H')(hs:∀b∈S,∃o,H' b\o)(hp:H' p=Qq):H p=none:=by
 cases e:H p with
 | none=>rfl
 | some o=>
  by_cases d:p∈S
  .obtain⟨u,a⟩:=hs p d;rw[hp]at a;cases a
  .have:=f p o d e;rw[hp]at this;cases this
def EZ{S:V->St->Hp->(St->Hp->Prop)->Prop}{D:St->Hp->Prop}(a:Qk->St->Hp->Prop)(h0:a 0 b H)(hl:∀i b H,i<=↑xs->a i b H->ok H)(hs:∀i x b H,xs[i]?\x->a i b H->S x b H (a<|i+1))(hd:∀b H,a ↑xs b H->D b H):pJ (EI ok xs) S D b H:=
 tH ↑xs a h0 (λi b H h p=>⟨⟨hl i b H (cQ h) p,h⟩,by rintro x _ ⟨rfl,y⟩;exact hs i x b _ y p⟩) λb H p=>⟨⟨hl _ b H (aV _) p,aV _⟩,hd b H p⟩
def KL{m:Type}[DecidableEq m]:∀(l i:Qi m),l.Nodup->(∀x∈l,x∈i)->↑l<=i.length:=λl=>l.recOn
 (λU _ _=>cE _)
 λx l f i h j=>by
  have n:x∈i:=j x<|wL ..;have a:=vn3.mp h;have d:=f (i.erase x) a.2 λy b=>(Qi.mem_erase_of_ne λe=>a.1<|by rw[<-e];exact b).mpr<|j y<|jD _ b
  rw[Qi.length_erase_of_mem n]at d;have:=Qi.length_pos_of_mem n;show ↑l+1<=i.length;lia
def NS{a:Type}[DecidableEq a](kvs:Qi (a×V))(k:a)(v:V):((aX kvs k v).map (·.1)=kvs.map (·.1)/\k∈kvs.map (·.1))\/((aX kvs k v).map (·.1)=kvs.map (·.1)++[k]/\k∉kvs.map (·.1)):=by
 cases h:aO kvs k with
 | none=>exact .inr {by rw[LZ v h,bU];rfl,LQ h}
 | some u=>
  refine .inl {?_,IV h};unfold aX;rw[wH,h];show(P7 _<|P7 _ kvs)=_;rw[gU];refine nL λx _=>?_;show(if x.1=k then(x.1,v) else x).1=x.1
  split <;> rfl
structure DOk(U' N:Z2)(kvs:Qi (aK×V)):Prop where
 nd:(kvs.map (·.1)).Nodup
 ks:∀k∈kvs.map (·.1),∃x∈U',k=Qt x
 vs:∀k v,aO kvs k\v->v=.non\/∃n∈N,v=.str n
def DOk.nil:DOk U' N []:=⟨lO,(λ_ h=>nomatch h),(λ_ _ h=>nomatch h)⟩
def DOk.put(h:DOk U' N kvs)(hx:x∈U')(d:v=.non\/∃n∈N,v=.str n):DOk U' N (aX kvs (Qt x) v):=by
 refine{?_,λk a=>?_,λk u b=>?_}
 .obtain⟨e,_⟩|⟨e,hn⟩:=NS kvs (Qt x) v
  .rw[e];exact h.nd
  .rw[e];exact DX h.nd hn
 .obtain⟨e,_⟩|⟨e,hn⟩:=NS kvs (Qt x) v
  .rw[e]at a;exact h.ks k a
  .rw[e]at a;obtain a|a:=vj7.mp a
   .exact h.ks k a
   .exact⟨x,hx,vj1.mp a⟩
 .rw[oY]at b
  by_cases e:k=Qt x
  .rw[bG e]at b;cases b;exact d
  .rw[bA e]at b;exact h.vs k u b
def DOk.len(h:DOk U' N kvs):↑kvs<=U'.length:=by
 have:=KL (kvs.map (·.1)) (U'.map λx=>(Qt x:aK)) h.nd λk a=>by
  obtain⟨x,b,e⟩:=h.ks k a;exact vj2.mpr {x,b,e.symm}
 rwa [aF,aF]at this
def DOk.get(h:DOk U' N kvs)(k:aK):(aO kvs k).getD .non=.non\/∃n∈N,(aO kvs k).getD .non=.str n:=by
 cases e:aO kvs k with
 | none=>exact .inl rfl
 | some v=>exact h.vs k v e
structure WA where
 (tree late deeds wants owners vars params fields told held roots:eH)
structure WD where
 tr:Tr
 (late deeds vars params fields:Z2)
 wants:Qi (Qi aK×V)
 (owners roots:Qi (aK×V))
 own:zZ->Z2
def WD.names(D:WD):Z2:=D.tr.map (·.1)
def WD.U(D:WD):Z2:="own"::(D.vars++D.params)
def Stt(M:Z3)(H:Hp)(a:eH)(o:HO):Prop:=a∉M/\H a\o
def Stt.keep(h:Stt M H a o)(f:FrS M H H'):Stt M H' a o:=⟨h.1,f a o h.1 h.2⟩
def Stt.sub(h:Stt M H a o)(hs:∀b∈M',b∈M):Stt M' H a o:=⟨λz=>h.1<|hs a z,h.2⟩
def TrOk.elder(h:TrOk tr)(hx:x∈tr)(e:x.2\y):y∈tr.map (·.1):=by
 obtain⟨n,g⟩:=x;have e:g\y:=e;subst e;obtain⟨i,b⟩:=vn2.mp hx;obtain⟨j,_,g,a⟩:=h.up i n y b;exact vj2.mpr {(y,g),dM a,U}
def rO(tr:Tr)(a:Z2):Prop:=∀x∈tr,∀e,x.2\e->e∈a->x.1∈a
structure EN(D:WD):Prop where
 ok:TrOk D.tr
 lnm:∀x∈D.late,x∈D.names
 l1:D.tr≠[]
 l12:D.tr.length<=12
 lateIn:rO D.tr D.late
 lateLen:D.late.length<=12
 soon:∃x∈D.names,x∉D.late
 d1:D.deeds≠[]
 d6:D.deeds.length<=6
 dd:D.deeds.Nodup
 de:∀x∈D.deeds,x≠("":zZ)
 v4:D.vars.length=4
 p4:D.params.length=4
 f3:D.fields.length=3
 po:("own":zZ)∉D.vars++D.params
structure Wld(M:Z3)(H:Hp)(wd:eH)(A:WA)(D:WD):Prop where
 k:∃kvs,Stt M H wd (.dK kvs)/\aO kvs (Qt "tree")\.ref A.tree/\aO kvs (Qt "late")\.ref A.late/\aO kvs (Qt "deeds")\.ref A.deeds/\aO kvs (Qt "wants")\.ref A.wants/\
  aO kvs (Qt "owners")=Qp (.ref A.owners)/\aO kvs (Qt "vars")\.ref A.vars/\aO kvs (Qt "params")\.ref A.params/\aO kvs (Qt "fields")\.ref A.fields/\
  aO kvs (Qt "told")=Qp (.ref A.told)/\aO kvs (Qt "held")\.ref A.held/\aO kvs (Qt "roots")\.ref A.roots
 tree:∃ts:Z3,Stt M H A.tree (.lst<|ts.map R7)/\↑ts=D.tr.length/\∀(j:Qk) t x,ts[j]?\t->D.tr[j]?\x->Stt M H t (.tup [.str x.1,bB x.2])
 late:Stt M H A.late (.lst<|D.late.map R6)
 deeds:Stt M H A.deeds (.lst<|D.deeds.map R6)
 vars:Stt M H A.vars (.lst<|D.vars.map R6)
 params:Stt M H A.params (.lst<|D.params.map R6)
 fields:Stt M H A.fields (.lst<|D.fields.map R6)
 wants:Stt M H A.wants (.dT D.wants)
 owners:Stt M H A.owners (.dK D.owners)
 roots:Stt M H A.roots (.dK D.roots)
 wl:∀n∈D.names,∀d∈D.deeds,∃(r:zZ)(p:eH)(ws:Z2),aO D.roots (Qt n)\.str r/\aO D.wants [Qt r,Qt d]\.ref p/\Stt M H p (.lst<|ws.map R6)/\↑ws<=4/\∀x∈ws,x∈D.names
 ol:∀d∈D.deeds,∃p:eH,aO D.owners (Qt d)\.ref p/\Stt M H p (.lst<|(D.own d).map R6)/\(D.own d).Sublist D.names/\↑(D.own d)<=13
def Wld.map{A:WA}(h:Wld M H wd A D)(f:∀a o,Stt M H a o->Stt M' H' a o):Wld M' H' wd A D:=by
 obtain⟨⟨T,O,E⟩,⟨W,z,m,G⟩,J,u,I,N,C,L,q,s,l,i⟩:=h;refine{{T,f _ _ O,E},{W,f _ _ z,m,λj t x a b=>f _ _<|G j t x a b},f _ _ J,f _ _ u,f _ _ I,f _ _ N,f _ _ C,f _ _ L,f _ _ q,f _ _ s,λn B d hd=>?_,λd hd=>?_}
 .obtain⟨r,p,ws,a,b,c,e⟩:=l n B d hd;exact{r,p,ws,a,b,f _ _ c,e}
 .obtain⟨p,a,b,c⟩:=i d hd;exact{p,a,f _ _ b,c}
theorem Wld.keep{A:WA}(h:Wld M H wd A D)(f:FrS M H H'):Wld M H' wd A D:=h.map λ_ _ x=>x.keep f
theorem Wld.g{A:WA}(h:Wld M H wd A D):DGet H wd (.str "tree") (Qp<|.ref A.tree)/\DGet H wd (.str "late") (Qp<|.ref A.late)/\DGet H wd (.str "deeds") (Qp<|.ref A.deeds)/\DGet H wd (.str "wants") (Qp<|.ref A.wants)/\
  DGet H wd (.str "owners") (Qp<|.ref A.owners)/\DGet H wd (.str "vars") (Qp<|.ref A.vars)/\DGet H wd (.str "params") (Qp<|.ref A.params)/\DGet H wd (.str "fields") (Qp<|.ref A.fields)/\DGet H wd (.str "told") (Qp<|.ref A.told)/\DGet H wd (.str "held") (Qp<|.ref A.held)/\DGet H wd (.str "roots") (Qp<|.ref A.roots):=by
 obtain⟨o,⟨_,e⟩,j,m,a,i,d,r,n,l,f,a1,b⟩:=h.k;have g:∀(x:zZ)(v:V),aO o (Qt x)\v->DGet H wd (.str x) (Qp v):=λx v q=>.inl ⟨o,Qt x,.inl e,rfl,q.symm⟩;exact{g _ _ j,g _ _ m,g _ _ a,g _ _ i,g _ _ d,g _ _ r,g _ _ n,g _ _ l,g _ _ f,g _ _ a1,g _ _ b}
abbrev rJ:Qd:=top 67
abbrev HJ:Qd:=top 68
def Pm(ok:TrOk tr):cU [] (eU tr)=eU tr:=by
 have a:∀i,i<=↑tr->cU [] ((eU tr).take i)=eU (tr.take i):=by
  intro i
  induction i with
  | zero=>intro _;rfl
  | succ i f=>
   intro h;have b:tr[i]?=Qp tr[i]:=bM ∅;have d:(eU tr)[i]?\(Qt tr[i].1,bB tr[i].2):=by unfold eU;rw[bP,b];rfl
   rw[RY d,f ∅,WS ok (e:=tr[i].2) (n:=tr[i].1) b]
 have hl:↑(eU tr)=↑tr:=by unfold eU;rw[aF]
 have:=a ↑tr (aV _);rwa [cW ∅,cW<|aV _]at this
inductive BX(vs:Qi V)(H:Hp)(Q:VK)(_:XK):Prop
 | mk(wd:eH)(M:Z3)(A:WA)(D:WD)(n:zZ)(l:Z2)(h1:vs=[.ref wd,.str n])(h2:Wld M H wd A D)(h3:EN D)(h4:Up D.tr n l)(h5:∀(a:eH)(H':Hp),FrS [] H H'->H a=Qq->H' a\(.lst<|l.map R6)->Q (.ref a) H')
def xg6:cC [qW,"_law_kind","_law_up","_law_line_here"] qG (bX rJ):=cF
def Nh(F:X0 "_law_line" rJ f fd)(ab:mg "dict"=Qq):↥qG BX:=by
 refine F.ok xg6 ⇑?_;obtain⟨wd,M,WA,D,n,l,rfl,T,d,C,q⟩:=h;have L:=fL hr;exists _,aJ (sL 2 xg6.nd<|eV (MA U) rfl ab (by rfl')<|aI (dL L ⇑0 bW λ_ _=>U) aA)
  (aJ (sL 3 xg6.nd<|cX aA)<|aJ (KG eN (kP<|AE<|pv 1)<|aJ (eX<|fR fU hH hX gS ⇑3<|av 1 aA)<|aY<|sL 1 xg6.nd<|dL L ⇑2 ⇑1 λ_ _=>U)<|aY<|bR<|pv 3)
 ac_rfl
 obtain⟨ts,t1,t2,t3⟩:=T.tree;have X:↑(eU D.tr)=D.tr.length:=by unfold eU;rw[aF]
 have ad:=d.l12;refine{6,wd,6,T.g.1,WA.tree,ts,eU D.tr,U,T1 t1.2,by rw[X];exact t2,by rw[X];exact bS ∅,λj t r ht a1=>?_,λb a8=>?_}
 .unfold eU at a1;rw[bP]at a1;obtain⟨x,hx,rfl⟩:=vh8.mp a1;exact T2 (t3 j t x ht hx).2
 rw[Pm d.ok];refine{cE _,λa u=>?_};have W:b≠a:=λz=>by rw[<-z,zb0]at u;cases u
 have J:H a=none:=by rw[aE<|cJ W]at u;exact u
 refine MW (λσ m=>∃(dn:Z2)(r:V),σ=[Qp<|.ref wd,Qp r,Qp<|.ref b,Qp<|.ref a]/\m=upd (upd H b<|.dK<|eU D.tr) a (.lst<|dn.map R6)/\↑dn<=12/\((r=.non/\dn=l)\/∃x rs,r=.str x/\Up D.tr x rs/\dn++rs=l))
  (λσ m=>match m a with | some (.lst xs)=>100-↑xs | _=>0) ⟨[],.str n,rfl,rfl,by decide,.inr ⟨n,l,rfl,C,rfl⟩⟩ ?_ ?_
 .rintro σ m ⟨dn,r,rfl,rfl,hd,B⟩;have G:∀o,upd (upd H b<|.dK<|eU D.tr) a o b\(.dK<|eU D.tr):=λo=>by rw[aE W];exact zb0
  obtain⟨rfl,rfl⟩|⟨x,rs,rfl,hx,hl⟩:=B
  .exists _,rfl,_,rfl;show if (!decide (R9=R9))=Qr then _ else _
   rw[bA<|by trivial];exact{6,q a _ (((FrS.refl).put a8).put J) J zb0}
  .exists _,rfl,_,rfl;show if (!decide (R6 x=R9))=Qr then _ else _
   rw[bG<|by trivial];have I:↑dn+1<=12:=by
    obtain⟨i,g,hi⟩:=C.at;have N:=Up.len d.ok i n g l hi C;obtain⟨h2,_⟩:=vh2.mp hi;have h3:=cP Rk hl;rw[bK]at h3;have h4:1<=↑rs:=by cases hx <;> simp
    lia
   exists 6,.inl {U,_,T1 zb0},6,a,_,6,U,zb0,by rw[aF];exact bS ∅,_,rfl,_,rfl;rw[iN];have O:(match upd (upd H b<|.dK<|eU D.tr) a (.lst<|dn.map R6++[R6 x]) a with | some (HO.lst xs)=>100-↑xs | _=>0)<(match upd (upd H b<|.dK<|eU D.tr) a (.lst<|dn.map R6) a with | some (HO.lst xs)=>100-↑xs | _=>0):=by
    rw[zb0,zb0];show 100-↑(dn.map R6++[R6 x])<100-↑(dn.map R6);rw[bK,aF,fI];lia
   have Z:dn.map R6++[R6 x]=(dn++[x]).map R6:=by rw[bU];rfl
   cases hx with
   | @root i _ hi=>
    refine{b,.non,U,?_,{dn++[x],.non,U,by rw[Z],by rw[bK,fI];exact I,.inl ⟨rfl,hl⟩},O};have:=DGet.k (k:=(Qt x:aK))<|G<|.lst<|dn.map R6++[R6 x];rw[CK d.ok hi]at this;exact this
   | @step i _ e l' hi hb=>
    refine{b,.str e,U,?_,{dn++[x],.str e,U,by rw[Z],by rw[bK,fI];exact I,.inr {e,l',U,hb,by rw[<-hl];simp}},O};have:=DGet.k (k:=(Qt x:aK))<|G<|.lst<|dn.map R6++[R6 x];rw[CK d.ok hi]at this;exact this
 .intro σ m R R' hR B;obtain⟨v1,N,c,a9,aa⟩:=B;exact{v1,N,c,a9,hR _ _ aa}
def QX(D:WD)(k d:zZ):Prop:=k∈D.names/\d∈D.deeds/\∃n l,Up D.tr k l/\n∈l/\n∈D.own d
def fV(D:WD)(k:zZ):Qj zZ->Prop
 | some d=>QX D k d
 | none=>k∈D.names
inductive QB(vs:Qi V)(H:Hp)(Q:VK)(_:XK):Prop
 | mk(wd:eH)(M:Z3)(A:WA)(D:WD)(n d:zZ)(h1:vs=[.ref wd,.str n,.str d])(h2:Wld M H wd A D)(h3:EN D)(h4:n∈D.names)(h5:d∈D.deeds)(h6:∀(b:Qm)(H':Hp),FrS [] H H'->(b=Qr->QX D n d)->Q (.bl b) H')
def FW:cC qE qE (bX HJ):=cF
def RJ(a:EN D)(f:n∈D.names):∃l,Up D.tr n l/\↑l<=12/\∀x∈l,x∈D.names:=by
 obtain⟨z,j,e⟩:=vj2.mp f;obtain⟨i,h,d⟩:=pI j;have b:D.tr[i]?\(n,z.2):=by rw[bM h,d,<-e]
 obtain⟨l,hl⟩:=Up.exists a.ok i n z.2 b;have:=Up.len a.ok i n z.2 l b hl;have:=a.l12;exact{l,hl,∅,hl.mem}
def xT(F:X0 "_law_has" HJ f fd)(T:X1 k "_law_line" qG BX)(W:mg "any"=Qq):↥qE QB:=by
 refine F.ok FW ⇑?_;obtain⟨wd,M,WA,D,n,d,rfl,m,C,u,hd,q⟩:=h;have z:=fL hr;have X:(["_law_one",qW,"_law_deed_here"]:Z2).Nodup:=by rfl'
 exists _,aY (bR (fO (Es U) rfl W (by rfl') (aI (jB (N':=["_law_one",qW,"_law_deed_here"]) (src:=[Qq,Qp 0,Qp 2]) rfl eW
   (gY<|⇑@T<|av 0<|av 1 aA)
   (g:=cA 0) (λ_ _ _ _=>gL 0 X) (λ_ _ _ _=>gP)
   (λ_ _ _ _=>HZ (show dW _ _ (jF K Qs) from oH) ⇑0 (dL z (dL z ⇑1 bW λ_ _=>U) ⇑2 λ_ _=>U) rfl)) aA)))
 ac_rfl
 obtain⟨l,hl,a9,ac⟩:=RJ C u;obtain⟨op,L,N,o3,o4⟩:=m.ol d hd;refine{6,6,wd,M,WA,D,n,l,U,m,C,hl,λO Z J ab G=>{O,U,{_,T1 G},λB I=>?_}};refine iT (xs:=l.map R6) (λi σ a=>(∃x,σ=[x,Qp<|.ref wd,Qp<|.str d])/\FrS [] Z a/\∃bs:Qi Qm,bs=(l.take i).map (λx=>gC (.str x)<|(D.own d).map R6)/\a B\(.lst<|bs.map V.bl)) {{6},(FrS.refl).put I,[],U,zb0} ?_ ?_ ?_
 .rintro i σ a hi ⟨_,fr,_⟩;exact T1<|fr _ _ ⇑_ G
 .rintro i x σ a hx ⟨⟨x0,rfl⟩,fr,bs,e,j⟩;obtain⟨hi,_⟩:=vh2.mp hx;rw[aF]at hi;rw[bP,bM hi]at hx;cases hx;have o:FrS M H a:=(J.trans fr).mono ⇑_;have r:=m.keep o;have aa:=N.keep o;exists 6,6,wd,6,r.g.2.2.2.2.1,6,WA.owners,6,.inl {_,Qt d,.inl r.owners.2,U,L.symm},op,6,.inl<|T1 aa.2,U,jL _,_,j,?_,{6},fr.put I,bs++[gC (.str l[i])<|(D.own d).map R6],?_
  .rw[aF,e,aF,dR];exact bS ∅
  .rw[e,dE,bM hi,bU];rfl
  .rw[zb0,bU];rfl
 .rintro σ a ⟨_,fr,bs,e,j⟩;refine{B,bs,U,T1 j,q _ a (J.trans fr) λa2=>{u,hd,?_}};rw[aF,cW<|aV _]at e;subst e;obtain⟨b,a7,a1⟩:=ub1.mp a2;obtain⟨x,hx,rfl⟩:=vj2.mp a7;exists x,l,hl,hx;have a1:gC (.str x) ((D.own d).map R6)=true:=a1;rw[jS]at a1;simpa using a1
abbrev Ms(hd en:eH)(A:WA):Z3:=[hd,en,A.told,A.held]
structure Sit(H:Hp)(hd en wd:eH)(A:WA)(D:WD)(t r:Ql):Prop where
 hand:∃d m,Hand H hd d m t r
 env:∃kv,H en\.dK kv/\DOk D.U D.names kv
 told:∃kv,H A.told\.dK kv/\DOk D.deeds D.names kv
 held:∃kv,H A.held\.dK kv/\DOk D.fields D.names kv
 w:Wld (Ms hd en A) H wd A D
 nd:(Ms hd en A).Nodup
 ok:EN D
section
variable{H H':Hp}{hd en wd:eH}{A:WA}{D:WD}{t r:Ql}
def Sit.fr0(S:Sit H hd en wd A D t r)(f:FrS [] H H'):Sit H' hd en wd A D t r:=by
 obtain⟨⟨d,m,o,q⟩,⟨n,j,h⟩,⟨i,l,b⟩,⟨e,a,a1⟩,w,s,ok⟩:=S;exact{{d,m,f _ _ ⇑_ o,q},{n,f _ _ ⇑_ j,h},{i,f _ _ ⇑_ l,b},{e,f _ _ ⇑_ a,a1},w.keep (f.mono<|by trivial),s,ok}
def Sit.ne(S:Sit H hd en wd A D t r):hd≠en/\hd≠A.told/\hd≠A.held/\en≠A.told/\en≠A.held/\A.told≠A.held:=by
 have:=S.nd;simp only[Ms,vn3,vj0,aN,eC,gI]at this;exact{this.1.1,this.1.2.1,this.1.2.2,this.2.1.1,this.2.1.2,this.2.2.1}
def Sit.setHand(S:Sit H hd en wd A D t r)(ok:pZ d' m' t'):Sit (upd H hd<|hl d' m' t' r') hd en wd A D t' r':=by
 obtain⟨q,n,j,x,u,B⟩:=S.ne;obtain⟨⟨d,m,z⟩,⟨o,i,f⟩,⟨h,l,b⟩,⟨e,a,a1⟩,w,C,s⟩:=S;exact{{d',m',Hand.at ok},{o,by rw[aE q.symm];exact i,f},{h,by rw[aE n.symm];exact l,b},{e,by rw[aE j.symm];exact a,a1},w.keep (T0<|by trivial),C,s}
def Sit.setEnv(S:Sit H hd en wd A D t r)(h:DOk D.U D.names kv):Sit (upd H en<|.dK kv) hd en wd A D t r:=by
 obtain⟨n,B,x,l,i,E⟩:=S.ne;obtain⟨⟨d,m,o,a1⟩,⟨C,u,z⟩,⟨q,j,b⟩,⟨e,a,f⟩,w,G,s⟩:=S;exact{{d,m,by rw[aE n];exact o,a1},⟨kv,zb0,h⟩,{q,by rw[aE l.symm];exact j,b},{e,by rw[aE i.symm];exact a,f},w.keep (T0<|by trivial),G,s}
def Sit.setTold(S:Sit H hd en wd A D t r)(h:DOk D.deeds D.names kv):Sit (upd H A.told<|.dK kv) hd en wd A D t r:=by
 obtain⟨E,j,x,n,B,q⟩:=S.ne;obtain⟨⟨d,m,o,s⟩,⟨l,i,f⟩,⟨u,C,z⟩,⟨e,a,a1⟩,w,G,b⟩:=S;exact{{d,m,by rw[aE j];exact o,s},{l,by rw[aE n];exact i,f},⟨kv,zb0,h⟩,{e,by rw[aE q.symm];exact a,a1},w.keep (T0<|by trivial),G,b}
def Sit.setHeld(S:Sit H hd en wd A D t r)(h:DOk D.fields D.names kv):Sit (upd H A.held<|.dK kv) hd en wd A D t r:=by
 obtain⟨E,B,i,C,j,q⟩:=S.ne;obtain⟨⟨d,m,o,a1⟩,⟨n,f,b⟩,⟨e,l,a⟩,⟨x,u,z⟩,w,G,s⟩:=S;exact{{d,m,by rw[aE i];exact o,a1},{n,by rw[aE j];exact f,b},{e,by rw[aE q];exact l,a},⟨kv,zb0,h⟩,w.keep (T0<|by trivial),G,s}
def Sit.have_(S:Sit H hd en wd A D t r):∀b∈Ms hd en A,∃o,H b\o:=by
 obtain⟨⟨d,m,i,j⟩,⟨u,f,n⟩,⟨q,h,s⟩,⟨l,e,a1⟩,w,z,x⟩:=S;intro b a;simp only[Ms,vj0,aN,eC]at a;obtain rfl|rfl|rfl|rfl:=a
 .exact⟨_,i⟩
 .exact⟨_,f⟩
 .exact⟨_,h⟩
 .exact⟨_,e⟩
def Sit.notin(S:Sit H hd en wd A D t r)(hp:H p=Qq):p∉Ms hd en A:=λz=>by
 obtain⟨o,a⟩:=S.have_ p z;rw[hp]at a;cases a
def jW{p a:eH}{ss:Z2}{d m t r:Ql}(h:H p\(.lst<|ss.map R6))(b:Hand H a d m t r):p≠a:=λe=>by
 subst e;rw[b.1]at h;cases ss with
 | nil=>cases h
 | cons x l=>cases h
def FrS.thaw(d:H a=Qj.some u)(f:FrS [] (upd H a<|.frz o u) Hx):FrS [] H (upd Hx a u):=λb v n q=>by
 by_cases e:b=a
 .subst e;rw[zb0];rw[d]at q;exact q
 .rw[aE e];exact f b v n (by rw[aE e];exact q)
def DOk.strs(h:DOk U' N kvs):∃ss:Z2,kvs.map (λd=>kV d.1)=ss.map R6/\↑ss=↑kvs/\∀x∈ss,x∈U':=by
 have b:∀l:Qi (aK×V),(∀k∈l.map (·.1),∃x∈U',k=Qt x)->∃ss:Z2,l.map (λd=>kV d.1)=ss.map R6/\↑ss=↑l/\∀x∈ss,x∈U':=by
  intro l
  induction l with
  | nil=>intro _;exact{[],U,U,by simp}
  | cons a l q=>
   intro i;obtain⟨ss,e,n,m⟩:=q λk j=>i k<|jD _ j;obtain⟨x,o,ex⟩:=i a.1 ⇑_;exists x::ss,?_,by simp[n]
   .rw[eE,eE,e,ex];rfl
   .intro y f;obtain rfl|f:=vj0.mp f
    .exact o
    .exact m y f
 exact b kvs h.ks
end
abbrev FT:Qd:=top 69
abbrev GD:Qd:=top 70
abbrev rL:Qd:=top 71
inductive sT(vs:Qi V)(H:Hp)(Q:VK)(_:XK):Prop
 | mk(hd en wd:eH)(A:WA)(D:WD)(t r:Ql)(h1:vs=[.ref hd,.ref wd,.ref en])(h2:Sit H hd en wd A D t r)(h3:t+2<1000000)(h4:∀(x:zZ)(H':Hp)(t':Ql),Sit H' hd en wd A D t' r->FrS (Ms hd en A) H H'->t'<=t+2->FrS [hd] H H'->Q (.str x) H')
def scVar:cC [qH,qW,"_law_env","_law_some"] qA (bX FT):=cF
def vI{k:Qk}(F:X0 "_law_variable" FT f fd)(T:X1 k "_law_take" qB iL)(O:X1 k "_law_of" qC (dP K))(ai:mg "list"=Qq):
  ↥qA sT:=by
 refine F.ok scVar ⇑?_;obtain⟨hd,en,wd,WA,D,t,r,rfl,S,ht,q⟩:=h;have hu:=fL hr;have nd2:(["_law_x","_law_env"]:Z2).Nodup:=by rfl'
 exists _,aJ (Az<|nB (i:=3) (N':=["_law_x","_law_env"]) (src:=[Qq,Qp 2]) rfl scVar.nd rfl rfl eW (IR<|pv 2) (g:=cA 0) (λ_ _ _ _=>gL 0 nd2) (λ_ _ _ _=>mV<|kP<|AE<|dL hu ⇑1 ⇑0 λ_ _=>U) λ_ _ _ _=>pv 0)
  (aJ (cY (PW.pt<|nJ (cG (NY<|rS hu) ⇑3 (cX aA)<|cS _)<|oX<|cG pR (⇑@T<|av 0<|aI aQ aA) aQ<|cS _) (aY<|bR<|⇑@O<|av 0<|av 3 aA) dJ)<|aY<|bR<|⇑@O<|av 0<|aI (cM qN (dL hu ⇑1 bW λ_ _=>U)<|eV (TN rfl) rfl ai (by rfl')<|av 2 aA) aA)
 ac_rfl
 obtain⟨b,a8,hk⟩:=S.env;have hU:D.U.length=9:=by unfold WD.U;rw[cK,bK,S.ok.v4,S.ok.p4]
 have ak:=hk.len;obtain⟨us,eu,ao,_⟩:=hk.strs;exists en,b,a8;refine{6,en,b,U,a8,λo j C=>?_};have ad:j≠en:=λz=>by rw[z,zb0]at C;cases C
 have al:H j=none:=by rw[aE ad]at C;exact C
 refine EZ (xs:=b.map λp=>kV p.1) (λi σ n=>(∃x,σ=[x,Qp<|.ref en])/\FrS [] (upd H en<|.frz o<|.dK b) n/\∃ss:Z2,↑ss<=i/\n j\(.lst<|ss.map R6)) {{6},(FrS.refl).put C,[],by simp,zb0} ?_ ?_ ?_
 .rintro i σ n hi ⟨_,fr,_⟩;exact fr _ _ ⇑_ zb0
 .rintro i x σ n hx ⟨⟨x0,rfl⟩,fr,ss,hs,W⟩;have a9:=hx;rw[eu]at hx;obtain⟨hi,_⟩:=vh2.mp hx;rw[aF]at hi;rw[bP,bM hi]at hx;cases hx;have af:(Qt us[i]:aK)∈b.map (·.1):=by
   rw[bP]at a9;obtain⟨p,hp,e⟩:=vh8.mp a9;have:p.1=Qt us[i]:=by
    obtain⟨y,_,ey⟩:=hk.ks p.1<|vj2.mpr ⟨p,dM hp,rfl⟩;rw[ey]at e ⊢;cases e;rfl
   exact vj2.mpr {p,dM hp,this}
  obtain⟨v,hv⟩:∃v,aO b (Qt us[i])\v:=by
   cases z:aO b (Qt us[i])with
   | some v=>exact⟨v,rfl⟩
   | none=>exact absurd af<|LQ z
  exists 6,6,en,v,U,.inl {b,Qt us[i],.inr {o,fr _ _ ⇑_ zb0},U,hv.symm},6;refine bE (λc=>?_) λc=>?_
  .exists _,rfl,_,W,by rw[aF];exact bS ∅,{6},fr.put C,ss++[us[i]],?_
   .rw[bK,fI];lia
   .rw[zb0,bU];rfl
  .exact⟨⟨_,rfl⟩,fr,ss,∅,W⟩
 .rintro σ n ⟨_,fr,ss,hs,W⟩;rw[aF]at hs;exists o,fr _ _ ⇑_ zb0;have J:FrS [] H (upd n en<|.dK b):=FrS.thaw a8 fr;have S1:=S.fr0 J;have a1:upd n en (.dK b) j\(.lst<|ss.map R6):=by rw[aE ad];exact W
  generalize upd n en (.dK b)=H1 at J S1 a1;have last:∀(H2:Hp)(M:Ql),Sit H2 hd en wd WA D M r->FrS (Ms hd en WA) H H2->FrS [hd] H H2->M<=t+1->
    iY (hV (dP K) [] E0<|bJ (aG 0)<|bJ (dG IB (zS (aG 1)<|tC<|.str "vars")<|pP (λxs H Q=>∃p kvs,xs=[.ref p]/\Rd H p (.dK kvs)/\∀l,H l=Qq->Q (.ref l) (upd H l<|.lst<|kvs.map λb=>kV b.1))<|bJ (aG 2) bN) bN) ⟨λ_ H=>Q .non H,Q,λ_ _=>Qn,λ_ _=>Qn⟩ [Qp<|.ref hd,Qp<|.ref wd,Qp<|.ref en,Qp<|.ref j] H2:=by
   intro H2 M u L I an;obtain⟨a6,a7,aa⟩:=u.env;obtain⟨aj,ac,ag,_⟩:=aa.strs;have ah:=aa.len;refine{6,6,wd,6,u.w.g.2.2.2.2.2.1,6,en,a6,U,.inl a7,λl hl=>?_};have G:=u.fr0<|S0 (S:=[]) (o:=.lst<|a6.map λb=>kV b.1) hl;refine{WA.vars,l,_,6,U,G.w.vars.2,zb0,?_,λp hp=>?_}
   .rw[aF,aF,S.ok.v4];exact cQ (bS ∅)
   .have S4:=G.fr0<|S0 (S:=[]) (o:=.lst<|D.vars.map R6++a6.map λb=>kV b.1) hp;rw[ac,<-bU]at S4 ⊢;rw[ac]at hp;obtain⟨d,m,B⟩:=S4.hand;refine{hd,p,d,m,M,r,6,B,∅,jW (ss:=D.vars++aj) zb0 B,T1 zb0,?_,?_,λx d' m' t' hx c e=>?_}
    .intro z;have:=cP Rk z;rw[aF,bK,S.ok.v4,iX]at this;lia
    .rw[aF,bK,S.ok.v4];lia
    obtain⟨y,hy,rfl⟩:=vj2.mp hx;refine q y _ t' (S4.setHand c) ?_ ∅ ?_
    .exact(L.trans<|(S0 hl).trans<|S0 hp).put' ⇑_
    .exact(I.trans<|(S0 hl).trans<|S0 hp).put' ⇑_
  refine{6,cE _,λpe N=>?_};have u:=S1.fr0<|S0 (S:=[]) (o:=.lst []) N;have Z:j≠pe:=bF a1 N;exists j,pe,6,U,Z,T1 (by rw[aE Z];exact a1),T1 zb0,_,rfl;have L:FrS (Ms hd en WA) H (upd H1 pe<|.lst []):=(J.trans<|S0 N).mono ⇑_;have I:FrS [hd] H (upd H1 pe<|.lst []):=(J.trans<|S0 N).mono ⇑_;cases ss with
  | nil=>exact last _ t u L I ∅
  | cons y ys=>
   obtain⟨d,m,B⟩:=u.hand;refine{6,hd,d,m,t,r,4,U,B,∅,by decide,by decide,λx d' m' X x0 x1 c e=>{_,6,U,6,?_}};have G:=u.setHand (r':=r) c;have f3:=L.put' (a:=hd) (o:=hl d' m' X r) ⇑_;have ab:=I.put' (a:=hd) (o:=hl d' m' X r) ⇑_;have ae:j≠hd:=jW (ss:=y::ys) (by rw[aE Z];exact a1) B;refine bE (λc=>?_) λc=>?_
   .obtain⟨d,m,B⟩:=G.hand;refine{6,6,hd,j,d,m,X,r,6,B,∅,ae,T1 (by rw[aE ae,aE Z];exact a1),by simp,by rw[aF];lia,λx d' m' t' hx c e=>?_};obtain⟨y,hy,rfl⟩:=vj2.mp hx;exact q y _ t' (G.setHand c) (f3.put'<|by trivial) ∅ (ab.put'<|by trivial)
   .exact last _ X G f3 ab e
def Tup(H H':Hp):Prop:=∀b a,H b\.tup a->H' b\.tup a
def Tup.trans{A B C:Hp}(f:Tup A B)(g:Tup B C):Tup A C:=λb a h=>g b a<|f b a h
def Tup.of0(f:FrS [] H H'):Tup H H':=λb _ h=>f b _ aN h
open Tup renaming of0->T4
def Tup.new(hp:H p=Qq):Tup H (upd H p o):=λb a h=>by
 rw[aE<|bF h hp];exact h
open Tup renaming new->T3
theorem Tup.lst(hp:H p\.lst ys):Tup H (upd H p o):=λb a h=>by
 rw[aE λz=>by rw[z,hp]at h;cases h];exact h
theorem FrS.tup(f:FrS M H H')(a:∀b∈M,∀xs,H b≠Qp (.tup xs)):Tup H H':=λb xs h=>f b _ (λz=>a b z xs h) h
def Sit.notup{A:WA}(S:Sit H hd en wd A D t r):∀b∈Ms hd en A,∀xs,H b≠Qp (.tup xs):=by
 obtain⟨⟨d,m,i,j⟩,⟨u,f,n⟩,⟨o,h,s⟩,⟨l,e,a1⟩,w,x,q⟩:=S;intro b a xs;simp only[Ms,vj0,aN,eC]at a;obtain rfl|rfl|rfl|rfl:=a
 .rw[i];intro z;cases z
 .rw[f];intro z;cases z
 .rw[h];intro z;cases z
 .rw[e];intro z;cases z
theorem Sit.tup{A:WA}(S:Sit H hd en wd A D t r)(f:FrS (Ms hd en A) H H'):Tup H H':=FrS.tup f S.notup
inductive Rw | make (x k:zZ) | copy (x y:zZ) | put (x f y:zZ) | take (x y f:zZ) | say (w:zZ) | bring (k:zZ)
def Rw.vs:Rw->Qi V
 | .make x k=>[.str "make",.str x,.str k]
 | .copy x y=>[.str "copy",.str x,.str y]
 | .put x f y=>[.str "put",.str x,.str f,.str y]
 | .take x y f=>[.str "take",.str x,.str y,.str f]
 | .say w=>[.str "say",.str w]
 | .bring k=>[.str "bring",.str k]
inductive PlainR(Z:Z0)(H:Hp)(a:eH):Prop
 | mk(r:Rw)(h:H a\.tup r.vs)(b:∀k,r=.bring k->Z k Qq):PlainR Z H a
inductive CallR(Z:Z0)(H:Hp)(a:eH):Prop
 | mk(x y k d:zZ)(g:eH)(ss:Z2)(h:H a\.tup [.str "call",.str x,.str y,.str k,.str d,.ref g])(hg:H g\(.tup<|ss.map R6))(hl:↑ss<=1000)(hz:Z k (Qp d)):CallR Z H a
def PlainR.keep(h:PlainR Z H a)(f:Tup H H'):PlainR Z H' a:=by
 obtain⟨r,h,b⟩:=h;exact{r,f _ _ h,b}
def CallR.keep(h:CallR Z H a)(f:Tup H H'):CallR Z H' a:=by
 obtain⟨x,y,k,d,g,i,h,b,hl,e⟩:=h;exact{x,y,k,d,g,i,f _ _ h,f _ _ b,hl,e}
inductive DpG(H:Hp)(pv gv:V):Prop
 | mk(pt:eH)(ps:Z2)(g:Qj zZ)(h1:pv=.ref pt)(h2:H pt\(.tup<|ps.map R6))(h3:gv=bB g)(h4:↑ps<=1000)(h5:("own":zZ)∉ps):DpG H pv gv
def DpG.keep{u v:V}(h:DpG H u v)(f:Tup H H'):DpG H' u v:=by
 obtain⟨pt,j,g,b,i,d,e,a⟩:=h;exact{pt,j,g,b,f _ _ i,d,e,a}
def Row1(Z:Z0)(H:Hp)(a:eH):Prop:=PlainR Z H a\/CallR Z H a
inductive Fl(Z:Z0)(H:Hp):Qk->Z3->Z3->Prop
 | nil {n:Qk}:Fl Z H n [] []
 | one {n:Qk} {a:eH} {rs fs:Z3} (h:Row1 Z H a) (t:Fl Z H n rs fs):Fl Z H n (a::rs) (a::fs)
 | again {n:Qk} {a l:eH} {rs1 fs1 rs fs:Z3} (h:H a\.tup [.str "again",.ref l]) (hl:H l\(.tup<|rs1.map R7)) (s:Fl Z H n rs1 fs1) (t:Fl Z H (n+1) rs fs):Fl Z H (n+1) (a::rs) (a::(fs1++fs))
 | either {n:Qk} {a l1 l2:eH} {rs1 fs1 rs2 fs2 rs fs:Z3} (h:H a\.tup [.str "either",.ref l1,.ref l2]) (h1:H l1\(.tup<|rs1.map R7)) (h2:H l2\(.tup<|rs2.map R7)) (s1:Fl Z H n rs1 fs1) (s2:Fl Z H n rs2 fs2) (t:Fl Z H (n+1) rs fs):Fl Z H (n+1) (a::rs) (a::(fs1++(fs2++fs)))
theorem Fl.keep(h:Fl Z H n rs fs)(f:Tup H H'):Fl Z H' n rs fs:=by
 induction h with
 | nil=>exact .nil
 | one h _ d=>exact .one (h.imp (·.keep f) (·.keep f)) d
 | again h hl _ _ b a=>exact .again (f _ _ h) (f _ _ hl) b a
 | either h i j _ _ _ b a e=>exact .either (f _ _ h) (f _ _ i) (f _ _ j) b a e
def Fl.app(h:Fl Z H n rs fs)(g:Fl Z H n rs' fs'):Fl Z H n (rs++rs') (fs++fs'):=by
 induction h with
 | nil=>exact g
 | one h _ i=>exact .one h<|i g
 | again h hl s _ f a=>
  have:=Fl.again h hl s<|a g;rw[<-dY]at this;exact this
 | either h d e j l _ f a b=>
  have:=Fl.either h d e j l<|b g;simpa [dY]using this
inductive Lots(Z:Z0)(H:Hp)(n:Qk):Z3->Z3->Prop
 | nil:Lots Z H n [] []
 | snoc {ls fs:Z3} {l:eH} {rs f1:Z3} (h:Lots Z H n ls fs) (hl:H l\(.tup<|rs.map R7)) (s:Fl Z H n rs f1):Lots Z H n (ls++[l]) (fs++f1)
theorem Lots.keep(h:Lots Z H n ls fs)(f:Tup H H'):Lots Z H' n ls fs:=by
 induction h with
 | nil=>exact .nil
 | snoc _ hl s a=>exact a.snoc (f _ _ hl)<|s.keep f
def Lots.zero(h:Lots Z H n ls fs)(e:↑ls=0):ls=[]/\fs=[]:=by
 cases h with
 | nil=>exact⟨rfl,rfl⟩
 | snoc h hl s=>rw[bK,fI]at e;lia
def Lots.one(h:Lots Z H n ls fs)(e:↑ls=1):∃l rs,ls=[l]/\H l\(.tup<|rs.map R7)/\Fl Z H n rs fs:=by
 cases h with
 | nil=>cases e
 | snoc h hl s=>
  rw[bK,fI]at e;obtain⟨rfl,rfl⟩:=h.zero ∅;exact{_,6,hl,s}
def Lots.two(h:Lots Z H n ls fs)(e:↑ls=2):∃d f m l i j,ls=[d,l]/\fs=m++j/\H d\(.tup<|f.map R7)/\Fl Z H n f m/\H l\(.tup<|i.map R7)/\Fl Z H n i j:=by
 cases h with
 | nil=>cases e
 | snoc h hl s=>
  rw[bK,fI]at e;obtain⟨d,f,rfl,a,b⟩:=h.one ∅;exact{d,f,_,_,_,6,U,a,b,hl,s}
def Lots.row{w:zZ}(h:Lots Z H n ls fs)(d:H a\(.tup<|.str w::ls.map R7))(e:↑ls=1/\w="again"\/↑ls=2/\w="either"):Fl Z H (n+1) [a] (a::fs):=by
 obtain⟨e,rfl⟩|⟨e,rfl⟩:=e
 .obtain⟨l,rs,rfl,b,s⟩:=h.one e;have:=Fl.again (rs:=[]) (fs:=[]) d b s .nil;rwa [eA]at this
 .obtain⟨m,j,o,q,a1,r,rfl,rfl,b1,i,f,s2⟩:=h.two e;have:=Fl.either (rs:=[]) (fs:=[]) d b1 f i s2 .nil;rwa [eA]at this
inductive wO(vs:Qi V)(H:Hp)(Q:VK)(_:XK):Prop
 | mk(hd en wd:eH)(A:WA)(D:WD)(t r:Ql)(h1:vs=[.ref hd,.ref wd,.ref en])(h2:Sit H hd en wd A D t r)(h3:t+1<1000000)(h4:∀(x:zZ)(H':Hp)(t':Ql),x∈D.U->Sit H' hd en wd A D t' r->FrS (Ms hd en A) H H'->t'<=t+1->FrS [hd] H H'->Q (.str x) H')
def HK:cC qA qA (bX GD):=cF
def wY(F:X0 "_law_target" GD f fd)(O:X1 k "_law_of" qC (dP K)):
  ↥qA wO:=by
 refine F.ok HK ⇑?_;obtain⟨hd,en,wd,WA,D,t,r,rfl,S,ht,q⟩:=h;have W:=fL hr;have L:(["_law_x",qW]:Z2).Nodup:=by rfl'
 exists _,aY<|bR<|⇑@O<|av 0<|aI (cM qN (dL W ⇑1 bW λ_ _=>U)<|ZE<|jB (N':=["_law_x",qW]) (src:=[Qq,Qp 1]) rfl eW (IR<|pv 2) (g:=cA 0) (λ_ _ _ _=>gL 0 L) (λ_ _ _ _=>mV<|cG (show dW _ _ (jF K Qs) from oH) ⇑0 (dL W ⇑1 bW λ_ _=>U) U) λ_ _ _ _=>pv 0) aA
 ac_rfl
 obtain⟨l,I,hk⟩:=S.env;have hU:D.U.length=9:=by unfold WD.U;rw[cK,bK,S.ok.v4,S.ok.p4]
 have a9:=hk.len;obtain⟨us,eu,ac,a5⟩:=hk.strs;exists 6,6,wd,6,S.w.g.2.2.2.2.2.1,en,l,I;refine{6,en,l,U,I,λo C j=>?_};have N:C≠en:=λz=>by rw[z,zb0]at j;cases j
 have aa:H C=none:=by rw[aE N]at j;exact j
 have a8:wd≠en:=λz=>by obtain⟨kvs,⟨hn,_⟩,_⟩:=S.w.k;exact hn (by rw[z];simp)
 refine EZ (xs:=l.map λp=>kV p.1) (λi σ a=>(∃x,σ=[x,Qp<|.ref wd])/\FrS [] (upd H en<|.frz o<|.dK l) a/\∃ss:Z2,↑ss<=i/\(∀x∈ss,x∈D.U)/\a C\(.lst<|ss.map R6)) {{6},(FrS.refl).put j,[],by simp,by simp,zb0} ?_ ?_ ?_
 .rintro i σ a hi ⟨_,fr,_⟩;exact fr _ _ ⇑_ zb0
 .rintro i x σ a hx ⟨⟨x0,rfl⟩,fr,ss,hs,a1,G⟩;rw[eu]at hx;obtain⟨hi,_⟩:=vh2.mp hx;rw[aF]at hi;rw[bP,bM hi]at hx;cases hx;have a6:FrS (Ms hd en WA) H a:=λb u n e=>fr b u ⇑_ (by rw[aE λz=>n<|by rw[z];simp];exact e)
  have X:=S.w.keep a6;exists 6,6,wd,6,X.g.2.2.2.2.2.2.1,WA.params,6,.inl<|T1 X.params.2,U,jL _,6;refine bE (λc=>?_) λc=>?_
  .exists _,rfl,_,G,by rw[aF];exact bS ∅,{6},fr.put j,ss++[us[i]],?_,?_
   .rw[bK,fI];lia
   .intro x hx;obtain hx|hx:=vj7.mp hx
    .exact a1 x hx
    .rw[vj1.mp hx];exact a5 _<|fP hi
   .rw[zb0,bU];rfl
  .exact⟨⟨_,rfl⟩,fr,ss,∅,a1,G⟩
 .rintro σ a ⟨_,fr,ss,hs,a1,G⟩;rw[aF]at hs;exists o,fr _ _ ⇑_ zb0;have M:FrS [] H (upd a en<|.dK l):=FrS.thaw I fr;have T:=S.fr0 M;have a7:upd a en (.dK l) C\(.lst<|ss.map R6):=by rw[aE N];exact G
  refine{WA.vars,C,_,6,U,T.w.vars.2,a7,?_,λp hp=>?_}
  .rw[aF,aF,S.ok.v4];exact cQ (bS ∅)
  .have J:=T.fr0<|S0 (S:=[]) (o:=.lst<|D.vars.map R6++ss.map R6) hp;rw[<-bU]at J ⊢;obtain⟨d,m,Z⟩:=J.hand;refine{hd,p,d,m,t,r,6,Z,∅,jW (ss:=D.vars++ss) zb0 Z,T1 zb0,?_,?_,λx d' m' t' hx c e=>?_}
   .intro z;have:=cP Rk z;rw[aF,bK,S.ok.v4,iX]at this;lia
   .rw[aF,bK,S.ok.v4];lia
   obtain⟨y,B,rfl⟩:=vj2.mp hx;refine q y _ t' ?_ (J.setHand c) ?_ ∅ ?_
   .obtain B|B:=vj7.mp B
    .unfold WD.U;simp[B]
    .exact a1 y B
   .exact((M.trans<|S0 hp).mono<|by trivial).put' ⇑_
   .exact((M.trans<|S0 hp).mono<|by trivial).put' ⇑_
def PP{a:Hp}{tp:eH}{ts:Z3}{tr:Tr}{d:eH}(n:a tp\(.lst<|ts.map R7))(hl:↑ts=↑tr)(m:∀(j:Qk) t x,ts[j]?\t->tr[j]?\x->a t\.tup [.str x.1,bB x.2])(h:a d=Qq)(o:↑tr<=1000)
  {Q:Hp->Prop} (q:∀H',FrS [] a H'->H' d\(.lst<|(tr.map (·.1)).map R6)->Q H'):sO (AI K tp) (eP K 2<|eG (cA 0)<|eG (cA 1) eO) nE (aG 0) d [Qq,Qq] (upd a d<|.lst []) Q:=by
 refine iT (xs:=ts.map R7) (λi u b=>(∃x y,u=[x,y])/\FrS [] a b/\b d\(.lst<|((tr.take i).map (·.1)).map R6)) {{_,6},(FrS.refl).put h,zb0} ?_ ?_ ?_
 .rintro i u b z ⟨_,fr,_⟩;exact T1<|fr _ _ ⇑_ n
 .rintro i x u b hx ⟨⟨r,s,rfl⟩,fr,f⟩;rw[bP]at hx;obtain⟨t,a1,rfl⟩:=vh8.mp hx;obtain⟨z,_⟩:=vh2.mp a1;have l:tr[i]?=Qp tr[i]:=bM ∅;have e:=m i t _ a1 l;exists t,6,T2<|fr _ _ ⇑_ e,U,_,6,_,6,U;exists 6,_,f,?_,{_,6},fr.put h
  .rw[aF,aF,dR];exact bS ∅
  .rw[zb0,dE,l,bU,bU];rfl
 .rintro u b ⟨_,fr,f⟩;rw[cW<|by rw[aF];lia]at f;exact q b fr f
inductive JC(vs:Qi V)(H:Hp)(Q:VK)(_:XK):Prop
 | mk(hd en wd:eH)(A:WA)(D:WD)(t r:Ql)(h1:vs=[.ref hd,.ref wd,.ref en])(h2:Sit H hd en wd A D t r)(h3:t+3<1000000)(h4:∀(x:eH)(H':Hp)(t':Ql),PlainR (fV D) H' x->Sit H' hd en wd A D t' r->FrS (Ms hd en A) H H'->t'<=t+3->Q (.ref x) H')
abbrev FP:Z2:=[qH,qW,"_law_env","_law_names","_law_soon","_law_kind","_law_x"]
def yq1:cC FP qA (bX rL):=cF
def Ib{k:Qk}(F:X0 "_law_make" rL f fd)(T:X1 k "_law_take" qB iL)(O:X1 k "_law_of" qC (dP K))(G:X1 k "_law_target" qA wO):
  ↥qA JC:=by
 refine F.ok yq1 ⇑?_;obtain⟨hd,en,wd,WA,D,t,r,rfl,S,ht,q⟩:=h;have hu:=fL hr;have J:(["_law_name","_law_elder"]:Z2).Nodup:=by rfl'
 have am:(["_law_name",qW]:Z2).Nodup:=by rfl'
 exists _,aJ (nB (i:=3) (N':=["_law_name","_law_elder"]) (src:=[Qq,Qq]) rfl yq1.nd rfl rfl eW (gY<|dL hu ⇑1 bW λ_ _=>U) (g:=eP K 2<|eG (cA 0)<|eG (cA 1) eO) (λ_ _ _ _=>dX (n:=2) rfl<|bI (gL 0 J)<|bI (gL 1 J) dV) (λ_ _ _ _=>gP) λ_ _ _ _=>pv 0)
  (aJ (nB (i:=4) (N':=["_law_name",qW]) (src:=[Qq,Qp 1]) rfl yq1.nd rfl rfl eW (gY<|pv 3) (g:=cA 0) (λ_ _ _ _=>gL 0 am) (λ_ _ _ _=>mV<|cG (show dW _ _ (jF K Qr) from xE) ⇑0 (dL hu ⇑1 bW λ_ _=>U) rfl) λ_ _ _ _=>pv 0)<|aJ (sL 5 yq1.nd<|⇑@O<|av 0<|aI (eI (cX<|av 4<|av 4<|av 3 aA)<|⇑@T<|av 0<|aI aQ aA) aA)<|aJ (sL 6 yq1.nd<|⇑@G<|av 0<|av 1<|av 2 aA)<|aJ (jT hu ⇑2 ⇑6 ⇑5 rfl)<|aY<|bR<|cZ<|aI bW<|av 6<|av 5 aA)
  
 ac_rfl
 have hU:D.U.length=9:=by unfold WD.U;rw[cK,bK,S.ok.v4,S.ok.p4]
 have b1:=S.ok.l12;obtain⟨ts,t1,t2,t3⟩:=S.w.tree;refine{6,wd,6,S.w.g.1,WA.tree,U,{_,T1 t1.2},λu au=>?_};refine PP (tr:=D.tr) t1.2 t2 (λj t x a b=>(t3 j t x a b).2) au ∅ λH1 f1 N=>?_
 have S1:=S.fr0 f1;refine{6,u,U,{_,T1 N},λl ad=>?_};have b2:u≠l:=bF N ad;refine iT (xs:=(D.tr.map (·.1)).map R6) (λi σ X=>(∃x,σ=[x,Qp<|.ref wd])/\FrS [] H1 X/\X l\(.lst<|(((D.tr.map (·.1)).take i).filter λx=>decide<|x∉D.late).map R6)) {{6},(FrS.refl).put ad,zb0} ?_ ?_ ?_
 .rintro i σ X hi ⟨_,fr,_⟩;exact T1<|fr _ _ ⇑_ N
 .rintro i x σ X hx ⟨⟨x0,rfl⟩,fr,ak⟩;obtain⟨hi,_⟩:=vh2.mp hx;rw[aF]at hi;rw[bP,bM hi]at hx;cases hx;have W:=S1.fr0 fr;have al:=hi;rw[aF]at al;have Z:↑(((D.tr.map (·.1)).take i).filter λx=>decide<|x∉D.late)<=12:=by
   have:=jJ (λx=>decide<|x∉D.late)<|(D.tr.map (·.1)).take i;rw[dR,aF]at this;lia
  exists 6,6,wd,6,W.w.g.2.1,WA.late,6,.inl<|T1 W.w.late.2,U,jL _,6;have ef:((D.tr.map (·.1)).take<|i+1).filter (λx=>decide<|x∉D.late)=((D.tr.map (·.1)).take i).filter (λx=>decide<|x∉D.late)++[(D.tr.map (·.1))[i]].filter (λx=>decide<|x∉D.late):=by
   rw[dE,bM hi,zO];rfl
  rw[jS];refine bE (λc0=>?_) λc0=>?_
  rotate_left
  .have c:(D.tr.map (·.1))[i]∈D.late:=⇑[c0]
   exists {6},fr;rw[ef,IA ⇑[c],nW,eA];exact ak
  .have c:(D.tr.map (·.1))[i]∉D.late:=⇑[c0]
   exists 6,_,ak,by rw[aF];exact bS ∅,{6},fr.put ad;rw[zb0,ef,BN ⇑[c],nW,bU];rfl
 rintro σ H2 ⟨_,f2,a1⟩;rw[aF,cW<|aV _]at a1;have W:=S1.fr0 f2;have a8:=f2 _ _ ⇑_ N;obtain⟨x1,ag,ae⟩:=S.ok.soon;have a0:((D.tr.map (·.1)).filter λx=>decide<|x∉D.late)≠[]:=λz=>by
  have:x1∈((D.tr.map (·.1)).filter λx=>decide<|x∉D.late):=vq0.mpr ⟨ag,by simp[ae]⟩;rw[z]at this;cases this
 have aa:D.tr.map (·.1)≠[]:=λz=>by
  have:x1∈D.tr.map (·.1):=ag;rw[z]at this;cases this
 have Z:↑((D.tr.map (·.1)).filter λx=>decide<|x∉D.late)<=12:=by
  have:=jJ (λx=>decide<|x∉D.late)<|D.tr.map (·.1);rw[aF]at this;lia
 generalize hss:((D.tr.map (·.1)).filter λx=>decide<|x∉D.late)=ss at a1 a0 Z;have ai:∀x∈ss,x∈D.names:=λx hx=>by rw[<-hss]at hx;exact(vq0.mp hx).1
 have ac:FrS (Ms hd en WA) H H2:=(f1.trans f2).mono ⇑_;refine{6,6,6,6,eQ rfl,λB a5=>?_};have S3:=W.fr0<|S0 (S:=[]) (o:=.lst [.ref l,.ref l,.ref u]) a5;obtain⟨d,m,C⟩:=S3.hand;refine{6,hd,d,m,t,r,3,U,C,∅,by decide,by decide,λx d' m' t4 x0 x1 c e=>?_};have S4:=S3.setHand (r':=r) c;have M:B≠hd:=λz=>by have:=C.1;rw[z]at *;rw[zb0]at this;cases this
 have af:l≠hd:=λz=>by have I:=C.1;rw[aE<|cJ M]at I;exact jW a1 {I,C.2} z
 have ay:u≠hd:=λz=>by have I:=C.1;rw[aE<|cJ M]at I;exact jW a8 {I,C.2} z
 have ah:l≠B:=bF a1 a5;have ap:u≠B:=bF a8 a5;have a7:=(ac.trans<|S0 (o:=.lst [.ref l,.ref l,.ref u]) a5).put' (a:=hd) (o:=hl d' m' t4 r) ⇑_;have go:∀(pz:eH)(L:Z2),pz≠hd->pz≠B->H2 pz\(.lst<|L.map R6)->L≠[]->L.length<=12->(∀x∈L,x∈D.names)->
   dP K [.ref hd,.ref pz] (upd (upd H2 B<|.lst [.ref l,.ref l,.ref u]) hd<|hl d' m' t4 r) (λv Hv=>gJ (gH (hV wO [] E0<|bJ (aG 0)<|bJ (aG 1)<|bJ (aG 2) bN)<|cA 6) (gJ (rT (aG 2) (aG 6)<|aG 5)<|iY<|fF<|bJ (tC<|.str "make")<|bJ (aG 6)<|bJ (aG 5) bN) ⟨λ_ H=>Q .non H,Q,λ_ _=>Qn,λ_ _=>Qn⟩ [Qp<|.ref hd,Qp<|.ref wd,Qp<|.ref en,Qp<|.ref u,Qp<|.ref l,Qp v,Qq] Hv) E0:=by
  intro pz L h1 h2 hz ax an as;obtain⟨d,m,C⟩:=S4.hand;refine{hd,pz,d,m,t4,r,6,C,∅,h1,T1 (by rw[aE h1,aE h2];exact hz),⇑[ax],by rw[aF];lia,λy d5 m5 t5 hy c5 e5=>?_};obtain⟨z,aq,rfl⟩:=vj2.mp hy;have S5:=S4.setHand (r':=r) c5;have ab:=a7.put' (a:=hd) (o:=hl d5 m5 t5 r) ⇑_;refine{6,6,6,hd,en,wd,WA,D,t5,r,U,S5,∅,λx6 H6 t6 ao S6 f6 az _=>?_};obtain⟨kv,aw,hk⟩:=S6.env;exists 6,6,6,en,6,DPut.k (k:=(Qt x6:aK)) aw<|bS (by have:=hk.len;lia);have S7:=S6.setEnv<|hk.put ao<|.inr ⟨z,as z aq,rfl⟩;have a9:=(ab.trans f6).put' (a:=en) (o:=.dK<|aX kv (Qt x6)<|R6 z) ⇑_;refine{6,6,eQ rfl,λpr aj=>?_};exact q pr _ t6 {.make _ _,zb0,λ_ e=>nomatch e} (S7.fr0<|S0 aj) (a9.trans<|S0 aj) ∅
 have ar:x=0\/x=1\/x=2:=by lia
 obtain rfl|rfl|rfl:=ar
 .exact⟨B,_,_,.ref l,rfl,rfl,T1 (by rw[aE M];exact zb0),rfl,go l ss af ah a1 a0 Z ai⟩
 .exact⟨B,_,_,.ref l,rfl,rfl,T1 (by rw[aE M];exact zb0),rfl,go l ss af ah a1 a0 Z ai⟩
 .exact⟨B,_,_,.ref u,rfl,rfl,T1 (by rw[aE M];exact zb0),rfl,go u D.names ay ap a8 aa (by unfold WD.names;rw[aF];lia) λx hx=>hx⟩
abbrev qX:Qd:=top 72
abbrev UJ:Qd:=top 74
inductive NE(vs:Qi V)(H:Hp)(Q:VK)(_:XK):Prop
 | mk(hd en wd:eH)(A:WA)(D:WD)(t r:Ql)(ab dd:zZ)(h1:vs=[.ref hd,.ref wd,.ref en,.str ab,.str dd])(h2:Sit H hd en wd A D t r)(h3:t+12<1000000)(h4:ab∈D.names)(h5:dd∈D.deeds)(h6:∀(x:eH)(ss:Z2)(H':Hp)(t':Ql),H' x\(.tup<|ss.map R6)->↑ss<=1000->Sit H' hd en wd A D t' r->FrS (Ms hd en A) H H'->t'<=t+12->Q (.ref x) H')
inductive OG(vs:Qi V)(H:Hp)(Q:VK)(_:XK):Prop
 | mk(hd en wd:eH)(A:WA)(D:WD)(t r:Ql)(h1:vs=[.ref hd,.ref wd,.ref en])(h2:Sit H hd en wd A D t r)(h3:t+7<1000000)(h4:∀(x:eH)(H':Hp)(t':Ql),PlainR (fV D) H' x->Sit H' hd en wd A D t' r->FrS (Ms hd en A) H H'->t'<=t+7->Q (.ref x) H')
def Sit.own{A:WA}(S:Sit H hd en wd A D t r)(s:Sit H6 hd en wd A D t6 r6)(f:FrS (Ms hd en A) H H6)(a1:H pa=Qq):Sit (upd H6 pa o) hd en wd A D t6 r6/\FrS (Ms hd en A) H (upd H6 pa o):=by
 have i:pa∉Ms hd en A:=S.notin a1;have u:∀b∈Ms hd en A,upd H6 pa o b=H6 b:=λb j=>aE (λz=>i<|by rw[<-z];exact j)
 have J:FrS (Ms hd en A) H (upd H6 pa o):=f.put a1;obtain⟨⟨d,m,C,q⟩,⟨B,l,G⟩,⟨E,x,n⟩,⟨h,a,e⟩,w,L,ok⟩:=s;exact{{{d,m,(u _<|by trivial).trans C,q},{B,(u _<|by trivial).trans l,G},{E,(u _<|by trivial).trans x,n},{h,(u _<|by trivial).trans a,e},S.w.keep J,L,ok},J}
abbrev FS:Z2:=[qH,qW,"_law_env","_law_above","_law_deed_here","_law_args_here","_law_kind","_law_some"]
def xf1:cC FS qD (bX qX):=cF
def Of(F:X0 "_law_args" qX f fd)(T:X1 k "_law_take" qB iL)(O:X1 k "_law_of" qC (dP K))(V':X1 k "_law_variable" qA sT)(L:X1 k "_law_line" qG BX)(b0:mg "tuple"=Qq):
  ↥qD NE:=by
 refine F.ok xf1 ⇑?_;obtain⟨hd,en,wd,WA,D,t,r,ab,J,rfl,S,ht,aw,au,q⟩:=h;have X:=fL hr;have b4:(["_law_x","_law_env","_law_kind",qW]:Z2).Nodup:=by rfl'
 exists _,aJ (sL 5 xf1.nd<|cX aA)
  (aJ (eZ eN rfl (gY<|dL X (dL X ⇑1 bW λ_ _=>U) (cZ<|aI (dL X (dL X ⇑1 bW λ_ _=>U) ⇑3 λ_ _=>U)<|av 4 aA) λ_ _=>U) (rH (i:=6) xf1.nd rfl<|jH rfl)<|aJ (Az<|nB (i:=7) (N':=["_law_x","_law_env","_law_kind",qW]) (src:=[Qq,Qp 2,Qp 6,Qp 1]) rfl xf1.nd rfl rfl eW (IR<|pv 2) (g:=cA 0) (λ_ _ _ _=>gL 0 b4) (λ_ _ _ _=>mV<|PW.pt<|nJ (kP<|AE<|dL X ⇑1 ⇑0 λ_ _=>U)<|oX<|cG (show dW _ _ (jF K Qs) from oH) ⇑2 (⇑@L<|av 3<|aI (dL X ⇑1 ⇑0 λ_ _=>U) aA) rfl) λ_ _ _ _=>pv 0)<|aY<|cY (PW.pt<|nJ (cG (NY<|rS X) ⇑7 (cX aA)<|cS _)<|oX<|cG pR (⇑@T<|av 0<|aI aQ aA) aQ<|cS _) (aY<|eX<|fR fU hH hX gS ⇑5<|aI (⇑@O<|av 0<|av 7 aA) aA)<|aY<|eX<|fR fU hH hX gS ⇑5<|aI (bC V' hr rfl<|av 0<|av 1<|av 2 aA) aA)<|aY<|bR<|eV gR rfl b0 (by rfl')<|av 5 aA)
 ac_rfl
 have hU:D.U.length=9:=by unfold WD.U;rw[cK,bK,S.ok.v4,S.ok.p4]
 refine{cE _,λj a2=>?_};have W:=S.fr0<|S0 (S:=[]) (o:=.lst []) a2;obtain⟨rt,wp,ws,e1,e2,e3,e4,e5⟩:=S.w.wl ab aw J au;refine{6,wd,6,W.w.g.2.2.2.1,6,wd,6,W.w.g.2.2.2.2.2.2.2.2.2.2,6,WA.roots,6,.inl {_,Qt ab,.inl W.w.roots.2,U,e1.symm},6,eQ rfl,λpk a9=>?_};have S2:=W.fr0<|S0 (S:=[]) (o:=.tup [R6 rt,R6 J]) a9;have aq:=e3.keep<|(S0 (o:=.lst []) a2).trans<|S0 (o:=.tup [R6 rt,R6 J]) a9;have a7:upd (upd H j<|.lst []) pk (.tup [R6 rt,R6 J]) j\.lst []:=by rw[aE<|bF (o:=.lst []) zb0 a9];exact zb0
 exists WA.wants,.ref wp,U,.inr {_,[Qt rt,Qt J],pk,.inl S2.w.wants.2,U,zb0,e2.symm},wp,U,{_,T1 aq.2};have ak:FrS (Ms hd en WA) H (upd (upd H j<|.lst []) pk<|.tup [R6 rt,R6 J]):=(S0 a2).trans<|S0 a9;generalize upd (upd H j<|.lst []) pk (.tup [R6 rt,R6 J])=H2 at S2 aq a7 ak;have a6:j∉Ms hd en WA:=S.notin a2;refine iT (xs:=ws.map R6) (λi σ B=>∃(kx sx:Qj V)(tx:Ql)(xs:Z2),σ=[Qp<|.ref hd,Qp<|.ref wd,Qp<|.ref en,Qp<|.str ab,Qp<|.str J,Qp<|.ref j,kx,sx]/\Sit B hd en wd WA D tx r/\FrS (Ms hd en WA) H B/\tx<=t+3*i/\B j\(.lst<|xs.map R6)/\↑xs<=i) {_,_,t,[],U,S2,ak,∅,a7,by simp} ?_ ?_ ?_
 .rintro i σ B hi ⟨_,_,_,_,_,_,fr,_⟩;exact T1 (e3.keep fr).2
 .rintro i x σ B hx ⟨kx,sx,tx,xs,rfl,Sx,fr,as,ac,an⟩;obtain⟨hi,_⟩:=vh2.mp hx;rw[aF]at hi;rw[bP,bM hi]at hx;cases hx;obtain⟨C,af,hk⟩:=Sx.env;have b7:=hk.len;obtain⟨us,eu,ba,_⟩:=hk.strs;exists en,C,af;refine{6,en,C,U,af,λo G Z=>?_};have ap:G≠en:=λz=>by rw[z,zb0]at Z;cases Z
  have b8:B G=none:=by rw[aE ap]at Z;exact Z
  refine EZ (xs:=C.map λp=>kV p.1) (λI σ N=>(∃x,σ=[x,Qp<|.ref en,Qp<|.str ws[i],Qp<|.ref wd])/\FrS [] (upd B en<|.frz o<|.dK C) N/\∃ss:Z2,↑ss<=I/\N G\(.lst<|ss.map R6)) {{6},(FrS.refl).put Z,[],by simp,zb0} ?_ ?_ ?_
  .rintro I σ N hi ⟨_,fr,_⟩;exact fr _ _ ⇑_ zb0
  .rintro I x σ N hx ⟨⟨x0,rfl⟩,a1,ss,hs,a8⟩;have am:=hx;rw[eu]at hx;obtain⟨hi,_⟩:=vh2.mp hx;rw[aF]at hi;rw[bP,bM hi]at hx;cases hx;have ax:(Qt us[I]:aK)∈C.map (·.1):=by
    rw[bP]at am;obtain⟨p,hp,e⟩:=vh8.mp am;have:p.1=Qt us[I]:=by
     obtain⟨y,_,ey⟩:=hk.ks p.1<|vj2.mpr ⟨p,dM hp,rfl⟩;rw[ey]at e ⊢;cases e;rfl
    exact vj2.mpr {p,dM hp,this}
   obtain⟨v,hv⟩:∃v,aO C (Qt us[I])\v:=by
    cases z:aO C (Qt us[I])with
    | some v=>exact⟨v,rfl⟩
    | none=>exact absurd ax<|LQ z
   have ao:∀Hz,FrS [] (upd B en<|.frz o<|.dK C) Hz->DGet Hz en (.str us[I]) (Qp v):=λHz fz=>.inl ⟨C,Qt us[I],.inr ⟨o,fz _ _ ⇑_ zb0⟩,rfl,hv.symm⟩
   exists 6,6,en,v,U,ao _ a1,6;obtain rfl|⟨n,hn,rfl⟩:=hk.vs _ _ hv
   .show if (!decide (R9=R9))=Qr then _ else _
    rw[bA<|by trivial];exact{{6},a1,ss,∅,a8}
   .show if (!decide (R6 n=R9))=Qr then _ else _
    rw[bG<|by trivial];obtain⟨l,hl,az,_⟩:=RJ S.ok hn;have b1:FrS (Ms hd en WA) B N:=λb u n e=>a1 b u ⇑_ (by rw[aE λz=>n<|by rw[z];simp];exact e)
    refine{6,6,6,6,en,R6 n,U,ao _ a1,wd,_,WA,D,n,l,U,Sx.w.keep b1,S.ok,hl,λla Hz fz b3 ay=>?_};have b2:G≠la:=bF a8 b3;have ai:=fz _ _ ⇑_ a8;exists la,6,.inl<|T1 ay,U,jL _,6;refine bE (λc=>?_) λc=>?_
    .exists _,rfl,_,ai,by rw[aF];exact bS ∅,{6},(a1.trans fz).put Z,ss++[us[I]],?_
     .rw[bK,fI];lia
     .rw[zb0,bU];rfl
    .exact⟨⟨_,rfl⟩,a1.trans fz,ss,∅,ai⟩
  .rintro σ N ⟨_,a1,ss,hs,a8⟩;rw[aF]at hs;exists o,a1 _ _ ⇑_ zb0;have f1:FrS [] B (upd N en<|.dK C):=FrS.thaw af a1;have W:=Sx.fr0 f1;have ae:upd N en (.dK C) G\(.lst<|ss.map R6):=by rw[aE ap];exact a8
   generalize upd N en (.dK C)=H3 at f1 W ae;have a4:=f1 _ _ ⇑_ ac;refine{6,cE _,λpe aa=>?_};have S4:=W.fr0<|S0 (S:=[]) (o:=.lst []) aa;have ah:G≠pe:=bF ae aa;have a5:upd H3 pe (.lst []) j\(.lst<|xs.map R6):=by rw[aE<|bF a4 aa];exact a4
   have f4:FrS (Ms hd en WA) H (upd H3 pe<|.lst []):=fr.trans ((f1.trans<|S0 aa).mono<|by trivial);have ad:upd H3 pe (.lst []) G\(.lst<|ss.map R6):=by rw[aE ah];exact ae
   exists G,pe,6,U,ah,T1 ad,T1 zb0,6;have aj:∀(H5:Hp)(M:Ql),Sit H5 hd en wd WA D M r->FrS (Ms hd en WA) H H5->M<=tx+1->H5 j\(.lst<|xs.map R6)->HU (yP K "list" zY (aG 5)<|bJ (hV sT [] E0<|bJ (aG 0)<|bJ (aG 1)<|bJ (aG 2) bN) bN)
     ⟨λσ B=>∃(kx sx:Qj V)(tx:Ql)(xs:Z2),σ=[Qp<|.ref hd,Qp<|.ref wd,Qp<|.ref en,Qp<|.str ab,Qp<|.str J,Qp<|.ref j,kx,sx]/\Sit B hd en wd WA D tx r/\FrS (Ms hd en WA) H B/\tx<=t+3*((i+1:Qk):Ql)/\B j\(.lst<|xs.map R6)/\↑xs<=i+1,λ_ _=>Qn,λ_ _=>Qn,λ_ _=>Qn⟩ [Qp<|.ref hd,Qp<|.ref wd,Qp<|.ref en,Qp<|.str ab,Qp<|.str J,Qp<|.ref j,Qp<|.str ws[i],Qp<|.ref G] H5:=by
    intro H5 M S5 f5 b5 a0;refine{6,.inl {U,_,T1 a0},6,6,6,hd,en,wd,WA,D,M,r,U,S5,∅,λx H6 t6 S6 f6 b6 _=>?_};have ag:=f6 _ _ a6 a0;have S7:=Sit.own (o:=.lst<|xs.map R6++[R6 x]) S S6 (f5.trans f6) a2;exact{j,_,6,U,ag,bS (by rw[aF];lia),_,_,t6,xs++[x],U,S7.1,S7.2,∅,by rw[zb0,bU];rfl,by rw[bK,fI];lia}
   cases ss with
   | nil=>exact aj _ tx S4 f4 ∅ a5
   | cons y ys=>
    obtain⟨d,m,hh⟩:=S4.hand;refine{6,hd,d,m,tx,r,4,U,hh,∅,by decide,by decide,λx d' m' M x0 x1 c e=>{_,6,U,6,?_}};have S5:=S4.setHand (r':=r) c;have f5:=f4.put' (a:=hd) (o:=hl d' m' M r) ⇑_;have ar:G≠hd:=jW (ss:=y::ys) ad hh;have al:j≠hd:=λz=>a6 (by rw[z];simp)
    have a0:upd (upd H3 pe<|.lst []) hd (hl d' m' M r) j\(.lst<|xs.map R6):=by rw[aE al];exact a5
    refine bE (λc=>?_) λc=>?_
    .obtain⟨d,m,hh⟩:=S5.hand;refine{6,.inl {U,_,T1 a0},6,6,hd,G,d,m,M,r,6,hh,∅,ar,T1 (by rw[aE ar];exact ad),by simp,by rw[aF];lia,λx d' m' t' hx c e=>?_};obtain⟨x,_,rfl⟩:=vj2.mp hx;have S7:=Sit.own (o:=.lst<|xs.map R6++[R6 x]) S (S5.setHand (r':=r) c) (f5.put' (a:=hd) (o:=hl d' m' t' r)<|by trivial) a2;exact{j,_,6,U,by rw[aE al];exact a0,bS (by rw[aF];lia),_,_,t',xs++[x],U,S7.1,S7.2,∅,by rw[zb0,bU];rfl,by rw[bK,fI];lia}
    .exact aj _ M S5 f5 e a0
 .rintro σ B ⟨kx,sx,tx,xs,rfl,Sx,fr,as,ac,an⟩;rw[aF]at as an;refine{6,j,6,.inl {T1 ac,λl hl=>?_}};exact q l xs _ tx zb0 ∅ (Sx.fr0<|S0 hl) (fr.trans<|S0 hl) ∅
abbrev uU:Z2:=[qH,qW,"_law_env","_law_x","_law_y","_law_field_here","_law_z"]
def yp1:cC uU qA (bX UJ):=cF
def Bp(F:X0 "_law_field" UJ f fd)(T:X1 k "_law_take" qB iL)(O:X1 k "_law_of" qC (dP K))(V':X1 k "_law_variable" qA sT)(G:X1 k "_law_target" qA wO):
  ↥qA OG:=by
 refine F.ok yp1 ⇑?_;obtain⟨hd,en,wd,WA,D,t,r,rfl,S,ht,q⟩:=h;have b:=fL hr;exists _,aJ (UT (i:=3) (j:=4) rfl yp1.nd rfl rfl ↥?_ rfl rfl (aI (bC V' hr rfl<|av 0<|av 1<|av 2 aA)<|aI (bC V' hr rfl<|av 0<|av 1<|av 2 aA) aA) U)
  (aJ (sL 5 yp1.nd<|⇑@O<|av 0<|aI (dL b ⇑1 bW λ_ _=>U) aA)<|aJ (cY (cG gF (⇑@T<|av 0<|aI aQ aA) aQ<|cS _) (aJ (jT b (dL b ⇑1 bW λ_ _=>U) ⇑5 (kN b ⇑2 ⇑4 ⟨rfl,rfl,rfl,rfl⟩) rfl)<|aY<|bR<|cZ<|aI bW<|av 3<|av 5<|av 4 aA) dJ)<|aJ (sL 6 yp1.nd<|⇑@G<|av 0<|av 1<|av 2 aA)<|aJ (jT b ⇑2 ⇑6 (kN b (dL b ⇑1 bW λ_ _=>U) ⇑5 ⟨rfl,rfl,rfl,rfl⟩) rfl)<|aY<|bR<|cZ<|aI bW<|av 6<|av 4<|av 5 aA)
 ac_rfl
 have hU:D.U.length=9:=by unfold WD.U;rw[cK,bK,S.ok.v4,S.ok.p4]
 have ac:=S.ok.f3;refine{6,6,6,hd,en,wd,WA,D,t,r,U,S,∅,λx1 H1 t1 S1 f1 aa _=>?_};refine{6,6,6,hd,en,wd,WA,D,t1,r,U,S1,∅,λN H2 t2 u f2 ae _=>{_,6,?_}};obtain⟨d,m,J⟩:=u.hand;refine{6,6,wd,6,u.w.g.2.2.2.2.2.2.2.1,hd,WA.fields,d,m,t2,r,6,J,∅,jW u.w.fields.2 J,T1 u.w.fields.2,?_,by rw[aF];lia,λx d3 m3 t3 hx c3 e3=>?_}
 .intro z;have:=cP Rk z;rw[aF,iX]at this;lia
 obtain⟨C,a7,rfl⟩:=vj2.mp hx;have S3:=u.setHand (r':=r) c3;have a5:=(f1.trans f2).put' (a:=hd) (o:=hl d3 m3 t3 r) ⇑_;obtain⟨d,m,J⟩:=S3.hand;refine{6,hd,d,m,t3,r,2,U,J,∅,by decide,by decide,λx d4 m4 W x0 x1 c4 e4=>{U,6,?_}};have B:=S3.setHand (r':=r) c4;have a4:=a5.put' (a:=hd) (o:=hl d4 m4 W r) ⇑_;obtain⟨kv,I,L⟩:=B.env;obtain⟨Z,a1,M⟩:=B.held;refine bE (λc=>?_) λc=>?_
 .exists _,rfl,en,rfl,.inl ⟨_,.inl I⟩,_,rfl,_,DGet.k (k:=(Qt N:aK)) I,_,rfl,wd,_,rfl,B.w.g.2.2.2.2.2.2.2.2.2.1,_,rfl,WA.held,_,rfl,DPut.k (k:=(Qt C:aK)) a1<|bS (by have:=M.len;lia);have l:=B.setHeld<|M.put a7<|L.get<|Qt N;have a8:=a4.put' (a:=WA.held) (o:=.dK<|aX Z (Qt C)<|(aO kv<|Qt N).getD .non) ⇑_;refine{6,6,6,eQ rfl,λX n=>?_};exact q X _ W {.put _ _ _,zb0,λ_ e=>nomatch e} (l.fr0<|S0 n) (a8.trans<|S0 n) ∅
 .refine⟨_,rfl,_,rfl,_,rfl,hd,en,wd,WA,D,W,r,rfl,B,∅,λx5 H5 t5 a6 l f5 ab _=>?_⟩;obtain⟨kv,I,L⟩:=l.env;obtain⟨Z,a1,M⟩:=l.held;exists 6,wd,6,l.w.g.2.2.2.2.2.2.2.2.2.1,WA.held,U,.inl {_,.inl a1},6,_,DGet.k (k:=(Qt C:aK)) a1,6,6,en,6,DPut.k (k:=(Qt x5:aK)) I<|bS (by have:=L.len;lia);have S6:=l.setEnv<|L.put a6<|M.get<|Qt C;have a9:=(a4.trans f5).put' (a:=en) (o:=.dK<|aX kv (Qt x5)<|(aO Z<|Qt C).getD .non) ⇑_;refine{6,6,6,eQ rfl,λX n=>?_};exact q X _ t5 {.take _ _ _,zb0,λ_ e=>nomatch e} (S6.fr0<|S0 n) (a9.trans<|S0 n) ∅
abbrev qV:Qd:=top 73
inductive GE(vs:Qi V)(H:Hp)(Q:VK)(_:XK):Prop
 | mk(hd en wd:eH)(A:WA)(D:WD)(t r lv:Ql)(h1:vs=[.ref hd,.ref wd,.ref en,.int lv])(h2:Sit H hd en wd A D t r)(h3:t+18<1000000)(h4:∀(x:eH)(H':Hp)(t':Ql),Row1 (fV D) H' x->Sit H' hd en wd A D t' r->FrS (Ms hd en A) H H'->t'<=t+18->Q (.ref x) H')
def Ws(D:WD)(H:Hp)(as:Z3):Prop:=∀a∈as,∃o d,H a\.tup [.str o,.str d]/\o∈D.names/\d∈D.deeds/\QX D o d
def Ws.mono(h:Ws D H as)(f:∀b xs,H b\.tup xs->H' b\.tup xs):Ws D H' as:=λa i=>by
 obtain⟨o,d,e,r⟩:=h a i;exact{o,d,f _ _ e,r}
def Ws.app(h:Ws D H as)(h':Ws D H bs):Ws D H (as++bs):=λa b=>(vj7.mp b).elim (h a)<|h' a
def LS(hp:H p\.lst ys):∀b xs,H b\.tup xs->upd H p o b\.tup xs:=λb xs h=>by
 rw[aE λz=>by rw[z,hp]at h;cases h];exact h
def ZW(ds:Z2)(lo hi:Qj Ql):∃a:Z2,dU (ds.map R6) lo hi=a.map R6/\↑a<=↑ds/\∀x∈a,x∈ds:=by
 unfold dU;rw[<-FX,<-xL];refine{6,?_,λx b=>FJ<|lT b};rw[dR,nM];lia
abbrev HQ:Z2:=[qH,qW,"_law_env","_law_level","_law_y","_law_kind","_law_some","_law_ways","_law_deed_here","_law_above","_law_args_here","_law_x"]
def zr1:cC HQ qF (bX qV):=cF
def Lg(F:X0 "_law_call" qV f fd)(T:X1 k "_law_take" qB iL)(O:X1 k "_law_of" qC (dP K))(V':X1 k "_law_variable" qA sT)(L:X1 k "_law_line" qG BX)(G:X1 k "_law_target" qA wO)(HS:X1 k "_law_has" qE QB)(MK:X1 k "_law_make" qA JC)(AR:X1 k "_law_args" qD NE):
  ↥qF GE:=by
 refine F.ok zr1 ⇑?_;obtain⟨hd,en,wd,WA,D,t,r,N,rfl,S,ht,q⟩:=h;have M:=fL hr;have nd2:(["_law_name","_law_elder"]:Z2).Nodup:=by rfl'
 have bd:(["_law_one","_law_deed_here",qW]:Z2).Nodup:=by rfl'
 exists _,aJ (sL 4 zr1.nd<|bC V' hr rfl<|av 0<|av 1<|av 2 aA)
  (aJ (sL 5 zr1.nd<|kN M ⇑2 ⇑4 ⟨rfl,rfl,rfl,rfl⟩)<|aJ (cY (kP<|wX<|pv 5) (aY<|sL 5 zr1.nd<|⇑@O<|av 0<|aI (jB (N':=["_law_name","_law_elder"]) (src:=[Qq,Qq]) rfl eW (gY<|dL M ⇑1 bW λ_ _=>U) (g:=eP K 2<|eG (cA 0)<|eG (cA 1) eO) (λ_ _ _ _=>dX (n:=2) rfl<|bI (gL 0 nd2)<|bI (gL 1 nd2) dV) (λ_ _ _ _=>gP) λ_ _ _ _=>pv 0) aA) dJ)<|aJ (sL 6 zr1.nd<|kT qP (dL M ⇑1 bW λ_ _=>U) (kM<|cM lB ⇑3 aQ) mR)<|aJ (cY (cG gF (⇑@T<|av 0<|aI aQ aA) aQ<|cS _) (aY<|sL 6 zr1.nd<|dL M ⇑1 bW λ_ _=>U) dJ)<|aJ (sL 7 zr1.nd<|cX aA)<|aJ (eZ eN rfl (gY<|pv 6) (rH (i:=8) zr1.nd rfl<|jH rfl)<|aY<|eX<|fR fU PF MR QF ⇑7<|aI (jB (N':=["_law_one","_law_deed_here",qW]) (src:=[Qq,Qp 8,Qp 1]) rfl eW (gY<|⇑@L<|av 1<|av 5 aA) (g:=cA 0) (λ_ _ _ _=>gL 0 bd) (λ_ _ _ _=>mV<|HW<|⇑@HS<|av 2<|av 0<|av 1 aA) λ_ _ _ _=>cZ<|av 0<|av 1 aA) aA)<|aJ (cY (cG (VB<|rS M) ⇑7 (cX aA)<|cS _) (aY<|bR<|⇑@MK<|av 0<|av 1<|av 2 aA) dJ)<|aJ (hZ (⇑@O<|av 0<|av 7 aA)<|dX (n:=2) rfl<|bI (gL 9 zr1.nd)<|bI (rH (i:=8) zr1.nd rfl<|jH rfl) dV)<|aJ (sL 10 zr1.nd<|⇑@AR<|av 0<|av 1<|av 2<|av 9<|av 8 aA)<|aJ (sL 11 zr1.nd<|⇑@G<|av 0<|av 1<|av 2 aA)<|aJ (jT M ⇑2 ⇑11 (kN M (dL M ⇑1 bW λ_ _=>U) ⇑8 ⟨rfl,rfl,rfl,rfl⟩) rfl)<|aY<|bR<|cZ<|aI bW<|av 11<|av 4<|av 9<|av 8<|av 10 aA)
 ac_rfl
 have hU:D.U.length=9:=by unfold WD.U;rw[cK,bK,S.ok.v4,S.ok.p4]
 have bx:=S.ok.l12;have h6:=S.ok.d6;refine{6,6,6,hd,en,wd,WA,D,t,r,U,S,∅,λe H1 t1 S1 f1 bz _=>?_};obtain⟨kv,a6,hk⟩:=S1.env;exists 6,en,U,.inl {_,.inl a6},6,_,DGet.k (k:=(Qt e:aK)) a6;have aw:=hk.get<|Qt e;generalize (aO kv<|Qt e).getD .non=vk at aw;have bc:∀(nx:St->Hp->Prop),(∀(n:zZ)(H2:Hp)(t2:Ql),n∈D.names->Sit H2 hd en wd WA D t2 r->FrS (Ms hd en WA) H H2->t2<=t+3->nx [Qp<|.ref hd,Qp<|.ref wd,Qp<|.ref en,Qp<|.int N,Qp<|.str e,Qp<|.str n,Qq,Qq,Qq,Qq,Qq,Qq] H2)->
   jX (tB<|DF<|aG 5) (gH (hV (dP K) [] E0<|bJ (aG 0)<|bJ (BA (OV K<|zS (aG 1)<|tC<|.str "tree") [Qq,Qq] (eP K 2<|eG (cA 0)<|eG (cA 1) eO) nE<|aG 0) bN)<|cA 5) uL ⟨nx,Q,λ_ _=>Qn,λ_ _=>Qn⟩ [Qp<|.ref hd,Qp<|.ref wd,Qp<|.ref en,Qp<|.int N,Qp<|.str e,Qp vk,Qq,Qq,Qq,Qq,Qq,Qq] H1:=by
  intro nx a5;exists 6,6;obtain rfl|⟨n,hn,rfl⟩:=aw
  .show if (decide<|R9=R9)=Qr then _ else _
   rw[bG<|by trivial];obtain⟨ts,ay,bl,be⟩:=S1.w.tree;refine{6,6,wd,6,S1.w.g.1,WA.tree,U,{_,T1 ay.2},λDn b9=>?_};refine PP (tr:=D.tr) ay.2 bl (λj t x a b=>(be j t x a b).2) b9 ∅ λH2 f2 am=>?_
   have W:=S1.fr0 f2;obtain⟨d,m,Z⟩:=W.hand;refine{hd,Dn,d,m,t1,r,6,Z,∅,jW am Z,T1 am,?_,by rw[aF,aF];lia,λx d3 m3 t3 hx c3 e3=>?_}
   .intro z;have:=cP Rk z;rw[aF,aF,iX]at this;exact S.ok.l1<|ud5.mp this
   .obtain⟨n,hn,rfl⟩:=vj2.mp hx;exact a5 n _ t3 hn (W.setHand c3) ((f1.trans<|f2.mono<|by trivial).put'<|by trivial) ∅
  .show if (decide<|R6 n=R9)=Qr then _ else _
   rw[bA<|by trivial];exact a5 n H1 t1 hn S1 f1 ∅
 refine bc _ λn H2 t2 hn W f2 bv=>?_;refine{6,wd,6,W.w.g.2.2.1,6,N,1,U,U,6,WA.deeds,6,T1 W.w.deeds.2,λps ai=>?_};obtain⟨ds,ed,bw,bh⟩:=ZW D.deeds (Qp<|N+1) Qq;rw[ed];have S3:=W.fr0<|S0 (S:=[]) (o:=.lst<|ds.map R6) ai;have f3:FrS (Ms hd en WA) H (upd H2 ps<|.lst<|ds.map R6):=f2.trans<|S0 ai;have a4:Stt (Ms hd en WA) (upd H2 ps<|.lst<|ds.map R6) ps (.lst<|ds.map R6):=⟨W.notin ai,zb0⟩;generalize upd H2 ps (.lst<|ds.map R6)=H3 at S3 f3 a4;have bk:∀(nx:St->Hp->Prop),(∀(pz:eH)(C:Z2)(H4:Hp)(B:Ql),Stt (Ms hd en WA) H4 pz (.lst<|C.map R6)->C.length<=6->(∀x∈C,x∈D.deeds)->Sit H4 hd en wd WA D B r->FrS (Ms hd en WA) H H4->B<=t+4->nx [Qp<|.ref hd,Qp<|.ref wd,Qp<|.ref en,Qp<|.int N,Qp<|.str e,Qp<|.str n,Qp<|.ref pz,Qq,Qq,Qq,Qq,Qq] H4)->
   jX (iE<|dG oF (hV iL [] E0<|bJ (aG 0)<|bJ (tC<|.int 8) bN)<|tC<|.int 0) (gH (zS (aG 1)<|tC<|.str "deeds")<|cA 6) uL ⟨nx,Q,λ_ _=>Qn,λ_ _=>Qn⟩ [Qp<|.ref hd,Qp<|.ref wd,Qp<|.ref en,Qp<|.int N,Qp<|.str e,Qp<|.str n,Qp<|.ref ps,Qq,Qq,Qq,Qq,Qq] H3:=by
  intro nx a5;obtain⟨d,m,Z⟩:=S3.hand;refine{6,hd,d,m,t2,r,8,U,Z,∅,by decide,by decide,λx d4 m4 B x0 x1 c4 e4=>{U,6,?_}};have J:=S3.setHand (r':=r) c4;have f4:=f3.put' (a:=hd) (o:=hl d4 m4 B r) ⇑_;refine bE (λc=>?_) λc=>?_
  .exact⟨_,rfl,wd,_,rfl,J.w.g.2.2.1,a5 WA.deeds D.deeds _ B J.w.deeds h6 (λx hx=>hx) J f4 ∅⟩
  .exact a5 ps ds _ B (a4.keep<|T0<|by trivial) ∅ bh J f4 ∅
 refine bk _ λpz C H4 B hz c0 bo J f4 c5=>?_;refine{cE _,λI a3=>?_};have S5:=J.fr0<|S0 (S:=[]) (o:=.lst []) a3;have ab:I∉Ms hd en WA:=J.notin a3;have aj:pz≠I:=bF hz.2 a3;obtain⟨l,ba,bf,b8⟩:=RJ S.ok hn;exists 6,pz,U,{_,T1<|by rw[aE aj];exact hz.2};refine iT (xs:=C.map R6) (λi σ Hx=>∃(dx:Qj V)(as:Z3),σ=[Qp<|.ref hd,Qp<|.ref wd,Qp<|.ref en,Qp<|.int N,Qp<|.str e,Qp<|.str n,Qp<|.ref pz,Qp<|.ref I,dx,Qq,Qq,Qq]/\Sit Hx hd en wd WA D B r/\FrS (Ms hd en WA) H4 Hx/\Hx I\(.lst<|as.map R7)/\Ws D Hx as/\↑as<=12*i) {_,[],U,S5,S0 a3,zb0,(λa ha=>nomatch ha),by simp} ?_ ?_ ?_
 .rintro i σ Hx hi ⟨_,_,_,_,fr,_⟩;exact T1 (hz.keep fr).2
 .rintro i x σ Hx hx ⟨dx,as,rfl,Sx,fr,au,b4,a1⟩;obtain⟨hi,_⟩:=vh2.mp hx;rw[aF]at hi;rw[bP,bM hi]at hx;cases hx;have ak:C[i]∈D.deeds:=bo _<|fP hi;refine{6,.inl {U,_,T1 au},6,6,wd,_,WA,D,n,l,U,Sx.w,S.ok,ba,λla Hy fy bt an=>{la,U,{_,T1 an},λDl aq=>?_}};have Sy:=Sx.fr0 fy;have b5:=fy _ _ ⇑_ au;have ad:Ws D Hy as:=b4.mono λb xs h=>fy _ _ ⇑_ h
  refine iT (xs:=l.map R6) (λi' σ Hz=>(∃x,σ=[x,Qp<|.str C[i],Qp<|.ref wd])/\FrS [] Hy Hz/\∃bs:Z3,↑bs<=i'/\Hz Dl\(.lst<|bs.map R7)/\Ws D Hz bs) {{6},(FrS.refl).put aq,[],by simp,zb0,λa ha=>nomatch ha} ?_ ?_ ?_
  .rintro i' σ Hz hi ⟨_,u,_⟩;exact T1<|u _ _ ⇑_ an
  .rintro i' x σ Hz hx ⟨⟨x0,rfl⟩,u,bs,ao,a8,ag⟩;obtain⟨af,_⟩:=vh2.mp hx;rw[aF]at af;rw[bP,bM af]at hx;cases hx;have al:l[i']∈D.names:=b8 _<|fP af;refine{6,6,6,wd,_,WA,D,l[i'],C[i],U,(Sy.fr0 u).w,S.ok,al,ak,λb Hv fv b3=>{6,?_}};have aa:=fv _ _ ⇑_ a8;have b0:Ws D Hv bs:=ag.mono λb xs h=>fv _ _ ⇑_ h
   refine bE (λc=>?_) λc=>?_
   .refine⟨_,rfl,_,rfl,eQ rfl,λtp a2=>?_⟩;have bm:Dl≠tp:=bF aa a2;have az:upd Hv tp (.tup [R6 l[i'],R6 C[i]]) Dl\(.lst<|bs.map R7):=by rw[aE bm];exact aa
    exists _,az,by rw[aF];exact bS ∅,{6},((u.trans fv).trans<|S0 a2).put aq,bs++[tp],?_,?_
    .rw[bK,fI];lia
    .rw[zb0,bU];rfl
    .refine Ws.mono (H:=upd Hv tp<|.tup [R6 l[i'],R6 C[i]]) (Ws.app (b0.mono λb xs h=>?_) λa ha=>?_)<|LS az
     .rw[aE<|bF h a2];exact h
     .rw[vj1.mp ha];exact{_,_,zb0,al,ak,b3 c}
   .exact⟨⟨_,rfl⟩,u.trans fv,bs,∅,aa,b0⟩
  .rintro σ Hz ⟨_,u,bs,ao,a8,ag⟩;rw[aF]at ao;have b2:=u _ _ ⇑_ b5;have Sz:=Sy.fr0 u;have ae:Ws D Hz as:=ad.mono λb xs h=>u _ _ ⇑_ h
   have X:=Sit.own (o:=.lst<|as.map R7++bs.map R7) J Sz (fr.trans<|(fy.trans u).mono<|by trivial) a3;refine{I,Dl,_,6,U,b2,a8,by rw[aF,aF];exact cQ (bS ∅),_,as++bs,U,X.1,X.2,by rw[zb0,bU],(Ws.app ae ag).mono<|LS b2,by rw[bK];lia}
 rintro σ H6 ⟨dx,as,rfl,S6,f6,ap,bi,a1⟩;rw[aF]at a1;have bj:=f4.trans f6;refine{6,cE _,λpe a7=>?_};have X:=S6.fr0<|S0 (S:=[]) (o:=.lst []) a7;have ax:I≠pe:=bF ap a7;have a9:FrS (Ms hd en WA) H (upd H6 pe<|.lst []):=bj.trans<|S0 a7;have ah:upd H6 pe (.lst []) I\(.lst<|as.map R7):=by rw[aE ax];exact ap
 have b1:Ws D (upd H6 pe<|.lst []) as:=bi.mono λb xs h=>by rw[aE<|bF h a7];exact h
 exists I,pe,6,U,ax,T1 ah,T1 zb0,6;generalize upd H6 pe (.lst [])=H7 at X a9 ah b1;cases as with
 | nil=>
  refine{6,6,6,hd,en,wd,WA,D,B,r,U,X,∅,λx H8 t8 p8 S8 f8 c1=>q x H8 t8 (.inl p8) S8 (a9.trans f8) ∅}
 | cons a0 as'=>
  obtain⟨d,m,Z⟩:=X.hand;refine{6,6,hd,I,d,m,B,r,6,Z,∅,λz=>ab (by rw[z];simp),T1 ah,by simp,by rw[aF];lia,λx d8 m8 t8 hx c8 e8=>?_};obtain⟨tp,a2,rfl⟩:=vj2.mp hx;obtain⟨on,dn,e1,e2,e3,e4⟩:=b1 tp a2;have S8:=X.setHand (r':=r) c8;have f8:=a9.put' (a:=hd) (o:=hl d8 m8 t8 r) ⇑_;have bp:tp≠hd:=λz=>by have:=Z.1;rw[<-z,e1]at this;cases this
  exists tp,6,T2 (by rw[aE bp];exact e1),rfl,_,_,rfl,_,_,rfl,rfl;refine{6,6,6,6,6,hd,en,wd,WA,D,t8,r,on,dn,U,S8,∅,e2,e3,λx9 b7 H9 t9 bg bn S9 f9 bu=>?_};refine{6,6,6,hd,en,wd,WA,D,t9,r,U,S9,∅,λxa Ha ta b6 Sa fa br _=>?_};obtain⟨kv,a6,hk⟩:=Sa.env;obtain⟨kt,ar,bb⟩:=Sa.told;exists 6,wd,6,Sa.w.g.2.2.2.2.2.2.2.2.1,WA.told,U,.inl {_,.inl ar},6,_,DGet.k (k:=(Qt dn:aK)) ar,6,6,en,6,DPut.k (k:=(Qt xa:aK)) a6<|bS (by have:=hk.len;lia);have Sb:=Sa.setEnv<|hk.put b6<|bb.get<|Qt dn;have fb:=((f8.trans f9).trans fa).put' (a:=en) (o:=.dK<|aX kv (Qt xa)<|(aO kt<|Qt dn).getD .non) ⇑_;refine{6,6,6,6,6,eQ rfl,λpr ac=>?_};have bq:Tup H9 (upd (upd Ha en<|.dK<|aX kv (Qt xa)<|(aO kt<|Qt dn).getD .non) pr<|.tup [R6 "call",R6 xa,R6 e,R6 on,R6 dn,R7 x9]):=((S9.tup fa).trans<|Sa.tup<|T0<|.tail _<|.head _).trans<|T3 ac;exact q pr _ ta (.inr {xa,e,on,dn,x9,b7,zb0,bq _ _ bg,bn,e4}) (Sb.fr0<|S0 ac) (fb.trans<|S0 ac) ∅
abbrev DT:Qd:=top 75
abbrev OZ:Qd:=top 76
abbrev nG:Z2:=[qH,qW,"_law_env","_law_level","_law_deep"]
abbrev mZ:Z2:=[qH,qW,"_law_env","_law_level","_law_deep","_law_most"]
inductive NW(n:Qk)(vs:Qi V)(H:Hp)(Q:VK)(_:XK):Prop
 | mk(hd en wd:eH)(A:WA)(D:WD)(t r lv:Ql)(dp:Qk)(h1:vs=[.ref hd,.ref wd,.ref en,.int lv,.int (dp:Ql)])(h2:dp<=n)(h3:Sit H hd en wd A D t r)(h4:0<=r)(h5:t+25*r+24<1000000)(h6:∀(x:eH)(fs:Z3)(H':Hp)(t' r':Ql),Fl (fV D) H' n [x] fs->(↑fs:Ql)+r'<=r+1->Sit H' hd en wd A D t' r'->FrS (Ms hd en A) H H'->0<=r'->r'<=r->t'+25*r'<=t+25*r+24->Q (.ref x) H')
inductive vV(n:Qk)(vs:Qi V)(H:Hp)(Q:VK)(_:XK):Prop
 | mk(hd en wd:eH)(A:WA)(D:WD)(t r lv mo:Ql)(dp:Qk)(h1:vs=[.ref hd,.ref wd,.ref en,.int lv,.int (dp:Ql),.int mo])(h2:dp<=n)(h3:0<=mo)(h4:mo<=100)(h5:Sit H hd en wd A D t r)(h6:0<=r)(h7:t+25*r+1<1000000)(h8:∀(x:eH)(rs fs:Z3)(H':Hp)(t' r':Ql),H' x\(.tup<|rs.map R7)->Fl (fV D) H' n rs fs->(↑fs:Ql)+r'<=r->Sit H' hd en wd A D t' r'->FrS (Ms hd en A) H H'->0<=r'->r'<=r->t'+25*r'<=t+25*r+1->Q (.ref x) H')
def FE:Qk->Sp
 | 0=>λ_ _ _ _=>Qn
 | n+1=>vV n
abbrev NQ:Z2:=[qH,qW,"_law_env","_law_level","_law_deep","_law_way","_law_y","_law_x","_law_lots"]
def xv1:cC NQ nG (bX DT):=cF
def wR(F:X0 "_law_row" DT f fd)(T:X1 k "_law_take" qB iL)(O:X1 k "_law_of" qC (dP K))(V':X1 k "_law_variable" qA sT)(G:X1 k "_law_target" qA wO)(MK:X1 k "_law_make" qA JC)(FI:X1 k "_law_field" qA OG)(CA:X1 k "_law_call" qF GE)(R:X1 k "_law_rows" mZ (FE n))(mr:mg "range"=Qq)(ml:mg "len"=Qq)(au:mg "tuple"=Qq):
  ↥nG (NW n):=by
 refine F.ok xv1 ⇑?_;obtain⟨hd,en,wd,WA,D,t,r,lv,M,rfl,b9,S,hr0,ht,q⟩:=h;have hu:=fL hr;have an:(["_law_k",qH,qW,"_law_env","_law_level","_law_deep"]:Z2).Nodup:=by rfl'
 exists _,aJ (sL 5 xv1.nd<|⇑@T<|av 0<|aI aQ aA)
  (aJ (cY (cG tX ⇑5 aQ<|cS _) (aY<|bR<|⇑@MK<|av 0<|av 1<|av 2 aA) dJ) (aJ (cY (cG gF ⇑5 aQ<|cS _) (aJ (sL 6 xv1.nd<|bC V' hr rfl<|av 0<|av 1<|av 2 aA)<|aJ (sL 7 xv1.nd<|⇑@G<|av 0<|av 1<|av 2 aA)<|aJ (jT hu ⇑2 ⇑7 (kN hu ⇑2 ⇑6 ⟨rfl,rfl,rfl,rfl⟩) rfl)<|aY<|bR<|cZ<|aI bW<|av 7<|av 6 aA) dJ) (aJ (cY (cG tX ⇑5 aQ<|cS _) (aY<|bR<|⇑@FI<|av 0<|av 1<|av 2 aA) dJ) (aJ (cY (PW.pt<|nJ (cG gF ⇑5 aQ<|cS _)<|oX<|cG (NY<|rS hu) (dL hu ⇑1 bW λ_ _=>U) (cX aA)<|cS _) (aY<|bR<|cZ<|aI bW<|aI (⇑@O<|av 0<|aI (dL hu ⇑1 bW λ_ _=>U) aA) aA) dJ) (aJ (cY (PW.pt<|IY (cG gF ⇑5 aQ<|cS _)<|KW<|cG gF ⇑5 aQ<|cS _) (aY<|bR<|cZ<|aI bW<|aI (⇑@O<|av 0<|aI (dL hu ⇑1 bW λ_ _=>U) aA) aA) dJ) (aJ (cY (PW.pt<|nJ (cG tX ⇑5 aQ<|cS _)<|nJ (cG pR ⇑4 aQ<|cS _)<|oX<|cG pR (eI ⇑0 aQ) aQ<|cS _) (aJ (nB (i:=8) (N':=["_law_k",qH,qW,"_law_env","_law_level","_law_deep"]) (src:=[Qq,Qp 0,Qp 1,Qp 2,Qp 3,Qp 4]) rfl xv1.nd rfl rfl eW (oW rfl mr<|aI (cM pU aQ<|pv 5) aA) (g:=cA 0) (λ_ _ _ _=>gL 0 an) (λ_ _ _ _=>gP) λ_ _ _ _=>⇑@R<|av 1<|av 2<|av 3<|av 4<|aI (cM pU ⇑5 aQ)<|aI aQ aA)<|aY<|bR<|cM Ke (cZ<|aI (eI (cX<|aI bW<|aI bW aA)<|cM pU (fO lR rfl ml iP<|av 8 aA) aQ) aA)<|eV gR rfl au (by rfl')<|av 8 aA) dJ)
  (aY<|bR<|⇑@CA<|av 0<|av 1<|av 2<|av 3 aA)))))))
 ac_rfl
 have hU:D.U.length=9:=by unfold WD.U;rw[cK,bK,S.ok.v4,S.ok.p4]
 have b7:=S.ok.f3;have ao:=S.ok.lateLen;obtain⟨d,m,X⟩:=S.hand;refine{6,hd,d,m,t,r,14,U,X,∅,by decide,by decide,λx d1 m1 u x0 x1 c1 e1=>?_};have N:=S.setHand (r':=r) c1;have f1:FrS (Ms hd en WA) H (upd H hd<|hl d1 m1 u r):=T0 ⇑_;have a3:upd H hd (hl d1 m1 u r) hd\hl d1 m1 u r:=zb0;generalize upd H hd (hl d1 m1 u r)=H1 at N f1 a3;exists 6,_,6,U,6;refine bE (λc=>?_) λc=>?_
 .exact⟨_,rfl,_,rfl,_,rfl,hd,en,wd,WA,D,u,r,rfl,N,∅,λx H2 t2 p2 b B ak=>q x [x] H2 t2 r (.one (.inl p2) .nil) (by show(1:Ql)+_<=_;lia) b (f1.trans B) hr0 ∅ ∅⟩
 have n3:¬x<3:=λz=>c<|cN z;exists 6,U,6;refine bE (λc=>?_) λc=>?_
 .refine⟨_,rfl,_,rfl,_,rfl,hd,en,wd,WA,D,u,r,rfl,N,∅,λy2 H2 t2 b B ak _=>?_⟩;refine{6,6,6,hd,en,wd,WA,D,t2,r,U,b,∅,λx3 H3 Z aw S3 f3 ax _=>?_};obtain⟨kv,ac,hk⟩:=S3.env;exists 6,en,U,.inl {_,.inl ac},6,_,DGet.k (k:=(Qt y2:aK)) ac,6,6,en,6,DPut.k (k:=(Qt x3:aK)) ac<|bS (by have:=hk.len;lia);have S4:=S3.setEnv<|hk.put aw<|hk.get<|Qt y2;have f4:=((f1.trans B).trans f3).put' (a:=en) (o:=.dK<|aX kv (Qt x3)<|(aO kv<|Qt y2).getD .non) ⇑_;refine{6,6,eQ rfl,λW I=>?_};exact q W [W] _ Z r (.one (.inl {.copy _ _,zb0,λ_ e=>nomatch e}) .nil) (by show(1:Ql)+_<=_;lia) (S4.fr0<|S0 I) (f4.trans<|S0 I) hr0 ∅ ∅
 have n4:x≠3:=λz=>c (cN<|by rw[z])
 exists 6,_,6,U,6;refine bE (λc=>?_) λc=>?_
 .exact⟨_,rfl,_,rfl,_,rfl,hd,en,wd,WA,D,u,r,rfl,N,∅,λx H2 t2 p2 b B ak=>q x [x] H2 t2 r (.one (.inl p2) .nil) (by show(1:Ql)+_<=_;lia) b (f1.trans B) hr0 ∅ ∅⟩
 have n6:¬x<6:=λz=>c<|cN z;have rest:∀(H2:Hp),Sit H2 hd en wd WA D u r->FrS (Ms hd en WA) H H2->H2 hd\hl d1 m1 u r->
   gJ (jX (QD (iE<|dG oF (aG 5)<|tC<|.int 6)<|iE<|dG oF (aG 5)<|tC<|.int 7) (iY<|fF<|bJ (tC<|.str "say")<|bJ (hV (dP K) [] E0<|bJ (aG 0)<|bJ (zS (aG 1)<|tC<|.str "fields") bN) bN) uL)
   (gJ (jX (lN (iE<|dG (jO λi j=>.bl<|decide<|i<j) (aG 5)<|tC<|.int 10)<|lN (iE<|dG (jO λi j=>.bl<|decide<|j<i) (aG 4)<|tC<|.int 0)<|iE<|dG (jO λi j=>.bl<|decide<|j<i) (dG (oU K) (aG 0)<|tC<|.int 3)<|tC<|.int 2) (gJ (gH (BA (sV<|bJ (dG (jO λi j=>.int<|i-j) (tC<|.int 10)<|aG 5) bN) [Qq,Qp 0,Qp 1,Qp 2,Qp 3,Qp 4] (cA 0) nE<|hV (FE n) [] E0<|bJ (aG 1)<|bJ (aG 2)<|bJ (aG 3)<|bJ (aG 4)<|bJ (dG (jO λi j=>.int<|i-j) (aG 5)<|tC<|.int 1)<|bJ (tC<|.int 3) bN)<|cA 8)<|iY<|dG (sX K) (fF<|bJ (dG (oU K) (lC<|bJ (tC<|.str "again")<|bJ (tC<|.str "either") bN)<|dG (jO λi j=>.int<|i-j) (pP (λxs H Q=>∃p ys,xs=[.ref p]/\(SqL K H p ys\/SqT K H p ys)/\Q (.int ↑ys) H)<|bJ (aG 8) bN)<|tC<|.int 1) bN)<|pP (λxs H Q=>∃p ys,xs=[.ref p]/\((SqL K H p ys/\∀l,H l=Qq->Q (.ref l) (upd H l<|.tup ys))\/(SqT K H p ys/\Q (.ref p) H)))<|bJ (aG 8) bN) uL)<|iY<|hV GE [] E0<|bJ (aG 0)<|bJ (aG 1)<|bJ (aG 2)<|bJ (aG 3) bN)
   ⟨λ_ H=>Q .non H,Q,λ_ _=>Qn,λ_ _=>Qn⟩ [Qp<|.ref hd,Qp<|.ref wd,Qp<|.ref en,Qp<|.int lv,Qp<|.int (M:Ql),Qp<|.int x,Qq,Qq,Qq] H2:=by
  intro H2 b B a6;have say:iY (fF<|bJ (tC<|.str "say")<|bJ (hV (dP K) [] E0<|bJ (aG 0)<|bJ (zS (aG 1)<|tC<|.str "fields") bN) bN) ⟨λ_ H=>Q .non H,Q,λ_ _=>Qn,λ_ _=>Qn⟩ [Qp<|.ref hd,Qp<|.ref wd,Qp<|.ref en,Qp<|.int lv,Qp<|.int (M:Ql),Qp<|.int x,Qq,Qq,Qq] H2:=by
   obtain⟨d,m,X⟩:=b.hand;refine{6,6,wd,6,b.w.g.2.2.2.2.2.2.2.1,hd,WA.fields,d,m,u,r,6,X,∅,jW b.w.fields.2 X,T1 b.w.fields.2,?_,by rw[aF];lia,λx d3 m3 Z hx c3 e3=>?_}
   .intro z;have:=cP Rk z;rw[aF,iX]at this;lia
   obtain⟨x,a7,rfl⟩:=vj2.mp hx;refine{eQ rfl,λW I=>?_};exact q W [W] _ Z r (.one (.inl {.say _,zb0,λ_ e=>nomatch e}) .nil) (by show(1:Ql)+_<=_;lia) ((b.setHand c3).fr0<|S0 I) ((B.put'<|by trivial).trans<|S0 I) hr0 ∅ ∅
  have aa:iY (hV GE [] E0<|bJ (aG 0)<|bJ (aG 1)<|bJ (aG 2)<|bJ (aG 3) bN) ⟨λ_ H=>Q .non H,Q,λ_ _=>Qn,λ_ _=>Qn⟩ [Qp<|.ref hd,Qp<|.ref wd,Qp<|.ref en,Qp<|.int lv,Qp<|.int (M:Ql),Qp<|.int x,Qq,Qq,Qq] H2:=
   ⟨_,rfl,_,rfl,_,rfl,_,rfl,hd,en,wd,WA,D,u,r,lv,rfl,b,∅,λx H3 Z p3 S3 f3 ax=>q x [x] H3 Z r (.one p3 .nil) (by show(1:Ql)+_<=_;lia) S3 (B.trans f3) hr0 ∅ ∅⟩
  exists 6,U,6;refine bE (λc=>?_) λc=>?_
  .exact say
  have b8:x≠6:=λz=>c (cN<|by rw[z])
  exists 6,U,6;refine bE (λc=>?_) λc=>?_
  .exact say
  have be:x≠7:=λz=>c (cN<|by rw[z])
  exists 6,_,6,U,6;refine bE (λc=>?_) λc=>aa;have bb:x<10:=dH c;exists 6,_,6,U,6;refine bE (λc=>?_) λc=>aa;have bc:(0:Ql)<(M:Ql):=dH c;exists 6,hd,_,_,6,U,T1 a6,FZ,_,6,U,6;refine bE (λc=>?_) λc=>aa;have nr:(2:Ql)<r:=dH c;obtain⟨n',rfl⟩:∃n',n=n'+1:=⟨n-1,by lia⟩;refine{6,_,6,U,6,∅,∅,λL a4=>?_};have az:L∉Ms hd en WA:=b.notin a4;refine pB (lo:=0) (n:=(10-x).toNat) (λi σ J=>∃(kx:Qj V)(tx C:Ql)(ls fs:Z3),σ=[kx,Qp<|.ref hd,Qp<|.ref wd,Qp<|.ref en,Qp<|.int lv,Qp<|.int (M:Ql)]/\Sit J hd en wd WA D tx C/\FrS (Ms hd en WA) H2 J/\0<=C/\C<=r/\tx+25*C<=u+25*r+i/\J L\(.lst<|ls.map R7)/\↑ls=i/\Lots (fV D) J n' ls fs/\(↑fs:Ql)+C<=r)
   ⟨_,u,r,[],[],rfl,b.fr0<|S0 a4,S0 a4,hr0,∅,∅,zb0,rfl,.nil,by show(0:Ql)+r<=r;lia⟩ ?_ ?_
  .rintro i σ J hi ⟨kx,tx,C,ls,fs,rfl,Sx,fx,ad,aj,a7,a2,aq,ae,b3⟩;refine{6,6,6,6,6,_,6,U,hd,en,wd,WA,D,tx,C,lv,3,M-1,?_,∅,by decide,by decide,Sx,ad,∅,λv bg am Hy ty ry ay ar ba Sy fy b0 b6 bd=>?_}
   .have:((M-1:Qk):Ql)=(M:Ql)-1:=by lia
    rw[this];rfl
   .have al:=fy _ _ az a2;have S7:=Sit.own (o:=.lst<|ls.map R7++[R7 v]) b Sy (fx.trans fy) a4;have a8:Tup Hy (upd Hy L<|.lst<|ls.map R7++[R7 v]):=Tup.lst al;exact{_,al,bS (by rw[aF];lia),_,ty,ry,ls++[v],fs++am,U,S7.1,S7.2,b0,∅,∅,by rw[zb0,bU];rfl,by rw[bK,fI];lia,(ae.keep<|(Sx.tup fy).trans a8).snoc (a8 _ _ ay)<|ar.keep a8,by rw[bK];lia}
  .rintro σ J ⟨kx,tx,C,ls,fs,rfl,Sx,fx,ad,aj,a7,a2,aq,ae,b3⟩;have hj:↑ls=1\/↑ls=2:=by lia
   refine{eQ rfl,λpl ah=>?_};have ag:L≠pl:=bF a2 ah;have ap:∃v:zZ,fY [R6 "again",R6 "either"] (((↑(ls.map R7):Qk):Ql)-1)\.str v/\(↑ls=1/\v="again"\/↑ls=2/\v="either"):=by
    rw[aF];obtain h|h:=hj
    .exact⟨"again",by rw[h];rfl,.inl ⟨h,rfl⟩⟩
    .exact⟨"either",by rw[h];rfl,.inr ⟨h,rfl⟩⟩
   obtain⟨v,hv,b4⟩:=ap;refine{6,L,6,.inl (T1<|by rw[aE ag];exact a2),_,6,U,pl,_,_,6,U,T1 zb0,hv,eQ rfl,λpt ai=>?_};have a1:upd J pl (.lst [R6 "again",R6 "either"]) L\(.lst<|ls.map R7):=by rw[aE ag];exact a2
   have b2:L≠pt:=bF a1 ai;refine{6,L,6,.inl {T1 (by rw[aE b2];exact a1),λpu a9=>?_}};have b1:pt≠pu:=λz=>by rw[<-z,zb0]at a9;cases a9
   refine{pt,pu,[.str v],ls.map R7,U,U,T2 (by rw[aE b1];exact zb0),T2 zb0,by simp,by rw[aF];show 1+↑ls<=sizeLine;exact cQ (bS ∅),λz=>?_,λ_ pz b5=>?_}
   .have:=cP Rk z;rw[aF,iX]at this;lia
   .have ff:FrS [] J _:=(((S0 (S:=[]) ah).trans<|S0 ai).trans<|S0 a9).trans<|S0 (o:=.tup<|[R6 v]++ls.map R7) b5;exact q pz (pz::fs) _ tx C ((ae.keep<|T4 ff).row zb0 b4) (by rw[cK];lia) (Sx.fr0 ff) (B.trans<|fx.trans<|ff.mono<|by trivial) ad aj ∅
 exists 6,U,6;refine bE (λc=>?_) λc=>rest H1 N f1 a3;refine{6,wd,6,N.w.g.2.1,cE _,λpe a5=>?_};have b:=N.fr0<|S0 (S:=[]) (o:=.lst []) a5;have as:WA.late≠pe:=bF N.w.late.2 a5;exists WA.late,pe,6,U,as,T1 b.w.late.2,T1 zb0,6;have B:FrS (Ms hd en WA) H (upd H1 pe<|.lst []):=f1.trans<|S0 a5;have a6:upd H1 pe (.lst []) hd\hl d1 m1 u r:=by rw[aE<|bF a3 a5];exact a3
 generalize upd H1 pe (.lst [])=H2 at b B a6;cases hla:D.late with
 | nil=>exact rest H2 b B a6
 | cons y ys=>
  have ab:=b.w.late.2;rw[hla]at ab;have af:=ao;rw[hla]at af;obtain⟨d,m,X⟩:=b.hand;refine{6,6,wd,6,b.w.g.2.1,hd,WA.late,d,m,u,r,6,X,∅,jW ab X,T1 ab,by simp,by rw[aF];lia,λx d3 m3 Z hx c3 e3=>?_};obtain⟨x,a7,rfl⟩:=vj2.mp hx;refine{eQ rfl,λW I=>?_};exact q W [W] _ Z r (.one (.inl {.bring _,zb0,λ_ e=>by cases e;exact S.ok.lnm _<|by rw[hla];exact a7}) .nil) (by show(1:Ql)+_<=_;lia) ((b.setHand c3).fr0<|S0 I) ((B.put'<|by trivial).trans<|S0 I) hr0 ∅ ∅
abbrev AO:Z2:=[qH,qW,"_law_env","_law_level","_law_deep","_law_most","_law_rows_here","_law_k"]
def xc6:cC AO mZ (bX OZ):=cF
def YO(F:X0 "_law_rows" OZ f fd)(T:X1 k "_law_take" qB iL)(R:X1 k "_law_row" nG (NW n))(mr:mg "range"=Qq)(ag:mg "tuple"=Qq):
  ↥mZ (vV n):=by
 refine F.ok xc6 ⇑?_;obtain⟨hd,en,wd,WA,D,t,r,lv,mo,dp,rfl,ad,ah,ai,S,hr0,ht,q⟩:=h;have hu:=fL hr;exists _,aJ (sL 6 xc6.nd<|cX aA)
  (aJ (eZ eN rfl (oW rfl mr<|aI (⇑@T<|av 0<|aI (cM lB ⇑5 aQ) aA) aA) (gL 7 xc6.nd)<|aY<|cY (cG pR (eI ⇑0 aQ) aQ<|cS _) (aJ (hZ (cM pU (eI ⇑0 aQ) aQ)<|yX ⇑0 aQ AA)<|aY<|eX<|fR fU hH hX gS ⇑6<|aI (⇑@R<|av 0<|av 1<|av 2<|av 3<|av 4 aA) aA) dJ)<|aY<|bR<|eV gR rfl ag (by rfl')<|av 6 aA)
 ac_rfl
 refine{cE _,λj C=>?_};have X:=S.fr0<|S0 (S:=[]) (o:=.lst []) C;have a7:j∉Ms hd en WA:=S.notin C;obtain⟨d,m,hh⟩:=X.hand;refine{6,6,_,6,U,hd,d,m,t,r,6,hh,∅,∅,∅,λx d1 m1 t1 x0 x1 c1 e1=>?_};have S2:=X.setHand (r':=r) c1;have a9:j≠hd:=λz=>a7 (by rw[z];simp)
 refine{6,∅,∅,?_};refine pB (lo:=0) (n:=x.toNat) (λi σ e=>∃(J:Qj V)(tx b:Ql)(rs fs:Z3),σ=[Qp<|.ref hd,Qp<|.ref wd,Qp<|.ref en,Qp<|.int lv,Qp<|.int (dp:Ql),Qp<|.int mo,Qp<|.ref j,J]/\Sit e hd en wd WA D tx b/\FrS (Ms hd en WA) H e/\0<=b/\b<=r/\tx+25*b<=t+25*r+1/\e j\(.lst<|rs.map R7)/\↑rs<=i/\Fl (fV D) e n rs fs/\(↑fs:Ql)+b<=r)
  ⟨_,t1,r,[],[],rfl,S2,((S0 C).put'<|by trivial),hr0,∅,∅,by rw[aE a9];exact zb0,by simp,.nil,by show(0:Ql)+r<=r;lia⟩ ?_ ?_
 .rintro i σ e hi ⟨J,tx,b,rs,fs,rfl,Sx,B,M,W,I,u,ae,a1,G⟩;obtain⟨d,m,L,ok⟩:=Sx.hand;exists 6,hd,_,_,6,U,T1 L,FZ,_,6,U,6;refine bE (λc=>?_) λc=>?_
  .have c':0<b:=dH c;exists 6,hd,_,_,6,U,T1 L,FZ,_,6,U;exists 6,hd,_,3,3,U,U,L,U;have S3:=Sx.setHand (r':=b-1) ok;have f3:=B.put' (a:=hd) (o:=hl d m tx<|b-1) ⇑_;have Z:upd e hd (hl d m tx<|b-1) j\(.lst<|rs.map R7):=by rw[aE a9];exact u
   refine{6,.inl {U,_,T1 Z},6,6,6,6,6,hd,en,wd,WA,D,tx,b-1,lv,dp,U,ad,S3,∅,∅,λv fv N t4 r4 af ak S4 O h0 h1 h2=>?_};have aa:=O _ _ a7 Z;have S7:=Sit.own (o:=.lst<|rs.map R7++[R7 v]) S S4 (f3.trans O) C;have a8:Tup N (upd N j<|.lst<|rs.map R7++[R7 v]):=Tup.lst aa;have ac:Tup e N:=(Sx.tup<|T0<|.head _).trans<|S3.tup O;exact{j,_,6,U,aa,bS (by rw[aF];lia),_,t4,r4,rs++[v],fs++fv,U,S7.1,S7.2,h0,∅,∅,by rw[zb0,bU];rfl,by rw[bK,fI];lia,(a1.keep<|ac.trans a8).app<|af.keep a8,by rw[bK];lia}
  .exact⟨_,tx,b,rs,fs,rfl,Sx,B,M,W,I,u,∅,a1,G⟩
 .rintro σ e ⟨J,tx,b,rs,fs,rfl,Sx,B,M,W,I,u,ae,a1,G⟩;refine{6,j,6,.inl {T1 u,λl hl=>?_}};exact q l rs fs _ tx b zb0 (a1.keep<|T3 hl) G (Sx.fr0<|S0 hl) (B.trans<|S0 hl) M W I
abbrev M0(hd:eH)(A:WA):Z3:=[hd,A.told,A.held]
structure Sit0(H:Hp)(hd wd:eH)(A:WA)(D:WD)(t r:Ql):Prop where
 hand:∃d m,Hand H hd d m t r
 told:∃kv,H A.told\.dK kv/\DOk D.deeds D.names kv
 held:∃kv,H A.held\.dK kv/\DOk D.fields D.names kv
 w:Wld (M0 hd A) H wd A D
 nd:(M0 hd A).Nodup
 ok:EN D
section
variable{H H':Hp}{hd en wd:eH}{A:WA}{D:WD}{t r t' r':Ql}
def Sit0.have_(S:Sit0 H hd wd A D t r):∀b∈M0 hd A,∃o,H b\o:=by
 obtain⟨⟨d,m,f,q⟩,⟨n,h,i⟩,⟨j,e,a1⟩,w,s,l⟩:=S;intro b a;simp only[M0,vj0,aN,eC]at a;obtain rfl|rfl|rfl:=a
 .exact⟨_,f⟩
 .exact⟨_,h⟩
 .exact⟨_,e⟩
def Sit0.notin(S:Sit0 H hd wd A D t r)(hp:H p=Qq):p∉M0 hd A:=λz=>by
 obtain⟨o,a⟩:=S.have_ p z;rw[hp]at a;cases a
def Sit0.ne(S:Sit0 H hd wd A D t r):hd≠A.told/\hd≠A.held/\A.told≠A.held:=by
 have:=S.nd;simp only[M0,vn3,vj0,aN,eC,gI]at this;exact{this.1.1,this.1.2,this.2.1}
def Sit0.fr0(S:Sit0 H hd wd A D t r)(f:FrS [] H H'):Sit0 H' hd wd A D t r:=by
 obtain⟨⟨d,m,h,a1⟩,⟨i,l,j⟩,⟨b,a,e⟩,w,n,ok⟩:=S;exact{{d,m,f _ _ ⇑_ h,a1},{i,f _ _ ⇑_ l,j},{b,f _ _ ⇑_ a,e},w.keep (f.mono<|by trivial),n,ok}
def Sit0.setHand(S:Sit0 H hd wd A D t r)(ok:pZ d' m' t'):Sit0 (upd H hd<|hl d' m' t' r') hd wd A D t' r':=by
 obtain⟨f,i,o⟩:=S.ne;obtain⟨⟨d,m,n⟩,⟨h,l,j⟩,⟨b,a,a1⟩,w,q,e⟩:=S;exact{{d',m',Hand.at ok},{h,by rw[aE f.symm];exact l,j},{b,by rw[aE i.symm];exact a,a1},w.keep (T0<|by trivial),q,e}
def Sit0.own(S:Sit0 H hd wd A D t r)(q:Sit0 H6 hd wd A D t6 r6)(f:FrS (M0 hd A) H H6)(a1:H pa=Qq):Sit0 (upd H6 pa o) hd wd A D t6 r6/\FrS (M0 hd A) H (upd H6 pa o):=by
 have i:pa∉M0 hd A:=S.notin a1;have u:∀b∈M0 hd A,upd H6 pa o b=H6 b:=λb l=>aE (λz=>i<|by rw[<-z];exact l)
 have C:FrS (M0 hd A) H (upd H6 pa o):=f.put a1;obtain⟨⟨d,m,x,e⟩,⟨j,s,n⟩,⟨h,a,B⟩,w,E,ok⟩:=q;exact{{{d,m,(u _<|by trivial).trans x,e},{j,(u _<|by trivial).trans s,n},{h,(u _<|by trivial).trans a,B},S.w.keep C,E,ok},C}
def Sit0.open(S:Sit0 H hd wd A D t r)(he:H en=Qq)(f:DOk D.U D.names kv):Sit (upd H en<|.dK kv) hd en wd A D t r:=by
 have b:=S.notin he;obtain⟨e,i,j⟩:=S.ne;have l:FrS [] H (upd H en<|.dK kv):=S0 he;have d:=S.fr0 l;refine{d.hand,⟨kv,zb0,f⟩,d.told,d.held,S.w.map λa o h=>{λz=>?_,l _ _ ⇑_ h.2},?_,S.ok}
 .simp only[Ms,vj0,aN,eC]at z;obtain z|z|z|z:=z
  .exact h.1 (by rw[z];simp)
  .exact bF h.2 he z
  .exact h.1 (by rw[z];simp)
  .exact h.1 (by rw[z];simp)
 .simp only[M0,vj0,aN,eC,gI]at b;simp only[Ms,vn3,vj0,aN,eC,gI];exact{{cJ b.1,e,i},{b.2.1,b.2.2},j,not_false,lO}
def Sit.close(S:Sit H hd en wd A D t r):Sit0 H hd wd A D t r:=by
 obtain⟨i,b,d,f,j,e⟩:=S.ne;refine{S.hand,S.told,S.held,S.w.map λa o h=>h.sub (by simp +contextual),?_,S.ok};simp only[M0,vn3,vj0,aN,eC,gI];exact{⟨b,d⟩,e,not_false,lO}
def FrS.close(he:H en=Qq)(f:FrS (Ms hd en A) (upd H en o) H1):FrS (M0 hd A) H H1:=λb u n e=>by
 have a:b≠en:=bF e he;refine f b u (λz=>?_) (by rw[aE a];exact e);simp only[Ms,vj0,aN,eC]at z;obtain z|z|z|z:=z
 .exact n (by rw[z];simp)
 .exact a z
 .exact n (by rw[z];simp)
 .exact n (by rw[z];simp)
theorem DOk.merge:∀(more:Qi (aK×V)){kvs:Qi (aK×V)},DOk U' N kvs->(∀b∈more,∃x∈U',b.1=Qt x/\(b.2=.non\/∃n∈N,b.2=.str n))->DOk U' N (cU kvs more)
 | [],kvs,h,_=>h
 | a::l,kvs,h,hm=>by
  obtain⟨x,i,e,d⟩:=hm a<|wL ..;show DOk U' N<|cU (aX kvs a.1 a.2) l;refine DOk.merge l ?_ λb f=>hm b<|jD _ f;rw[e];exact h.put i d
end
theorem Sit0.tup{A:WA}(S:Sit0 H hd wd A D t r)(f:FrS (M0 hd A) H H'):Tup H H':=by
 obtain⟨⟨d,m,i,q⟩,⟨o,h,j⟩,⟨l,e,n⟩,w,u,a1⟩:=S;refine FrS.tup f λb a s=>?_;simp only[M0,vj0,aN,eC]at a;obtain rfl|rfl|rfl:=a
 .rw[i];intro z;cases z
 .rw[h];intro z;cases z
 .rw[e];intro z;cases z
abbrev rM:Qd:=top 77
inductive KF(vs:Qi V)(H:Hp)(Q:VK)(_:XK):Prop
 | mk(hd wd:eH)(A:WA)(D:WD)(t r:Ql)(kd:zZ)(lv:Qk)(h1:vs=[.ref hd,.ref wd,.str kd,.int (lv:Ql)])(h2:kd∈D.names)(h3:lv<D.deeds.length)(h4:Sit0 H hd wd A D t r)(h5:0<=r)(h6:t+25*r+20<1000000)(h7:∀(x:eH)(dn:zZ)(pv gv:V)(l:eH)(rs fs:Z3)(H':Hp)(t' r':Ql),D.deeds[lv]?\dn->H' x\.tup [.str dn,pv,.ref l,gv]->DpG H' pv gv->H' l\(.tup<|rs.map R7)->Fl (fV D) H' 4 rs fs->(↑fs:Ql)+r'<=r->Sit0 H' hd wd A D t' r'->FrS (M0 hd A) H H'->0<=r'->r'<=r->t'+25*r'<=t+25*r+15->Q (.ref x) H')
abbrev GM:Z2:=[qH,qW,"_law_kind","_law_level","_law_deed_here","_law_pool","_law_wanted","_law_params","_law_env","_law_rows_here","_law_gives"]
abbrev JV:Z2:=[qH,qW,"_law_kind","_law_level"]
def yb3:cC GM JV (bX rM):=cF
def Cr(F:X0 "_law_deed" rM f fd)(T:X1 k "_law_take" qB iL)(O:X1 k "_law_of" qC (dP K))(V':X1 k "_law_variable" qA sT)(R:X1 k "_law_rows" mZ (vV 4))(ml:mg "len"=Qq)(c0:mg "list"=Qq)(mz:mg "zip"=Qq)(bt:mg "dict"=Qq)(bu:mg "tuple"=Qq):
  ↥JV KF:=by
 refine F.ok yb3 ⇑?_;obtain⟨hd,wd,WA,D,t,r,kd,N,rfl,bb,ac,S,hr0,ht,q⟩:=h;have C:=fL hr;have c5:(["_law_want","_law_pool",qH]:Z2).Nodup:=by rfl'
 exists _,aJ (sL 4 yb3.nd<|eI (dL C ⇑1 bW λ_ _=>U)<|pv 3)
  (aJ (jU (i:=5) yb3.nd rfl (jH rfl)<|cM qN (dL C ⇑1 bW λ_ _=>U)<|kT qP (dL C ⇑1 bW λ_ _=>U) mR<|kM aQ) (aJ (sL 6 yb3.nd<|dL C (dL C ⇑1 bW λ_ _=>U) (cZ<|aI (dL C (dL C ⇑1 bW λ_ _=>U) ⇑2 λ_ _=>U)<|av 4 aA) λ_ _=>U) (aJ (nB (i:=7) (N':=["_law_want","_law_pool",qH]) (src:=[Qq,Qp 5,Qp 0]) rfl yb3.nd rfl rfl eW (gY<|pv 6) (g:=cA 0) (λ_ _ _ _=>gL 0 c5) (λ_ _ _ _=>gP) (te:=yP K "list" SI (aG 1)<|bJ (hV iL [] E0<|bJ (aG 2)<|bJ (pP (λxs H Q=>∃p ys,xs=[.ref p]/\(SqL K H p ys\/SqT K H p ys)/\Q (.int ↑ys) H)<|bJ (aG 1) bN) bN) bN) λ_ _ _ _=>fR fU Xx Xw Ic ⇑1<|aI (⇑@T<|av 2<|aI (fO lR rfl ml iP<|av 1 aA) aA) aA) (aJ (sL 8 yb3.nd<|eV (MA rfl) rfl bt (by rfl')<|aI (cM qN (cX<|aI (cZ<|aI bW<|av 2 aA) aA)<|Nm rfl rfl c0 rfl mz<|av 7<|av 6 aA) aA)
  (aJ (sL 9 yb3.nd<|⇑@R<|av 0<|av 1<|av 8<|av 3<|aI (⇑@T<|av 0<|aI aQ aA)<|aI (⇑@O<|av 0<|aI (cX<|aI aQ<|aI aQ<|aI aQ<|aI aQ<|aI aQ aA) aA) aA)<|aJ (sL 10 yb3.nd<|⇑@O<|av 0<|aI (cX<|aI iV<|aI (bC V' hr rfl<|av 0<|av 1<|av 8 aA)<|aI (bC V' hr rfl<|av 0<|av 1<|av 8 aA) aA) aA)<|aJ (jT C (dL C ⇑1 bW λ_ _=>U) ⇑4 (El C ⇑8 ⇑10 ⟨rfl,rfl,rfl,rfl⟩) rfl)<|aY<|bR<|cZ<|av 4<|aI (eV gR rfl bu (by rfl')<|av 7 aA)<|av 9<|av 10 aA)))))
 ac_rfl
 have h6:=S.ok.d6;have hU:D.U.length=9:=by unfold WD.U;rw[cK,bK,S.ok.v4,S.ok.p4]
 have ak:D.deeds[N]∈D.deeds:=fP ac;have bo:fY (D.deeds.map R6) (N:Ql)\.str D.deeds[N]:=sC (by rw[bP,bM ac];rfl);exists 6,wd,6,S.w.g.2.2.1,6,WA.deeds,_,_,6,U,T1 S.w.deeds.2,bo;have bc:D.deeds[N]?=Qp D.deeds[N]:=bM ac;generalize D.deeds[N]=dn at ak bc;refine{6,wd,6,S.w.g.2.2.2.2.2.2.1,6,wd,6,S.w.g.2.2.2.2.2.1,6,WA.vars,6,T1 S.w.vars.2,λb0 b8=>?_};obtain⟨ds,ed,bw,c6⟩:=ZW D.vars Qq<|some 2;rw[ed];rw[S.ok.v4]at bw;have S1:=S.fr0<|S0 (S:=[]) (o:=.lst<|ds.map R6) b8;have f1:FrS (M0 hd WA) H (upd H b0<|.lst<|ds.map R6):=S0 b8;refine{WA.params,b0,_,6,U,S1.w.params.2,zb0,by rw[aF,aF,S.ok.p4];exact cQ (bS ∅),λu aa=>?_};generalize upd H b0 (.lst<|ds.map R6)=W at S1 f1 aa;rw[<-bU];have S2:=S1.fr0<|S0 (S:=[]) (o:=.lst<|(D.params++ds).map R6) aa;have f2:FrS (M0 hd WA) W (upd W u<|.lst<|(D.params++ds).map R6):=S0 aa;have a4:upd W u (.lst<|(D.params++ds).map R6) u\(.lst<|(D.params++ds).map R6):=zb0;generalize upd W u (.lst<|(D.params++ds).map R6)=H2 at S2 f2 a4;have an:↑(D.params++ds)=4+↑ds:=by rw[bK,S.ok.p4]
 have ab:∀x∈D.params++ds,x∈D.vars++D.params:=λx hx=>by
  obtain h|h:=vj7.mp hx
  .simp[h]
  .simp[c6 x h]
 generalize D.params++ds=ps at a4 an ab;obtain⟨rt,wp,ws,e1,e2,e3,e4,e5⟩:=S.w.wl kd bb dn ak;refine{6,wd,6,S2.w.g.2.2.2.1,6,wd,6,S2.w.g.2.2.2.2.2.2.2.2.2.2,6,WA.roots,6,.inl {_,Qt kd,.inl S2.w.roots.2,U,e1.symm},6,eQ rfl,λpk al=>?_};have S3:=S2.fr0<|S0 (S:=[]) (o:=.tup [R6 rt,R6 dn]) al;have f3:FrS (M0 hd WA) W (upd H2 pk<|.tup [R6 rt,R6 dn]):=f2.trans<|S0 al;have a5:upd H2 pk (.tup [R6 rt,R6 dn]) u\(.lst<|ps.map R6):=by rw[aE<|bF a4 al];exact a4
 exists WA.wants,.ref wp,U,.inr {_,[Qt rt,Qt dn],pk,.inl S3.w.wants.2,U,zb0,e2.symm};generalize upd H2 pk (.tup [R6 rt,R6 dn])=H3 at S3 f3 a5;have w3:=e3.keep<|f1.trans f3;have ax:u∉M0 hd WA:=S1.notin aa;refine{6,wp,U,{_,T1 w3.2},λB ad=>?_};have ae:B∉M0 hd WA:=S3.notin ad;have bv:W B=none:=f3.old S3.have_ ad;have ay:u≠B:=bF a5 ad;refine iT (xs:=ws.map R6) (λi σ G=>∃(kx:Qj V)(tx:Ql)(l qs:Z2),σ=[kx,Qp<|.ref u,Qp<|.ref hd]/\Sit0 G hd wd WA D tx r/\FrS (M0 hd WA) W G/\tx<=t+i/\G u\(.lst<|l.map R6)/\↑l+i=↑ps/\(∀x∈l,x∈D.vars++D.params)/\G B\(.lst<|qs.map R6)/\↑qs=i/\∀x∈qs,x∈D.vars++D.params)
  ⟨_,t,ps,[],rfl,S3.fr0<|S0 ad,f3.trans<|S0 ad,∅,by rw[aE ay];exact a5,∅,ab,zb0,rfl,by simp⟩ ?_ ?_ ?_
 .rintro i σ G hi ⟨_,_,_,_,_,_,fx,_⟩;exact T1 (e3.keep<|f1.trans fx).2
 .rintro i x σ G hx ⟨kx,tx,l,qs,rfl,Sx,fx,cp,as,bm,bf,c1,ai,a8⟩;obtain⟨hi,_⟩:=vh2.mp hx;rw[aF]at hi;obtain⟨d,m,X⟩:=Sx.hand;have cd:u≠hd:=λz=>ax (by rw[z];simp)
  refine{6,.inl {U,_,T1 as},6,6,u,6,.inl<|T1 as,hd,d,m,tx,r,6,X,∅,by rw[aF];lia,by rw[aF];lia,λy d' m' ty y0 y1 c e=>?_};rw[aF]at y1;have Sy:=Sx.setHand (r':=r) c;have fy:=fx.put' (a:=hd) (o:=hl d' m' ty r) ⇑_;have b2:upd G hd (hl d' m' ty r) u\(.lst<|l.map R6):=by rw[aE cd];exact as
  have bg:upd G hd (hl d' m' ty r) B\(.lst<|qs.map R6):=by rw[aE λz=>ae<|by rw[z];simp];exact c1
  generalize upd G hd (hl d' m' ty r)=Hy at Sy fy b2 bg;have b1:y.toNat<↑l:=by lia
  have bz:Vt y ↑(l.map R6)\y.toNat:=by
   unfold Vt;rw[aF];have g1:¬y<0:=by lia
   simp only[g1,iF];rw[bG<|by simp;lia]
  refine{u,_,y,y.toNat,.str l[y.toNat],U,U,b2,∅,∅,bz,by rw[bP,bM b1];rfl,?_};have bp:(l.map R6).eraseIdx y.toNat=(l.eraseIdx y.toNat).map R6:=by rw[Wc,Wc,bU,xL,FX]
  rw[bp];have S7:=Sit0.own (o:=.lst<|(l.eraseIdx y.toNat).map R6) S1 Sy fy aa;have bx:upd Hy u (.lst<|(l.eraseIdx y.toNat).map R6) B\(.lst<|qs.map R6):=by rw[aE ay.symm];exact bg
  have S8:=Sit0.own (o:=.lst<|qs.map R6++[R6 l[y.toNat]]) S1 S7.1 S7.2 bv;refine{_,bx,by rw[aF];exact bS ∅,_,ty,l.eraseIdx y.toNat,qs++[l[y.toNat]],U,S8.1,S8.2,∅,by rw[aE ay];exact zb0,?_,λx hx=>bf x<|List.mem_of_mem_eraseIdx hx,by rw[zb0,bU];rfl,by rw[bK,ai];rfl,λx hx=>?_}
  .rw[Qi.length_eraseIdx_of_lt b1];lia
  .obtain h|h:=vj7.mp hx
   .exact a8 x h
   .rw[vj1.mp h];exact bf _<|fP b1
 rintro σ J ⟨kx,t4,l,qs,rfl,S4,f4,ce,ck,_,_,ao,ai,a8⟩;rw[aF]at ce ai;have bd:FrS (M0 hd WA) H J:=f1.trans f4;have w4:=e3.keep bd;refine{6,eQ rfl,λpt bn=>{eQ rfl,λpo b3=>?_}};have f5:FrS [] J (upd (upd J pt<|.tup [R6 "own",R6 kd]) po<|.lst [R7 pt]):=(S0 bn).trans<|S0 b3;have af:upd (upd J pt<|.tup [R6 "own",R6 kd]) po (.lst [R7 pt]) po\.lst [R7 pt]:=zb0;have a6:upd (upd J pt<|.tup [R6 "own",R6 kd]) po (.lst [R7 pt]) pt\.tup [R6 "own",R6 kd]:=by rw[aE<|bF (o:=.tup [R6 "own",R6 kd]) zb0 b3];exact zb0
 generalize upd (upd J pt<|.tup [R6 "own",R6 kd]) po (.lst [R7 pt])=H5 at f5 af a6;refine{6,6,B,wp,qs.map R6,ws.map R6,U,T1<|f5 _ _ ⇑_ ao,T1<|f5 _ _ ⇑_ w4.2,by rw[aF,aF];exact ai,λzl ts H6 fz co c4 c8 bq=>?_};have f6:FrS [] J H6:=f5.trans λb o _ e=>fz b o e;rw[aF]at c8;refine{po,zl,_,6,U,fz _ _ af,c4,by rw[aF];show 1+↑ts<=sizeLine;exact cQ (bS ∅),λpc au=>?_};have f7:FrS [] J (upd H6 pc<|.lst<|[R7 pt]++ts.map R7):=f6.trans<|S0 au;have S7:=S4.fr0 f7;refine{pc,pt::ts,(Qt "own",.str kd)::(qs.zip ws).map (λp=>((Qt p.1:aK),R6 p.2)),U,T1 zb0,?_,?_,λj t' kv ba a9=>?_,λen aq=>?_}
 .rw[cK,cK,aF,zN];lia
 .rw[cK,aF,zN];exact bS ∅
 .cases j with
  | zero=>
   have a1:pt=t':=⇑[ba]
   have a2:((Qt "own":aK),R6 kd)=kv:=⇑[a9]
   subst a1 a2;exact T2 (by rw[aE<|bF (fz _ _ a6) au];exact fz _ _ a6)
  | succ j=>
   have a1:ts[j]?\t':=⇑[ba]
   have a2:((qs.zip ws).map λp=>((Qt p.1:aK),R6 p.2))[j]?\kv:=⇑[a9]
   obtain⟨x,y,g1,g2,g3⟩:=bq j t' a1;rw[bP]at g1 g2 a2;obtain⟨x',bj,rfl⟩:=vh8.mp g1;obtain⟨y',c2,rfl⟩:=vh8.mp g2;obtain⟨p,hp,rfl⟩:=vh8.mp a2;rw[JF]at hp;obtain⟨z1,z2⟩:=hp;rw[bj]at z1;rw[c2]at z2;cases z1;cases z2;exact T2 (by rw[aE<|bF g3 au];exact g3)
 have b7:B≠en:=bF (f7 _ _ ⇑_ ao) aq;have a9:DOk D.U D.names (cU []<|(Qt "own",.str kd)::(qs.zip ws).map (λp=>((Qt p.1:aK),R6 p.2))):=by
  refine DOk.merge _ DOk.nil λkv a9=>?_;obtain rfl|h:=vj0.mp a9
  .exact⟨"own",by unfold WD.U;simp,rfl,.inr ⟨kd,bb,rfl⟩⟩
  .obtain⟨p,hp,rfl⟩:=vj2.mp h;have:=xO hp;exact{p.1,.tail _<|a8 _ this.1,U,.inr {p.2,e5 _ this.2,U}}
 have S8:=S7.open aq a9;have be:Stt (Ms hd en WA) (upd (upd H6 pc<|.lst<|[R7 pt]++ts.map R7) en<|.dK<|cU []<|(Qt "own",.str kd)::(qs.zip ws).map (λp=>((Qt p.1:aK),R6 p.2))) B (.lst<|qs.map R6):=by
  refine{λz=>?_,by rw[aE b7];exact f7 _ _ ⇑_ ao};simp only[Ms,vj0,aN,eC]at z;simp only[M0,vj0,aN,eC,gI]at ae;obtain z|z|z|z:=z
  .exact ae.1 z
  .exact b7 z
  .exact ae.2.1 z
  .exact ae.2.2 z
 have b5:∀Hf:Hp,FrS (Ms hd en WA) (upd (upd H6 pc<|.lst<|[R7 pt]++ts.map R7) en<|.dK<|cU []<|(Qt "own",.str kd)::(qs.zip ws).map (λp=>((Qt p.1:aK),R6 p.2))) Hf->FrS (M0 hd WA) H Hf:=λHf ff=>(bd.trans<|f7.mono<|by trivial).trans<|FrS.close aq ff
 generalize upd (upd H6 pc<|.lst<|[R7 pt]++ts.map R7) en (.dK<|cU []<|(Qt "own",.str kd)::(qs.zip ws).map (λp=>((Qt p.1:aK),R6 p.2)))=H8 at S8 be b5;obtain⟨d,m,X⟩:=S8.hand;refine{6,6,6,6,6,hd,d,m,t4,r,3,U,X,∅,by decide,by decide,λx d9 m9 t9 x0 L c9 e9=>?_};obtain⟨dp,rfl⟩:∃dp:Qk,x=(dp:Ql):=⟨x.toNat,by lia⟩;have S9:=S8.setHand (r':=r) c9;have f9:FrS (Ms hd en WA) H8 (upd H8 hd<|hl d9 m9 t9 r):=T0 ⇑_;refine{6,eQ rfl,λpi aw=>?_};have Sa:=S9.fr0<|S0 (S:=[]) (o:=.lst [R8 1,R8 2,R8 3,R8 4,R8 6]) aw;have fa:=f9.trans<|S0 (o:=.lst [R8 1,R8 2,R8 3,R8 4,R8 6]) aw;have am:pi≠hd:=λz=>S9.notin aw (by rw[z];simp)
 obtain⟨d,m,X⟩:=Sa.hand;refine{hd,pi,d,m,t9,r,6,X,∅,am,T1 zb0,by simp,by show 5<1000;decide,λy db mb tb hy cb eb=>?_};obtain⟨mo,rfl,bk,ca⟩:∃mo:Ql,y=.int mo/\0<=mo/\mo<=100:=by
  simp only[vj0,aN,eC]at hy;obtain rfl|rfl|rfl|rfl|rfl:=hy
  .exact⟨1,rfl,by decide,by decide⟩
  .exact⟨2,rfl,by decide,by decide⟩
  .exact⟨3,rfl,by decide,by decide⟩
  .exact⟨4,rfl,by decide,by decide⟩
  .exact⟨6,rfl,by decide,by decide⟩
 have Sb:=Sa.setHand (r':=r) cb;have fb:=fa.put' (a:=hd) (o:=hl db mb tb r) ⇑_;refine{hd,en,wd,WA,D,tb,r,(N:Ql),mo,dp,U,∅,bk,ca,Sb,hr0,∅,λrv cf bi Hc tc I c7 bs ac Sc fc cj ci cl=>?_};have cc:=fb.trans fc;refine{6,6,6,6,hd,en,wd,WA,D,tc,I,U,Sc,∅,λL Hd td Sd b4 cq _=>?_};refine{6,6,6,hd,en,wd,WA,D,td,I,U,Sd,∅,λZ He te Se fe cm _=>?_};have br:=(cc.trans b4).trans fe;refine{eQ rfl,λpg ah=>?_};have Sf:=Se.fr0<|S0 (S:=[]) (o:=.lst [R9,R6 L,R6 Z]) ah;have ff:=br.trans<|S0 (o:=.lst [R9,R6 L,R6 Z]) ah;have ap:pg≠hd:=λz=>Se.notin ah (by rw[z];simp)
 obtain⟨d,m,X⟩:=Sf.hand;refine{hd,pg,d,m,te,I,6,X,∅,ap,T1 zb0,by simp,by show 3<1000;decide,λgv dg aj tg ag cg eg=>?_};have Sg:=Sf.setHand (r':=I) cg;have fg:=ff.put' (a:=hd) (o:=hl dg aj tg I) ⇑_;obtain⟨kv,a3,hk⟩:=Sg.env;obtain⟨kt,c3,b9⟩:=Sg.told;obtain⟨M,ar,bh⟩:∃M:Qj V,pA (upd (upd He pg<|.lst [R9,R6 L,R6 Z]) hd<|hl dg aj tg I) en gv M/\(M.getD .non=.non\/∃n∈D.names,M.getD .non=.str n):=by
  simp only[vj0,aN,eC]at ag;obtain rfl|rfl|rfl:=ag
  .exact⟨Qq,⟨kv,.inl a3,.inl ⟨rfl,rfl⟩⟩,.inl rfl⟩
  .exact⟨_,⟨kv,.inl a3,.inr ⟨Qt L,rfl,rfl⟩⟩,hk.get _⟩
  .exact⟨_,⟨kv,.inl a3,.inr ⟨Qt Z,rfl,rfl⟩⟩,hk.get _⟩
 exists 6,en,U,.inl {_,.inl a3},6,M,ar,6,wd,6,Sg.w.g.2.2.2.2.2.2.2.2.1,6,WA.told,6,DPut.k (k:=(Qt dn:aK)) c3<|bS (by have:=b9.len;lia);have Sh:=Sg.setTold<|b9.put ak bh;have fh:=fg.put' (a:=WA.told) (o:=.dK<|aX kt (Qt dn)<|M.getD .non) ⇑_;have ch:=be.keep fh;refine{6,6,B,6,.inl {T1 ch.2,λpq az=>?_}};refine{6,6,eQ rfl,λpr a7=>?_};have fk:FrS (Ms hd en WA) Hc (upd (upd (upd He pg<|.lst [R9,R6 L,R6 Z]) hd<|hl dg aj tg I) WA.told<|.dK<|aX kt (Qt dn)<|M.getD .non):=(((b4.trans fe).trans<|S0 ah).put'<|.head _).put'<|.tail _<|.tail _<|.head _;have b6:=(Sc.tup fk).trans<|(T3 az).trans<|T3 (o:=.tup [R6 dn,R7 pq,R7 rv,gv]) a7;have bl:DpG (upd (upd (upd (upd (upd He pg<|.lst [R9,R6 L,R6 Z]) hd<|hl dg aj tg I) WA.told<|.dK<|aX kt (Qt dn)<|M.getD .non) pq<|.tup<|qs.map R6) pr<|.tup [R6 dn,R7 pq,R7 rv,gv]) (.ref pq) gv:=by
  simp only[vj0,aN,eC]at ag;obtain rfl|rfl|rfl:=ag
  .exact⟨pq,_,Qq,rfl,(T3 a7) _ _ zb0,rfl,∅,λz=>S.ok.po<|a8 _ z⟩
  .exact⟨pq,_,Qp L,rfl,(T3 a7) _ _ zb0,rfl,∅,λz=>S.ok.po<|a8 _ z⟩
  .exact⟨pq,_,Qp Z,rfl,(T3 a7) _ _ zb0,rfl,∅,λz=>S.ok.po<|a8 _ z⟩
 exact q pr dn _ gv rv cf bi _ tg I bc zb0 bl (b6 _ _ c7) (bs.keep b6) ac ((Sh.fr0<|S0 az).fr0<|S0 a7).close (b5 _<|(fh.trans<|S0 az).trans<|S0 a7) cj ci ∅
def ND{K:Fq}{S:V->St->Hp->(St->Hp->Prop)->Prop}{D:St->Hp->Prop}(b:Qk->St->Hp->Prop)(h0:b 0 e H)(hl:∀i e H,i<=↑xs->b i e H->iM K tp H a xs)(hs:∀i x p e H,xs[i]?\x->b i e H->H p=Qq->S (.ref p) e (upd H p<|.tup [.int (i:Qk),x]) (b<|i+1))(hd:∀e H,b ↑xs e H->D e H):pJ (xJ tp K a) S D e H:=
 tH ↑xs b h0 (λi e H h p=>have q:=hl i e H (cQ h) p; ⟨⟨xs,xs[i],q,bM h⟩,by rintro _ _ ⟨t,x,d,rfl,rfl,y⟩;exact hs i x t e _ (y xs q) p d⟩) λe H p=>⟨⟨xs,hl _ e H (aV _) p,aV _⟩,hd e H p⟩
inductive zM(H:Hp)(hd pn pt pl:eH)(n:Qk)(way t r:Ql)(ws:Z2)(i:Qk)(σ:St)(Hx:Hp):Prop
 | mk(kx nx ex:Qj V)(dx mx tx:Ql)(tr:Tr)(ts:Z3)(late:Z2)(h1:σ=[Qp<|.ref hd,Qp<|.int (n:Ql),Qp<|.ref pn,Qp<|.int way,Qp<|.ref pt,Qp<|.ref pl,kx,nx,ex])
   (h2:FrS [hd] H Hx) (h3:Hand Hx hd dx mx tx r) (h4:tx<=t+12+3*(i:Ql)) (h5:Hx pn\(.lst<|ws.map R6)) (h6:Hx pt\(.lst<|ts.map R7)) (h7:Hx pl\(.lst<|late.map R6)) (h8:↑ts=i) (h9:tr.map (·.1)=ws.take i) (h10:TrOk tr)
   (h11:∀(j:Qk) t x,ts[j]?\t->tr[j]?\x->Hx t\.tup [.str x.1,bB x.2]) (h12:↑late<=i) (h13:∀x∈late,∃j,1<=j/\j<i/\ws[j]?\x) (h14:rO tr late):zM H hd pn pt pl n way t r ws i σ Hx
abbrev qS:Qd:=top 65
inductive QS(vs:Qi V)(H:Hp)(Q:VK)(_:XK):Prop
 | mk(hd:eH)(d m t r:Ql)(h1:vs=[.ref hd])(h2:Hand H hd d m t r)(h3:t+100<1000000)(h4:∀(a tp lp:eH)(ts:Z3)(tr:Tr)(late:Z2)(d' m' t':Ql)(H':Hp),FrS [hd] H H'->Hand H' hd d' m' t' r->t'<=t+60->H' a\.tup [.ref tp,.ref lp]->H tp=Qq->H lp=Qq->H' tp\(.lst<|ts.map R7)->↑ts=↑tr->(∀(j:Qk) t x,ts[j]?\t->tr[j]?\x->H' t\.tup [.str x.1,bB x.2])->TrOk tr->tr≠[]->↑tr<=12->H' lp\(.lst<|late.map R6)->rO tr late->↑late<=12->(∃x∈tr.map (·.1),x∉late)->(∀x∈late,x∈tr.map (·.1))->Q (.ref a) H')
abbrev GI:Z2:=[qH,"_law_many","_law_names","_law_way","_law_tree_here","_law_late","_law_k","_law_name","_law_elder"]
def zs0:cC GI [qH] (bX qS):=cF
def Gu(F:X0 "_law_tree" qS f fd)(T:X1 k "_law_take" qB iL)(O:X1 k "_law_of" qC (dP K))(W:X1 k "_law_words" qB IN)(ml:mg "len"=Qq)(me:mg "enumerate"=Qq):↥[qH] QS:=by
 refine F.ok zs0 ⇑?_;obtain⟨hd,d,m,t,r,rfl,hh,ht,q⟩:=h;have hu:=fL hr;exists _,aJ (sL 1 zs0.nd<|⇑@O<|av 0<|aI (cX<|eY<|eY<|eY<|eY<|eY<|eY<|eY<|eY aA) aA)
  (aJ (sL 2 zs0.nd<|⇑@W<|av 0<|av 1 aA)<|aJ (sL 3 zs0.nd<|⇑@T<|av 0<|aI aQ aA)<|aJ (sL 4 zs0.nd<|cX aA)<|aJ (sL 5 zs0.nd<|cX aA)<|aJ (eZ eN rfl (OH Qs rfl me<|av 2 aA) (dX (n:=2) rfl<|bI (gL 6 zs0.nd)<|bI (gL 7 zs0.nd) dV)<|aJ (sL 8 zs0.nd iV)<|aJ (cY (PW.pt<|nJ (cG pR ⇑6 aQ<|cS _)<|oX<|cG pR (⇑@T<|av 0<|aI aQ aA) aQ<|cS _) (aY<|sL 8 zs0.nd<|eI ⇑2<|eI (cX<|aI (cM pU ⇑6 aQ)<|aI aQ<|aI (cM EX (cM pU ⇑6 aQ) aQ)<|aI (⇑@T<|av 0<|av 6 aA) aA)<|pv 3) dJ)<|aJ (cY (PW.pt<|nJ (cG oH ⇑8 ⇑5 rfl)<|oX<|cG gF (fO lR rfl ml iP<|av 5 aA) aQ<|cS _) (aY<|sL 8 zs0.nd iV) dJ)<|aJ (cY (PW.pt<|IY (cG oH ⇑8 ⇑5 rfl)<|KW<|PW.pt<|nJ (cG tX (fO lR rfl ml iP<|av 5 aA) aQ<|cS _)<|nJ (cG pR ⇑6 aQ<|cS _)<|oX<|cG gF (⇑@T<|av 0<|aI aQ aA) aQ<|cS _) (aY<|eX<|fR fU hH hX gS ⇑5<|av 7 aA) dJ)<|aY<|eX<|fR fU hH hX gS ⇑4<|aI (cZ<|av 7<|av 8 aA) aA)<|aY<|bR<|cZ<|av 4<|av 5 aA)
 ac_rfl
 refine{6,eQ rfl,λp0 bh=>?_};have cw:p0≠hd:=λz=>by rw[z,hh.1]at bh;cases bh
 have ce:Hand (upd H p0<|.lst [R8 1,R8 2,R8 3,R8 4,R8 5,R8 6,R8 8,R8 12]) hd d m t r:=hh.new bh;have f0:FrS [hd] H (upd H p0<|.lst [R8 1,R8 2,R8 3,R8 4,R8 5,R8 6,R8 8,R8 12]):=S0 bh;have cc:upd H p0 (.lst [R8 1,R8 2,R8 3,R8 4,R8 5,R8 6,R8 8,R8 12]) p0\.lst [R8 1,R8 2,R8 3,R8 4,R8 5,R8 6,R8 8,R8 12]:=zb0;generalize upd H p0 (.lst [R8 1,R8 2,R8 3,R8 4,R8 5,R8 6,R8 8,R8 12])=H0 at ce f0 cc;refine{hd,p0,d,m,t,r,6,ce,∅,cw,T1 cc,by simp,by show 8<1000;decide,λx d1 m1 t1 hx c1 e1=>?_};obtain⟨n,rfl,n1,cp⟩:∃n:Qk,x=.int (n:Ql)/\1<=n/\n<=12:=by
  simp only[vj0,aN,eC]at hx;obtain rfl|rfl|rfl|rfl|rfl|rfl|rfl|rfl:=hx
  .exact⟨1,rfl,by decide,by decide⟩
  .exact⟨2,rfl,by decide,by decide⟩
  .exact⟨3,rfl,by decide,by decide⟩
  .exact⟨4,rfl,by decide,by decide⟩
  .exact⟨5,rfl,by decide,by decide⟩
  .exact⟨6,rfl,by decide,by decide⟩
  .exact⟨8,rfl,by decide,by decide⟩
  .exact⟨12,rfl,by decide,by decide⟩
 have f1:FrS [hd] H (upd H0 hd<|hl d1 m1 t1 r):=f0.put' ⇑_;have cd:Hand (upd H0 hd<|hl d1 m1 t1 r) hd d1 m1 t1 r:=Hand.at c1;generalize upd H0 hd (hl d1 m1 t1 r)=H1 at f1 cd;refine{6,6,hd,d1,m1,t1,r,n,U,cd,∅,cp,λpn ws d2 m2 t2 H2 f2 cj d0 d5 bc d4 ci _=>?_};have cs:=f1.trans f2;refine{6,hd,d2,m2,t2,r,4,U,cj,∅,by decide,by decide,λN d3 m3 t3 w0 w1 c3 e3=>?_};have bp:FrS [hd] H (upd H2 hd<|hl d3 m3 t3 r):=cs.put' ⇑_;have c7:Hand (upd H2 hd<|hl d3 m3 t3 r) hd d3 m3 t3 r:=Hand.at c3;have aq:upd H2 hd (hl d3 m3 t3 r) pn\(.lst<|ws.map R6):=by rw[aE<|jW bc cj];exact bc
 generalize upd H2 hd (hl d3 m3 t3 r)=H3 at bp c7 aq;refine{cE _,λpt b8=>?_};have c9:=c7.new (o:=.lst []) b8;have c5:FrS [hd] H (upd H3 pt<|.lst []):=bp.trans<|S0 b8;have ag:upd H3 pt (.lst []) pn\(.lst<|ws.map R6):=by rw[aE<|bF aq b8];exact aq
 have ah:upd H3 pt (.lst []) pt\.lst []:=zb0;have ak:H pt=none:=sA bp c7 b8;have br:pn≠pt:=bF aq b8;generalize upd H3 pt (.lst [])=H4 at c9 c5 ag ah;refine{cE _,λB ay=>?_};have c6:=c9.new (o:=.lst []) ay;have ch:FrS [hd] H (upd H4 B<|.lst []):=c5.trans<|S0 ay;have ai:upd H4 B (.lst []) pn\(.lst<|ws.map R6):=by rw[aE<|bF ag ay];exact ag
 have bf:upd H4 B (.lst []) pt\.lst []:=by rw[aE<|bF ah ay];exact ah
 have bd:upd H4 B (.lst []) B\.lst []:=zb0;have af:H B=none:=sA c5 c9 ay;have bm:pn≠B:=bF ag ay;have ba:pt≠B:=bF ah ay;generalize upd H4 B (.lst [])=H5 at c6 ch ai bf bd;have b4:pn≠hd:=jW ai c6;have as:pt≠hd:=λz=>by rw[z,hh.1]at ak;cases ak
 have ar:B≠hd:=λz=>by rw[z,hh.1]at af;cases af
 exists 6,pn,6,T1 ai;refine ND (tp:=Qs) (xs:=ws.map R6) (zM H hd pn pt B n N t r ws)
  ⟨_,_,_,d3,m3,t3,[],[],[],rfl,ch,c6,∅,ai,bf,bd,rfl,rfl,TrOk.nil,(λj t x h=>by simp at h),by simp,by simp,λ_ h=>nomatch h⟩ ?_ ?_ ?_
 .rintro i σ Hx hi ⟨_,_,_,_,_,_,_,_,_,_,_,_,_,aj,_⟩;exact T1 aj
 .rintro i x p σ Hx hx ⟨kx,nx,ex,dx,mx,tx,tr,ts,l,rfl,fx,bo,ck,aj,ax,b0,c8,ad,hok,bt,cf,b5,bi⟩ hp;obtain⟨hi,_⟩:=vh2.mp hx;rw[aF]at hi;rw[bP,bM hi]at hx;cases hx;have cb:ws[i]?=Qp ws[i]:=bM hi;exists p,6,T2 zb0,U,_,6,_,6,U;have keep:∀b o,Hx b\o->upd Hx p (.tup [R8 (i:Qk),R6 ws[i]]) b\o:=λb o e=>by rw[aE<|bF e hp];exact e
  have bj:FrS [hd] H (upd Hx p<|.tup [R8 (i:Qk),R6 ws[i]]):=fx.trans<|S0 hp;have ac:Hand (upd Hx p<|.tup [R8 (i:Qk),R6 ws[i]]) hd dx mx tx r:=bo.new hp;have an:∀(j:Qk) t x,ts[j]?\t->tr[j]?\x->upd Hx p (.tup [R8 (i:Qk),R6 ws[i]]) t\.tup [.str x.1,bB x.2]:=λj t x a b=>keep _ _<|bt j t x a b;have al:=keep _ _ aj;have am:=keep _ _ ax;have ap:=keep _ _ b0;generalize upd Hx p (.tup [R8 (i:Qk),R6 ws[i]])=Hy at bj ac an al am ap;have b6:ws[i]∉tr.map (·.1):=by
   rw[ad];intro hm;obtain⟨j,hj,ej⟩:=pI hm;rw[dR]at hj;rw[Vv]at ej;have:=(Uf ci).mp ej;lia
  have cl:∀(e:Qj zZ)(a6:Z2)(u:Hp)(X Z L:Ql),(∀x,e\x->x∈ws.take i)->FrS [hd] H u->Hand u hd X Z L r->L<=t+12+3*((i+1:Qk):Ql)->u pn\(.lst<|ws.map R6)->u pt\(.lst<|ts.map R7)->u B\(.lst<|a6.map R6)->
    (∀(j:Qk) t x,ts[j]?\t->tr[j]?\x->u t\.tup [.str x.1,bB x.2])->↑a6<=i+1->(∀x∈a6,∃j,1<=j/\j<i+1/\ws[j]?\x)->rO (tr++[(ws[i],e)]) a6->
    HU (yP K "list" zY (aG 4)<|bJ (fF<|bJ (aG 7)<|bJ (aG 8) bN) bN)
    ⟨zM H hd pn pt B n N t r ws<|i+1,λ_ _=>Qn,λ_ _=>Qn,λ_ _=>Qn⟩
    [Qp<|.ref hd,Qp<|.int (n:Ql),Qp<|.ref pn,Qp<|.int N,Qp<|.ref pt,Qp<|.ref B,Qp<|.int (i:Qk),Qp<|.str ws[i],Qp<|bB e] u:=by
   intro e a6 u X Z L he fz ae bs a7 a5 M a8 ct bx bv;refine{6,.inl {U,_,T1 a5},6,6,eQ rfl,λpp aw=>?_};have bb:upd u pp (.tup [R6 ws[i],bB e]) pt\(.lst<|ts.map R7):=by rw[aE<|bF a5 aw];exact a5
   have bn:pp≠pt:=λz=>by rw[z,a5]at aw;cases aw
   refine{pt,_,6,U,bb,by rw[aF];exact bS ∅,_,_,_,X,Z,L,tr++[(ws[i],e)],ts++[pp],a6,U,(fz.trans<|S0 aw).put ak,?_,bs,?_,?_,?_,?_,?_,?_,?_,ct,bx,bv}
   .exact⟨by rw[aE as.symm,aE<|bF ae.1 aw];exact ae.1,ae.2⟩
   .rw[aE br,aE<|bF a7 aw];exact a7
   .rw[zb0,bU];rfl
   .rw[aE ba.symm,aE<|bF M aw];exact M
   .rw[bK,c8];rfl
   .rw[bU,ad,dE,cb];rfl
   .exact hok.snoc b6 λx hx=>by rw[ad];exact he x hx
   .intro j t' x au hx;have c0:↑tr=↑ts:=by
     have:=cP Rk ad;rw[aF,dR]at this;lia
    by_cases hj:j<↑ts
    .rw[nV hj]at au;rw[nV ∅]at hx;have J:=a8 j t' x au hx;have h4:upd u pp (.tup [R6 ws[i],bB e]) t'\.tup [.str x.1,bB x.2]:=by rw[aE<|bF J aw];exact J
     rw[aE λz=>by rw[z,bb]at h4;cases h4];exact h4
    .rw[kU ∅]at au;rw[kU ∅,c0]at hx;have h0:j-↑ts=0:=by
      cases hz:j-↑ts with
      | zero=>rfl
      | succ k=>rw[hz]at au;simp at au
     rw[h0]at au hx;simp only[PX,Ut]at au hx;subst au hx;rw[aE bn];exact zb0
  have bk:∀(e:Qj zZ)(u:Hp)(X Z L:Ql),(∀x,e\x->x∈ws.take i)->(i=0->e=Qq)->FrS [hd] H u->Hand u hd X Z L r->L<=t+14+3*(i:Ql)->u pn\(.lst<|ws.map R6)->u pt\(.lst<|ts.map R7)->u B\(.lst<|l.map R6)->
    (∀(j:Qk) t x,ts[j]?\t->tr[j]?\x->u t\.tup [.str x.1,bB x.2])->
    gJ (jX (QD (iE<|dG (jF K Qs) (aG 8)<|aG 5)<|lN (iE<|dG (jO λi j=>.bl<|decide<|i<j) (pP (λxs H Q=>∃p ys,xs=[.ref p]/\(SqL K H p ys\/SqT K H p ys)/\Q (.int ↑ys) H)<|bJ (aG 5) bN)<|tC<|.int 6)<|lN (iE<|dG (jO λi j=>.bl<|decide<|j<i) (aG 6)<|tC<|.int 0)<|iE<|dG oF (hV iL [] E0<|bJ (aG 0)<|bJ (tC<|.int 4) bN)<|tC<|.int 0) (HU<|yP K "list" zY (aG 5)<|bJ (aG 7) bN) uL)
    (HU<|yP K "list" zY (aG 4)<|bJ (fF<|bJ (aG 7)<|bJ (aG 8) bN) bN)
    ⟨zM H hd pn pt B n N t r ws<|i+1,λ_ _=>Qn,λ_ _=>Qn,λ_ _=>Qn⟩
    [Qp<|.ref hd,Qp<|.int (n:Ql),Qp<|.ref pn,Qp<|.int N,Qp<|.ref pt,Qp<|.ref B,Qp<|.int (i:Qk),Qp<|.str ws[i],Qp<|bB e] u:=by
   intro e u X Z L he bg fz ae bs a7 a5 M a8;have fl:kJ (bB e)=true:=by cases e <;> rfl
   have app:1<=i->∀(G:Hp)(I C tv:Ql),FrS [hd] H G->Hand G hd I C tv r->tv<=t+15+3*(i:Ql)->G pn\(.lst<|ws.map R6)->G pt\(.lst<|ts.map R7)->G B\(.lst<|l.map R6)->
     (∀(j:Qk) t x,ts[j]?\t->tr[j]?\x->G t\.tup [.str x.1,bB x.2])->_:=λh1 G I C tv fv aa cn a3 a2 a1 a4=>
    cl e (l++[ws[i]]) (upd G B<|.lst<|l.map R6++[R6 ws[i]]) I C tv he (fv.put af) ⟨by rw[aE ar.symm];exact aa.1,aa.2⟩ ∅ (by rw[aE bm];exact a3) (by rw[aE ba];exact a2) (by rw[zb0,bU];rfl)
     (λj t x a b=>by have J:=a4 j t x a b;rw[aE λz=>by rw[z,a1]at J;cases J];exact J) (by rw[bK,fI];lia)
     (λx hx=>by
      obtain h|h:=vj7.mp hx
      .obtain⟨j,j1,j2,j3⟩:=b5 x h;exact{j,j1,∅,j3}
      .rw[vj1.mp h];exact{i,h1,∅,cb})
     (λx hx e0 e1 e2=>by
      obtain hx|hx:=vj7.mp hx
      .obtain e2|e2:=vj7.mp e2
       .exact nC _<|bi x hx e0 e1 e2
       .exact absurd (hok.elder hx e1) (by rw[vj1.mp e2];exact b6)
      .rw[vj1.mp hx];exact jE _<|.head _)
   have ca:(∀e0,e\e0->e0∉l)->∀(G:Hp)(I C tv:Ql),FrS [hd] H G->Hand G hd I C tv r->tv<=t+15+3*(i:Ql)->G pn\(.lst<|ws.map R6)->G pt\(.lst<|ts.map R7)->G B\(.lst<|l.map R6)->
     (∀(j:Qk) t x,ts[j]?\t->tr[j]?\x->G t\.tup [.str x.1,bB x.2])->_:=λb7 G I C tv fv aa cn a3 a2 a1 a4=>
    cl e l G I C tv he fv aa ∅ a3 a2 a1 a4 ∅ (λx hx=>by
      obtain⟨j,j1,j2,j3⟩:=b5 x hx;exact{j,j1,∅,j3}) (λx hx e0 e1 e2=>by
      obtain hx|hx:=vj7.mp hx
      .exact bi x hx e0 e1 e2
      .rw[vj1.mp hx]at e1;exact absurd e2<|b7 e0 e1)
   exists 6,6,B,6,.inl<|T1 M,fl,jL _,6;refine bE (λc=>?_) λc=>?_
   .have h1:1<=i:=by
     obtain h|h:=Qk.eq_zero_or_pos i
     .exfalso;rw[bg h]at c;have:l=[]:=ud5.mp ∅;rw[this]at c;cases c
     .exact h
    exact{6,.inl {U,_,T1 M},6,B,_,6,U,M,by rw[aF];exact bS ∅,app h1 u X Z L fz ae ∅ a7 a5 M a8}
   .have b7:∀e0,e\e0->e0∉l:=λe0 z hm=>c (by
     rw[z];show gC (.str e0) (l.map R6)=Qr;rw[jS];exact cN hm)
    exists 6,B,6,.inl<|T1 M,_,6,U,6;refine bE (λc2=>?_) λc2=>ca b7 u X Z L fz ae ∅ a7 a5 M a8;exists 6,_,6,U,6;refine bE (λc3=>?_) λc3=>ca b7 u X Z L fz ae ∅ a7 a5 M a8;have h1:(0:Ql)<(i:Ql):=dH c3;refine{6,hd,X,Z,L,r,4,U,ae,∅,by decide,by decide,λy I C tv y0 y1 cv ev=>{U,6,?_}};have aa:Hand (upd u hd<|hl I C tv r) hd I C tv r:=Hand.at cv;have fv:FrS [hd] H (upd u hd<|hl I C tv r):=fz.put' ⇑_;have a3:upd u hd (hl I C tv r) pn\(.lst<|ws.map R6):=by rw[aE b4];exact a7
    have a2:upd u hd (hl I C tv r) pt\(.lst<|ts.map R7):=by rw[aE as];exact a5
    have a1:upd u hd (hl I C tv r) B\(.lst<|l.map R6):=by rw[aE ar];exact M
    have a4:∀(j:Qk) t x,ts[j]?\t->tr[j]?\x->upd u hd (hl I C tv r) t\.tup [.str x.1,bB x.2]:=λj t x a b=>by
     have J:=a8 j t x a b;rw[aE λz=>by rw[z,ae.1]at J;cases J];exact J
    refine bE (λc4=>?_) λc4=>ca b7 _ I C tv fv aa ∅ a3 a2 a1 a4;exact{6,.inl {U,_,T1 a1},6,B,_,6,U,a1,by rw[aF];exact bS ∅,app ∅ _ I C tv fv aa ∅ a3 a2 a1 a4}
  have b2:∀(e:Qj zZ)(u:Hp)(X Z L:Ql),(∀x,e\x->x∈ws.take i)->(i=0->e=Qq)->FrS [hd] H u->Hand u hd X Z L r->L<=t+14+3*(i:Ql)->u pn\(.lst<|ws.map R6)->u pt\(.lst<|ts.map R7)->u B\(.lst<|l.map R6)->
    (∀(j:Qk) t x,ts[j]?\t->tr[j]?\x->u t\.tup [.str x.1,bB x.2])->∀R:TS,(∀e':Qj zZ,(∀x,e'\x->x∈ws.take i)->(i=0->e'=Qq)->R ⟨zM H hd pn pt B n N t r ws<|i+1,λ_ _=>Qn,λ_ _=>Qn,λ_ _=>Qn⟩ [Qp<|.ref hd,Qp<|.int (n:Ql),Qp<|.ref pn,Qp<|.int N,Qp<|.ref pt,Qp<|.ref B,Qp<|.int (i:Qk),Qp<|.str ws[i],Qp<|bB e'] u)->
    gJ (jX (lN (iE<|dG (jF K Qs) (aG 8)<|aG 5)<|iE<|dG oF (pP (λxs H Q=>∃p ys,xs=[.ref p]/\(SqL K H p ys\/SqT K H p ys)/\Q (.int ↑ys) H)<|bJ (aG 5) bN)<|tC<|.int 6) (gH (tC .non)<|cA 8) uL) R
    ⟨zM H hd pn pt B n N t r ws<|i+1,λ_ _=>Qn,λ_ _=>Qn,λ_ _=>Qn⟩
    [Qp<|.ref hd,Qp<|.int (n:Ql),Qp<|.ref pn,Qp<|.int N,Qp<|.ref pt,Qp<|.ref B,Qp<|.int (i:Qk),Qp<|.str ws[i],Qp<|bB e] u:=by
   intro e u X Z L he bg fz ae bs a7 a5 M a8 R hR;have fl:kJ (bB e)=true:=by cases e <;> rfl
   exists 6,6,B,6,.inl<|T1 M,fl,jL _,6;refine bE (λc=>?_) λc=>hR e he bg;exists 6,B,6,.inl<|T1 M,U,6;refine bE (λc=>?_) λc=>hR e he bg;exact hR Qq (λx hx=>nomatch hx) λ_=>rfl
  exists 6,_,6,U,6;refine bE (λc=>?_) λc=>?_
  rotate_left
  .exact b2 Qq Hy dx mx tx (λx hx=>nomatch hx) (λ_=>U) bj ac ∅ al am ap an _ λe' b9 ab=>bk e' Hy dx mx tx b9 ab bj ac ∅ al am ap an
  have cz:(0:Ql)<(i:Ql):=dH c;refine{6,hd,dx,mx,tx,r,(6),U,ac,∅,by decide,by decide,λy I C tv y0 y1 cv ev=>{_,6,U,6,?_}};have aa:Hand (upd Hy hd<|hl I C tv r) hd I C tv r:=Hand.at cv;have fv:FrS [hd] H (upd Hy hd<|hl I C tv r):=bj.put' ⇑_;have a3:upd Hy hd (hl I C tv r) pn\(.lst<|ws.map R6):=by rw[aE b4];exact al
  have a2:upd Hy hd (hl I C tv r) pt\(.lst<|ts.map R7):=by rw[aE as];exact am
  have a1:upd Hy hd (hl I C tv r) B\(.lst<|l.map R6):=by rw[aE ar];exact ap
  have a4:∀(j:Qk) t x,ts[j]?\t->tr[j]?\x->upd Hy hd (hl I C tv r) t\.tup [.str x.1,bB x.2]:=λj t x a b=>by
   have J:=an j t x a b;rw[aE λz=>by rw[z,ac.1]at J;cases J];exact J
  generalize upd Hy hd (hl I C tv r)=G at aa fv a3 a2 a1 a4;refine bE (λc=>?_) λc=>?_
  rotate_left
  .exact b2 Qq G I C tv (λx hx=>nomatch hx) (λ_=>U) fv aa ∅ a3 a2 a1 a4 _ λe' b9 ab=>bk e' G I C tv b9 ab fv aa ∅ a3 a2 a1 a4
  refine{6,6,_,6,U,6,_,6,U,_,6,U,{by decide,by decide},6,6,hd,I,C,tv,r,6,aa,∅,∅,∅,λz du mu tu z0 z1 cu eu=>{eQ rfl,λp4 bq=>?_}};have bu:Hand (upd G hd<|hl du mu tu r) hd du mu tu r:=Hand.at cu;have cx:FrS [hd] H (upd G hd<|hl du mu tu r):=fv.put' ⇑_;have kp:∀b o,b≠hd->G b\o->upd (upd G hd<|hl du mu tu r) p4 (.lst [R8<|(i:Ql)-1,R8 0,R8<|((i:Ql)-1) / 2,R8 z]) b\o:=λb o n e=>by
   have h1:upd G hd (hl du mu tu r) b\o:=by rw[aE n];exact e
   rw[aE<|bF h1 bq];exact h1
  have bz:=bu.new (o:=.lst [R8<|(i:Ql)-1,R8 0,R8<|((i:Ql)-1) / 2,R8 z]) bq;have fu:FrS [hd] H (upd (upd G hd<|hl du mu tu r) p4<|.lst [R8<|(i:Ql)-1,R8 0,R8<|((i:Ql)-1) / 2,R8 z]):=cx.trans<|S0 bq;have cg:upd (upd G hd<|hl du mu tu r) p4 (.lst [R8<|(i:Ql)-1,R8 0,R8<|((i:Ql)-1) / 2,R8 z]) p4\.lst [R8<|(i:Ql)-1,R8 0,R8<|((i:Ql)-1) / 2,R8 z]:=zb0;have ao:=kp _ _ b4 a3;have b1:=kp _ _ as a2;have az:=kp _ _ ar a1;have b3:∀(j:Qk) t x,ts[j]?\t->tr[j]?\x->upd (upd G hd<|hl du mu tu r) p4 (.lst [R8<|(i:Ql)-1,R8 0,R8<|((i:Ql)-1) / 2,R8 z]) t\.tup [.str x.1,bB x.2]:=λj t x a b=>by
   have J:=a4 j t x a b;exact kp _ _ (λw=>by rw[w,aa.1]at J;cases J) J
  generalize upd (upd G hd<|hl du mu tu r) p4 (.lst [R8<|(i:Ql)-1,R8 0,R8<|((i:Ql)-1) / 2,R8 z])=Hu at bz fu cg ao b1 az b3;obtain⟨ix,cq,cy,cm⟩:∃ix:Qk,fY [R8<|(i:Ql)-1,R8 0,R8<|((i:Ql)-1) / 2,R8 z] N\.int (ix:Ql)/\0<=ix/\ix<i:=by
   have hc:N=0\/N=1\/N=2\/N=3:=by lia
   obtain rfl|rfl|rfl|rfl:=hc
   .exact⟨i-1,by rw[JM];congr 2;lia,∅,by lia⟩
   .exact⟨0,by rw[AX];rfl,∅,by lia⟩
   .exact⟨(((i:Ql)-1) / 2).toNat,by rw[QK];congr 2;lia,∅,by lia⟩
   .exact⟨z.toNat,by rw[FZ];congr 2;lia,∅,by lia⟩
  have co:fY (ws.map R6) (ix:Ql)\(.str<|ws[ix]'∅):=sC (by rw[bP,bM ∅];rfl);exists 6,p4,_,_,6,U,T1 cg,cq,pn,_,_,6,U,T1 ao,co;have cr:∀x,Qp (ws[ix]'∅)\x->x∈ws.take i:=λx hx=>by
   cases hx;have:(ws.take i)[ix]?\ws[ix]'∅:=by rw[ML cm];exact bM ∅
   exact dM this
  exact b2 (Qp<|ws[ix]'∅) Hu du mu tu cr (λh=>by lia) fu bz ∅ ao b1 az b3 _ λe' b9 ab=>bk e' Hu du mu tu b9 ab fu bz ∅ ao b1 az b3
 .rintro σ Hx ⟨kx,nx,ex,dx,mx,tx,tr,ts,l,rfl,fx,bo,ck,aj,ax,b0,c8,ad,hok,bt,cf,b5,bi⟩;rw[aF]at ck c8 ad cf b5;rw[cW<|aV _]at ad;have be:↑tr=↑ws:=by rw[<-ad,aF]
  refine{6,6,eQ rfl,λpa bw=>?_};have kp:∀b o,Hx b\o->upd Hx pa (.tup [R7 pt,R7 B]) b\o:=λb o e=>by rw[aE<|bF e bw];exact e
  refine q pa pt B ts tr l dx mx tx _ (fx.trans<|S0 bw) (bo.new bw) ∅ zb0 ak af (kp _ _ ax) ∅ (λj t x a b=>kp _ _<|bt j t x a b) hok ?_ ∅ (kp _ _ b0) ?_ ∅ ?_ λx hx=>by obtain⟨j,_,_,e⟩:=b5 x hx;rw[ad];exact dM e
  .intro z;rw[z]at be;simp at be;lia
  .exact bi
  .have h0:0<↑ws:=by lia
   refine{ws[0],by rw[ad];exact fP h0,λhm=>?_};obtain⟨j,j1,j2,j3⟩:=b5 _ hm;obtain⟨j4,j5⟩:=vh2.mp j3;have:=(Uf ci).mp j5;lia
def HD:Qi Qd->Qc
 | [.Return (Qp v) _]=>v
 | _::r=>HD r
 | []=>.Constant .none 0 ⟨0,0,0,0⟩
def ZN:Qi Qd->Qc->Qi Qd
 | [.Return (Qp _) p],v=>[.Return (Qp v) p]
 | a::r,v=>a::ZN r v
 | [],_=>[]
structure ZM(X:Cx)(e:Qc)(t:TE):Prop where
 of:PE X e t
def Ml{f:Type}[DecidableEq f]{kvs:Qi (f×V)}{k:f}{v:V}(h:aO kvs k\v):(k,v)∈kvs:=by
 unfold aO at h;obtain⟨p,i,e⟩:=vh8.mp h;have b:=oE i;have a:=uT i;have d:p.1=k:=dH a;rw[<-d,<-e];exact b
theorem NP{b:Type}[DecidableEq b]:∀{kvs:Qi (b×V)}{i:Qk}{k:b}{v:V},(kvs.map (·.1)).Nodup->kvs[i]?\(k,v)->aO kvs k\v
 | [],i,k,v,_,h=>by simp at h
 | a::l,0,k,v,_,h=>by
  have:a=(k,v):=⇑[h]
  rw[this];exact lV rfl
 | a::l,i+1,k,v,nd,h=>by
  have d:l[i]?\(k,v):=⇑[h]
  rw[eE,vn3]at nd;rw[mF λe=>nd.1<|by rw[e];exact vj2.mpr {_,dM d,U}];exact NP nd.2 d
def Aa:∀(more kvs:Qi (aK×V)),((kvs++more).map (·.1)).Nodup->cU kvs more=kvs++more:=λmore=>more.recOn
 (λkvs _=>by rw[eA];rfl)
 λa l f kvs h=>by
  have b:aO kvs a.1=none:=by
   cases e:aO kvs a.1 with
   | none=>rfl
   | some v=>
    have d:=IV e;rw[bU,eE]at h;have:=(uk4.mp h).2.2 a.1 d a.1<|wL ..;exact absurd rfl this
  show cU (aX kvs a.1 a.2) l=_;rw[LZ _ b,f (kvs++[(a.1,a.2)]) (by rw[dY];exact h),dY];rfl
theorem Ai:∀(more kvs:Qi (aK×V)),(∀k,k∈(cU kvs more).map (·.1)↔k∈kvs.map (·.1)\/k∈more.map (·.1))
 | [],kvs,k=>by simp[cU]
 | a::l,kvs,k=>by
  show k∈(cU (aX kvs a.1 a.2) l).map (·.1)↔_;rw[Ai l (aX kvs a.1 a.2) k,eE,vj0];obtain⟨e,h⟩|⟨e,h⟩:=NS kvs a.1 a.2
  .rw[e]
   constructor
   .rintro(b | b)
    .exact .inl b
    .exact .inr<|.inr b
   .rintro(b | b | b)
    .exact .inl b
    .rw[b];exact .inl h
    .exact .inr b
  .rw[e,vj7,vj1]
   constructor
   .rintro((b | b) | b)
    .exact .inl b
    .exact .inr<|.inl b
    .exact .inr<|.inr b
   .rintro(b | b | b)
    .exact .inl<|.inl b
    .exact .inl<|.inr b
    .exact .inr b
def Ef(rs:Z2)(v:V):∃qs:Z2,(cU []<|rs.map λr=>((Qt r:aK),v)).map (λi=>kV i.1)=qs.map R6/\↑qs<=↑rs/\∀r∈rs,r∈qs:=by
 have d:=Ai (rs.map λr=>((Qt r:aK),v)) [];have f:∀l:Qi (aK×V),(∀k∈l.map (·.1),∃x,k=Qt x)->∃qs:Z2,l.map (λi=>kV i.1)=qs.map R6/\↑qs=↑l/\∀x,(Qt x:aK)∈l.map (·.1)->x∈qs:=by
  intro l
  induction l with
  | nil=>intro _;exact{[],U,U,by simp}
  | cons a l m=>
   intro h;obtain⟨qs,e,j,em⟩:=m λk d=>h k<|jD _ d;obtain⟨x,ex⟩:=h a.1 ↥_;refine⟨x::qs,by rw[eE,eE,e,ex];rfl,by simp[j],λy b=>?_⟩;rw[eE,vj0]at b;obtain b|b:=b
   .rw[ex]at b;rw[oT b];exact wL ..
   .exact jD _<|em y b
 obtain⟨qs,e,j,em⟩:=f (cU []<|rs.map λr=>((Qt r:aK),v)) λk h=>by
  obtain h|h:=(d k).mp h
  .simp at h
  .rw[gU]at h;obtain⟨x,_,ex⟩:=vj2.mp h;exact{x,ex.symm}
 refine{qs,e,?_,λr n=>em r<|(d _).mpr<|.inr ?_}
 .have:=BD (rs.map λr=>((Qt r:aK),v)) [];rw[aF,iX]at this;lia
 .rw[gU];exact vj2.mpr ⟨r,n,rfl⟩
def WantsOk(M:Z3)(H:Hp)(N:Z2)(e:Qi (Qi aK×V))(b:zZ->zZ->Prop):Prop:=∀r d,b r d->∃(p:eH)(a:Z2),aO e [Qt r,Qt d]\.ref p/\Stt M H p (.lst<|a.map R6)/\↑a<=4/\∀x∈a,x∈N
theorem WantsOk.keep(h:WantsOk M H N wk dn)(f:FrS M H H'):WantsOk M H' N wk dn:=λr d q=>by
 obtain⟨p,e,a,b,c⟩:=h r d q;exact{p,e,a,b.keep f,c}
def WantsOk.put{M:Z3}{H:Hp}{N:Z2}{f:Qi (Qi aK×V)}{n:zZ->zZ->Prop}{r d:zZ}{p:eH}{ws:Z2}(h:WantsOk M H N f n)(hp:Stt M H p (.lst<|ws.map R6))(hl:↑ws<=4)(j:∀x∈ws,x∈N):
  WantsOk M H N (aX f [Qt r,Qt d]<|.ref p) (λa b=>n a b\/(a=r/\b=d)):=λa b q=>by
 by_cases e:([Qt a,Qt b]:Qi aK)=[Qt r,Qt d]
 .exact⟨p,ws,by rw[oY,bG e],hp,hl,j⟩
 .obtain q|⟨rfl,rfl⟩:=q
  .obtain⟨m,i,a1,b1,l⟩:=h a b q;exact{m,i,by rw[oY,bA e];exact a1,b1,l}
  .exact absurd rfl e
def WantsOk.mono(h:WantsOk M H N wk dn)(f:∀r d,dn' r d->dn r d):WantsOk M H N wk dn':=λr d q=>h r d<|f r d q
def OwnOk(M:Z3)(H:Hp)(N:Z2)(ok:Qi (aK×V))(a:zZ->Prop):Prop:=∀d,a d->∃(p:eH)(os:Z2),aO ok (Qt d)\.ref p/\Stt M H p (.lst<|os.map R6)/\os.Sublist N/\↑os<=13
theorem OwnOk.keep(h:OwnOk M H N ok dn)(f:FrS M H H'):OwnOk M H' N ok dn:=λd q=>by
 obtain⟨p,os,a,b,c⟩:=h d q;exact{p,os,a,b.keep f,c}
def OwnOk.put{M:Z3}{H:Hp}{N:Z2}{ok:Qi (aK×V)}{l:zZ->Prop}{d:zZ}{p:eH}{os:Z2}(h:OwnOk M H N ok l)(hp:Stt M H p (.lst<|os.map R6))(f:os.Sublist N)(hl:↑os<=13):
  OwnOk M H N (aX ok (Qt d)<|.ref p) (λa=>l a\/a=d):=λa q=>by
 by_cases e:(Qt a:aK)=Qt d
 .exact⟨p,os,by rw[oY,bG e],hp,f,hl⟩
 .obtain q|rfl:=q
  .obtain⟨j,b,a1,b1,i⟩:=h a q;exact{j,b,by rw[oY,bA e];exact a1,b1,i}
  .exact absurd rfl e
def OwnOk.mono'(h:OwnOk M H N ok dn)(f:∀d,dn' d->dn d):OwnOk M H N ok dn':=λd q=>h d<|f d q
def RootsOk(tr:Tr)(i:Qk)(a:Qi (aK×V)):Prop:=a.map (·.1)=(tr.take i).map (λz=>(Qt z.1:aK))/\∃b:Z2,a.map (·.2)=b.map R6
def RootsOk.step(ok:TrOk tr)(h:RootsOk tr i rk)(hi:tr[i]?\(n,e)):RootsOk tr (i+1) (aX rk (Qt n)<|.str r)/\↑(aX rk (Qt n)<|.str r)=i+1\/i > ↑tr:=by
 left
 have d:n∉(tr.take i).map (·.1):=λs=>by
  obtain⟨z,u,a⟩:=vj2.mp s;obtain⟨j,o,f⟩:=pI u;rw[dR]at o;have m:tr[j]?\(n,z.2):=by rw[bM ∅,<-a,<-f,Vv]
  have:=ok.one hi m;lia
 have b:aO rk (Qt n)=none:=by
  cases q:aO rk (Qt n)with
  | none=>rfl
  | some v=>
   have:=IV q;rw[h.1]at this;obtain⟨z,u,a⟩:=vj2.mp this;exact absurd (vj2.mpr {z,u,oT a}) d
 obtain⟨x,l⟩:=h.2;have a1:i<↑tr:=(vh2.mp hi).1;rw[LZ _ b];exists {?_,x++[r],?_}
 .rw[bU,h.1,dE,hi,bU];rfl
 .rw[bU,l,bU];rfl
 .have:=cP Rk h.1;rw[aF,aF,dR]at this;rw[bK,fI];lia
def RootsOk.val{tr:Tr}{i:Qk}{a:Qi (aK×V)}(h:RootsOk tr i a){k:aK}{v:V}(d:aO a k\v):∃r,v=.str r/\R6 r∈a.map (·.2):=by
 have f:=Ml d;obtain⟨l,e⟩:=h.2;have:v∈a.map (·.2):=vj2.mpr ⟨_,f,rfl⟩;have j:=this;rw[e]at this;obtain⟨r,_,b⟩:=vj2.mp this;exact{r,b.symm,by rw[b];exact j}
def Pv(xs:Qi V)(h:b<=↑xs)(d:a<=b):dU xs (Qp (a:Ql)) (Qp (b:Ql))=(xs.drop a).take (b-a):=by
 unfold dU;rw[HT.FV,HT.FV,zB h,zB ∅]
inductive EQ(Hb:Hp)(hd tp lp pn pd px pw po pr:eH)(r t6:Ql)(rk:Qi (aK×V))(rs ds:Z2)(tr:Tr)(i:Qk)(σ:St)(Hx:Hp):Prop
 | mk(nx ex dx sx:Qj V)(da ma ta:Ql)(wk:Qi (Qi aK×V))(ok:Qi (aK×V))(h1:σ=[Qp<|.ref hd,Qp<|.ref tp,Qp<|.ref lp,Qp<|.ref pn,Qp<|.ref pd,Qp<|.ref px,Qp<|.ref pw,Qp<|.ref po,Qp<|.ref pr,nx,ex,dx,sx])
   (h2:FrS [hd,pw,po,pr] Hb Hx) (h3:Hand Hx hd da ma ta r) (h4:ta<=t6+80*(i:Ql)) (h5:Hx pr\.dK rk) (h6:Hx pw\.dT wk) (h7:↑wk<=12*i) (h8:WantsOk [hd,pw,po,pr] Hx (tr.map (·.1)) wk (λa b=>a∈rs/\b∈ds.take i)) (h9:Hx po\.dK ok) (h10:↑ok<=i) (h11:OwnOk [hd,pw,po,pr] Hx (tr.map (·.1)) ok (λb=>b∈ds.take i)):EQ Hb hd tp lp pn pd px pw po pr r t6 rk rs ds tr i σ Hx
inductive FK(H9:Hp)(hd tp lp pn pd px pw po pr:eH)(r ta:Ql)(rk ok:Qi (aK×V))(rs qs:Z2)(tr:Tr)(dsi:Z2)(di:zZ)(ex sx:Qj V)(i j:Qk)(σ:St)(Hz:Hp):Prop
 | mk(nx:Qj V)(dz mz tz:Ql)(wz:Qi (Qi aK×V))(h1:σ=[Qp<|.ref hd,Qp<|.ref tp,Qp<|.ref lp,Qp<|.ref pn,Qp<|.ref pd,Qp<|.ref px,Qp<|.ref pw,Qp<|.ref po,Qp<|.ref pr,nx,ex,Qp<|.str di,sx])
   (h2:FrS [hd,pw,po,pr] H9 Hz) (h3:Hand Hz hd dz mz tz r) (h4:tz<=ta+5*(j:Ql)) (h5:Hz pr\.dK rk) (h6:Hz pw\.dT wz) (h7:↑wz<=12*i+j) (h8:WantsOk [hd,pw,po,pr] Hz (tr.map (·.1)) wz (λa b=>(a∈rs/\b∈dsi)\/(a∈qs.take j/\b=di))) (h9:Hz po\.dK ok):FK H9 hd tp lp pn pd px pw po pr r ta rk ok rs qs tr dsi di ex sx i j σ Hz
inductive DY(H10:Hp)(hd tp lp pn pd px pw po pr ps:eH)(r tA:Ql)(tr:Tr)(di:zZ)(j:Qk)(σ:St)(Hz:Hp):Prop
 | mk(nz ez:Qj V)(dz mz tz:Ql)(ss:Z2)(h1:σ=[Qp<|.ref hd,Qp<|.ref tp,Qp<|.ref lp,Qp<|.ref pn,Qp<|.ref pd,Qp<|.ref px,Qp<|.ref pw,Qp<|.ref po,Qp<|.ref pr,nz,ez,Qp<|.str di,Qp<|.ref ps])(h2:FrS [hd] H10 Hz)(h3:Hand Hz hd dz mz tz r)(h4:tz<=tA+(j:Ql))(h5:Hz ps\(.lst<|ss.map R6))(h6:↑ss<=j)(h7:ss.Sublist ((tr.map (·.1)).take j)):DY H10 hd tp lp pn pd px pw po pr ps r tA tr di j σ Hz
abbrev nZ:Qd:=top 66
def OD:gZ nZ=ZN (gZ nZ) (HD<|gZ nZ):=rfl
inductive MT(vs:Qi V)(H:Hp)(Q:VK)(_:XK):Prop
 | mk(hd:eH)(d m t r:Ql)(h1:vs=[.ref hd])(h2:Hand H hd d m t r)(h3:t+1000<1000000)(h4:∀(wd:eH)(A:WA)(D:WD)(H':Hp)(t':Ql),Sit0 H' hd wd A D t' r->FrS [hd] H H'->H A.told=Qq->H A.held=Qq->t'<=t+900->Q (.ref wd) H')
def mN(h:N σ H):({nx:=N,rt:=r,bk:=b,ct:=c}:jC).nx σ H:=h
def gN(h:Q (σ.set i<|some v) H):cA i v σ H Q:=h
def fW(h:∀N:St->Hp->Prop,u D=N->t {D with nx:=N} σ H):gJ t u D σ H:=h _ rfl
abbrev RH:Z2:=[qH,"_law_tree_here","_law_late","_law_names","_law_deeds","_law_words_here","_law_wants","_law_owners","_law_roots","_law_name","_law_elder","_law_deed_here","_law_some"]
def zj3:cC RH [qH] (bX nZ):=cF
abbrev YL(K:Fq):Qi (TE×TE):=[(tC<|.str "tree",aG 1),(tC<|.str "late",aG 2),(tC<|.str "deeds",aG 4),(tC<|.str "wants",aG 6),(tC<|.str "owners",aG 7),(tC<|.str "vars",KA (pN K) (aG 5) RS<|HI<|tC<|.int 4),(tC<|.str "params",KA (pN K) (aG 5) (HI<|tC<|.int 4)<|HI<|tC<|.int 8),(tC<|.str "fields",KA (pN K) (aG 5) (HI<|tC<|.int 6) RS),(tC<|.str "told",PQ),(tC<|.str "held",PQ),(tC<|.str "roots",aG 8)]
def Cn{a:iH}{A:Qf}{outer:Qi Yg}{s:Pw}{H:Hp}{E:XK}:ZM (gX bT P w K mg base RH "_law_world" (bX nZ) f a A outer s H E).nox (HD<|gZ nZ) (PV<|YL K):=by
 constructor
 refine Gw (mS bW ⇑1 ?_) rfl rfl (by intro z;cases z) ↥?_;refine mS bW ⇑2 ?_;refine mS bW ⇑4 ?_;refine mS bW ⇑6 ?_;refine mS bW ⇑7 ?_;refine mS bW (kT qP ⇑5 mR<|kM aQ) ?_;refine mS bW (kT qP ⇑5 (kM aQ)<|kM aQ) ?_;refine mS bW (kT qP ⇑5 (kM aQ) mR) ?_;refine mS bW pK ?_;refine mS bW pK ?_;exact mS bW ⇑8 UL
def Ff(F:X0 "_law_world" nZ f fd)(T:X1 k "_law_take" qB iL)(O:X1 k "_law_of" qC (dP K))(W:X1 k "_law_words" qB IN)(TR:X1 k "_law_tree" [qH] QS)(i6:mg "dict"=Qq)(mr:mg "range"=Qq)(mi:mg "int"=Qq):↥[qH] MT:=by
 refine F.ok zj3 λil A outer s H vs Q E hr h=>?_;obtain⟨hd,d,m,t,r,rfl,hh,ht,q⟩:=h;have hu:=fL hr;have nd2:(["_law_name","_law_elder"]:Z2).Nodup:=by rfl'
 have nd1:(["_law_root"]:Z2).Nodup:=by rfl'
 have ib:(["_law_k",qH,"_law_names"]:Z2).Nodup:=by rfl'
 have hO:ZM (gX bT P w K mg base RH "_law_world" (bX nZ) f il A outer s H E).nox (HD<|gZ nZ) (PV<|YL K):=Cn;rw[OD];generalize HD (gZ nZ)=L at hO;exists _,aJ (hZ (⇑@TR<|av 0 aA)<|dX (n:=2) rfl<|bI (gL 1 zj3.nd)<|bI (gL 2 zj3.nd) dV)
  (aJ (jU (i:=3) zj3.nd rfl (jH rfl)<|jB (N':=["_law_name","_law_elder"]) (src:=[Qq,Qq]) rfl eW (gY<|pv 1) (g:=eP K 2<|eG (cA 0)<|eG (cA 1) eO) (λ_ _ _ _=>dX (n:=2) rfl<|bI (gL 0 nd2)<|bI (gL 1 nd2) dV) (λ_ _ _ _=>gP) λ_ _ _ _=>pv 0) (aJ (sL 4 zj3.nd<|⇑@W<|av 0<|aI (⇑@O<|av 0<|aI (cX<|eY<|eY<|eY<|eY<|eY<|eY<|eY<|eY aA) aA) aA) (aJ (sL 5 zj3.nd<|⇑@W<|av 0<|aI aQ aA) (aJ (sL 6 zj3.nd Mu) (aJ (sL 7 zj3.nd pK) (aJ (sL 8 zj3.nd pK) (aJ (eZ eN rfl (gY<|pv 1) (dX (n:=2) rfl<|bI (gL 9 zj3.nd)<|bI (gL 10 zj3.nd) dV)<|aY<|jT hu ⇑8 ⇑9 (Ci hu ⇑8 ⇑10 ⇑9 ⟨rfl,rfl,rfl,rfl⟩) rfl) (aJ (eZ eN rfl (gY<|pv 4) (gL 11 zj3.nd) (aJ (eZ eN rfl (IR (eV (MA rfl) rfl i6 (by rfl') (aI (ZE (jB (N':=["_law_root"]) (src:=[Qq]) rfl eW
     (Kz<|pv 8) (g:=cA 0) (λ_ _ _ _=>gL 0 nd1) (λ_ _ _ _=>gP) (λ_ _ _ _=>cZ<|av 0<|aI nX aA))) aA))) (gL 9 zj3.nd)
    (aY<|jT hu ⇑6 (cZ<|av 9<|av 11 aA) (jB (N':=["_law_k",qH,"_law_names"]) (src:=[Qq,Qp 0,Qp 3]) rfl eW (oW rfl mr<|aI (⇑@O<|av 0<|aI (cX<|eY<|eY<|eY<|eY<|eY aA) aA) aA) (g:=cA 0) (λ_ _ _ _=>gL 0 ib) (λ_ _ _ _=>gP) λ_ _ _ _=>⇑@O<|av 1<|av 2 aA) rfl))
   (aJ (sL 12 zj3.nd<|cX aA) (aJ (eZ eN rfl (gY<|pv 1) (dX (n:=2) rfl<|bI (gL 9 zj3.nd)<|bI (gL 10 zj3.nd) dV) (aY (cY (cG gF (⇑@T<|av 0<|aI (eI (cX<|eY<|eY aA)<|eV JZ rfl mi (by rfl')<|aI (xB<|wX<|pv 10) aA) aA) aQ<|cS _)
     (aY<|eX<|fR fU hH hX gS ⇑12<|av 9 aA) dJ)))
   (aY<|jT hu ⇑7 ⇑11 (cM qN ⇑12<|cM uP (cX<|aI (eI ⇑3 aQ) aA)<|eV JZ rfl mi (by rfl')<|aI (HZ (VB<|rS hu) ⇑12 (cX aA)<|cS _) aA) rfl)))))
  (aY<|bR hO.of)))))))))
 ac_rfl
 refine fW λN M=>?_;refine{6,hd,d,m,t,r,U,hh,∅,λa tp lp ts tr late d1 m1 t1 H1 f1 fc j2 ha c6 c5 aq fr g8 hok g0 fk cz go i0 i9 hw=>?_};exists a,6,T2 ha,U,_,6,_,6,U;subst M
 first | refine mN ?_ | skip
 refine fW λN M=>?_;refine{6,tp,U,{_,T1 aq},λpn hk=>?_};refine PP (tr:=tr) aq fr g8 hk ∅ λH2 f2 bo=>?_
 subst M
 first | refine mN ?_ | skip
 refine fW λN M=>?_;have ci:Hand H2 hd d1 m1 t1 r:=⟨f2 _ _ ⇑_ fc.1,fc.2⟩;have gy:FrS [hd] H H2:=f1.trans (f2.mono<|by trivial);have d7:=f2 _ _ ⇑_ aq;have d0:=f2 _ _ ⇑_ cz;have bw:∀(j:Qk) t x,ts[j]?\t->tr[j]?\x->H2 t\.tup [.str x.1,bB x.2]:=λj t x a b=>f2 _ _ ⇑_<|g8 j t x a b
 have ar:tp≠hd:=λz=>by rw[z,hh.1]at c6;cases c6
 have b6:lp≠hd:=λz=>by rw[z,hh.1]at c5;cases c5
 refine{6,6,eQ rfl,λp0 cf=>?_};have h7:p0≠hd:=λz=>by rw[z,ci.1]at cf;cases cf
 have ge:=ci.new (o:=.lst [R8 1,R8 2,R8 2,R8 3,R8 3,R8 4,R8 4,R8 6]) cf;have f3:FrS [] H2 (upd H2 p0<|.lst [R8 1,R8 2,R8 2,R8 3,R8 3,R8 4,R8 4,R8 6]):=S0 cf;have fw:upd H2 p0 (.lst [R8 1,R8 2,R8 2,R8 3,R8 3,R8 4,R8 4,R8 6]) p0\.lst [R8 1,R8 2,R8 2,R8 3,R8 3,R8 4,R8 4,R8 6]:=zb0;generalize upd H2 p0 (.lst [R8 1,R8 2,R8 2,R8 3,R8 3,R8 4,R8 4,R8 6])=H3 at ge f3 fw;refine{hd,p0,d1,m1,t1,r,6,ge,∅,h7,T1 fw,by simp,by show 8<1000;decide,λx d4 m4 t4 hx c4 e4=>?_};obtain⟨n,rfl,n1,n6⟩:∃n:Qk,x=.int (n:Ql)/\1<=n/\n<=6:=by
  simp only[vj0,aN,eC]at hx;obtain rfl|rfl|rfl|rfl|rfl|rfl|rfl|rfl:=hx
  .exact⟨1,rfl,by decide,by decide⟩
  .exact⟨2,rfl,by decide,by decide⟩
  .exact⟨2,rfl,by decide,by decide⟩
  .exact⟨3,rfl,by decide,by decide⟩
  .exact⟨3,rfl,by decide,by decide⟩
  .exact⟨4,rfl,by decide,by decide⟩
  .exact⟨4,rfl,by decide,by decide⟩
  .exact⟨6,rfl,by decide,by decide⟩
 have f4:FrS [hd] H2 (upd H3 hd<|hl d4 m4 t4 r):=(f3.mono<|by trivial).put' ⇑_;have ft:Hand (upd H3 hd<|hl d4 m4 t4 r) hd d4 m4 t4 r:=Hand.at c4;generalize upd H3 hd (hl d4 m4 t4 r)=H4 at f4 ft;refine{hd,d4,m4,t4,r,n,U,ft,∅,∅,λpd ds d5 m5 t5 H5 f5 fo iv j6 c8 g7 hs hq=>?_};subst M
 first | refine mN ?_ | skip
 refine fW λN M=>?_;refine{6,hd,d5,m5,t5,r,9,U,fo,∅,by decide,λpx xs d6 m6 t6 H6 f6 ah j0 iu bx ir ip g9=>?_};subst M
 first | refine mN ?_ | skip
 refine fW λN M=>?_;have c1:FrS [hd] H2 H6:=(f4.trans f5).trans f6;have co:FrS [hd] H H6:=gy.trans c1;have ao:pd≠hd:=jW c8 fo;have em:px≠hd:=jW bx ah;have ab:pn≠hd:=jW bo ci;have dh:∀(j:Qk) t x,ts[j]?\t->tr[j]?\x->t≠hd:=λj t x a b z=>by have h3:=bw j t x a b;rw[z,ci.1]at h3;cases h3
 have cx:=c1 _ _ ⇑[ar] d7;have ej:=c1 _ _ ⇑[b6] d0;have dk:=c1 _ _ ⇑[ab] bo;have e8:=f6 _ _ ⇑[ao] c8;have d9:∀(j:Qk) t x,ts[j]?\t->tr[j]?\x->H6 t\.tup [.str x.1,bB x.2]:=λj t x a b=>c1 _ _ ⇑[dh j t x a b]<|bw j t x a b
 intro G cg;subst M
 first | refine mN ?_ | skip
 refine fW λN M=>?_;intro C bc;subst M
 first | refine mN ?_ | skip
 refine fW λN M=>?_;intro u b2;subst M
 first | refine mN ?_ | skip
 refine fW λN M=>?_;have an:H6 C=none:=by rw[<-aE (H:=H6) (a:=G) (b:=C) (o:=.dT []) (λz=>by rw[z,zb0]at bc;cases bc)];exact bc
 have ad:C≠G:=λz=>by rw[z,zb0]at bc;cases bc
 have aj:u≠G:=λz=>by rw[z,aE ad.symm,zb0]at b2;cases b2
 have af:u≠C:=λz=>by rw[z,zb0]at b2;cases b2
 have b3:H6 u=none:=by rw[aE af,aE aj]at b2;exact b2
 have fi:upd (upd (upd H6 G<|.dT []) C<|.dK []) u (.dK []) G\.dT []:=by rw[aE aj.symm,aE ad.symm];exact zb0
 have fe:upd (upd (upd H6 G<|.dT []) C<|.dK []) u (.dK []) C\.dK []:=by rw[aE af.symm];exact zb0
 have fh:upd (upd (upd H6 G<|.dT []) C<|.dK []) u (.dK []) u\.dK []:=zb0;have fb:FrS [] H6 (upd (upd (upd H6 G<|.dT []) C<|.dK []) u<|.dK []):=((S0 cg).trans<|S0 bc).trans<|S0 b2;generalize upd (upd (upd H6 G<|.dT []) C<|.dK []) u (.dK [])=Hb at fi fe fh fb;have gf:Hand Hb hd d6 m6 t6 r:=⟨fb _ _ ⇑_ ah.1,ah.2⟩;have cl:hd≠G:=bF ah.1 cg;have cp:hd≠C:=bF ah.1 an;have cr:hd≠u:=bF ah.1 b3;have a6:∀b o,b≠hd->H6 b\o->Stt [hd,G,C,u] Hb b o:=λb o n e=>⟨by simp only[vj0,aN,eC,gI];exact{n,bF e cg,bF e an,bF e b3},fb _ _ ⇑_ e⟩
 have be:=a6 _ _ ar cx;have i3:=a6 _ _ b6 ej;have i1:=a6 _ _ ab dk;have eo:=a6 _ _ ao e8;have gp:=a6 _ _ em bx;have ax:∀(j:Qk) t x,ts[j]?\t->tr[j]?\x->Stt [hd,G,C,u] Hb t (.tup [.str x.1,bB x.2]):=λj t x a b=>a6 _ _ (dh j t x a b)<|d9 j t x a b;have h5:FrS [hd] H Hb:=co.trans (fb.mono<|by trivial);have dj:H G=none:=sA co ah cg;have eu:H C=none:=sA co ah an;have er:H u=none:=sA co ah b3;have et:∀B:Hp,FrS [hd,G,C,u] Hb B->FrS [hd] H B:=λB J b o n e=>J b o (by
  simp only[vj0,aN,eC,gI]at n ⊢;exact{n,bF e dj,bF e eu,bF e er}) (h5 b o n e)
 have cc:∀B:Hp,(∃o,B hd\o)->(∃o,B G\o)->(∃o,B C\o)->(∃o,B u\o)->∀p,B p=Qq->p∉[hd,G,C,u]:=λB a b c e p hp z=>by
  simp only[vj0,aN,eC]at z;obtain z|z|z|z:=z
  .obtain⟨o,ho⟩:=a;rw[<-z,hp]at ho;cases ho
  .obtain⟨o,ho⟩:=b;rw[<-z,hp]at ho;cases ho
  .obtain⟨o,ho⟩:=c;rw[<-z,hp]at ho;cases ho
  .obtain⟨o,ho⟩:=e;rw[<-z,hp]at ho;cases ho
 exists 6,tp,U,{_,T1 be.2};refine iT (xs:=ts.map R7) (λi σ B=>∃(nx ex:Qj V)(I:Qi (aK×V)),σ=[Qp<|.ref hd,Qp<|.ref tp,Qp<|.ref lp,Qp<|.ref pn,Qp<|.ref pd,Qp<|.ref px,Qp<|.ref G,Qp<|.ref C,Qp<|.ref u,nx,ex,Qq,Qq]/\FrS [u] Hb B/\B u\.dK I/\RootsOk tr i I) {_,_,[],U,FrS.refl,fh,U,[],U} ?_ ?_ ?_
 .rintro i σ B hi ⟨_,_,_,_,J,_⟩;exact T1 (be.keep<|J.mono<|by trivial).2
 .rintro i x σ B hx ⟨nx,ex,I,rfl,J,a8,ay⟩;rw[bP]at hx;obtain⟨tt,aa,rfl⟩:=vh8.mp hx;obtain⟨hi,_⟩:=vh2.mp aa;have bj:tr[i]?=Qp tr[i]:=bM ∅;have e3:=(ax i tt _ aa bj).keep (J.mono<|by trivial);exists tt,6,T2 e3.2,U,_,6,_,6,U;have iz:I.length<=12:=by
   have:=cP Rk ay.1;rw[aF,aF,dR]at this;lia
  obtain⟨ov,d8,r',id⟩:∃ov:Qj V,pA B u (bB tr[i].2) ov/\∃r',ov.getD (.str tr[i].1)=.str r':=by
   cases he:tr[i].2 with
   | none=>exact{Qq,{I,.inl a8,.inl ⟨rfl,rfl⟩},6}
   | some e=>
    exists _,{I,.inl a8,.inr {Qt e,U,U}};cases hv:aO I (Qt e)with
    | none=>exact{6}
    | some v=>
     obtain⟨r',rfl,_⟩:=ay.val hv;exact⟨r',rfl⟩
  exists 6,u,U,.inl {_,.inl a8},6,6,ov,d8,6,6,u,6,DPut.k (k:=(Qt tr[i].1:aK)) a8 (bS ∅),_,_,6,J.put' ⇑_,zb0;rw[id];obtain h|h:=RootsOk.step (r:=r') (n:=tr[i].1) (e:=tr[i].2) hok ay bj
  .exact h.1
  .lia
 rintro σ H7 ⟨it,j3,I,rfl,f7,h6,ay⟩;subst M
 first | refine mN ?_ | skip
 refine fW λN M=>?_;rw[aF]at ay;have a9:=ay;unfold RootsOk at a9;rw[cW ∅]at a9;obtain⟨rs,ch⟩:=a9.2;have ie:↑rs=↑tr:=by
  have h1:=cP Rk a9.1;have h2:=cP Rk ch;rw[aF,aF]at h1 h2;lia
 have ff:FrS [hd,G,C,u] Hb H7:=f7.mono ⇑_;have ic:Hand H7 hd d6 m6 t6 r:=⟨f7 _ _ ⇑[cr] gf.1,gf.2⟩;have im:=f7 _ _ ⇑[aj.symm] fi;have h8:=f7 _ _ ⇑[af.symm] fe;exists 6,pd,U,{_,T1 (eo.keep ff).2};refine iT (xs:=ds.map R6) (EQ Hb hd tp lp pn pd px G C u r t6 I rs ds tr)
  ⟨_,_,_,_,d6,m6,t6,[],[],rfl,ff,ic,∅,h6,im,by simp,(λr d h=>by simp at h),h8,by simp,(λd h=>by simp at h)⟩ ?_ ?_ ?_
 .rintro i σ B hi ⟨_,_,_,_,_,_,_,_,_,_,J,_⟩;exact T1 (eo.keep J).2
 .rintro i x σ B hx ⟨nx,ex,dx,sx,da,ma,ta,wk,ok,rfl,J,au,fa,a8,ck,h9,bn,cd,gn,a0⟩;obtain⟨hi,_⟩:=vh2.mp hx;rw[aF]at hi;rw[bP,bM hi]at hx;cases hx;have a5:∀X:Hp,FrS [hd,G,C,u] Hb X->X pn\(.lst<|(tr.map (·.1)).map R6):=λX fy=>(i1.keep fy).2;have bm:(tr.map (·.1))≠[]:=⇑[g0]
  have gz:↑(tr.map (·.1))<=12:=by rw[aF];exact fk
  refine gN ?_;refine fW λN2 br=>?_;exists u,I,a8;refine{6,u,I,U,a8,λo Dl b8=>?_};have f9:Dl≠u:=λz=>by rw[z,zb0]at b8;cases b8
  have j1:B Dl=none:=by rw[aE f9]at b8;exact b8
  refine EZ (xs:=I.map λkv=>kv.2) (λi' σ X=>(∃x,σ=[x])/\FrS [] (upd B u<|.frz o<|.dK I) X/\∃as:Z3,↑as=i'/\X Dl\(.lst<|as.map R7)/\∀(j:Qk) a,as[j]?\a->∃rt,rs[j]?\rt/\X a\.tup [.str rt,.bl Qr]) {{6},(FrS.refl).put b8,[],U,zb0,(λj a h=>by simp at h)} ?_ ?_ ?_
  .rintro i' σ X hi ⟨_,fy,_⟩;exact fy _ _ ⇑_ zb0
  .rintro i' x σ X hx ⟨⟨x0,rfl⟩,fy,as,dc,cj,has⟩;rw[ch]at hx;obtain⟨ec,_⟩:=vh2.mp hx;rw[aF]at ec;rw[bP,bM ec]at hx;cases hx;refine{6,eQ rfl,λtq ct=>?_};have hg:Dl≠tq:=bF cj ct;have cw:upd X tq (.tup [R6 rs[i'],V.bl Qr]) Dl\(.lst<|as.map R7):=by rw[aE hg];exact cj
   refine{_,cw,by rw[aF];exact bS ∅,{6},(fy.trans<|S0 ct).put b8,as++[tq],by rw[bK,dc];rfl,by rw[zb0,bU];rfl,λj a' e=>?_}
   by_cases hj:j<↑as
   .rw[nV hj]at e;obtain⟨rt,e1,e2⟩:=has j a' e;have e3:upd X tq (.tup [R6 rs[i'],V.bl Qr]) a'\.tup [.str rt,.bl Qr]:=by rw[aE<|bF e2 ct];exact e2
    exact{rt,e1,LS cw _ _ e3}
   .rw[kU ∅]at e;have h0:j-↑as=0:=by
     cases hz:j-↑as with
     | zero=>rfl
     | succ k=>rw[hz]at e;simp at e
    rw[h0]at e;simp only[PX,Ut]at e;subst e;have:j=i':=by lia
    subst this;exact{_,bM ec,LS cw _ _ zb0}
  rintro σ X ⟨_,fy,as,dc,cj,has⟩;rw[aF]at dc;have gm:I.length=↑rs:=by
   have h2:=cP Rk ch;rw[aF,aF]at h2;exact h2
  exists o,fy _ _ ⇑_ zb0;have f8:FrS [] B (upd X u<|.dK I):=FrS.thaw a8 fy;have fs:upd X u (.dK I) Dl\(.lst<|as.map R7):=by rw[aE f9];exact cj
  have c0:∀(j:Qk) a,as[j]?\a->∃rt,rs[j]?\rt/\upd X u (.dK I) a\.tup [.str rt,.bl Qr]:=λj a e=>by
   obtain⟨rt,e1,e2⟩:=has j a e;exact{rt,e1,by rw[aE λz=>by rw[z,fy _ _ ⇑_ zb0]at e2;cases e2];exact e2}
  generalize upd X u (.dK I)=H8 at f8 fs c0;refine{Dl,as,rs.map λr=>((Qt r:aK),V.bl Qr),U,T1 fs,by rw[aF];lia,by rw[aF];exact bS ∅,λj t' kv i7 gh=>?_,λl gc=>?_}
  .obtain⟨rt,e1,e2⟩:=c0 j t' i7;rw[bP,e1]at gh;cases gh;exact T2 e2
  refine{l,6,zb0,λo2=>?_};obtain⟨qs,eq,iq,gs⟩:=Ef rs<|.bl Qr;generalize cU [] (rs.map λr=>((Qt r:aK),V.bl Qr))=ba at eq;rw[iN];have ae:FrS [] B (upd H8 l<|.frz o2<|.dK ba):=f8.trans<|S0 gc;have gg:upd H8 l (.frz o2<|.dK ba) l\(.frz o2<|.dK ba):=zb0;generalize upd H8 l (.frz o2<|.dK ba)=H9 at ae gg;have gl:B l=none:=f8.old ⇑_ gc;have gk:l∉[hd,G,C,u]:=cc B ⟨_,au.1⟩ ⟨_,ck⟩ ⟨_,cd⟩ ⟨_,a8⟩ l gl;refine EZ (xs:=ba.map λkv=>kV kv.1) (FK H9 hd tp lp pn pd px G C u r ta I ok rs qs tr (ds.take i) ds[i] ex sx i)
   ⟨_,da,ma,ta,wk,rfl,FrS.refl,⟨ae _ _ ⇑_ au.1,au.2⟩,∅,ae _ _ ⇑_ a8,ae _ _ ⇑_ ck,∅,(bn.keep<|ae.mono<|by trivial).mono (λa b h=>by obtain h|h:=h;exact h;simp at h),ae _ _ ⇑_ cd⟩ ?_ ?_ ?_
  .rintro j σ Z hj ⟨_,_,_,_,_,_,fz,_⟩;exact fz _ _ gk gg
  .rintro j x σ Z hx ⟨ix,dz,mz,tz,wz,rfl,fz,ag,e5,f0,gd,gq,de,g6⟩;rw[eq]at hx;obtain⟨hj,_⟩:=vh2.mp hx;rw[aF]at hj;rw[bP,bM hj]at hx;cases hx;have ig:FrS [hd,G,C,u] Hb Z:=(J.trans<|ae.mono<|by trivial).trans fz;refine{6,eQ rfl,λp5 bf=>?_};have ih:p5≠hd:=λz=>by rw[z,ag.1]at bf;cases bf
   refine{hd,p5,dz,mz,tz,r,6,ag.new bf,∅,ih,T1 zb0,by simp,by show 5<1000;decide,λy dq mq tq hy cq j7=>?_};obtain⟨jn,rfl,iw⟩:∃jn:Qk,y=.int (jn:Ql)/\jn<=4:=by
    simp only[vj0,aN,eC]at hy;obtain rfl|rfl|rfl|rfl|rfl:=hy
    .exact⟨0,rfl,by decide⟩
    .exact⟨1,rfl,by decide⟩
    .exact⟨1,rfl,by decide⟩
    .exact⟨2,rfl,by decide⟩
    .exact⟨4,rfl,by decide⟩
   have fq:FrS [hd] Z (upd (upd Z p5<|.lst [R8 0,R8 1,R8 1,R8 2,R8 4]) hd<|hl dq mq tq r):=(S0 bf).put' ⇑_;have cm:Hand (upd (upd Z p5<|.lst [R8 0,R8 1,R8 1,R8 2,R8 4]) hd<|hl dq mq tq r) hd dq mq tq r:=Hand.at cq;generalize upd (upd Z p5<|.lst [R8 0,R8 1,R8 1,R8 2,R8 4]) hd (hl dq mq tq r)=Hq at fq cm;refine{(jn:Ql),U,∅,∅,λDw b9=>?_};have bh:Dw≠hd:=λz=>by rw[z,cm.1]at b9;cases b9
   have cu:Z Dw=none:=sA fq cm b9;have bk:Dw∉[hd,G,C,u]:=cc Z ⟨_,ag.1⟩ ⟨_,gd⟩ ⟨_,g6⟩ ⟨_,f0⟩ Dw cu;refine pB (lo:=0) (n:=(jn:Ql).toNat) (λe9 σ Hu=>(∃kx,σ=[kx,Qp<|.ref hd,Qp<|.ref pn])/\FrS [hd] Hq Hu/\∃(du mu tu:Ql)(ws:Z2),Hand Hu hd du mu tu r/\tu<=tq+e9/\Hu Dw\(.lst<|ws.map R6)/\↑ws=e9/\∀x∈ws,x∈tr.map (·.1))
    ⟨⟨_,rfl⟩,S0 b9,dq,mq,tq,[],cm.new b9,∅,zb0,rfl,by simp⟩ ?_ ?_
   .rintro e9 σ Hu i4 ⟨⟨kx,rfl⟩,fu,du,mu,tu,ws,ed,hf,cn,bv,am⟩;have dg:Hu pn\(.lst<|(tr.map (·.1)).map R6):=fu _ _ ⇑[ab]<|fq _ _ ⇑[ab]<|a5 Z ig;refine{6,6,hd,pn,du,mu,tu,r,6,ed,∅,ab,T1 dg,⇑[bm],by rw[aF];lia,λv dv mv tv hv cv ev=>?_};obtain⟨nm,hc,rfl⟩:=vj2.mp hv;refine{_,by rw[aE bh];exact cn,by rw[aF];exact bS ∅,{6},(fu.put'<|by trivial).put b9,dv,mv,tv,ws++[nm],{by rw[aE bh.symm];exact zb0,cv},∅,by rw[zb0,bU];rfl,by rw[bK,bv];rfl,λx hx=>?_};obtain h|h:=vj7.mp hx
    .exact am x h
    .rw[vj1.mp h];exact hc
   rintro σ Hu ⟨_,fu,du,mu,tu,ws,ed,hf,cn,bv,am⟩;have ii:FrS [hd] Z Hu:=fq.trans fu;refine{6,6,6,eQ rfl,λpk dp=>?_};have bd:FrS [hd] Z (upd Hu pk<|.tup [R6 qs[j],R6 ds[i]]):=ii.trans<|S0 dp;have fj:upd Hu pk (.tup [R6 qs[j],R6 ds[i]]) Dw\(.lst<|ws.map R6):=by rw[aE<|bF cn dp];exact cn
   have el:=ed.new (o:=.tup [R6 qs[j],R6 ds[i]]) dp;have b1:upd Hu pk (.tup [R6 qs[j],R6 ds[i]]) pk\.tup [R6 qs[j],R6 ds[i]]:=zb0;generalize upd Hu pk (.tup [R6 qs[j],R6 ds[i]])=Hk at bd fj el b1;have eh:=bd _ _ ⇑[cl.symm] gd;have e6:Dw≠G:=λz=>bk (by rw[z];simp)
   refine{G,6,DPut.t (k:=[Qt qs[j],Qt ds[i]]) eh b1 (bS ∅),_,du,mu,tu,6,fz.trans ((bd.mono<|by trivial).put'<|by trivial),{by rw[aE cl];exact el.1,el.2},∅,by rw[aE aj];exact bd _ _ ⇑[cr.symm] f0,zb0,?_,?_,by rw[aE ad];exact bd _ _ ⇑[cp.symm] g6}
   .have:=mK wz [Qt qs[j],Qt ds[i]]<|R7 Dw;lia
   .have W1:=de.keep ((bd.mono (T:=[hd,G,C,u])<|by trivial).put' (a:=G) (o:=.dT<|aX wz [Qt qs[j],Qt ds[i]]<|.ref Dw)<|by trivial);refine(W1.put (r:=qs[j]) (d:=ds[i]) (p:=Dw) (ws:=ws) {bk,by rw[aE e6];exact fj} ∅ am).mono λa b h=>?_
    obtain h|⟨h1,h2⟩:=h
    .exact .inl<|.inl h
    .rw[dE,bM hj]at h1;obtain h1|h1:=vj7.mp h1
     .exact .inl<|.inr ⟨h1,h2⟩
     .have:a=qs[j]:=⇑[h1]
      exact .inr ⟨this,h2⟩
  rintro σ ak ⟨j5,dA,mA,tA,wA,rfl,fA,fp,ik,gb,fm,ep,az,ga⟩;subst br
  first | refine mN ?_ | skip
  refine fW λN2 br=>?_;have h4:↑(ba.map λkv=>kV kv.1)=↑qs:=by rw[eq,aF]
  rw[h4]at ik ep az;rw[cW<|aV _]at az;have b5:FrS [hd,G,C,u] Hb ak:=(J.trans<|ae.mono<|by trivial).trans fA;have dl:OwnOk [hd,G,C,u] ak (tr.map (·.1)) ok (λb=>b∈ds.take i):=a0.keep<|(ae.mono<|by trivial).trans fA;refine{cE _,λps b4=>?_};subst br
  first | refine mN ?_ | skip
  refine fW λN2 br=>?_;have di:ps∉[hd,G,C,u]:=cc ak ⟨_,fp.1⟩ ⟨_,fm⟩ ⟨_,ga⟩ ⟨_,gb⟩ ps b4;have cb:ps≠hd:=λz=>di (by rw[z];simp)
  have gu:ps≠pn:=λz=>by rw[z,a5 ak b5]at b4;cases b4
  exists 6,tp,U,{_,T1<|by rw[aE<|bF (be.keep b5).2 b4];exact(be.keep b5).2};refine iT (xs:=ts.map R7) (DY ak hd tp lp pn pd px G C u ps r tA tr ds[i])
   ⟨_,_,dA,mA,tA,[],rfl,S0 b4,fp.new b4,∅,zb0,by simp,by simp⟩ ?_ ?_ ?_
  .rintro j σ Z hj ⟨_,_,_,_,_,_,_,fz,_⟩;exact T1 ((be.keep b5).keep<|fz.mono<|by trivial).2
  .rintro j x σ Z hx ⟨nz,ez,dz,mz,tz,ss,rfl,fz,ag,e5,bq,c7,a7⟩;rw[bP]at hx;obtain⟨tt,aa,rfl⟩:=vh8.mp hx;obtain⟨hj,_⟩:=vh2.mp aa;have bj:tr[j]?=Qp tr[j]:=bM ∅;have e3:=((ax j tt _ aa bj).keep b5).keep (fz.mono<|by trivial);exists tt,6,T2 e3.2,U,_,6,_,6,U;refine{6,eQ rfl,λp2 b0=>?_};obtain⟨kk,b1,io,j4⟩:∃kk:Ql,fY [R8 3,R8 2] (if decide (bB tr[j].2=R9)=Qr then 1 else 0)\.int kk/\0<kk/\kk<10:=by
    cases tr[j].2 with
    | none=>exact{2,U,by decide,by decide}
    | some e=>exact{3,U,by decide,by decide}
   refine{6,.inr {6,p2,_,_,R8 kk,U,U,T1 zb0,b1,hd,dz,mz,tz,r,kk,U,ag.new b0,∅,io,∅,λy dv mv tv y0 y1 cv ev=>{U,6,?_}}};have ea:upd (upd Z p2<|.lst [R8 3,R8 2]) hd (hl dv mv tv r) ps\(.lst<|ss.map R6):=by rw[aE cb,aE<|bF bq b0];exact bq
   have fv:FrS [hd] ak (upd (upd Z p2<|.lst [R8 3,R8 2]) hd<|hl dv mv tv r):=(fz.trans<|S0 b0).put' ⇑_;have dr:Hand (upd (upd Z p2<|.lst [R8 3,R8 2]) hd<|hl dv mv tv r) hd dv mv tv r:=Hand.at cv;refine bE (λc=>?_) λc=>?_
   .refine⟨_,rfl,.inl ⟨rfl,_,T1 ea⟩,_,rfl,ps,_,_,rfl,rfl,ea,by rw[aF];exact bS ∅,_,_,dv,mv,tv,ss++[tr[j].1],rfl,fv.put b4,{by rw[aE cb.symm];exact dr.1,dr.2},∅,by rw[zb0,bU];rfl,by rw[bK,fI];lia,?_⟩;rw[dE,bP,bj];exact a7.append<|.refl [tr[j].1]
   .exact⟨_,_,dv,mv,tv,ss,rfl,fv,dr,∅,ea,∅,by rw[dE];exact a7.trans<|List.sublist_append_left _ _⟩
  rintro σ ac ⟨nz,ez,dz,mz,tz,ss,rfl,fz,ag,e5,bq,c7,a7⟩;subst br
  first | refine mN ?_ | skip
  rw[aF]at e5 c7;replace a7:=a7.trans<|Vu _ _;have gi:FrS [hd,G,C,u] ak ac:=fz.mono ⇑_;have c2:=a5 ac<|b5.trans gi;have h0:0<↑(tr.map (·.1)):=uh2.mpr bm;have d3:fY ((tr.map (·.1)).map R6) 0\.str (tr.map (·.1))[0]:=by
   have:=sC (xs:=(tr.map (·.1)).map R6) (j:=0) (v:=.str (tr.map (·.1))[0]) (by rw[bP,bM h0];rfl);exact this
  refine{6,6,pn,_,_,6,U,T1 c2,d3,eQ rfl,λp1 ef=>?_};refine{6,cE _,λpe bp=>?_};have ap:upd ac p1 (.lst [R6 (tr.map (·.1))[0]]) ps\(.lst<|ss.map R6):=by rw[aE<|bF bq ef];exact bq
  have aw:ps≠pe:=bF ap bp;have es:p1≠pe:=λz=>by rw[<-z,zb0]at bp;cases bp
  refine{ps,pe,6,U,aw,T1 (by rw[aE aw];exact ap),T1 zb0,.inr {6,?_}};obtain⟨kk,b1,zs,i2,iy,hn⟩:∃kk:Ql,(if ((ss.map R6).isEmpty != Qs)=Qr then(1:Ql) else 0)=kk/\∃zs:Z2,(Rj kk.toNat [R6 (tr.map (·.1))[0]]).flatten=zs.map R6/\↑zs<=1/\(ss++zs).Sublist (tr.map (·.1)):=by
   cases ss with
   | nil=>exact{1,U,[(tr.map (·.1))[0]],U,by simp,Qi.singleton_sublist.mpr<|fP h0}
   | cons y ys=>exact{0,U,[],U,by simp,by rw[eA];exact a7}
  have ij:kk=0\/kk=1:=by
   rw[<-b1]
   split
   .exact .inr rfl
   .exact .inl rfl
  rw[b1];refine{p1,kk,6,U,by rw[aE es];exact zb0,∅,∅,?_,λp2 b0=>?_}
  .obtain rfl|rfl:=ij
   .show 1*0<=sizeLine;lia
   .show 1*1<=sizeLine;exact cQ (bS ∅)
  rw[i2];have bs:upd (upd ac p1<|.lst [R6 (tr.map (·.1))[0]]) pe (.lst []) ps\(.lst<|ss.map R6):=by rw[aE aw];exact ap
  refine{ps,p2,_,6,U,by rw[aE<|bF bs b0];exact bs,zb0,by rw[aF,aF];exact cQ (bS ∅),λp3 gj=>?_};rw[<-bU];have bb:FrS [] ac (upd (upd (upd (upd ac p1<|.lst [R6 (tr.map (·.1))[0]]) pe<|.lst []) p2<|.lst<|zs.map R6) p3<|.lst<|(ss++zs).map R6):=by
   refine(((S0 ef).trans<|S0 bp).trans<|S0 b0).trans (S0 ?_);exact gj
  have bu:upd (upd (upd (upd ac p1<|.lst [R6 (tr.map (·.1))[0]]) pe<|.lst []) p2<|.lst<|zs.map R6) p3 (.lst<|(ss++zs).map R6) p3\(.lst<|(ss++zs).map R6):=zb0;have dm:ac p3=none:=FrS.old (S:=[]) (((S0 ef).trans<|S0 bp).trans<|S0 b0) ⇑_ gj;generalize upd (upd (upd (upd ac p1<|.lst [R6 (tr.map (·.1))[0]]) pe<|.lst []) p2<|.lst<|zs.map R6) p3 (.lst<|(ss++zs).map R6)=i5 at bb bu;have c3:=fz _ _ ⇑[cp.symm] ga;have c9:=fz _ _ ⇑[cl.symm] fm;have ca:=fz _ _ ⇑[cr.symm] gb;have bz:p3∉[hd,G,C,u]:=cc ac ⟨_,ag.1⟩ ⟨_,c9⟩ ⟨_,c3⟩ ⟨_,ca⟩ p3 dm;have en:p3≠C:=λz=>bz (by rw[z];simp)
  exists 6,6,C,6,DPut.k (k:=(Qt ds[i]:aK)) (bb _ _ ⇑_ c3) (bS ∅);have e7:FrS [hd,G,C,u] ak (upd i5 C<|.dK<|aX ok (Qt ds[i])<|.ref p3):=(gi.trans<|bb.mono<|by trivial).put' ⇑_;exists _,_,_,_,dz,mz,tz,wA,aX ok (Qt ds[i])<|.ref p3,U,b5.trans e7,{by rw[aE cp];exact bb _ _ ⇑_ ag.1,ag.2},∅,by rw[aE af];exact bb _ _ ⇑_ ca,by rw[aE ad.symm];exact bb _ _ ⇑_ c9,∅,?_,zb0,?_
  .refine(az.keep e7).mono λa b h=>?_;rw[dE,bM hi]at h;obtain h2|h2:=vj7.mp h.2
   .exact .inl ⟨h.1,h2⟩
   .exact .inr ⟨gs a h.1,⇑[h2]⟩
  .have:=mK ok (Qt ds[i])<|R7 p3;lia
  .refine((dl.keep e7).put (d:=ds[i]) (p:=p3) (os:=ss++zs) ⟨bz,by rw[aE en];exact bu⟩ hn<|by rw[bK];lia).mono' λa h=>?_
   .rw[dE,bM hi]at h;obtain h2|h2:=vj7.mp h
    .exact .inl h2
    .exact .inr ⇑[h2]
 rintro σ B ⟨nx,ex,dx,sx,da,ma,ta,wk,ok,rfl,J,au,fa,a8,ck,h9,bn,cd,gn,a0⟩;subst M
 first | refine mN ?_ | skip
 rw[aF]at fa bn a0;rw[cW<|aV _]at bn a0;intro p hp;have ai:=(gp.keep J).2;refine{6,6,6,6,6,6,6,px,6,T1 (by rw[aE<|bF ai hp];exact ai),λq1 dn=>?_};have e1:dU (xs.map R6) Qq (Qp 4)=(xs.take 4).map R6:=by rw[xL];exact RP (xs.map R6) (n:=4) (by rw[aF];lia)
 rw[e1];have g1:FrS [] B (upd (upd B p<|.dK []) q1<|.lst<|(xs.take 4).map R6):=(S0 hp).trans<|S0 dn;have p1:upd (upd B p<|.dK []) q1 (.lst<|(xs.take 4).map R6) p\.dK []:=by rw[aE<|bF (o:=.dK []) zb0 dn];exact zb0
 have v1:upd (upd B p<|.dK []) q1 (.lst<|(xs.take 4).map R6) q1\(.lst<|(xs.take 4).map R6):=zb0;have gx:B q1=none:=(S0 (S:=[]) (o:=.dK []) hp).old ⇑_ dn;generalize upd (upd B p<|.dK []) q1 (.lst<|(xs.take 4).map R6)=K1 at g1 p1 v1;refine{6,6,6,px,6,T1<|g1 _ _ ⇑_ ai,λq2 dt=>?_};have e2:dU (xs.map R6) (Qp 4) (Qp 8)=((xs.drop 4).take 4).map R6:=by rw[xL,FX];exact Pv (xs.map R6) (a:=4) (b:=8) (by rw[aF];lia) ∅
 rw[e2];have g2:FrS [] K1 (upd K1 q2<|.lst<|((xs.drop 4).take 4).map R6):=S0 dt;have v2:upd K1 q2 (.lst<|((xs.drop 4).take 4).map R6) q2\(.lst<|((xs.drop 4).take 4).map R6):=zb0;have ia:B q2=none:=g1.old ⇑_ dt;have al:=dt;generalize upd K1 q2 (.lst<|((xs.drop 4).take 4).map R6)=K2 at g2 v2;refine{6,6,px,6,T1<|g2 _ _ ⇑_<|g1 _ _ ⇑_ ai,λq3 cs=>?_};have e3:dU (xs.map R6) (Qp 6) Qq=(xs.drop 6).map R6:=by rw[FX];exact YX (xs.map R6) (n:=6) (by rw[aF];lia)
 rw[e3];have g3:FrS [] K2 (upd K2 q3<|.lst<|(xs.drop 6).map R6):=S0 cs;have v3:upd K2 q3 (.lst<|(xs.drop 6).map R6) q3\(.lst<|(xs.drop 6).map R6):=zb0;generalize upd K2 q3 (.lst<|(xs.drop 6).map R6)=K3 at g3 v3;intro pt ce;have g4:FrS [] K3 (upd K3 pt<|.dK []):=S0 ce;have v4:upd K3 pt (.dK []) pt\.dK []:=zb0;generalize upd K3 pt (.dK [])=K4 at g4 v4;intro ph bt;have g5:FrS [] K4 (upd K4 ph<|.dK []):=S0 bt;have v5:upd K4 ph (.dK []) ph\.dK []:=zb0;generalize upd K4 ph (.dK [])=K5 at g5 v5;have eg:FrS [] K1 K5:=((g2.trans g3).trans g4).trans g5;have gw:FrS [] B K5:=g1.trans eg;have fl:FrS [] B K3:=(g1.trans g2).trans g3;have i8:FrS [] B K4:=fl.trans g4;have ee:B pt=none:=fl.old ⇑_ ce;have dw:B ph=none:=i8.old ⇑_ bt;have bf:=eg _ _ ⇑_ p1;have ek:pt≠ph:=bF v4 bt;have fn:p≠pt:=λz=>by rw[<-z,(g2.trans g3) _ _ ⇑_ p1]at ce;cases ce
 have bi:p≠ph:=λz=>by rw[<-z,((g2.trans g3).trans g4) _ _ ⇑_ p1]at bt;cases bt
 refine{6,bf,[(Qt "tree",.ref tp),(Qt "late",.ref lp),(Qt "deeds",.ref pd),(Qt "wants",.ref G),(Qt "owners",.ref C),(Qt "vars",.ref q1),(Qt "params",.ref q2),(Qt "fields",.ref q3),(Qt "told",.ref pt),(Qt "held",.ref ph),(Qt "roots",.ref u)],U,by show 11<=15;decide,?_};have ew:(([(Qt "tree",.ref tp),(Qt "late",.ref lp),(Qt "deeds",.ref pd),(Qt "wants",.ref G),(Qt "owners",.ref C),(Qt "vars",.ref q1),(Qt "params",.ref q2),(Qt "fields",.ref q3),(Qt "told",.ref pt),(Qt "held",.ref ph),(Qt "roots",.ref u)]:Qi (aK×V)).map (·.1)).Nodup:=by
  show([Qt "tree",Qt "late",Qt "deeds",Qt "wants",Qt "owners",Qt "vars",Qt "params",Qt "fields",Qt "told",Qt "held",Qt "roots"]:Qi aK).Nodup
  rfl'
 rw[Aa _ [] (by rw[Wu];exact ew),Wu];generalize hkvs:([(Qt "tree",.ref tp),(Qt "late",.ref lp),(Qt "deeds",.ref pd),(Qt "wants",.ref G),(Qt "owners",.ref C),(Qt "vars",.ref q1),(Qt "params",.ref q2),(Qt "fields",.ref q3),(Qt "told",.ref pt),(Qt "held",.ref ph),(Qt "roots",.ref u)]:Qi (aK×V))=kvs at ew;have gt:∀(j:Qk)(k:aK)(v:V),kvs[j]?\(k,v)->aO kvs k\v:=λj k v h=>NP ew h;have kp:∀b o,K5 b\o->b≠p->upd K5 p (.dK kvs) b\o:=λb o e n=>by rw[aE n];exact e
 have kx:∀b o,B b\o->upd K5 p (.dK kvs) b\o:=λb o e=>kp b o (gw _ _ ⇑_ e)<|bF e hp
 have bg:=au.1;have st:∀b o,b≠hd->B b\o->Stt [hd,pt,ph] (upd K5 p<|.dK kvs) b o:=λb o n e=>⟨by simp only[vj0,aN,eC,gI];exact{n,bF e ee,bF e dw},kx b o e⟩
 have ei:q1≠p:=λz=>by rw[z,p1]at v1;cases v1
 have dy:q2≠p:=λz=>by rw[z]at al;rw[p1]at al;cases al
 have db:q3≠p:=λz=>by rw[z,g2 _ _ ⇑_ p1]at cs;cases cs
 have hm:B q3=none:=(g1.trans g2).old ⇑_ cs;have w1:=eg _ _ ⇑_ v1;have w2:=((g3.trans g4).trans g5) _ _ ⇑_ v2;have w3:=(g4.trans g5) _ _ ⇑_ v3;have w4:=g5 _ _ ⇑_ v4;have sl:∀(b:eH)(zs:Z2),K5 b\(.lst<|zs.map R6)->b≠p->B b=Qq->Stt [hd,pt,ph] (upd K5 p<|.dK kvs) b (.lst<|zs.map R6):=λb zs e n e0=>⟨by
  simp only[vj0,aN,eC,gI];exact{(λz=>by rw[z,bg]at e0;cases e0),(λz=>by rw[z,w4]at e;cases e),(λz=>by rw[z,v5]at e;cases e)},kp b _ e n⟩
 have cy:=cr.symm;have dd:=cl.symm;have eb:=cp.symm;obtain⟨own,d2⟩:∃own:zZ->Z2,∀d' (b7:d'∈ds),own d'=(a0 d' b7).choose_spec.choose:=by
  classical
  exact{λd'=>if h:d'∈ds then(a0 d' h).choose_spec.choose else [],λd' h=>dif_pos h}
 refine q p ⟨tp,lp,pd,G,C,q1,q2,q3,pt,ph,u⟩ {tr,late,ds,xs.take 4,(xs.drop 4).take 4,xs.drop 6,wk,ok,I,own} _ ta {{da,ma,kx _ _ au.1,au.2},{[],kp _ _ w4 fn.symm,DOk.nil},{[],kp _ _ v5 bi.symm,DOk.nil},{{kvs,{?_,zb0},?_},{ts,st _ _ ar (be.keep J).2,fr,λj t' x a b=>st _ _ (dh j t' x a b) ((ax j t' x a b).keep J).2},st _ _ b6 (i3.keep J).2,st _ _ ao (eo.keep J).2,sl _ _ w1 ei gx,sl _ _ w2 dy ia,sl _ _ w3 db hm,st _ _ dd ck,st _ _ eb cd,st _ _ cy a8,?_,?_},?_,?_} ?_ ?_ ?_ ?_
 .simp only[vj0,aN,eC,gI];exact{(λz=>by rw[z,bg]at hp;cases hp),fn,bi}
 .rw[<-hkvs]at gt ⊢;exact{gt 0 _ _ rfl,gt 1 _ _ rfl,gt 2 _ _ rfl,gt 3 _ _ rfl,gt 4 _ _ rfl,gt 5 _ _ rfl,gt 6 _ _ rfl,gt 7 _ _ rfl,gt 8 _ _ rfl,gt 9 _ _ rfl,gt 10 _ _ rfl}
 .intro n' gr d' b7;have gv:(Qt n':aK)∈I.map (·.1):=by
   rw[a9.1];obtain⟨z,hz,ez⟩:=vj2.mp gr;exact vj2.mpr {z,hz,by rw[<-ez]}
  obtain⟨v,hv⟩:∃v,aO I (Qt n')\v:=by
   cases hv:aO I (Qt n')with
   | some v=>exact⟨v,rfl⟩
   | none=>exact absurd gv<|LQ hv
  obtain⟨rt,rfl,fg⟩:=ay.val hv;have df:rt∈rs:=by
   rw[ch]at fg;obtain⟨y,hy,ey⟩:=vj2.mp fg;cases ey;exact hy
  obtain⟨pp,ws,a1,a2,a3,a4⟩:=bn rt d' ⟨df,b7⟩;exact{rt,pp,ws,hv,a1,st _ _ (λz=>a2.1<|by rw[z];simp) a2.2,a3,a4}
 .intro d' b7;have e0:=d2 d' b7;obtain⟨a1,a2,a3,a4⟩:=(a0 d' b7).choose_spec.choose_spec;rw[<-e0]at a2 a3 a4;exact{_,a1,st _ _ (λz=>a2.1<|by rw[z];simp) a2.2,a3,a4}
 .show([hd,pt,ph]:Z3).Nodup;simp only[vn3,vj0,aN,eC,gI];exact{{bF bg ee,bF bg dw},ek,not_false,lO}
 .exact⟨hok,hw,g0,fk,go,i0,i9,(by show ds≠[];intro z;rw[z]at g7;simp at g7;lia),by show ↑ds<=6;lia,hs,λx hx=>(hq x hx).2,by show(xs.take 4).length=4;rw[dR];lia,by show((xs.drop 4).take 4).length=4;rw[dR,nM];lia,by show(xs.drop 6).length=3;rw[nM];lia,λz=>by
   obtain z|z:=vj7.mp z
   .exact(g9 _<|lT z).1 rfl
   .exact(g9 _<|FJ<|lT z).1 rfl⟩
 .exact(et B J).trans λb o n e=>kx b o e
 .show H pt=Qq;exact(et B J).old (λb hb=>by rw[vj1.mp hb];exact{_,bg}) ee
 .show H ph=Qq;exact(et B J).old (λb hb=>by rw[vj1.mp hb];exact{_,bg}) dw
 .lia
abbrev rA:Qd:=top 78
abbrev Dz:=zZ×eH×Z3×Z3
inductive RowsIs(Z:Z0)(H:Hp)(z:Dz):Prop
 | mk(h2:H z.2.1\(.tup<|z.2.2.1.map R7))(h3:Fl Z H 4 z.2.2.1 z.2.2.2)(h4:↑z.2.2.2<=80):RowsIs Z H z
theorem RowsIs.keep(h:RowsIs Z H z)(f:Tup H H'):RowsIs Z H' z:=by
 obtain⟨b,d,a⟩:=h;exact{f _ _ b,d.keep f,a}
inductive DeedIs(Z:Z0)(H:Hp)(f:eH)(z:Dz):Prop
 | mk(pv gv:V)(h1:H f\.tup [.str z.1,pv,.ref z.2.1,gv])(h3:DpG H pv gv)(h2:RowsIs Z H z):DeedIs Z H f z
theorem DeedIs.keep(h:DeedIs Z H a z)(f:Tup H H'):DeedIs Z H' a z:=by
 obtain⟨pv,b,i,e,d⟩:=h;exact{pv,b,f _ _ i,e.keep f,d.keep f}
inductive KindIs(Z:Z0)(H:Hp)(u:eH)(y:zZ×Qi Dz):Prop
 | mk(e:V)(dt:eH)(fs:Z3)(h1:H u\.tup [.str y.1,e,.ref dt])(h2:H dt\(.tup<|fs.map R7))(h3:↑fs=↑y.2)(h4:∀(j:Qk) f z,fs[j]?\f->y.2[j]?\z->DeedIs Z H f z)(h5:↑fs<=80)(h6:(y.2.map (·.1)).Nodup):KindIs Z H u y
theorem KindIs.keep(h:KindIs Z H a z)(f:Tup H H'):KindIs Z H' a z:=by
 obtain⟨e,d,fs,m,q,l,o,i,n⟩:=h;exact{e,d,fs,f _ _ m,f _ _ q,l,λj g z a b=>(o j g z a b).keep f,i,n}
inductive ProgIs(Z:Z0)(H:Hp)(p:eH)(ks:Qi (zZ×Qi Dz))(m0:Dz):Prop
 | mk(kt:eH)(us:Z3)(lt:V)(h1:H p\.tup [.ref kt,lt,.ref m0.2.1])(h2:H kt\(.tup<|us.map R7))(h3:↑us=↑ks)(h4:∀(j:Qk) u y,us[j]?\u->ks[j]?\y->KindIs Z H u y)(h5:RowsIs Z H m0)(h6:↑ks<=12):ProgIs Z H p ks m0
theorem ProgIs.keep(h:ProgIs Z H p ks m0)(f:Tup H H'):ProgIs Z H' p ks m0:=by
 obtain⟨n,q,lt,e,o,i,m,d,l⟩:=h;exact{n,q,lt,f _ _ e,f _ _ o,i,λj g z a b=>(m j g z a b).keep f,d.keep f,l}
def Tup.dk(hp:H p\.dK kv):Tup H (upd H p o):=λb a h=>by
 rw[aE λz=>by rw[z,hp]at h;cases h];exact h
inductive LateAt(H:Hp)(p:eH)(tr:Tr)(late:Z2):Prop
 | mk(kt lt:eH)(m:V)(h1:H p\.tup [.ref kt,.ref lt,m])(h2:H lt\(.tup<|late.map R6))(h3:↑late<=64)(h4:rO tr late)(h5:∃x∈tr,x.1∉late):LateAt H p tr late
def LateAt.keep(h:LateAt H p tr late)(f:Tup H H'):LateAt H' p tr late:=by
 obtain⟨j,lt,m,b,i,d,e,a⟩:=h;exact{j,lt,m,f _ _ b,f _ _ i,d,e,a}
def KindsAt.keepT(h:KindsAt H p tr)(f:Tup H H'):KindsAt H' p tr:=by
 obtain⟨m,o,x,y,i,n,e,l⟩:=h;refine{m,o,x,y,f _ _ i,f _ _ n,e,λj t z a b=>?_};obtain⟨v,d⟩:=l j t z a b;exact{v,f _ _ d}
structure NK(Z:Z0)(ks:Qi (zZ×Qi Dz))(tr:Tr):Prop where
 nm:ks.map (·.1)=tr.map (·.1)
 nb:∀k,Z k Qq->k∈tr.map (·.1)
 hz:∀k d,Z k (Qp d)->k∈tr.map (·.1)/\∃n l,Up tr k l/\n∈l/\∃y∈ks,y.1=n/\∃z∈y.2,z.1=d
 de:∀k d,Z k (Qp d)->d≠""
 dl:∃ds:Z2,↑ds<=6/\∀k d,Z k (Qp d)->d∈ds
inductive OY(vs:Qi V)(H:Hp)(Q:VK)(_:XK):Prop
 | mk(hd:eH)(mo d m t r:Ql)(h1:vs=[.ref hd,.int mo])(h0:0<=mo/\mo<=80)(h2:Hand H hd d m t r)(h3:t<=1000)
  (h4:∀(p:eH)(ks:Qi (zZ×Qi Dz))(m0:Dz)(tr:Tr)(late:Z2)(Z:Z0)(H':Hp)(d' m' t' r':Ql),FrS [hd] H H'->ProgIs Z H' p ks m0->KindsAt H' p tr->TrOk tr->↑tr<=12->LateAt H' p tr late->NK Z ks tr->Hand H' hd d' m' t' r'->t'<=10000->Q (.ref p) H')
def Nmd(Z:Z0)(H:Hp)(A:zZ->Prop)(fs:Z3):Prop:=∃a:Qi Dz,A2 (DeedIs Z H) fs a/\(a.map (·.1)).Nodup/\∀z∈a,A z.1
theorem Nmd.nil:Nmd Z H A []:=⟨[],.nil,lO,nofun⟩
theorem Nmd.keep(h:Nmd Z H A fs)(g:Tup H H')(m:∀n,A n->B n):Nmd Z H' B fs:=let ⟨zs,a,b,c⟩:=h;⟨zs,a.imp λ_ _ d=>d.keep g,b,λz e=>m _<|c z e⟩
def A2.rev{b a:Type}{R:b->a->Prop}{as:Qi b}{bs:Qi a}(h:A2 R as bs):A2 R as.reverse bs.reverse:=by
 induction h with
 | nil=>exact .nil
 | cons h _ d=>rw[zT,zT];exact d.snoc h
theorem Nmd.rev(h:Nmd Z H A fs):Nmd Z H A fs.reverse:=let ⟨zs,a,b,c⟩:=h;⟨zs.reverse,A2.rev a,by rw[GH];exact(Qi.reverse_perm _).nodup_iff.mpr b,λz d=>c z<|vx4.mp d⟩
inductive WL(Z:Z0)(Hb H:Hp)(c:Qk)(A:zZ->Prop)(v:V):Prop
 | mk(p:eH)(fs:Z3)(h1:v=.ref p)(h2:H p\(.lst<|fs.map R7))(h3:↑fs<=c)(h4:Hb p=Qq)(h5:Nmd Z H A fs):WL Z Hb H c A v
def BK(Z:Z0)(b H:Hp)(kvs:Qi (aK×V))(c:Qk)(A:aK->zZ->Prop):Prop:=↑kvs<=c/\(∀k v,aO kvs k\v->WL Z b H c (A k) v)/\∀k a v,aO kvs k\v->aO kvs a\v->k=a
theorem BK.keep(h:BK Z Hb H kvs c A)(f:FrS M H H')(i:∀p,Hb p=Qq->p∉M)(tp:Tup H H'):BK Z Hb H' kvs c A:=⟨h.1,λk v e=>by
 obtain⟨p,l,a,b,j,d,g⟩:=h.2.1 k v e;exact{p,l,a,f _ _ (i p d) b,j,d,g.keep tp λ_ h=>h},h.2.2⟩
def BK.put(h:BK Z Hb H kvs c A)(x:aO kvs k=Qq)(hp:H p\.lst [])(q:Hb p=Qq)(m:∀k v,aO kvs k\v->v≠.ref p):BK Z Hb H (aX kvs k<|.ref p) (c+1) A:=by
 refine{by have:=mK kvs k<|R7 p;have:=h.1;lia,λn v e=>?_,λr u v f i=>?_}
 .rw[oY]at e
  by_cases z:n=k
  .rw[bG z]at e;cases e;exact{p,[],U,hp,cE _,q,.nil}
  .rw[bA z]at e;obtain⟨s,o,a,b,B,d,g⟩:=h.2.1 n v e;exact{s,o,a,b,∅,d,g}
 .rw[oY]at f i
  by_cases j:r=k <;> by_cases l:u=k
  .rw[j,l]
  .rw[bG j]at f;rw[bA l]at i;cases f;exact absurd rfl<|m _ _ i
  .rw[bA j]at f;rw[bG l]at i;cases i;exact absurd rfl<|m _ _ f
  .rw[bA j]at f;rw[bA l]at i;exact h.2.2 _ _ _ f i
def BK.app(h:BK Z Hb H kvs c A)(l:aO kvs k\.ref p)(hp:H p\.lst xs)(hl:↑gs<=c)(j:Nmd Z H (B k) gs)(m:∀k n,A k n->B k n):BK Z Hb (upd H p<|.lst<|gs.map R7) kvs c B:=by
 have o:Tup H (upd H p<|.lst<|gs.map R7):=Tup.lst hp;refine{h.1,λf v e=>?_,h.2.2};obtain⟨a,i,rfl,b,q,d,g⟩:=h.2.1 f v e
 by_cases z:a=p
 .subst z;obtain rfl:=h.2.2 _ _ _ l e;exact{a,gs,U,zb0,hl,d,j.keep o λ_ h=>h}
 .exact⟨a,i,rfl,by rw[aE z];exact b,q,d,g.keep o<|m f⟩
def BK.more(h:BK Z Hb H kvs c A)(j:c<=c')(m:∀k n,A k n->B k n):BK Z Hb H kvs c' B:=⟨by have:=h.1;lia,λk v e=>by
 obtain⟨i,f,a,b,a1,d,g⟩:=h.2.1 k v e;exact{i,f,a,b,∅,d,g.keep (λ_ _ e=>e)<|m k},h.2.2⟩
def AlD(D:WD)(i j:Qk)(k:aK)(n:zZ):Prop:=∃l a x,D.deeds[D.deeds.length-1-l]?\n/\(D.own n)[a]?\x/\k=Qt x/\(l<i\/l=i/\a<j)
def AlD.mono(g:i<i'\/i=i'/\j<=j')(k:aK)(n:zZ)(h:AlD D i j k n):AlD D i' j' k n:=by
 obtain⟨l,e,x,a,b,c,d⟩:=h;exact{l,e,x,a,b,c,∅}
def AlD.not(h:D.deeds.Nodup)(e:(D.own n).Nodup)(hi:i<D.deeds.length)(f:D.deeds[D.deeds.length-1-i]?\n)(hx:(D.own n)[j]?\x):¬AlD D i j (Qt x) n:=by
 rintro⟨l,m,y,a,b,c,d⟩;obtain rfl:=oT c;have o:=(B0 (i:=D.deeds.length-1-l) ∅ h).mp<|a.trans f.symm;have q:=(B0 (vh2.mp b).1 e).mp<|b.trans hx.symm;lia
inductive KAt(Z:Z0)(Wn:zZ->zZ->Prop)(H:Hp)(u:eH)(z:zZ×Qj zZ):Prop
 | mk(dt:eH)(fs:Z3)(h1:H u\.tup [.str z.1,bB z.2,.ref dt])(h2:H dt\(.tup<|fs.map R7))(h3:↑fs<=80)(h4:Nmd Z H (λ_=>True) fs)(h5:∀d,Wn z.1 d->∃f∈fs,∃y,DeedIs Z H f y/\y.1=d):KAt Z Wn H u z
theorem KAt.keep(h:KAt Z Wn H u z)(g:Tup H H'):KAt Z Wn H' u z:=by
 obtain⟨a,fs,j,n,i,l,b⟩:=h;exact{a,fs,g _ _ j,g _ _ n,i,l.keep g λ_ h=>h,λd hd=>by
  obtain⟨f,m,y,o,e⟩:=b d hd;exact{f,m,y,o.keep g,e}}
theorem sS:∀(us:Z3)(tr:Tr),A2 (KAt Z Wn H) us tr->∃ks:Qi (zZ×Qi Dz),↑us=↑ks/\(∀(j:Qk) u y,us[j]?\u->ks[j]?\y->KindIs Z H u y)/\ks.map (·.1)=tr.map (·.1)/\∀y∈ks,∀d,Wn y.1 d->∃z∈y.2,z.1=d
 | [],_,.nil=>⟨[],rfl,(λi f d h=>by simp at h),rfl,λ_ h=>nomatch h⟩
 | u::us,_,.cons (b:=z) g gt=>by
  obtain⟨O,fs,C,N,B,M,J⟩:=g;obtain⟨n,r,T,_⟩:=M;have x:=r.len;have A:∀(i:Qk) f z,fs[i]?\f->n[i]?\z->DeedIs Z H f z:=λi f z a b=>by
   obtain⟨z',q,g⟩:=r.get a;rw[b]at q;cases q;exact g
  obtain⟨ks,I,E,G,X⟩:=sS us _ gt;refine{(z.1,n)::ks,cP (·+1) I,λi g d' o hd=>?_,cP (z.1::·) G,λy m d hd=>?_}
  .cases i with
   | zero=>cases o;cases hd;exact{_,O,fs,C,N,x,A,B,T}
   | succ i=>exact E i g d' o hd
  .obtain rfl|m:=vj0.mp m
   .obtain⟨f,L,y,m,e⟩:=J d hd;obtain⟨i,hi⟩:=vn2.mp L;have s:i<↑n:=by rw[<-x];exact(vh2.mp hi).1
    obtain⟨_,_,W,_⟩:=A i f n[i] hi<|bM s;obtain⟨_,_,l,_⟩:=m;rw[W]at l;exists n[i],fP s;injection l with l;injection l with l;injection l with l _;exact(R6.inj l).trans e
   .exact X y m d hd
def Got(Z:Z0)(H:Hp)(kvs:Qi (aK×V))(x d:zZ):Prop:=∃(p:eH)(fs:Z3),aO kvs (Qt x)\.ref p/\H p\(.lst<|fs.map R7)/\∃f∈fs,∃y,DeedIs Z H f y/\y.1=d
theorem Got.keep(h:Got Z H kvs x d)(l:BK Z Hb H kvs c A)(f:FrS M H H')(i:∀p,Hb p=Qq->p∉M)(tp:Tup H H'):Got Z H' kvs x d:=by
 obtain⟨p,fs,e,q,g,b,y,m,j⟩:=h;obtain⟨o,_,a,_,_,n,_⟩:=l.2.1 _ _ e;cases a;exact{p,fs,e,f _ _ (i p n) q,g,b,y,m.keep tp,j}
def An{l a:Z3}(h:l.map R7=a.map R7):l=a:=(Vl λ_ _=>R7.inj).1 h
def Got.app(h:Got Z H kvs x d)(hp:H pl\(.lst<|gs.map R7)):Got Z (upd H pl<|.lst<|(gs++[g0]).map R7) kvs x d:=by
 obtain⟨p,fs,e,a,g,b,y,i,f⟩:=h;have j:Tup H (upd H pl<|.lst<|(gs++[g0]).map R7):=Tup.lst hp
 by_cases c:p=pl
 .subst c;rw[hp]at a;injection a with a;injection a with a;have:=An a;subst this;exact{p,gs++[g0],e,zb0,g,nC _ b,y,i.keep j,f}
 .exact⟨p,fs,e,by rw[aE c];exact a,g,b,y,i.keep j,f⟩
def Got.put(h:Got Z H kvs x d)(a:aO kvs (Qt x')=Qq):Got Z H (aX kvs (Qt x') v) x d:=by
 obtain⟨p,fs,e,r⟩:=h;refine{p,fs,?_,r};rw[oY,bA]
 .exact e
 .intro z;rw[z,a]at e;cases e
theorem Got.dk(h:Got Z H kvs x d)(f:H b\.dK kv):Got Z (upd H b<|.dK kv') kvs x d:=by
 obtain⟨p,fs,e,a,g,i,y,l,j⟩:=h;exact{p,fs,e,by rw[aE λz=>by rw[z,f]at a;cases a];exact a,g,i,y,l.keep<|Tup.dk f,j}
def KC(D:WD)(x d:zZ):Prop:=d∈D.deeds/\x∈D.own d
def lE(D:WD)(i:Qk)(H:Hp)(kvs:Qi (aK×V)):Prop:=∀j,j<i->∀a,D.deeds[D.deeds.length-1-j]?\a->∀x∈D.own a,Got (fV D) H kvs x a
def QW(D:WD)(i j:Qk)(H:Hp)(kvs:Qi (aK×V)):Prop:=∀a,D.deeds[D.deeds.length-1-i]?\a->∀b,b<j->∀x,(D.own a)[b]?\x->Got (fV D) H kvs x a
inductive BU(mo:Ql)(H1:Hp)(hd wd bk:eH)(WA:WA)(D:WD)(t1:Ql)(i:Qk)(σ:St)(Hx:Hp):Prop
 | mk(lx kx:Qj V)(tx rx:Ql)(kvs:Qi (aK×V))(h1:σ=[Qp<|.ref hd,Qp<|.int mo,Qp<|.ref wd,Qp<|.ref bk,lx,kx,Qq,Qq])(h2:Sit0 Hx hd wd WA D tx rx)(h3:FrS (M0 hd WA) H1 Hx)(h4:0<=rx)(h5:rx<=54)(h6:tx+25*rx<=t1+1350+195*(i:Ql))(h7:Hx bk\.dK kvs)(h8:BK (fV D) H1 Hx kvs (13*i) (AlD D i 0))(h9:lE D i Hx kvs):BU mo H1 hd wd bk WA D t1 i σ Hx
inductive xW(mo:Ql)(H1:Hp)(hd wd bk:eH)(WA:WA)(D:WD)(t1 lv:Ql)(i j:Qk)(σ:St)(Hy:Hp):Prop
 | mk(ky:Qj V)(ty ry:Ql)(kvs:Qi (aK×V))(h1:σ=[Qp<|.ref hd,Qp<|.int mo,Qp<|.ref wd,Qp<|.ref bk,Qp<|.int lv,ky,Qq,Qq])(h2:Sit0 Hy hd wd WA D ty ry)(h3:FrS (M0 hd WA) H1 Hy)(h4:0<=ry)(h5:ry<=54)(h6:ty+25*ry<=t1+1350+195*(i:Ql)+15*(j:Ql))(h7:Hy bk\.dK kvs)(h8:BK (fV D) H1 Hy kvs (13*i+j) (AlD D i j))(h9:lE D i Hy kvs)(h10:QW D i j Hy kvs):xW mo H1 hd wd bk WA D t1 lv i j σ Hy
abbrev DP:Z2:=[qH,"_law_most",qW,"_law_done_by","_law_level","_law_kind","_law_main","_law_kinds"]
def yf9:cC DP [qH,"_law_most"] (bX rA):=cF
def Fs(F:X0 "_law_program" rA f fd)(T:X1 k "_law_take" qB iL)(O:X1 k "_law_of" qC (dP K))(W:X1 k "_law_world" [qH] MT)(DE:X1 k "_law_deed" JV KF)(R:X1 k "_law_rows" mZ (vV 4))(ml:mg "len"=Qq)(mr:mg "range"=Qq)(bl:mg "tuple"=Qq)(dl:mg "sorted"=Qq):
  ↥[qH,"_law_most"] OY:=by
 refine F.ok yf9 ⇑?_;obtain⟨hd,B,d,m,t,r,rfl,fm,hh,ht,q⟩:=h;have hr0:0<=B-B / 3/\B-B / 3<=54:=by lia
 have fl:0<=B / 3/\B / 3<=26:=by lia
 have hu:=fL hr;have cq:(["_law_name","_law_elder","_law_done_by"]:Z2).Nodup:=by rfl'
 exists _,aJ (sL 2 yf9.nd<|⇑@W<|av 0 aA)
  (aJ (jU (i:=3) yf9.nd rfl (jH rfl) pK) (aJ (hZ (cM pU ⇑1<|cM EX ⇑1 aQ)<|yX ⇑0 aQ AA) (aJ (eZ eN rfl (Eo rfl mr<|aI (cM pU (fO lR rfl ml iP<|aI (dL hu ⇑2 bW λ_ _=>U) aA) aQ)<|aI (rP sF aQ)<|aI (rP sF aQ) aA) (gL 4 yf9.nd)<|aY<|eZ eN rfl (gY<|dL hu (dL hu ⇑2 bW λ_ _=>U) (eI (dL hu ⇑2 bW λ_ _=>U)<|pv 4) λ_ _=>U) (gL 5 yf9.nd)<|aY<|eX<|fR fU hH hX gS (Mf ⇑3 ⇑5 (cX aA) ⟨rfl,rfl,rfl,rfl⟩)<|aI (⇑@DE<|av 0<|av 2<|av 5<|av 4 aA) aA) (aJ (hZ (cM lB (eI ⇑0 aQ)<|cM EX ⇑1 aQ)<|yX ⇑0 aQ AA) (aJ (sL 6 yf9.nd<|⇑@R<|av 0<|av 2<|aI pK<|aI (rP sF aQ)<|aI (⇑@T<|av 0<|aI aQ aA)<|aI (⇑@O<|av 0<|aI (cX<|eY<|eY<|eY<|eY aA) aA) aA) (aJ (nB (i:=7) (N':=["_law_name","_law_elder","_law_done_by"]) (src:=[Qq,Qq,Qp 3]) rfl yf9.nd rfl rfl eW (gY<|dL hu ⇑2 bW λ_ _=>U) (g:=eP K 2<|eG (cA 0)<|eG (cA 1) eO) (λ_ _ _ _=>dX (n:=2) rfl<|bI (gL 0 cq)<|bI (gL 1 cq) dV) (λ_ _ _ _=>gP) (te:=fF<|bJ (aG 0)<|bJ (aG 1)<|bJ (pP (λxs H Q=>∃p ys,xs=[.ref p]/\((SqL K H p ys/\∀l,H l=Qq->Q (.ref l) (upd H l<|.tup ys))\/(SqT K H p ys/\Q (.ref p) H)))<|bJ (GL K (ZI (aG 2) (aG 0)<|lC bN)<|RF (rU λi=>.int<|-i)<|tC<|.int 1) bN) bN) λ_ _ _ _=>cZ<|av 0<|av 1<|aI (eV gR rfl bl (by rfl')<|aI (Au (XO hu ⇑2 ⇑0 (cX aA) ⟨rfl,rfl,rfl,rfl⟩)<|rP sF aQ) aA) aA)
  (aY<|bR<|cZ<|aI (eV gR rfl bl (by rfl')<|av 7 aA)<|aI (eV gR rfl bl (by rfl')<|aI (fO MC rfl dl (by rfl')<|aI (dL hu ⇑2 bW λ_ _=>U) aA) aA)<|av 6 aA)))))))
 ac_rfl
 refine{6,hd,d,m,t,r,U,hh,∅,λwd WA D L t1 Z f1 ar ao g3=>?_};have h6:=Z.ok.d6;have dv:=Z.ok.l12;intro bk be;have S2:=Z.fr0<|S0 (S:=[]) (o:=.dK []) be;have af:bk∉M0 hd WA:=Z.notin be;obtain⟨d2,m2,dx,ee⟩:=S2.hand;exists 6,6,_,6,U,{∅,by decide},_,6,U,6,hd,_,3,3,U,U,dx,U;have b0:bk≠hd:=λz=>af (by rw[z];simp)
 have S3:Sit0 (upd (upd L bk<|.dK []) hd<|hl d2 m2 t1<|B-B / 3) hd wd WA D t1 (B-B / 3):=S2.setHand ee;have f3:FrS (M0 hd WA) L (upd (upd L bk<|.dK []) hd<|hl d2 m2 t1<|B-B / 3):=(S0 be).put' ⇑_;have c2:upd (upd L bk<|.dK []) hd (hl d2 m2 t1<|B-B / 3) bk\.dK []:=by rw[aE b0];exact zb0
 have hM:∀p,L p=Qq->p∉M0 hd WA:=λp hp=>Z.notin hp;exists 6,wd,6,S3.w.g.2.2.1,WA.deeds,6,.inl<|T1 S3.w.deeds.2,_,6,U,6,6,_,6,?_
 .rw[aF];exact{∅,∅,by decide,by decide}
 have da:1<=D.deeds.length:=uh2.mpr Z.ok.d1;have en:((↑(D.deeds.map R6):Ql)-1-(-1)).toNat=D.deeds.length:=by rw[aF];lia
 rw[en];refine Pf (hi:=((↑(D.deeds.map R6):Qk):Ql)-1) (n:=D.deeds.length) (BU B L hd wd bk WA D t1)
  ⟨_,_,t1,B-B / 3,[],rfl,S3,f3,hr0.1,hr0.2,∅,c2,⟨by simp,(λk v e=>nomatch e),λk k' v e=>nomatch e⟩,λj hj=>absurd hj<|E9 _⟩ ?_ ?_
 .rintro i σ Hx hi ⟨lx,kx,tx,rx,kvs,rfl,Sx,fx,f0,el,fr,bf,dc,hG⟩;have ba:D.deeds.length-1-i<D.deeds.length:=by lia
  have cd:((↑(D.deeds.map R6):Qk):Ql)-1-(i:Ql)=((D.deeds.length-1-i:Qk):Ql):=by rw[aF];lia
  have df:fY (D.deeds.map R6) (((↑(D.deeds.map R6):Qk):Ql)-1-(i:Ql))\.str D.deeds[D.deeds.length-1-i]:=by
   rw[cd];exact sC (by rw[bP,bM ba];rfl)
  have ef:D.deeds[D.deeds.length-1-i]∈D.deeds:=fP ba;obtain⟨op,o1,o2,o5,o4⟩:=Z.w.ol _ ef;have on:=o5.nodup Z.ok.ok.nd;have o3:=λx h=>o5.subset (a:=x) h;have al:D.deeds[D.deeds.length-1-i]?=Qp D.deeds[D.deeds.length-1-i]:=bM ba;generalize hos:D.own D.deeds[D.deeds.length-1-i]=os at o2 o3 o4 on;have d3:=o2.keep fx;exists 6,wd,6,Sx.w.g.2.2.2.2.1,6,wd,6,Sx.w.g.2.2.1,6,WA.deeds,_,_,6,U,T1 Sx.w.deeds.2,df,WA.owners,6,.inl {_,Qt _,.inl Sx.w.owners.2,U,o1.symm},op,U,{_,T1 d3.2};refine iT (xs:=os.map R6) (xW B L hd wd bk WA D t1 (((↑(D.deeds.map R6):Qk):Ql)-1-(i:Ql)) i)
   ⟨_,tx,rx,kvs,rfl,Sx,fx,f0,el,∅,bf,dc,hG,λ_ _ jj hj=>absurd hj<|E9 _⟩ ?_ ?_ ?_
  .rintro j σ Hy hj ⟨_,_,_,_,_,_,fy,_⟩;exact T1 (o2.keep fy).2
  .rintro j x σ Hy hx ⟨ky,ty,ry,kvs,rfl,Sy,fy,bq,ck,ch,az,a6,bo,bg⟩;obtain⟨hj,_⟩:=vh2.mp hx;rw[aF]at hj;rw[bP,bM hj]at hx;cases hx;have eg:os[j]∈D.names:=o3 _<|fP hj;refine{6,bk,U,.inl {_,.inl az},6,cE _,λpe ab=>?_};have Sz:=Sy.fr0<|S0 (S:=[]) (o:=.lst []) ab;have fz:FrS (M0 hd WA) L (upd Hy pe<|.lst []):=fy.trans<|S0 ab;have ad:upd Hy pe (.lst []) bk\.dK kvs:=by rw[aE<|bF az ab];exact az
   have ac:BK (fV D) L (upd Hy pe<|.lst []) kvs (13*i+j) (AlD D i j):=a6.keep (S0 ab) hM<|T3 ab;have bi:lE D i (upd Hy pe<|.lst []) kvs:=λj' X dn hd x hx=>(bo j' X dn hd x hx).keep a6 (S0 ab) hM<|T3 ab;have c0:QW D i j (upd Hy pe<|.lst []) kvs:=λdn hd jj X x hx=>(bg dn hd jj X x hx).keep a6 (S0 ab) hM<|T3 ab;have ay:L pe=none:=fy.old Sy.have_ ab;have aa:upd Hy pe (.lst []) pe\.lst []:=zb0;generalize upd Hy pe (.lst [])=Hz at Sz fz ad ac aa bi c0;have go:∀(pl:eH)(fs:Z3)(ah:Qi (aK×V))(Hv:Hp),Sit0 Hv hd wd WA D ty ry->FrS (M0 hd WA) L Hv->Hv bk\.dK ah->BK (fV D) L Hv ah (13*i+j+1) (AlD D i j)->Hv pl\(.lst<|fs.map R7)->↑fs<=13*i+j->L pl=Qq->Nmd (fV D) Hv (AlD D i j<|Qt os[j]) fs->lE D i Hv ah->QW D i j Hv ah->aO ah (Qt os[j])\.ref pl->
     RN K "list" zY (bJ (hV KF [] E0<|bJ (aG 0)<|bJ (aG 2)<|bJ (aG 5)<|bJ (aG 4) bN) bN) (.ref pl) [Qp<|.ref hd,Qp<|.int B,Qp<|.ref wd,Qp<|.ref bk,Qp<|.int<|((↑(D.deeds.map R6):Qk):Ql)-1-(i:Ql),Qp<|.str os[j],Qq,Qq] Hv λ_ eo=>
      xW B L hd wd bk WA D t1 (((↑(D.deeds.map R6):Qk):Ql)-1-(i:Ql)) i (j+1) [Qp<|R7 hd,Qp<|.int B,Qp<|.ref wd,Qp<|.ref bk,Qp<|.int<|((↑(D.deeds.map R6):Qk):Ql)-1-(i:Ql),Qp<|.str os[j],Qq,Qq] eo:=by
    intro pl fs ah Hv Sv fv eh ai b8 fj b7 ex ez dr c6;refine{.inl {U,_,T1 b8},6,6,6,6,hd,wd,WA,D,ty,ry,os[j],D.deeds.length-1-i,by rw[cd];rfl,eg,ba,Sv,bq,∅,λxn dn pv gv ln bv aq Hw tw e0 c1 cl b6 cv ca fp Sw fw e8 fh fq=>?_};have a5:=fw _ _ (hM pl b7) b8;have bj:=fw _ _ af eh;have bd:Tup Hv Hw:=Sv.tup fw;have dw:Nmd (fV D) Hw (AlD D i (j+1)<|Qt os[j]) (fs++[xn]):=by
     have e:D.deeds[D.deeds.length-1-i]=dn:=iZ<|al.symm.trans c1;rw[e]at hos al;have hx:(D.own dn)[j]?=Qp os[j]:=by rw[hos];exact bM hj
     obtain⟨C,z1,z2,z3⟩:=ex.keep bd λ_ h=>h;refine{C++[(dn,ln,bv,aq)],z1.snoc {pv,gv,cl,b6,cv,ca,by show ↑aq<=80;lia},?_,λz hz=>?_}
     .rw[bU];refine uk4.mpr {z2,Qi.pairwise_singleton _ _,λa ha b hb z=>?_};rw[vj1.mp hb]at z;obtain⟨y,hy,rfl⟩:=vj2.mp ha;have z:y.1=dn:=z;exact AlD.not Z.ok.dd (hos▸on) hi al hx<|z▸z3 y hy
     .obtain hz|hz:=vj7.mp hz
      .exact(z3 z hz).mono (.inr ⟨rfl,lA _⟩)
      .rw[vj1.mp hz];exact{i,j,_,al,hx,U,.inr {U,wN _}}
    have So:=Sit0.own (o:=.lst<|(fs++[xn]).map R7) Z Sw (fv.trans fw) b7;have ea:fs.map R7++[R7 xn]=(fs++[xn]).map R7:=by rw[bU];rfl
    exists pl,_,6,U,a5,bS (by rw[aF];lia);rw[ea];have f2:=ai.keep fw hM bd;refine{_,tw,e0,ah,U,So.1,So.2,e8,∅,∅,?_,?_,λj' X a9 I x hx=>((ez j' X a9 I x hx).keep ai fw hM bd).app a5,λa9 I jj X x hx=>?_}
    .rw[aE λz=>by rw[z,a5]at bj;cases bj];exact bj
    .exact f2.app c6 a5 (by rw[bK,fI];lia) dw<|AlD.mono<|.inr ⟨rfl,lA _⟩
    .obtain au|au:=nN jj j
     .exact((dr a9 I jj au x hx).keep ai fw hM bd).app a5
     .have fe:jj=j:=by lia
      rw[al]at I c1;cases I;cases c1;rw[hos,fe,bM hj]at hx;cases hx;exact{pl,fs++[xn],c6,zb0,xn,jE _<|vj1.mpr rfl,(_,ln,bv,aq),{pv,gv,(Tup.lst a5) _ _ cl,b6.keep<|Tup.lst a5,({cv,ca,by show ↑aq<=80;lia}:RowsIs (fV D) Hw (_,ln,bv,aq)).keep<|Tup.lst a5},U}
   refine{kvs,Qt os[j],ad,U,bS (by have:=ac.1;lia),λv hv=>?_,λhv=>?_}
   .obtain⟨pl,xs,rfl,a1,a2,a3,a4⟩:=ac.2.1 _ _ hv;exact go pl xs kvs Hz Sz fz ad (ac.more ∅ λ_ _ h=>h) a1 a2 a3 a4 bi c0 hv
   .have So:=Sit0.own (o:=.dK<|aX kvs (Qt os[j])<|.ref pe) Z Sz fz be;have ev:pe≠bk:=λz=>by rw[z,ad]at aa;cases aa
    refine go pe [] (aX kvs (Qt os[j])<|.ref pe) _ So.1 So.2 zb0 ?_ (by rw[aE ev];exact aa) (cE _) ay .nil (λj' X a9 I x hx=>((bi j' X a9 I x hx).put hv).dk ad) (λa9 I jj X x hx=>((c0 a9 I jj X x hx).put hv).dk ad) (by rw[oY,bG rfl]);have h1:=ac.put hv aa ay λk v e z=>by
     obtain⟨p',bc,b1,b2,_⟩:=a6.2.1 k v e;rw[b1]at z;cases z;rw[ab]at b2;cases b2
    refine{h1.1,λk v e=>?_,h1.2.2};obtain⟨p',bc,b1,b2,b3,b4,b5⟩:=h1.2.1 k v e;exact{p',bc,b1,by rw[aE λz=>by rw[z,ad]at b2;cases b2];exact b2,b3,b4,b5.keep (Tup.dk ad) λ_ h=>h}
  .rintro σ Hy ⟨ky,ty,ry,kvs,rfl,Sy,fy,bq,ck,ch,az,a6,bo,bg⟩;rw[aF]at ch a6 bg;refine{_,_,ty,ry,kvs,U,Sy,fy,bq,ck,∅,az,a6.more ∅<|AlD.mono<|.inl<|wN _,λj' X a9 I x hx=>?_};obtain c|c:=nN j' i
   .exact bo j' c a9 I x hx
   .have ej:j'=i:=by lia
    subst ej;rw[al]at I;cases I;rw[hos]at hx;obtain⟨jj,au⟩:=vn2.mp hx;exact bg _ al jj (vh2.mp au).1 x (by rw[hos];exact au)
 rintro σ H4 ⟨lx,kx,t4,J,kvs,rfl,S4,f4,fk,fi,g2,eu,ax,d9⟩;obtain⟨d4,m4,cx,ed⟩:=S4.hand;exists 6,hd,_,_,6,U,T1 cx,FZ,6,_,6,U,{∅,by decide},_,6,U,6,hd,_,3,3,U,U,cx,U;have S5:Sit0 (upd H4 hd<|hl d4 m4 t4<|J+B / 3) hd wd WA D t4 (J+B / 3):=S4.setHand ed;have f5:FrS (M0 hd WA) L (upd H4 hd<|hl d4 m4 t4<|J+B / 3):=f4.put' ⇑_;have ct:upd H4 hd (hl d4 m4 t4<|J+B / 3) bk\.dK kvs:=by rw[aE b0];exact eu
 have ak:BK (fV D) L (upd H4 hd<|hl d4 m4 t4<|J+B / 3) kvs (13*D.deeds.length) (AlD D D.deeds.length 0):=ax.keep (M:=M0 hd WA) (T0<|.head _) hM<|S4.tup<|T0<|.head _;have cs:lE D D.deeds.length (upd H4 hd<|hl d4 m4 t4<|J+B / 3) kvs:=λj' X a9 I x hx=>(d9 j' X a9 I x hx).keep ax (M:=M0 hd WA) (T0<|.head _) hM<|S4.tup<|T0<|.head _;have dq:∀{G:Hp->Prop},G (upd H4 hd<|hl d4 m4 t4<|J+B / 3)->G (upd H4 hd<|.lst<|[R8 d4,R8 m4,R8 t4,R8 J].set 3<|R8<|J+B / 3):=λh=>h;refine dq ?_;generalize upd H4 hd (hl d4 m4 t4<|J+B / 3)=H5 at S5 f5 ct ak cs;refine{6,6,λae bm=>?_};have e4:L ae=none:=f5.old S5.have_ bm;have Se:Sit (upd H5 ae<|.dK []) hd ae wd WA D t4 (J+B / 3):=S5.open bm DOk.nil;have c9:∀Hf:Hp,FrS (Ms hd ae WA) (upd H5 ae<|.dK []) Hf->FrS (M0 hd WA) H5 Hf:=λHf ff=>FrS.close bm ff;generalize upd H5 ae (.dK [])=H6 at Se c9;obtain⟨d,m,ei⟩:=Se.hand;refine{6,6,hd,d,m,t4,J+B / 3,5,U,ei,∅,by decide,by decide,λx d7 m7 t7 x0 x1 c7 e7=>?_};obtain⟨dp,rfl⟩:∃dp:Qk,x=(dp:Ql):=⟨x.toNat,by lia⟩;have S7:=Se.setHand (r':=J+B / 3) c7;have f7:FrS (Ms hd ae WA) H6 (upd H6 hd<|hl d7 m7 t7<|J+B / 3):=T0 ⇑_;refine{6,eQ rfl,λpi bp=>?_};have Sa:=S7.fr0<|S0 (S:=[]) (o:=.lst [R8 4,R8 8,R8 12,R8 20]) bp;have fa:=f7.trans<|S0 (o:=.lst [R8 4,R8 8,R8 12,R8 20]) bp;have bh:pi≠hd:=λz=>S7.notin bp (by rw[z];simp)
 obtain⟨d,m,ew⟩:=Sa.hand;refine{hd,pi,d,m,t7,J+B / 3,6,ew,∅,bh,T1 zb0,by simp,by show 4<1000;decide,λy db mb tb hy cb eb=>?_};obtain⟨mq,rfl,ek,e6⟩:∃mq:Ql,y=.int mq/\0<=mq/\mq<=100:=by
  simp only[vj0,aN,eC]at hy;obtain rfl|rfl|rfl|rfl:=hy
  .exact⟨4,rfl,by decide,by decide⟩
  .exact⟨8,rfl,by decide,by decide⟩
  .exact⟨12,rfl,by decide,by decide⟩
  .exact⟨20,rfl,by decide,by decide⟩
 have Sb:=Sa.setHand (r':=J+B / 3) cb;have fb:=fa.put' (a:=hd) (o:=hl db mb tb<|J+B / 3) ⇑_;refine{hd,ae,wd,WA,D,tb,J+B / 3,-1,mq,dp,U,∅,ek,e6,Sb,∅,∅,λmv c4 bs Hc tc rc er di cg Sc fc g6 ft g4=>?_};have f8:=c9 _<|fb.trans fc;have S8:=Sc.close;have c3:=f8 _ _ af ct;have aw:=ak.keep f8 hM<|S5.tup f8;have c8:lE D D.deeds.length Hc kvs:=λj' X a9 I x hx=>(cs j' X a9 I x hx).keep ak f8 hM<|S5.tup f8;have cn:RowsIs (fV D) Hc ("",mv,c4,bs):=⟨er,di,by show ↑bs<=80;lia⟩;have c5:=f5.trans f8;generalize Hc=H8 at f8 S8 c3 aw c5 cn c8;obtain⟨ts,ci,fo,dy⟩:=S8.w.tree;refine{6,wd,6,S8.w.g.1,WA.tree,U,{_,T1 ci.2},λDl cc=>?_};refine iT (xs:=ts.map R7) (λi σ Hx=>(∃x y,σ=[x,y,Qp<|.ref bk])/\FrS [] H8 Hx/\∃us:Z3,↑us=i/\Hx Dl\(.lst<|us.map R7)/\A2 (KAt (fV D) (KC D) Hx) us (D.tr.take i)) {{_,6},(FrS.refl).put cc,[],U,zb0,.nil} ?_ ?_ ?_
 .rintro i σ Hx hi ⟨_,fx,_⟩;exact T1<|fx _ _ ⇑_ ci.2
 .rintro i x σ Hx hx ⟨⟨g1,fn,rfl⟩,fx,us,bx,es,aj⟩;rw[bP]at hx;obtain⟨tt,ap,rfl⟩:=vh8.mp hx;obtain⟨hi,_⟩:=vh2.mp ap;have ce:D.tr[i]?=Qp D.tr[i]:=bM ∅;have e3:=dy i tt _ ap ce;have bf:=fx _ _ ⇑_ c3;exists tt,6,T2<|fx _ _ ⇑_ e3.2,U,_,6,_,6,U;refine{6,6,6,bk,U,.inl {_,.inl bf},6,cE _,λpd f6=>?_};have f9:FrS [] Hx (upd Hx pd<|.lst []):=S0 f6;have cr:=f9 _ _ ⇑_ bf;have bb:=f9 _ _ ⇑_ es;have cj:upd Hx pd (.lst []) pd\.lst []:=zb0;generalize upd Hx pd (.lst [])=N at f9 cr bb cj;have bu:FrS [] H8 N:=fx.trans f9;obtain⟨pz,C,e9,d5,ec,ep,d8⟩:∃(pz:eH)(C:Z3),(aO kvs<|Qt D.tr[i].1).getD (.ref pd)=.ref pz/\N pz\(.lst<|C.map R7)/\C.length<=80/\Nmd (fV D) N (λ_=>True) C/\∀d,KC D D.tr[i].1 d->∃f∈C,∃y,DeedIs (fV D) N f y/\y.1=d:=by
   have as:∀d,KC D D.tr[i].1 d->Got (fV D) H8 kvs D.tr[i].1 d:=λd hd=>by
    obtain⟨j,hj⟩:=vn2.mp hd.1;have g0:=(vh2.mp hj).1;refine c8 (D.deeds.length-1-j) ∅ d ?_ _ hd.2;rw[show D.deeds.length-1-(D.deeds.length-1-j)=j by lia];exact hj
   cases hv:aO kvs (Qt D.tr[i].1)with
   | none=>
    refine{pd,[],U,cj,cE _,.nil,λd hd=>?_};obtain⟨p',em,e,_⟩:=as d hd;rw[hv]at e;cases e
   | some v=>
    obtain⟨p',bc,b1,b2,b3,_,b5⟩:=aw.2.1 _ _ hv;refine{p',bc,b1,bu _ _ aN b2,∅,b5.keep (T4 bu) λ_ _=>trivial,λd hd=>?_};obtain⟨p2,em,e,e2,g,hg,y,hy,ey⟩:=as d hd;rw[hv,b1]at e;cases e;rw[b2]at e2;injection e2 with e2;injection e2 with e2;rw[<-An e2]at hg;exact{g,hg,y,hy.keep<|T4 bu,ey}
  refine{_,DGet.k (k:=(Qt D.tr[i].1:aK)) cr,6,U,pz,_,e9,T1 d5,λam eq=>?_};rw[<-GH];refine{am,6,.inl {T1 zb0,λpu dg=>?_}};refine{eQ rfl,λpt an=>?_};have fA:FrS [] N (upd (upd N am<|.lst<|C.reverse.map R7) pu<|.tup<|C.reverse.map R7):=(S0 eq).trans<|S0 dg;have b9:upd (upd N am<|.lst<|C.reverse.map R7) pu (.tup<|C.reverse.map R7) pu\(.tup<|C.reverse.map R7):=zb0;have bz:=fA _ _ ⇑_ bb;have cy:Nmd (fV D) (upd (upd N am<|.lst<|C.reverse.map R7) pu<|.tup<|C.reverse.map R7) (λ_=>True) C.reverse:=ep.rev.keep (T4 fA) λ_ h=>h;have cf:∀d,KC D D.tr[i].1 d->∃f∈C.reverse,∃y,DeedIs (fV D) (upd (upd N am<|.lst<|C.reverse.map R7) pu<|.tup<|C.reverse.map R7) f y/\y.1=d:=λd hd=>by
   obtain⟨f,hf,y,hy,ey⟩:=d8 d hd;exact{f,vx4.mpr hf,y,hy.keep<|T4 fA,ey}
  generalize upd (upd N am<|.lst<|C.reverse.map R7) pu (.tup<|C.reverse.map R7)=HA at fA bz an b9 cy cf;have e5:Dl≠pt:=bF bz an;have cz:upd HA pt (.tup [R6 D.tr[i].1,bB D.tr[i].2,R7 pu]) Dl\(.lst<|us.map R7):=by rw[aE e5];exact bz
  refine{_,cz,by rw[aF];exact bS ∅,{_,6},(((fx.trans f9).trans fA).trans<|S0 an).put cc,us++[pt],by rw[bK,bx];rfl,by rw[zb0,bU];rfl,?_};have tl:Tup (upd HA pt<|.tup [R6 D.tr[i].1,bB D.tr[i].2,R7 pu]) (upd (upd HA pt<|.tup [R6 D.tr[i].1,bB D.tr[i].2,R7 pu]) Dl<|.lst<|us.map R7++[R7 pt]):=Tup.lst cz;have tn:=(T3 (o:=.tup [R6 D.tr[i].1,bB D.tr[i].2,R7 pu]) an).trans tl;rw[dE,ce];exact(aj.imp λu z h=>h.keep<|((T4<|f9.trans fA).trans<|T3 an).trans tl).snoc {pu,C.reverse,tl _ _ zb0,tn _ _ b9,by rw[lZ];exact ec,cy.keep tn λ_ h=>h,λd hd=>by
   obtain⟨f,hf,y,hy,ey⟩:=cf d hd;exact{f,hf,y,hy.keep tn,ey}}
 rintro σ N ⟨_,f9,us,bx,bb,aj⟩;rw[aF]at bx aj;rw[cW ∅]at aj;refine{6,Dl,6,.inl {T1 bb,λkt du=>?_}};have fA:FrS [] N (upd N kt<|.tup<|us.map R7):=S0 du;have ag:upd N kt (.tup<|us.map R7) kt\(.tup<|us.map R7):=zb0;generalize upd N kt (.tup<|us.map R7)=HA at fA ag;have SA:=(S8.fr0 f9).fr0 fA;refine{6,wd,6,SA.w.g.2.1,WA.late,D.late,U,T1 SA.w.late.2,by have:=SA.ok.lateLen;lia,λls br dz a8 _=>?_};refine{ls,6,.inl {T1 zb0,λlt dm=>?_}};refine{6,eQ rfl,λpr cm=>?_};have fB:FrS [] HA (upd (upd (upd HA ls<|.lst<|br.map R6) lt<|.tup<|br.map R6) pr<|.tup [R7 kt,R7 lt,R7 mv]):=((S0 dz).trans<|S0 dm).trans<|S0 cm;have bt:FrS [] H8 _:=(f9.trans fA).trans fB;obtain⟨ks,d0,et,cw,dj⟩:=sS (H:=N) us _ aj;have bw:=T4<|fA.trans fB;have ds:=(T4 f9).trans bw;have SB:=SA.fr0 fB;obtain⟨dh,mh,fg⟩:=SB.hand;refine q pr ks ("",mv,c4,bs) D.tr br (fV D) _ dh mh tc rc ?_ {kt,us,R7 lt,zb0,fB _ _ aN ag,d0,λj u z bn hz=>(et j u z bn hz).keep bw,cn.keep ds,∅} {kt,us,R7 lt,R7 mv,zb0,fB _ _ aN ag,aj.len,λj u z bn hz=>?_} Z.ok.ok dv {kt,lt,_,zb0,?_,by rw[a8.length_eq];have:=SA.ok.lateLen;lia,λx hx e e1 e2=>a8.mem_iff.mpr<|SA.ok.lateIn x hx e e1<|a8.mem_iff.mp e2,by
  obtain⟨x,hx,hn⟩:=SA.ok.soon;obtain⟨z,hz,rfl⟩:=vj2.mp hx;exact{z,hz,λh=>hn<|a8.mem_iff.mp h}} {cw,λk h=>h,λk d cp=>{cp.1,?_},λk d h=>Z.ok.de d h.2.1,D.deeds,Z.ok.d6,λk d h=>h.2.1} fg ∅
 .intro b o n e;refine bt _ _ ⇑_<|c5 b o (λz=>?_)<|f1 b o n e;simp only[M0,vj0,aN,eC]at z;obtain z|z|z:=z
  .exact n (by rw[z];simp)
  .exact bF e ar z
  .exact bF e ao z
 .obtain⟨z',cu,dt,fs,e1,_⟩:=aj.get bn;rw[hz]at cu;cases cu;exact{_,bw _ _ e1}
 .exact(T3 cm) _ _ zb0
 .obtain⟨_,I,n,l,co,hn,ho⟩:=cp;have cg:n∈ks.map (·.1):=by
   rw[cw];exact co.mem n hn
  obtain⟨y,hy,ey⟩:=vj2.mp cg;exact{n,l,co,hn,y,hy,ey,dj y hy d {I,by rw[ey];exact ho}}
abbrev TH:Qd:=top 10
abbrev ZG:Qd:=top 11
abbrev uQ:Qd:=top 12
abbrev sU:Qd:=top 13
abbrev Ab:Qd:=top 17
def nP(x:V)(xs:Qi V):fY (x::xs) 0\x:=by
 unfold fY pM;simp
def jM(h:n<=1000000):n<sizeLine:=Vo h ↥?_
def HM(x:V)(rest:Qi V):dU (x::rest) (Qp 1) Qq=rest:=by
 unfold dU HT.sIx;simp
def kR(w:zZ)(rest:Qi V):Qi V:=if w="either"\/w="again" then rest else []
inductive NX(vs:Qi V)(H:Hp)(Q:VK)(_:XK):Prop
 | mk(a:eH)(w:zZ)(rest:Qi V)(h1:vs=[.ref a])(h2:H a\(.tup<|.str w::rest))(h3:∀p,H p=Qq->Q (.ref p) (upd H p<|.tup<|kR w rest))
def Hm:cC ["row"] ["row"] (bX ZG):=cF
def Gh(F:X0 "rows_within" ZG f fd)(e:mg "HOLDERS"\.ref ah)(i:∀H,SqT K H ah [.str "either",.str "again"]):↥["row"] NX:=by
 refine F.ok Hm ⇑?_;obtain⟨a,w,rest,rfl,b,q⟩:=h;exists _,aJ (cY (cG oH (eT ⇑0 aQ) (mG (v:=.ref ah) rfl e U) U) (aY<|bR<|kT xp1 ⇑0 (kM aQ) mR) dJ)
  (aY<|bR<|cZ aA)
 ac_rfl
 have d:gC (.str w) [.str "either",.str "again"]=decide (w="either"\/w="again"):=by
  have:=jS w ["either","again"];simpa using this
 exists 6,a,_,_,.str w,U,U,T2 b,nP _ _,ah,6,.inr<|i _,U,U,6;show if gC (.str w) [.str "either",.str "again"]=Qr then _ else _
 rw[d];refine bE (λc=>?_) λc=>?_
 .have c':=dH c;refine{6,6,a,6,T2 b,?_,λp j=>?_}
  .intro z;have:=z.1;unfold HT.sIx at this;simp at this
  .have:=q p j;unfold kR at this;rw[bG c']at this;rw[HM];exact this
 .have c':¬(w="either"\/w="again"):=λz=>c<|cN z;refine{cE _,λp j=>?_};have:=q p j;unfold kR at this;rw[bA c']at this;exact this
abbrev Bz:=(zZ×zZ)×Dz
def fN(y:zZ×Qi Dz):Qi Bz:=y.2.map λz=>((y.1,z.1),z)
def bQ(ks:Qi (zZ×Qi Dz))(a:Dz):Qi Bz:=(("",""),a)::ks.flatMap fN
def BT(K:Fq)(H:Hp)(bd:eH)(n:zZ×zZ):Prop:=H bd=Qp (.tup [.str n.1,.str n.2])\/∀a,SqT K a bd [.str n.1,.str n.2]
def BT.keep(h:BT K H bd n)(f:Tup H H'):BT K H' bd n:=h.imp (f _ _) id
def BT.sq(h:BT K H bd n):SqT K H bd [.str n.1,.str n.2]:=h.elim T2 λg=>g H
inductive BodyIs(K:Fq)(H:Hp)(q:eH)(z:Bz):Prop
 | mk(bd:eH)(h1:H q\.tup [.ref bd,.ref z.2.2.1])(h2:BT K H bd z.1):BodyIs K H q z
theorem BodyIs.keep(h:BodyIs K H q z)(f:Tup H H'):BodyIs K H' q z:=by
 obtain⟨bd,b,a⟩:=h;exact{bd,f _ _ b,a.keep f}
def _root_.L2.A2.bkeep(h:A2 (BodyIs K H) qs L)(f:Tup H H'):A2 (BodyIs K H') qs L:=h.imp λ_ _ g=>g.keep f
inductive GZ(K:Fq)(vs:Qi V)(H:Hp)(Q:VK)(_:XK):Prop
 | mk(p:eH)(ks:Qi (zZ×Qi Dz))(m0:Dz)(h1:vs=[.ref p])(h2:ProgIs Z H p ks m0)(h3:∀(b:eH)(qs:Z3)(H':Hp),FrS [] H H'->H' b\(.tup<|qs.map R7)->A2 (BodyIs K H') qs (bQ ks m0)->↑qs<=1000->Q (.ref b) H')
inductive XR(K:Fq)(H1:Hp)(p fd:eH)(L:Qi Bz)(c:Qk)(σ:St)(Hx:Hp):Prop
 | mk(a b d e g h i:Qj V)(qs:Z3)(hσ:σ=[Qp<|.ref p,Qp<|.ref fd,a,b,d,e,g,h,i])(fr:FrS [] H1 Hx)(hf:Hx fd\(.lst<|qs.map R7))(ha:A2 (BodyIs K Hx) qs L)(hc:↑qs<=c):XR K H1 p fd L c σ Hx
inductive At(K:Fq)(H1:Hp)(p fd:eH)(n:zZ)(e:V)(dt:eH)(L:Qi Bz)(c:Qk)(σ:St)(Hx:Hp):Prop
 | mk(a b d f:Qj V)(qs:Z3)(hσ:σ=[Qp<|.ref p,Qp<|.ref fd,Qp<|.str n,Qp e,Qp<|.ref dt,a,b,d,f])(fr:FrS [] H1 Hx)(hf:Hx fd\(.lst<|qs.map R7))(ha:A2 (BodyIs K Hx) qs L)(hc:↑qs<=c):At K H1 p fd n e dt L c σ Hx
def zn3:cC ["program","found","name","elder","deeds","deed","params","rows","gives"] qK (bX TH):=cF
def Ot(F:X0 "bodies" TH f fd)(mM:mg "MAIN"\.ref am)(hM:∀H,SqT K H am [.str "",.str ""])(aa:mg "tuple"=Qq):↥qK (GZ K):=by
 refine F.ok zn3 ⇑?_;obtain⟨p,ks,C,rfl,⟨kt,us,lt,hp,hk,X,a9,hm,ae⟩,q⟩:=h;exists _,aJ (sL 1 zn3.nd<|cX<|aI (cZ<|aI (mG (v:=.ref am) rfl mM U)<|aI (eT ⇑0 aQ) aA) aA)
  (aJ (eZ eN rfl (gB<|eT ⇑0 aQ) (dX (n:=3) rfl<|bI (gL 2 zn3.nd)<|bI (gL 3 zn3.nd)<|bI (gL 4 zn3.nd) dV)<|aY<|eZ eN rfl (gB<|pv 4) (dX (n:=4) rfl<|bI (gL 5 zn3.nd)<|bI (gL 6 zn3.nd)<|bI (gL 7 zn3.nd)<|bI (gL 8 zn3.nd) dV)<|aY<|eX<|fR fU hH hX gS ⇑1<|aI (cZ<|aI (cZ<|av 2<|av 5 aA)<|av 7 aA) aA)<|aY<|bR<|eV gR rfl aa (by rfl')<|av 1 aA)
 ac_rfl
 have s2:2<=sizeLine:=cQ (bS<|by decide);have s0:1<=sizeLine:=cQ (bS<|by decide);refine{6,p,_,_,6,U,T2 hp,U,s2,λpt a7=>{s0,λfl I=>?_}};have J:FrS [] H (upd (upd H pt<|.tup [.ref am,.ref C.2.1]) fl<|.lst<|[pt].map R7):=(S0 a7).trans<|S0 I;have a5:H fl=none:=zX (S0 a7) I;exists 6,p,_,_,6,U,T2<|J _ _ aN hp,U,kt,U,{_,T2<|J _ _ aN hk};refine gG (xs:=us.map R7) (λi=>XR K H p fl (bQ (ks.take i) C)<|1+80*i) {_,_,_,_,_,_,_,[pt],U,J,zb0,.cons {am,(T3 I) _ _ zb0,.inr hM} .nil,aV _} ?_ ?_ ?_
 .rintro i σ Hx hi ⟨_,_,_,_,_,_,_,_,_,fr,_⟩;exact T2<|fr _ _ aN hk
 .rintro i x σ Hx hx ⟨_,_,_,_,_,_,_,qs,rfl,fr,G,a,m⟩;rw[bP,vh8]at hx;obtain⟨u,hu,rfl⟩:=hx;have hi:i<↑ks:=by rw[<-X];exact(vh2.mp hu).1
  have T:ks[i]?=Qp ks[i]:=bM hi;obtain⟨e,dt,ds,Z,d2,d3,d4,d5⟩:=a9 i u _ hu T;have eL:bQ (ks.take<|i+1) C=bQ (ks.take i) C++fN ks[i]:=by
   unfold bQ;rw[dE,T,sW,Wp];simp
  rw[eL];generalize ks[i]=y at Z d3 d4;exists u,6,T2<|fr _ _ aN Z,U,_,6,_,6,_,6,U;exists 6,dt,U,{_,T2<|fr _ _ aN d2};refine gG (xs:=ds.map R7) (λj=>At K H p fl y.1 e dt (bQ (ks.take i) C++(fN y).take j)<|1+80*i+j) {_,_,_,_,qs,U,fr,G,by rw[Xi,eA];exact a,m} ?_ ?_ ?_
  .rintro j σ B W ⟨_,_,_,_,_,_,r,_⟩;exact T2<|r _ _ aN d2
  .rintro j x σ B hx ⟨_,_,_,_,qs,rfl,r,a1,a,m⟩;rw[bP,vh8]at hx;obtain⟨g,O,rfl⟩:=hx;have W:j<↑y.2:=by rw[<-d3];exact(vh2.mp O).1
   have hz:y.2[j]?=Qp y.2[j]:=bM W;obtain⟨ad,ac,g1,_,g2⟩:=d4 j g _ O hz;have eD:(fN y).take (j+1)=(fN y).take j++[((y.1,y.2[j].1),y.2[j])]:=by
    have:(fN y)[j]?\((y.1,y.2[j].1),y.2[j]):=by unfold fN;rw[bP,hz];rfl
    rw[dE,this];rfl
   rw[eD,<-dY];generalize y.2[j]=z at g1 g2;exists g,6,T2<|r _ _ aN g1,U,_,6,_,6,_,6,_,6,U;refine{6,.inl {U,_,T1 a1},6,6,s2,λl M=>{6,s2,λd L=>?_}};have tn:=(T3 (o:=.tup [R6 y.1,R6 z.1]) M).trans<|T3 (o:=.tup [.ref l,.ref z.2.1]) L;have f2:FrS [] B (upd (upd B l<|.tup [R6 y.1,R6 z.1]) d<|.tup [.ref l,.ref z.2.1]):=(S0 M).trans<|S0 L;have a8:=f2 _ _ aN a1;have tl:Tup _ (upd (upd (upd B l<|.tup [R6 y.1,R6 z.1]) d<|.tup [.ref l,.ref z.2.1]) fl<|.lst<|(qs++[d]).map R7):=Tup.lst a8;exists fl,_,6,U,a8,bS (by rw[aF];lia);rw[show qs.map R7++[R7 d]=(qs++[d]).map R7 by rw[bU];rfl];exact{_,_,_,_,qs++[d],U,(r.trans f2).put a5,zb0,(a.bkeep<|tn.trans tl).snoc {l,tl _ _ zb0,.inl<|((T3 L).trans tl) _ _ zb0},by rw[bK,fI];lia}
  .rintro σ B ⟨_,_,_,_,qs,rfl,r,a1,a,m⟩;have el:(fN y).take ↑(ds.map R7)=fN y:=cW (by unfold fN;rw[aF,aF];lia);rw[el]at a;rw[aF]at m;exact{_,_,_,_,_,_,_,qs,U,r,a1,a,∅}
 .rintro σ Hx ⟨_,_,_,_,_,_,_,qs,rfl,fr,G,a,m⟩;rw[aF,X]at a m;rw[cW<|aV _]at a;refine{6,fl,6,.inl {T1 G,λb N=>?_}};exact q b qs _ (fr.trans<|S0 N) zb0 (a.bkeep<|T3 N) ∅
end Gn
end
section
local macro_rules|`(tactic|ac_rfl)=>`(tactic|first|dsimp only[L2.gX,L2.Cx.nox]|skip)
namespace Gn
open PySem PySem.Spec L2
open L2.V renaming str->R6,ref->R7,int->R8,non->R9
open FrS renaming new->S0,chg->T0
open L2.SqL renaming of->T1
open L2.SqT renaming of->T2
open Tup renaming new->T3,of0->T4
def tP(P:Py)(w:Qb)(K:Fq)(mg:zZ->Qj iH)(base:Qa)(k:Qk)(ps:Z2)(g:eH)(sp:Sp):Prop:=∃a,aR P w K mg base bT k g a ps sp/\Binds K a ps []/\Sm K (.ref g)=Qr
inductive Lv(P:Py)(w:Qb)(K:Fq)(mg:zZ->Qj iH)(base:Qa)(k:Qk)(ps:Z2)(t:TA)(v:V)(σ:St)(H:Hp)(Q:VK):Prop
 | mk(g:eH)(sp:Sp)(h1:v=.ref g)(h2:tP P w K mg base k ps g sp)(q:t σ H λvs H2=>sp vs H2 Q E0)
def Od(P:Py)(w:Qb)(K:Fq)(mg:zZ->Qj iH)(base:Qa)(k:Qk)(ps:Z2)(b:TE)(t:TA):TE:=λa H Q=>b a H λv d=>Lv P w K mg base k ps t v a d Q
def BZ{X:Cx}{x:zZ}{p pos:Ud}{e:Qc}{es:Qi Qc}{z:TE}{t:TA}{k:Qk}{ps:Z2}(hr:Room k X.A)(hx:PE X (.Name x p) z)(f:PA X (e::es) t)(he:X9 (starEach (e::es) X.env=(Qs,eval e X.env)::starEach es X.env) X8)(a1:X9 ((backTo pos<|starEach es X.env).any (·.1)=false) X8):
  PE X (.Call (.Name x p) (e::es) [] pos) (Od X.prog X.w X.K X.mg X.base k ps z t):=by
 intro d s B H Q I h;refine zG<|bD (hx d s B H _ I h) ?_;rintro u l ⟨v,m,i,j,g,E,rfl,⟨M,G,b,n⟩,q⟩;obtain rfl:u=Qy g:=j;refine Vd (h₀:=X.base) I.ok.mod.kin n (bD (f pos d l B m _ i q) ?_) he a1;rintro C L ⟨vs,J,a,r,o⟩;exact{a.kIn,TD (dvs:=[]) G hr b .nil OS a r<|by rw[eA];exact o}
def NZ(P:Py)(w:Qb)(K:Fq)(a:eH)(kvs:Qi (aK×iH)):Prop:=∃o,K.lookup a\o/\∀h:Qa,h.get? a\o->h.DictOf (cR P w) a kvs
inductive Oe(P:Py)(w:Qb)(K:Fq)(x y:V)(H:Hp)(Q:VK):Prop
 | mk(a g:eH)(kvs:Qi (aK×iH))(k:aK)(h1:x=.ref a)(h2:y=kV k)(h3:NZ P w K a kvs)(h4:valueAt kvs k\.ref g)(q:Q (.ref g) H)
def Jz(P:Py)(w:Qb)(K:Fq)(td e:TE):TE:=λa H Q=>td a H λx d=>e a d λy b=>Oe P w K x y b Q
def AG{X:Cx}{o i:Qc}{td J:TE}{pos:Ud}(j:PE X o td)(hi:PE X i J)(hs:X9 (pW i) X3):PE X (.Subscript o i pos) (Jz X.prog X.w X.K td J):=by
 intro e s G H Q I h;refine ON ug1.lookup hs<|bD (j e s G H _ I h) λu q ⟨x,r,f,A,B⟩=>bD (hi e q G r _ f B) ?_;rintro E N ⟨y,M,d,l,a,g,L,k,ex,n,⟨O,z,hd⟩,m,C⟩;subst ex n;obtain rfl:u=Qy a:=A;have b:=hd N.heap<|d.kIn _ _ z;exact{b.typeIs,L4 (nQ l) b.mapOf m {.ref g,M,d.tok _,U,C}}
inductive LL
 | nil
 | op (n:Qk) (a:eH) (r:Rw) (t:LL)
 | call (n:Qk) (a:eH) (x y k d:zZ) (as:Z2) (t:LL)
 | either (n:Qk) (a:eH) (p q t:LL)
 | again (n:Qk) (a:eH) (p t:LL)
inductive Du
 | op (n:Qk) (a:eH) (r:Rw) (m:Qk)
 | call (n:Qk) (a:eH) (x y k d:zZ) (as:Z2) (m:Qk)
 | either (n:Qk) (a:eH) (p q:LL) (m:Qk)
 | again (n:Qk) (a:eH) (p:LL) (m:Qk)
 | back (x:zZ) (g:Qj zZ) (s m:Qk)
def LL.dues(m:Qk):LL->Qi Du
 | .nil=>[]
 | .op n a r t=>.op n a r m::t.dues m
 | .call n a x y k d b t=>.call n a x y k d b m::t.dues m
 | .either n a p q t=>.either n a p q m::t.dues m
 | .again n a p t=>.again n a p m::t.dues m
structure Pg where
 nm:Z2
 hs:zZ->zZ->Prop
 ln:zZ->Z2
 an:zZ->zZ->zZ
 co:zZ->zZ->Ql
 ps:zZ->zZ->Z2
 gv:zZ->zZ->Qj zZ
 bo:zZ->zZ->LL
 ch:Qi Ql
structure Rs where
 ds:Qi (Qi<|aK×V)
 ts:Qi (zZ×Qk)
 td:Qi Du
 lg:Qi (Qi V)
 lk:Ql
 rd:Qk
 uw:Ql
 hr:Z2
def Rs.get(S:Rs)(m:Qk)(x:zZ):V:=(aO (S.ds.getD m [])<|Qt x).getD .non
def Rs.put(S:Rs)(m:Qk)(x:zZ)(v:V):Rs:={S with ds:=S.ds.set m<|aX (S.ds.getD m []) (Qt x) v}
def Rs.say(S:Rs)(r:Qi V):Rs:={S with lg:=S.lg++[r]}
def Rs.push(S:Rs)(l:LL)(m:Qk):Rs:={S with td:=l.dues m++S.td}
def pushN(l:LL)(m:Qk):Qk->Rs->Rs
 | 0,S=>S
 | n+1,S=>pushN l m n<|S.push l m
def Rs.come(S:Rs)(k:zZ):Rs:=if k∈S.hr then S else {S with hr:=S.hr++[k],lg:=S.lg++[[.str "came",.str k]]}
def Rs.make(S:Rs)(k:zZ):Rs:={S with ts:=S.ts++[(k,S.ds.length)],ds:=S.ds++[[]]}
def Rs.kind(S:Rs)(j:Ql):zZ:=(S.ts.getD j.toNat ("",0)).1
def Rs.dict(S:Rs)(j:Ql):Nat:=(S.ts.getD j.toNat ("",0)).2
def Rs.thing(S:Rs)(v:V)(f:Ql->Rs×Qj zZ):Rs×Qj zZ:=match v with
 | .int j=>f j
 | _=>(S,Qp "nothing")
def Jy(P:Pg)(S:Rs)(n m:Qk):Rw->Rs×Qj zZ
 | .make x k=>if k∈S.hr then(((S.make k).put m x<|.int S.ts.length),Qq) else(S,Qp "absent")
 | .copy x y=>(S.put m x<|S.get m y,Qq)
 | .put x f y=>S.thing (S.get m x) λj=>(S.put (S.dict j) f<|S.get m y,Qq)
 | .take x y f=>S.thing (S.get m y) λj=>(S.put m x<|S.get (S.dict j) f,Qq)
 | .say w=>(S.say [.str "say",.int n,.str w],Qq)
 | .bring k=>((P.ln k).reverse.foldl Rs.come S,Qq)
def zW(S:Rs)(m:Qk)(ps as:Z2)(j:Ql):Qi (aK×V):=aX ((ps.zip as).foldl (λd z=>aX d (Qt z.1)<|S.get m z.2) []) (Qt "own")<|.int j
def tF(P:Pg)(S:Rs)(n m:Qk)(x d:zZ)(as:Z2)(j:Ql):Rs:=
 let k:=S.kind j
 let f:=P.an k d
 {S with ds:=S.ds++[zW S m (P.ps f d) as j],lg:=S.lg++[[.str "did",.int n,.str k,.str f]],lk:=S.lk+P.co k d,uw:=S.uw+1,td:=(P.bo f d).dues S.ds.length++.back x (P.gv f d) S.ds.length m::S.td}
def Rs.pick(P:Pg)(S:Rs):Int:=P.ch.getD S.rd 0
def doR(P:Pg)(S:Rs):Du->Rs×Qj zZ
 | .op n _ r m=>Jy P S n m r
 | .call n _ x y k d a m=>S.thing (S.get m y) λj=>if k∈P.ln (S.kind j) then if 40<=S.uw then(S,Qp "deep") else(tF P S n m x d a j,Qq) else(S,Qp "unfit")
 | .either _ _ p q m=>({S with rd:=S.rd+1}.push (if S.pick P=0 then p else q) m,Qq)
 | .again _ _ p m=>(pushN p m (min (S.pick P) 9).toNat {S with rd:=S.rd+1},Qq)
 | .back _ _ _ _=>(S,Qq)
def Rs.giv(S:Rs)(s:Qk):Qj zZ->V
 | none=>.non
 | some g=>S.get s g
def yI(S:Rs)(x:zZ)(g:Qj zZ)(s m:Qk):Rs:={S.put m x (S.giv s g)with uw:=S.uw-1}
def Du.num:Du->Qj Qk
 | .op n _ _ _=>Qp n
 | .call n _ _ _ _ _ _ _=>Qp n
 | .either n _ _ _ _=>Qp n
 | .again n _ _ _=>Qp n
 | .back _ _ _ _=>Qq
inductive Rn(P:Pg)(mo:Qk):Qk->Rs->Rs->zZ->V->Prop
 | done {dn:Qk} {S:Rs} (h:S.td=[]):Rn P mo dn S S "done" .non
 | back {dn:Qk} {S S':Rs} {e:zZ} {v:V} {x:zZ} {g:Qj zZ} {s m:Qk} {r:Qi Du} (h:S.td=.back x g s m::r) (t:Rn P mo dn (yI {S with td:=r} x g s m) S' e v):Rn P mo dn S S' e v
 | long {dn n:Qk} {S:Rs} {d:Du} {r:Qi Du} (h:S.td=d::r) (hn:d.num\n) (hm:mo<=dn):Rn P mo dn S {S with td:=r} "long" (.int n)
 | stop {dn n:Qk} {S S':Rs} {d:Du} {r:Qi Du} {e:zZ} (h:S.td=d::r) (hn:d.num\n) (hm:dn<mo) (he:doR P {S with td:=r} d=(S',Qp e)):Rn P mo dn S S' e (.int n)
 | go {dn n:Qk} {S S1 S':Rs} {d:Du} {r:Qi Du} {e:zZ} {v:V} (h:S.td=d::r) (hn:d.num\n) (hm:dn<mo) (he:doR P {S with td:=r} d=(S1,Qq)) (t:Rn P mo (dn+1) S1 S' e v):Rn P mo dn S S' e v
def Jf(l:Qi (Qi V)):Prop:=↑l<=1\/∀r∈l,r.head?\.str "came"
def Ok1(S:Rs)(R:Rs×Qj zZ):Prop:=∃z,R.1.lg=S.lg++z/\S.lk<=R.1.lk/\Jf z/\∀e,R.2\e->e≠"long"/\e≠"done"
def Ok1.same(b:S'.lg=S.lg)(a:S'.lk=S.lk):Ok1 S (S',Qq):=⟨[],by rw[b];simp,Ql.le_of_eq a.symm,.inl<|cE _,λe h=>nomatch h⟩
def kL:Du->Qk
 | .back _ _ _ _=>1
 | _=>0
def bY(l:Qi Du):Nat:=(l.map kL).sum
def vD(m:Qk):∀l:LL,bY (l.dues m)=0:=λl=>l.recOn
 (rfl)
 (λn a r t b=>by have:=b;simp only[LL.dues,bY,eE,lQ,kL]at *;lia)
 (λn a x y k d f t b=>by have:=b;simp only[LL.dues,bY,eE,lQ,kL]at *;lia)
 (λn a p q t _ _ a1=>by have:=a1;simp only[LL.dues,bY,eE,lQ,kL]at *;lia)
 (λn a p t _ e=>by have:=e;simp only[LL.dues,bY,eE,lQ,kL]at *;lia)
def GP(a b:Qi Du):bY (a++b)=bY a+bY b:=by unfold bY;rw[bU,Qi.sum_append]
def Fp:∀(n:Qk)(S:Rs),bY (pushN l m n S).td=bY S.td:=λn=>Ul
 (λ_=>U)
 (λn a S=>by
  unfold pushN;rw[a];show bY (l.dues m++S.td)=_;rw[GP,vD,lW]) n
def TX:∀(l:Z2)(S:Rs),(l.foldl Rs.come S).td=S.td:=λl=>l.recOn
 (λ_=>U)
 λk l a S=>by
  rw[uF,a];unfold Rs.come
  split <;> rfl
def ME{S:Rs}{v:V}{f:Ql->Rs×Qj zZ}{c:Qk}(h:∀j,bY (f j).1.td<=c)(h0:bY S.td<=c):bY (S.thing v f).1.td<=c:=by
 cases v with
 | int j=>exact h j
 | _=>exact h0
def YY(P:Pg)(S:Rs)(d:Du):bY (doR P S d).1.td<=bY S.td+1:=by
 have b:bY S.td<=bY S.td+1:=lA _;cases d with
 | op n a r m=>
  cases r with
  | make x k=>show bY (if k∈S.hr then _ else _:Rs×Qj zZ).1.td<=_;split <;> exact b
  | copy x y=>exact b
  | put x f y=>exact ME (λj=>b) b
  | take x y f=>exact ME (λj=>b) b
  | say w=>exact b
  | bring k=>show bY ((P.ln k).reverse.foldl Rs.come S).td<=_;rw[TX];exact b
 | call n a x y k d e m=>
  refine ME (λj=>?_) b
  split
  .split
   .exact b
   .show bY ((P.bo _ d).dues S.ds.length++.back x _ _ m::S.td)<=_;rw[GP,vD];simp only[bY,eE,lQ,kL];lia
  .exact b
 | either n a p q m=>
  show bY ((if S.pick P=0 then p else q).dues m++S.td)<=_;rw[GP,vD,lW];exact b
 | again n a p m=>show bY (pushN p m _ {S with rd:=S.rd+1}).td<=_;rw[Fp];exact b
 | back x g s m=>exact b
def Rn.all(P:Pg)(b:Qk):∀(c l:Qk)(S:Rs),2*(b-l)+bY S.td<=c->∃a e v,Rn P b l S a e v:=by
 intro c
 induction c with
 | zero=>
  intro l S h;cases e:S.td with
  | nil=>exact{_,_,_,.done e}
  | cons d r=>
   cases j:d.num with
   | some n=>exact{_,_,_,.long e j ∅}
   | none=>
    cases d with
    | back x g s m=>rw[e]at h;simp only[bY,eE,lQ,kL]at h;lia
    | _=>cases j
 | succ c u=>
  intro l S h;cases e:S.td with
  | nil=>exact{_,_,_,.done e}
  | cons d r=>
   cases j:d.num with
   | some n=>
    by_cases i:b<=l
    .exact⟨_,_,_,.long e j i⟩
    .cases z:doR P {S with td:=r} d with
     | mk A o=>
      cases o with
      | some q=>exact{_,_,_,.stop e j ∅ z}
      | none=>
       have f:=YY P {S with td:=r} d;rw[z]at f;have f:bY A.td<=bY r+1:=f;have hd:bY S.td=bY r:=by
        rw[e];cases d with
        | back x g s m=>cases j
        | _=>simp only[bY,eE,lQ,kL,lW]
       obtain⟨a,q,v,t⟩:=u (l+1) A ∅;exact{a,q,v,.go e j ∅ z t}
   | none=>
    cases d with
    | back x g s m=>
     have hd:bY S.td=1+bY r:=by rw[e];simp only[bY,eE,lQ,kL]
     obtain⟨a,q,v,t⟩:=u l (yI {S with td:=r} x g s m) (by show 2*(b-l)+bY r<=c;lia);exact{a,q,v,.back e t}
    | _=>cases j
def LL.size:LL->Qk
 | .nil=>0
 | .op _ _ _ t=>1+t.size
 | .call _ _ _ _ _ _ _ t=>1+t.size
 | .either _ _ p q t=>1+p.size+q.size+t.size
 | .again _ _ p t=>1+p.size+t.size
def yS(m:Qk):∀l:LL,↑(l.dues m)<=l.size:=λl=>l.recOn
 (aV _)
 (λ_ _ _ t a=>by have:=a;simp only[LL.dues,LL.size,cK];lia)
 (λ_ _ _ _ _ _ _ t a=>by have:=a;simp only[LL.dues,LL.size,cK];lia)
 (λ_ _ p q t _ _ a1=>by have:=a1;simp only[LL.dues,LL.size,cK];lia)
 (λ_ _ p t _ b=>by have:=b;simp only[LL.dues,LL.size,cK];lia)
def Rn.inv{P:Pg}{A:Qk}(b:Rn P mo A S S2 e2 v2):(S.td=[]->S2=S/\e2="done"/\v2=.non)/\(∀x g s m r,S.td=.back x g s m::r->Rn P mo A (yI {S with td:=r} x g s m) S2 e2 v2)/\
  ∀d r n,S.td=d::r->d.num\n->(mo<=A->S2={S with td:=r}/\e2="long"/\v2=.int n)/\
   (A<mo->∀l o,doR P {S with td:=r} d=(l,o)->o.elim (Rn P mo (A+1) l S2 e2 v2) λe=>S2=l/\e2=e/\v2=.int n):=by
 have i:∀{S:Rs}{a:Prop}{d:Du}{r:Qi Du},S.td=d::r->S.td=[]->a:=λh z=>nomatch h.symm.trans z;have q:∀{S:Rs}{a:Prop}{d:Du}{r B:Qi Du}{n:Qk}{x g s m},S.td=d::r->d.num\n->S.td=.back x g s m::B->a:=λh f z=>by
  rw[(zL<|h.symm.trans z).1]at f;exact nomatch (show Qq=Qp _ from f)
 induction b with
 | done h=>exact{λ_=>⟨rfl,rfl,rfl⟩,λ_ _ _ _ _ z=>i z h,λ_ _ _ z=>i z h}
 | back h t _=>exact{i h,λ_ _ _ _ _ z=>by obtain⟨e,rfl⟩:=zL<|h.symm.trans z;cases e;exact t,λ_ _ _ z f=>q z f h}
 | long h f m=>exact{i h,λ_ _ _ _ _=>q h f,λd r n z j=>by obtain⟨rfl,rfl⟩:=zL<|h.symm.trans z;cases f.symm.trans j;exact{λ_=>⟨rfl,rfl,rfl⟩,λm'=>absurd m<|Nat.not_le.mpr m'}}
 | stop h f m e=>exact{i h,λ_ _ _ _ _=>q h f,λd r n z j=>by obtain⟨rfl,rfl⟩:=zL<|h.symm.trans z;cases f.symm.trans j;exact{λm'=>absurd m'<|Nat.not_le.mpr m,λ_ l o u=>by obtain⟨rfl,rfl⟩:=Prod.mk.inj<|e.symm.trans u;exact⟨rfl,rfl,rfl⟩}}
 | go h f m e t _=>exact{i h,λ_ _ _ _ _=>q h f,λd r n z j=>by obtain⟨rfl,rfl⟩:=zL<|h.symm.trans z;cases f.symm.trans j;exact{λm'=>absurd m'<|Nat.not_le.mpr m,λ_ l o u=>by obtain⟨rfl,rfl⟩:=Prod.mk.inj<|e.symm.trans u;exact t}}
def Fx(C:Cz):HO->Prop
 | .tup _=>True
 | .ins c _ _=>c≠C.rn
 | .ext _=>True
 | .frz _ (.tup _)=>True
 | _=>Qn
def Im(C:Cz)(H H':Hp):Prop:=∀b o,H b\o->Fx C o->H' b\o
def Im.refl:Im C H H:=λ_ _ h _=>h
def Im.trans(f:Im C H H1)(g:Im C H1 H2):Im C H H2:=λb o h x=>g b o (f b o h x) x
def Im.tup(f:Im C H H'):Tup H H':=λb a h=>f b _ h fG
def Im.new(h:H p=Qq):Im C H (upd H p o):=λb u e _=>by rw[aE<|bF e h];exact e
theorem Im.upd(h:H p\u)(n:¬Fx C u):Im C H (upd H p o):=λb v e x=>by
 rw[aE λz=>by rw[z,h]at e;cases e;exact n x];exact e
def cV(θ:Z3):V->V
 | .int j=>.ref<|θ.getD j.toNat 0
 | v=>v
def cD(θ:Z3)(d:Qi (aK×V)):Qi (aK×V):=d.map λz=>(z.1,cV θ z.2)
def Ka:aO (cD θ d) k=(aO d k).map (cV θ):=by
 unfold aO cD
 induction d with
 | nil=>rfl
 | cons z d a=>
  rw[eE,oA,oA]
  split <;> simp_all
def sP:(aO (cD θ d) k).getD .non=cV θ ((aO d k).getD .non):=by
 rw[Ka];cases aO d k <;> rfl
def QN:aX (cD θ d) k (cV θ v)=cD θ (aX d k v):=by
 have e:(d.map λz=>(z.1,cV θ z.2)).any (λa=>decide<|a.1=k)=d.any λa=>decide (a.1=k):=by rw[Qi.any_map];rfl
 unfold aX cD;rw[e]
 split
 .rw[gU,gU];refine nL λz _=>?_;simp only[Function.comp]
  split <;> rfl
 .rw[bU];rfl
def VOk(n:Qk)(v:V):Prop:=v=.non\/∃j:Qk,v=.int j/\j<n
def VOk.mono(h:VOk n v)(l:n<=m):VOk m v:=h.imp id λ⟨j,e,z⟩=>⟨j,e,jA z l⟩
def wC(h:VOk θ.length v):cV (θ++l) v=cV θ v:=by
 obtain rfl|⟨j,rfl,h⟩:=h
 .rfl
 .show R7 ((θ++l).getD j 0)=.ref (θ.getD j 0);rw[hJ,hJ,nV h]
def wJ(h:∀z∈d,VOk θ.length z.2):cD (θ++l) d=cD θ d:=by
 unfold cD;exact nL λz a=>by rw[wC<|h z a]
def TU{d:Qi (aK×V)}(h:∀z∈d,VOk n z.2)(k:aK):VOk n ((aO d k).getD .non):=by
 unfold aO;cases e:d.find? (λa=>decide<|a.1=k)with
 | none=>exact .inl rfl
 | some z=>exact h z<|oE e
def AV{d:Qi (aK×V)}(h:∀z∈d,VOk n z.2)(a:VOk n v):∀z∈aX d k v,VOk n z.2:=by
 intro z hz;unfold aX at hz
 split at hz
 .obtain⟨y,b,rfl⟩:=vj2.mp hz
  split
  .exact a
  .exact h y b
 .obtain hz|hz:=vj7.mp hz
  .exact h z hz
  .rw[vj1.mp hz];exact a
inductive Ens(Z:Z0)(H:Hp):LL->Z3->Prop
 | nil:Ens Z H .nil []
 | op {n:Qk} {a e p:eH} {r:Rw} {t:LL} {es:Z3} (h:H e\.tup [.int n,.ref a,.ref p]) (hp:H p\.tup []) (hr:H a\.tup r.vs) (hb:∀k,r=.bring k->Z k Qq) (s:Ens Z H t es):Ens Z H (.op n a r t) (e::es)
 | call {n:Qk} {a e p g:eH} {x y k d:zZ} {as:Z2} {t:LL} {es:Z3} (h:H e\.tup [.int n,.ref a,.ref p]) (hp:H p\.tup []) (hr:H a\.tup [.str "call",.str x,.str y,.str k,.str d,.ref g]) (hg:H g\(.tup<|as.map R6)) (hl:↑as<=1000) (hz:Z k (Qp d)) (s:Ens Z H t es):Ens Z H (.call n a x y k d as t) (e::es)
 | either {n:Qk} {a e p l1 l2:eH} {v:Qi V} {q1 q2 t:LL} {e1 e2 es:Z3} (h:H e\.tup [.int n,.ref a,.ref p]) (hp:H p\.tup [.ref l1,.ref l2]) (hr:H a\(.tup<|.str "either"::v)) (h1:H l1\(.tup<|e1.map R7)) (h2:H l2\(.tup<|e2.map R7)) (s1:Ens Z H q1 e1) (s2:Ens Z H q2 e2) (s:Ens Z H t es):Ens Z H (.either n a q1 q2 t) (e::es)
 | again {n:Qk} {a e p l1:eH} {v:Qi V} {q1 t:LL} {e1 es:Z3} (h:H e\.tup [.int n,.ref a,.ref p]) (hp:H p\.tup [.ref l1]) (hr:H a\(.tup<|.str "again"::v)) (h1:H l1\(.tup<|e1.map R7)) (s1:Ens Z H q1 e1) (s:Ens Z H t es):Ens Z H (.again n a q1 t) (e::es)
def Ens.keep(h:Ens Z H l es)(f:Tup H H'):Ens Z H' l es:=by
 induction h with
 | nil=>exact .nil
 | op h b d m _ a=>exact .op (f _ _ h) (f _ _ b) (f _ _ d) m a
 | call h b d j hl q _ a=>exact .call (f _ _ h) (f _ _ b) (f _ _ d) (f _ _ j) hl q a
 | either h b d e n _ _ _ i o a=>exact .either (f _ _ h) (f _ _ b) (f _ _ d) (f _ _ e) (f _ _ n) i o a
 | again h b d e _ _ i a=>exact .again (f _ _ h) (f _ _ b) (f _ _ d) (f _ _ e) i a
abbrev dF(v:V)(a p n:eH):Qi (zZ×V):=[("number",v),("row",.ref a),("inners",.ref p),("names",.ref n)]
inductive DuAt(C:Cz)(Z:Z0)(δ:Z3)(H:Hp):Du->eH->Prop
 | op {n m:Qk} {a u p dx na:eH} {r:Rw} (h:H u\(.ins C.du dx<|dF (.int n) a p na)) (hm:δ[m]?\na) (hr:H a\.tup r.vs) (hb:∀k,r=.bring k->Z k Qq):DuAt C Z δ H (.op n a r m) u
 | call {n m:Qk} {a u p dx na g:eH} {x y k d:zZ} {as:Z2} (h:H u\(.ins C.du dx<|dF (.int n) a p na)) (hm:δ[m]?\na) (hr:H a\.tup [.str "call",.str x,.str y,.str k,.str d,.ref g]) (hg:H g\(.tup<|as.map R6)) (hl:↑as<=1000) (hz:Z k (Qp d)):DuAt C Z δ H (.call n a x y k d as m) u
 | either {n m:Qk} {a u p dx na l1 l2:eH} {v:Qi V} {q1 q2:LL} {e1 e2:Z3} (h:H u\(.ins C.du dx<|dF (.int n) a p na)) (hm:δ[m]?\na) (hr:H a\(.tup<|.str "either"::v)) (hp:H p\.tup [.ref l1,.ref l2]) (h1:H l1\(.tup<|e1.map R7)) (h2:H l2\(.tup<|e2.map R7)) (s1:Ens Z H q1 e1) (s2:Ens Z H q2 e2):DuAt C Z δ H (.either n a q1 q2 m) u
 | again {n m:Qk} {a u p dx na l1:eH} {v:Qi V} {q1:LL} {e1:Z3} (h:H u\(.ins C.du dx<|dF (.int n) a p na)) (hm:δ[m]?\na) (hr:H a\(.tup<|.str "again"::v)) (hp:H p\.tup [.ref l1]) (h1:H l1\(.tup<|e1.map R7)) (s1:Ens Z H q1 e1):DuAt C Z δ H (.again n a q1 m) u
 | back {s m:Qk} {a u p dx na nb:eH} {x:zZ} {g:Qj zZ} (h:H u\(.ins C.du dx<|dF .non a p na)) (hm:δ[m]?\na) (hs:δ[s]?\nb) (hr:H a\.tup [.str "back",.str x,bB g,.ref nb]):DuAt C Z δ H (.back x g s m) u
def pX{a:Type}{l r:Qi a}{i:Qk}{x:a}(h:l[i]?\x):(l++r)[i]?\x:=by
 rw[nV (vh2.mp h).1];exact h
theorem DuAt.keep(h:DuAt C Z δ H d u)(a:C.du≠C.rn)(f:Im C H H'):DuAt C Z (δ++l) H' d u:=by
 have t:=f.tup;cases h with
 | op h e b q=>exact .op (f _ _ h a) (pX e) (t _ _ b) q
 | call h e b n hl s=>exact .call (f _ _ h a) (pX e) (t _ _ b) (t _ _ n) hl s
 | either h e b m i r j x=>exact .either (f _ _ h a) (pX e) (t _ _ b) (t _ _ m) (t _ _ i) (t _ _ r) (j.keep t)<|x.keep t
 | again h e b m i j=>exact .again (f _ _ h a) (pX e) (t _ _ b) (t _ _ m) (t _ _ i)<|j.keep t
 | back h e o b=>exact .back (f _ _ h a) (pX e) (pX o)<|t _ _ b
structure Ra where
 (dx md fo bo ch he to lo:eH)
 (us ls δ θ:Z3)
def Ra.say(A:Ra)(t:eH):Ra:={A with ls:=A.ls++[t]}
def Ra.due(A:Ra)(u:eH):Ra:={A with us:=u::A.us}
def Ra.pop(A:Ra)(us:Z3):Ra:={A with us:=us}
def Ra.dic(A:Ra)(a:eH):Ra:={A with δ:=A.δ++[a]}
def Ra.thg(A:Ra)(t:eH):Ra:={A with θ:=A.θ++[t]}
def Rs.num(S:Rs)(rd:Qk)(uw lk:Ql):Rs:={S with rd:=rd,uw:=uw,lk:=lk}
def Rs.due(S:Rs)(d:Du):Rs:={S with td:=d::S.td}
def Rs.pop(S:Rs)(r:Qi Du):Rs:={S with td:=r}
def Rs.dic(S:Rs)(d:Qi (aK×V)):Rs:={S with ds:=S.ds++[d]}
def Rs.thg(S:Rs)(z:zZ×Qk):Rs:={S with ts:=S.ts++[z]}
def Rs.her(S:Rs)(k:zZ):Rs:={S with hr:=S.hr++[k]}
abbrev rF(pg:eH)(A:Ra)(rd dn:Qk)(uw lk:Ql):Qi (zZ×V):=[("program",.ref pg),("made",.ref A.md),("forms",.ref A.fo),("bodies",.ref A.bo),("choices",.ref A.ch),("many_read",.int rd),("many_done",.int dn),("under_way",.int uw),("here",.ref A.he),("todo",.ref A.to),("log",.ref A.lo),("looks",.int lk)]
structure Rx(Y:Ry) where
 Z:Z0
 H0:Hp
 pg:eH
 G:Pg
structure BoAt{Y:Ry}(R:Rx Y)(H:Hp)(bo:eH)(qs:Qi (Pr×eH×eH)):Prop where
 d:H bo\kE Y.pr Y.w bo qs
 ok:PvOk Y.K H qs
 k:∀n d,R.G.hs n d->(n,d)∈qs.map (·.1)
 e:∀q∈qs,∃es:Z3,H q.2.2\(.tup<|es.map R7)/\Ens R.Z H (R.G.bo q.1.1 q.1.2) es
theorem BoAt.keep{R:Rx Y}(h:BoAt R H bo qs)(f:Im Y.C H H'):BoAt R H' bo qs where
 d:=f _ _ h.d fG
 ok q hq:=by
  obtain(z|⟨o,z⟩)|z:=h.ok q hq
  .exact .inl<|.inl<|f.tup _ _ z
  .exact .inl<|.inr ⟨o,f _ _ z fG⟩
  .exact .inr z
 k:=h.k
 e q hq:=by
  obtain⟨i,b,a⟩:=h.e q hq;exact{i,f.tup _ _ b,a.keep f.tup}
def OE{Y:Ry}(R:Rx Y)(H:Hp)(δ:Z3)(z:zZ×Qk)(t:eH):Prop:=∃b a,δ[z.2]?\a/\H t\.ins Y.C.th b [("kind",.str z.1),("fields",.ref a)]
structure RunI{Y:Ry}(R:Rx Y)(H:Hp)(A:Ra)(S:Rs):Prop where
 md:H A.md\.tup []
 ch:H A.ch\(.tup<|R.G.ch.map R8)
 ud:A2 (DuAt Y.C R.Z A.δ H) S.td A.us
 lg:A2 (λr a=>H a\.tup r) S.lg A.ls
 th:A2 (OE R H A.δ) S.ts A.θ
 bo:∃qs,BoAt R H A.bo qs
theorem RunI.keep{R:Rx Y}(h:RunI R H A S)(f:Im Y.C H H'):RunI R H' A S where
 md:=f.tup _ _ h.md
 ch:=f.tup _ _ h.ch
 ud:=h.ud.imp λ_ _ g=>by have:=g.keep (l:=[]) Y.nd f;rwa [eA]at this
 lg:=h.lg.imp λ_ _ g=>f.tup _ _ g
 th:=h.th.imp λ_ _ ⟨b,a,e,g⟩=>⟨b,a,e,f _ _ g Y.nt⟩
 bo:=let ⟨qs,g⟩:=h.bo;⟨qs,g.keep f⟩
structure RunAt{Y:Ry}(R:Rx Y)(H:Hp)(rn:eH)(A:Ra)(S:Rs)(dn:Qk):Prop where
 im:RunI R H A S
 run:H rn\(.ins Y.C.rn A.dx<|rF R.pg A S.rd dn S.uw S.lk)
 fo:H A.fo\.dK []
 he:H A.he\(.lst<|S.hr.map R6)
 to:H A.to\(.lst<|A.us.reverse.map R7)
 lo:H A.lo\(.lst<|A.ls.map R7)
 dc:A2 (λd a=>H a\(.dK<|cD A.θ d)) S.ds A.δ
 dk:∀d∈S.ds,∀z∈d,VOk S.ts.length z.2
 nd:(rn::A.fo::A.he::A.to::A.lo::A.δ).Nodup
 kp:∀b o,R.H0 b\o->H b\o
 fr:∀b∈rn::A.fo::A.he::A.to::A.lo::A.δ,R.H0 b=Qq
def RunAt.keep0{R:Rx Y}(h:RunAt R H rn A S dn)(f:FrS [] H H'):RunAt R H' rn A S dn where
 im:=h.im.keep λb o e _=>f b o aN e
 run:=f _ _ aN h.run
 fo:=f _ _ aN h.fo
 he:=f _ _ aN h.he
 to:=f _ _ aN h.to
 lo:=f _ _ aN h.lo
 dc:=h.dc.imp λ_ _ g=>f _ _ aN g
 dk:=h.dk
 nd:=h.nd
 kp b o e:=f _ _ aN<|h.kp b o e
 fr:=h.fr
def sR{H0 H:Hp}(h:∀b o,H0 b\o->H b\o)(d:H0 a=Qq):∀b u,H0 b\u->upd H a o b\u:=λb u e=>by
 rw[aE<|bF e d];exact h b u e
def uB{θ:Z3}(h:A2 (λd a=>H a\(.dK<|cD θ d)) ds δ)(n:a∉δ):A2 (λd b=>upd H a o b\(.dK<|cD θ d)) ds δ:=by
 induction h with
 | nil=>exact .nil
 | cons g _ e=>
  rw[vj0,gI]at n;exact .cons (by rw[aE<|cJ n.1];exact g)<|e n.2
section
variable{R:Rx Y}{H:Hp}{rn:eH}{A:Ra}{S:Rs}{dn:Qk}
theorem RunAt.num(h:RunAt R H rn A S dn)(rd a:Qk)(uw lk:Ql):RunAt R (upd H rn<|.ins Y.C.rn A.dx<|rF R.pg A rd a uw lk) rn A (S.num rd uw lk) a/\Im Y.C H (upd H rn<|.ins Y.C.rn A.dx<|rF R.pg A rd a uw lk):=by
 have f:Im Y.C H (upd H rn<|.ins Y.C.rn A.dx<|rF R.pg A rd a uw lk):=.upd h.run λz=>z rfl;have nd:=h.nd;simp only[vn3,vj0,gI]at nd;obtain⟨⟨a1,j,b,e,d⟩,_⟩:=nd;have i:=h.im.keep f;exact{{im:={i.md,i.ch,i.ud,i.lg,i.th,i.bo},run:=zb0,fo:=(aE<|cJ a1).trans h.fo,he:=(aE<|cJ j).trans h.he,to:=(aE<|cJ b).trans h.to,lo:=(aE<|cJ e).trans h.lo,dc:=uB h.dc d,dk:=h.dk,nd:=h.nd,kp:=sR h.kp<|h.fr _<|.head _,fr:=h.fr},f}
theorem RunAt.say(h:RunAt R H rn A S dn)(l:H t\.tup r):RunAt R (upd H A.lo<|.lst<|A.ls.map R7++[.ref t]) rn (A.say t) (S.say r) dn/\Im Y.C H (upd H A.lo<|.lst<|A.ls.map R7++[.ref t]):=by
 have f:Im Y.C H (upd H A.lo<|.lst<|A.ls.map R7++[.ref t]):=.upd h.lo λz=>z;have nd:=h.nd;simp only[vn3,vj0,gI]at nd;obtain⟨⟨a1,B,n,b,q⟩,⟨b1,o,j,m⟩,⟨u,e,x⟩,⟨d,s⟩,a,_⟩:=nd;have i:=h.im.keep f;exact{{im:={i.md,i.ch,i.ud,i.lg.snoc<|f.tup _ _ l,i.th,i.bo},run:=(aE b).trans h.run,fo:=(aE j).trans h.fo,he:=(aE e).trans h.he,to:=(aE d).trans h.to,lo:=zb0.trans (by show _=Qp (HO.lst<|(A.ls++[t]).map R7);rw[bU];rfl),dc:=uB h.dc a,dk:=h.dk,nd:=h.nd,kp:=sR h.kp<|h.fr _<|.tail _<|.tail _<|.tail _<|.tail _<|.head _,fr:=h.fr},f}
theorem RunAt.due(h:RunAt R H rn A S dn)(n:DuAt Y.C R.Z A.δ H d u):RunAt R (upd H A.to<|.lst<|A.us.reverse.map R7++[.ref u]) rn (A.due u) (S.due d) dn/\Im Y.C H (upd H A.to<|.lst<|A.us.reverse.map R7++[.ref u]):=by
 have f:Im Y.C H (upd H A.to<|.lst<|A.us.reverse.map R7++[.ref u]):=.upd h.to λz=>z;have nd:=h.nd;simp only[vn3,vj0,gI]at nd;obtain⟨⟨a1,I,b,x,s⟩,⟨b1,e,E,q⟩,⟨o,B,G⟩,⟨m,j⟩,r,_⟩:=nd;have i:=h.im.keep f;have a:=n.keep (l:=[]) Y.nd f;rw[eA]at a;exact{{im:={i.md,i.ch,.cons a i.ud,i.lg,i.th,i.bo},run:=(aE b).trans h.run,fo:=(aE e).trans h.fo,he:=(aE o).trans h.he,to:=zb0.trans (by show _=Qp (HO.lst<|(u::A.us).reverse.map R7);rw[zT,bU];rfl),lo:=(aE<|cJ m).trans h.lo,dc:=uB h.dc j,dk:=h.dk,nd:=h.nd,kp:=sR h.kp<|h.fr _<|.tail _<|.tail _<|.tail _<|.head _,fr:=h.fr},f}
theorem RunAt.pop(h:RunAt R H rn A S dn)(e:S.td=d::r)(m:A.us=u::us):RunAt R (upd H A.to<|.lst<|us.reverse.map R7) rn (A.pop us) (S.pop r) dn/\Im Y.C H (upd H A.to<|.lst<|us.reverse.map R7)/\DuAt Y.C R.Z A.δ (upd H A.to<|.lst<|us.reverse.map R7) d u:=by
 have f:Im Y.C H (upd H A.to<|.lst<|us.reverse.map R7):=.upd h.to λz=>z;have nd:=h.nd;simp only[vn3,vj0,gI]at nd;obtain⟨⟨a1,G,a,s,q⟩,⟨b1,b,B,o⟩,⟨n,x,E⟩,⟨l,j⟩,_,_⟩:=nd;have i:=h.im.keep f;have J:=i.ud;rw[e,m]at J;cases J with
 | cons g t=>
  exact{{im:={i.md,i.ch,t,i.lg,i.th,i.bo},run:=(aE a).trans h.run,fo:=(aE b).trans h.fo,he:=(aE n).trans h.he,to:=zb0,lo:=(aE<|cJ l).trans h.lo,dc:=uB h.dc j,dk:=h.dk,nd:=h.nd,kp:=sR h.kp<|h.fr _<|.tail _<|.tail _<|.tail _<|.head _,fr:=h.fr},f,g}
end
def _root_.L2.A2.imp'{i e:Type}{R S:i->e->Prop}{as:Qi i}{bs:Qi e}(h:A2 R as bs):(∀a b,b∈bs->R a b->S a b)->A2 S as bs:=by
 induction h with
 | nil=>intro _;exact .nil
 | cons r t j=>intro f;exact .cons (f _ _ (.head _) r)<|j λa b d=>f a b<|.tail _ d
def A2.imp2{i e:Type}{R S:i->e->Prop}{as:Qi i}{bs:Qi e}(h:A2 R as bs):(∀a b,a∈as->R a b->S a b)->A2 S as bs:=by
 induction h with
 | nil=>intro _;exact .nil
 | cons r t j=>intro f;exact .cons (f _ _ (.head _) r)<|j λa b d=>f a b<|.tail _ d
def A2.back{l j:Type}{R:l->j->Prop}{as:Qi l}{bs:Qi j}(h:A2 R as bs){i:Qk}{b:j}(e:bs[i]?\b):∃a,as[i]?\a/\R a b:=by
 obtain⟨m,_⟩:=vh2.mp e;obtain⟨f,d,r⟩:=h.get (bM<|by rw[h.len];exact m);rw[e]at d;cases d;exact{_,bM _,r}
def A2.chg{q o:Type}{R i:q->o->Prop}{as:Qi q}{bs:Qi o}(h:A2 R as bs):∀{m:Qk}{b:o}{d:q},bs.Nodup->bs[m]?\b->i d b->(∀a s,s≠b->R a s->i a s)->A2 i (as.set m d) bs:=by
 induction h with
 | nil=>intro m b d _ e;cases e
 | @cons a A as bs r t u=>
  intro m b d n e j f;rw[vn3]at n;cases m with
  | zero=>
   cases e;exact .cons j<|t.imp' λx y l z=>f x y (λw=>n.1<|by rw[<-w];exact l) z
  | succ m=>exact .cons (f _ _ (λw=>n.1<|by rw[w];exact dM e) r)<|u n.2 e j f
section
variable{R:Rx Y}{H:Hp}{rn:eH}{A:Ra}{S:Rs}{dn:Qk}
def RunAt.dict(h:RunAt R H rn A S dn)(b:A.δ[m]?\a):H a\(.dK<|cD A.θ<|S.ds.getD m [])/\(∀z∈S.ds.getD m [],VOk S.ts.length z.2)/\R.H0 a=none:=by
 obtain⟨d,e,g⟩:=A2.back h.dc b;rw[hJ,e];exact{g,h.dk d<|dM e,h.fr a<|.tail _<|.tail _<|.tail _<|.tail _<|.tail _<|dM b}
def RunAt.got(h:RunAt R H rn A S dn)(b:A.δ[m]?\a)(x:zZ):VOk S.ts.length (S.get m x):=TU (h.dict b).2.1 _
theorem RunAt.put(h:RunAt R H rn A S dn)(e:A.δ[m]?\a)(j:VOk S.ts.length v)(x:zZ):RunAt R (upd H a<|.dK<|aX (cD A.θ<|S.ds.getD m []) (Qt x)<|cV A.θ v) rn A (S.put m x v) dn/\Im Y.C H (upd H a<|.dK<|aX (cD A.θ<|S.ds.getD m []) (Qt x)<|cV A.θ v):=by
 obtain⟨n,ok,W⟩:=h.dict e;have f:Im Y.C H (upd H a<|.dK<|aX (cD A.θ<|S.ds.getD m []) (Qt x)<|cV A.θ v):=.upd n λz=>z;have E:=dM e;have nd:=h.nd;simp only[vn3,vj0,gI]at nd;obtain⟨⟨a1,T,G,J,r⟩,⟨b1,I,O,l⟩,⟨N,M,B⟩,⟨L,s⟩,o,u⟩:=nd;have i:=h.im.keep f;have ne:∀{b:eH},b∉A.δ->b≠a:=λh z=>h (by rw[z];exact E)
 refine{{im:={i.md,i.ch,i.ud,i.lg,i.th,i.bo},run:=(aE<|ne r).trans h.run,fo:=(aE<|ne l).trans h.fo,he:=(aE<|ne B).trans h.he,to:=(aE<|ne s).trans h.to,lo:=(aE<|ne o).trans h.lo,dc:=?_,dk:=?_,nd:=h.nd,kp:=sR h.kp W,fr:=h.fr},f}
 .exact A2.chg h.dc u e (by rw[zb0,QN]) λd b q g=>by rw[aE q];exact g
 .intro d hd;obtain hd|rfl:=LO hd
  .exact h.dk d hd
  .exact AV ok j
def RunAt.dic2(h:RunAt R H rn A S dn)(j:H a=Qq)(f:FrS [] H H')(e:H' a\(.dK<|cD A.θ d))(hd:∀z∈d,VOk S.ts.length z.2):RunAt R H' rn (A.dic a) (S.dic d) dn:=by
 have g:Im Y.C H H':=λb o e _=>f b o aN e;have k:=h.keep0 f;have B:R.H0 a=none:=by
  cases e:R.H0 a with
  | none=>rfl
  | some o=>rw[h.kp a o e]at j;cases j
 have q:a∉rn::A.fo::A.he::A.to::A.lo::A.δ:=by
  intro z;simp only[vj0]at z;obtain rfl|rfl|rfl|rfl|rfl|z:=z
  .rw[h.run]at j;cases j
  .rw[h.fo]at j;cases j
  .rw[h.he]at j;cases j
  .rw[h.to]at j;cases j
  .rw[h.lo]at j;cases j
  .obtain⟨i,hi⟩:=vn2.mp z;rw[(h.dict hi).1]at j;cases j
 refine {im:={k.im.md,k.im.ch,h.im.ud.imp λ_ _ z=>z.keep Y.nd g,k.im.lg,k.im.th.imp λ_ _ ⟨s,b,e,z⟩=>{s,b,pX e,z},k.im.bo},run:=k.run,fo:=k.fo,he:=k.he,to:=k.to,lo:=k.lo,dc:=k.dc.snoc e,dk:=λr l=>?_,nd:=?_,kp:=k.kp,fr:=λb m=>?_}
 .obtain l|l:=vj7.mp l
  .exact h.dk r l
  .rw[vj1.mp l];exact hd
 .show((rn::A.fo::A.he::A.to::A.lo::A.δ)++[a]).Nodup;exact uk4.mpr {h.nd,vn3.mpr ⟨aN,lO⟩,λx u y n=>by rw[vj1.mp n];exact λz=>q<|by rw[<-z];exact u}
 .obtain m|m:=vj7.mp (show b∈(rn::A.fo::A.he::A.to::A.lo::A.δ)++[a] from m)
  .exact h.fr b m
  .rw[vj1.mp m];exact B
theorem RunAt.dic(h:RunAt R H rn A S dn)(b:H a=Qq)(hd:∀z∈d,VOk S.ts.length z.2):RunAt R (upd H a<|.dK<|cD A.θ d) rn (A.dic a) (S.dic d) dn/\Im Y.C H (upd H a<|.dK<|cD A.θ d):=⟨h.dic2 b (S0 b) zb0 hd,.new b⟩
theorem RunAt.thg(h:RunAt R H rn A S dn)(f:H t\.ins Y.C.th dx [("kind",.str k),("fields",.ref a)])(e:A.δ[m]?\a):RunAt R H rn (A.thg t) (S.thg (k,m)) dn where
 im:=⟨h.im.md,h.im.ch,h.im.ud,h.im.lg,h.im.th.snoc ⟨dx,a,e,f⟩,h.im.bo⟩
 run:=h.run
 fo:=h.fo
 he:=h.he
 to:=h.to
 lo:=h.lo
 dc:=A2.imp2 h.dc λd b hd g=>by show H b=Qp (.dK<|cD (A.θ++[t]) d);rw[wJ<|by rw[<-h.im.th.len];exact h.dk d hd];exact g
 dk d hd z hz:=(h.dk d hd z hz).mono (by show _<=↑(S.ts++[_]);rw[bK];exact BQ _ _)
 nd:=h.nd
 kp:=h.kp
 fr:=h.fr
theorem RunAt.her(h:RunAt R H rn A S dn)(k:zZ):RunAt R (upd H A.he<|.lst<|S.hr.map R6++[.str k]) rn A (S.her k) dn/\Im Y.C H (upd H A.he<|.lst<|S.hr.map R6++[.str k]):=by
 have f:Im Y.C H (upd H A.he<|.lst<|S.hr.map R6++[.str k]):=.upd h.he λz=>z;have nd:=h.nd;simp only[vn3,vj0,gI]at nd;obtain⟨⟨a1,e,l,r,o⟩,⟨b1,m,u,j⟩,⟨b,a,d⟩,⟨s,q⟩,n,_⟩:=nd;have i:=h.im.keep f;exact{{im:={i.md,i.ch,i.ud,i.lg,i.th,i.bo},run:=(aE e).trans h.run,fo:=(aE b1).trans h.fo,he:=zb0.trans (by show _=Qp (HO.lst<|(S.hr++[k]).map R6);rw[bU];rfl),to:=(aE<|cJ b).trans h.to,lo:=(aE<|cJ a).trans h.lo,dc:=uB h.dc d,dk:=h.dk,nd:=h.nd,kp:=sR h.kp<|h.fr _<|.tail _<|.tail _<|.head _,fr:=h.fr},f}
end
abbrev CM:Qd:=top 47
abbrev qQ:Qd:=top 44
structure Bd(G:Pg)(S:Rs):Prop where
 td:S.td.length<=850000
 lg:S.lg.length<=100000
 hr:S.hr.length<=100000
 ds:∀d∈S.ds,↑d<=100000
 hn:∀k∈S.hr,k∈G.nm
 ts:∀z∈S.ts,z.1∈G.nm
abbrev Kq:=Qi<|zZ×Qj zZ×Qi (zZ×eH)
def DeedsQ(H:Hp)(p:eH)(kq:Kq):Prop:=∃(b:eH)(a:Z3)(x y:V),H p\.tup [.ref b,x,y]/\H b\(.tup<|a.map R7)/\↑a=↑kq/\
 ∀(j:Qk) t z,a[j]?\t->kq[j]?\z->∃e,H t\.tup [.str z.1,bB z.2.1,.ref e]/\H e\(.tup<|z.2.2.map λd=>R7 d.2)/\∀d∈z.2.2,∃rest,H d.2\(.tup<|.str d.1::rest)
def DeedsQ.keep(h:DeedsQ H p kq)(f:Tup H H'):DeedsQ H' p kq:=by
 obtain⟨u,B,x,y,o,i,n,s⟩:=h;refine{u,B,x,y,f _ _ o,f _ _ i,n,λj t z a b=>?_};obtain⟨l,m,A,q⟩:=s j t z a b;exact{l,f _ _ m,f _ _ A,λd hd=>let ⟨r,e⟩:=q d hd;⟨r,f _ _ e⟩}
def gO(kq:Kq)(n d:zZ):Qj eH:=kq.findSome? λz=>if z.1=n then(z.2.2.find? λe=>decide<|e.1=d).map (·.2) else Qq
def fl(kq:Kq):Qi ((zZ×zZ)×eH):=kq.flatMap λw=>w.2.2.map λd=>((w.1,d.1),d.2)
def dZ(kq:Kq)(d:zZ)(l:Z2):Qj zZ:=l.find? λx=>(gO kq x d).isSome
def pD(kq:Kq)(d:zZ)(l:Z2):Int:=match dZ kq d l with
 | none=>↑l
 | some f=>↑l-(ixV (.str f) (l.reverse.map R6):Qk)
inductive xA{Y:Ry}(R:Rx Y)(kq:Kq)(k d:zZ):Prop
 | mk(g pt:eH)(v:V)(h1:dZ kq d (R.G.ln k)\R.G.an k d)(h2:gO kq (R.G.an k d) d\g)(h3:R.H0 g\.tup [.str d,.ref pt,v,bB<|R.G.gv (R.G.an k d) d])(h4:R.H0 pt\(.tup<|(R.G.ps (R.G.an k d) d).map R6))(h5:R.G.hs (R.G.an k d) d)(h6:R.G.co k d=pD kq d (R.G.ln k))(h7:(R.G.bo (R.G.an k d) d).size<=80)(h8:↑(R.G.ps (R.G.an k d) d)<=1000)
structure PgAt{Y:Ry}(R:Rx Y)(tr:Tr)(kq:Kq):Prop where
 kn:KindsAt R.H0 R.pg tr
 dq:DeedsQ R.H0 R.pg kq
 ok:TrOk tr
 l12:↑tr<=12
 nm:tr.map (·.1)=R.G.nm
 ln:∀k∈R.G.nm,Up tr k<|R.G.ln k
 z0:∀k,R.Z k Qq->k∈R.G.nm
 ch:∀c∈R.G.ch,-100<=c
 fn:((fl kq).map (·.1)).Nodup
 ca:∀k d,R.Z k (Qp d)->∀x∈R.G.nm,k∈R.G.ln x->xA R kq x d
def nO{Y:Ry}(R:Rx Y):Prop:=∃b a,PgAt R b a
inductive hW(Y:Ry)(ok:Du->Prop)(vs:Qi V)(H:Hp)(Q:VK)(_:XK):Prop
 | mk(R:Rx Y)(rn u:eH)(A:Ra)(S:Rs)(dn:Qk)(d:Du)(h1:vs=[.ref rn,.ref u])(h2:RunAt R H rn A S dn)(h3:DuAt Y.C R.Z A.δ H d u)(h4:ok d)(h5:Bd R.G S)(h6:nO R)(h7:∀A' H',RunAt R H' rn A' (doR R.G S d).1 dn->Im Y.C H H'->Q (bB (doR R.G S d).2) H')
abbrev eR:Z2:=["run","due"]
def qL{n:Qk}(h:n<=1000000):n<sizeLine:=by rw[kZ];lia
def CY:cC eR eR (bX CM):=cF
def tR(F:Fun Y.K "do_say" "do_say" CM f fd)(Z:dS Y.K Y.C):↥eR (hW Y λd=>∃n a w m,d=.op n a (.say w) m):=by
 refine F.ok CY ⇑?_;obtain⟨R,B,u,A,S,M,d,rfl,h,hd,⟨n,a,w,m,rfl⟩,j,N,q⟩:=h;exists _,aJ (eX<|fR fU hH hX gS (cH Z.r<|pv 0)<|aI (cZ<|aI bW<|aI (cH Z.d<|pv 1)<|aI (eT (cH Z.d<|pv 1) aQ) aA) aA)
  (aY<|bR iV)
 ac_rfl
 cases hd with
 | @op _ _ _ _ p J L _ x G l z=>
  refine{6,B,_,_,6,h.run,U,.inl {U,_,T1 h.lo},6,u,_,_,6,x,U,6,u,_,_,6,x,U,a,_,_,6,U,T2 l,U,cQ<|bS (by show 3<=_;decide),λt i=>?_};have e:=h.keep0<|S0 (o:=.tup [.str "say",.int n,.str w]) i;have b:=e.say zb0;exact{_,_,6,U,e.lo,qL (by rw[aF,<-h.im.lg.len];have:=j.lg;lia),q _ _ b.1<|(Im.new i).trans b.2}
abbrev AU:Qd:=zA 38
abbrev FC:Qd:=zA 39
def ZA{H:Hp}{a b:eH}{o u:HO}(h:a≠b):upd (upd H a o) b u=upd (upd H b u) a o:=by
 funext c
 unfold upd
 by_cases e:c=b
 .rw[bG e,bA λz=>h<|z.symm.trans e,bG e]
 .rw[bA e,bA e]
inductive LW(C:eH)(vs:Qi V)(H:Hp)(Q:VK)(_:XK):Prop
 | mk(x dx:eH)(k:zZ)(h1:vs=[.ref x,.str k])(h2:H x\.ins C dx [])(h3:∀a,H a=Qq->Q .non (upd (upd H a<|.dK []) x<|.ins C dx [("kind",.str k),("fields",.ref a)]))
inductive GX(C:eH)(vs:Qi V)(H:Hp)(Q:VK)(_:XK):Prop
 | mk(x dx a p n:eH)(v:V)(h1:vs=[.ref x,v,.ref a,.ref p,.ref n])(h2:H x\.ins C dx [])(h3:Q .non (upd H x<|.ins C dx<|dF v a p n))
abbrev kW:Z2:=["self","kind"]
abbrev jQ:Z2:=["self","number","row","inners","names"]
def DB:cC kW kW (bX AU):=cF
def yC(F:Fun K "__init__" "Thing.__init__" AU f fd)(Z:dS K Y.C):↥kW (LW Y.C.th):=by
 refine F.ok DB ⇑?_;obtain⟨x,d,k,rfl,h,q⟩:=h;exists _,aJ (iC Z.t ⇑0<|pv 1)<|aY<|iC Z.t ⇑0 pK
 ac_rfl
 refine{6,6,x,d,6,h,by decide,λa b=>{6,x,d,[("kind",.str k)],U,?_,by show 1<1000;decide,?_}}
 .rw[aE λz=>by rw[<-z,zb0]at b;cases b];exact zb0
 .have n:x≠a:=λz=>by rw[<-z,zb0]at b;cases b
  have:=q a (by rw[aE<|cJ n]at b;exact b);rw[ZA n,iN];exact this
def CC:cC jQ jQ (bX FC):=cF
def wU(F:Fun K "__init__" "Due.__init__" FC f fd)(Z:dS K Y.C):↥jQ (GX Y.C.du):=by
 refine F.ok CC ⇑?_;obtain⟨x,b,a,p,n,v,rfl,h,q⟩:=h;exists _,aJ (iC Z.d ⇑0<|pv 1)<|aJ (iC Z.d ⇑0<|pv 2)<|aJ (iC Z.d ⇑0<|pv 3)<|aY<|iC Z.d ⇑0<|pv 4
 ac_rfl
 refine{6,6,x,b,6,h,by decide,6,6,x,b,6,zb0,by show 1<1000;decide,6,6,x,b,6,zb0,by show 2<1000;decide,6,6,x,b,6,zb0,by show 3<1000;decide,?_};rw[iN,iN,iN];exact q
structure iJ(Y:Ry)(mg:zZ->Qj iH)(base:Qa)(k:Qk)(x:zZ)(C:eH)(ps:Z2)(sp:Sp):Prop where
 ex:∃g gd,aR P w K mg base bT k g gd ps sp/\Binds K gd ps []/\Mk K C g/\mg x\.ref C
inductive Cj(C:eH)(vs:Qi V)(H:Hp)(Q:VK):Prop
 | mk(k:zZ)(h:vs=[.str k])(q:∀x dx a,H x=Qq->H dx=Qq->H a=Qq->dx≠x->a≠x->a≠dx->Q (.ref x) (upd (upd (upd H dx<|.own x) a<|.dK []) x<|.ins C dx [("kind",.str k),("fields",.ref a)]))
inductive Bf(C:eH)(vs:Qi V)(H:Hp)(Q:VK):Prop
 | mk(a p n:eH)(v:V)(h:vs=[v,.ref a,.ref p,.ref n])(q:∀x dx,H x=Qq->H dx=Qq->dx≠x->Q (.ref x) (upd (upd H dx<|.own x) x<|.ins C dx<|dF v a p n))
def QC(B:Qi V->Hp->VK->Prop)(t:TA):TE:=λb H Q=>t b H λvs a=>B vs a Q
section
variable{X:Cx}{k:Qk}{p pos:Ud}{e:Qc}{es:Qi Qc}{t:TA}{x:zZ}{C:eH}{ps:Z2}{sp:Sp}{B:Qi V->Hp->VK->Prop}
def LX(M:iJ Y X.mg X.base k x C ps sp)(L:∀vs H Q,B vs H Q->∀x T,H x=Qq->H T=Qq->T≠x->sp (.ref x::vs) (upd (upd H T<|.own x) x<|.ins C T []) (λv H2=>v=.non/\Q (.ref x) H2) E0)(hr:Room (k+1) X.A)(j:Gl X x)(f:PA X (e::es) t)
  (i:X9 (X.prog=P) X8) (J:X9 (X.w=w) X8) (a:X9 (X.K=K) X8) (a1:X9 ((x == ("__debug__":zZ))=false) X7) (he:X9 (starEach (e::es) X.env=(Qs,eval e X.env)::starEach es X.env) X8) (N:X9 ((backTo pos<|starEach es X.env).any (·.1)=false) X8):PE X (.Call (.Name x p) (e::es) [] pos) (QC B t):=by
 obtain⟨g,gd,G,b,m,z⟩:=M.ex;rw[<-i,<-J,<-a]at G;rw[<-a]at b m;intro u s Z H Q I h;refine zG<|MQ I j z ?_ a1;refine Vd (h₀:=X.base) I.ok.mod.kin m.kp (bD (f pos u s Z H _ I h) ?_) he N;rintro us O ⟨vs,E,d,r,q⟩;exact{d.kIn,Po m G hr b .nil OS d r λx T o l n=>by rw[eA];exact L vs E Q q x T o l n}
end
def Nt(vs:Qi V)(H:Hp)(Q:VK)(h:Cj C vs H Q)(x l:eH)(i:H x=Qq)(f:H l=Qq)(j:l≠x):LW C (.ref x::vs) (upd (upd H l<|.own x) x<|.ins C l []) (λv m=>v=.non/\Q (.ref x) m) E0:=by
 obtain⟨k,rfl,q⟩:=h;refine{x,l,k,U,zb0,λa b=>{U,?_}};have d:a≠x:=λz=>by rw[z,zb0]at b;cases b
 rw[aE d]at b;have e:a≠l:=λz=>by rw[z,zb0]at b;cases b
 rw[aE e]at b;rw[ZA<|cJ d,iN];exact q x l a i f b j d e
def YN(vs:Qi V)(H:Hp)(Q:VK)(h:Bf C vs H Q)(x f:eH)(b:H x=Qq)(e:H f=Qq)(d:f≠x):GX C (.ref x::vs) (upd (upd H f<|.own x) x<|.ins C f []) (λv i=>v=.non/\Q (.ref x) i) E0:=by
 obtain⟨a,p,n,v,rfl,q⟩:=h;exists x,f,a,p,n,v,U,zb0,U;rw[iN];exact q x f b e d
abbrev XH:Qd:=top 43
abbrev ED:Qd:=top 45
abbrev WJ:Qd:=top 46
def RunAt.few{R:Rx Y}(h:RunAt R H rn A S dn)(b:Bd G S)(f:A.δ[m]?\a):↑(cD A.θ<|S.ds.getD m [])<sizeLine:=by
 obtain⟨d,e,_⟩:=A2.back h.dc f;rw[hJ,e];unfold cD;rw[aF];have:=b.ds d<|dM e;exact qL (by show ↑d<=_;lia)
def RunAt.thing{R:Rx Y}(h:RunAt R H rn A S dn){j:Qk}(d:j<S.ts.length):∃t l a,cV A.θ (.int j)=.ref t/\H t\.ins Y.C.th l [("kind",.str<|S.kind j),("fields",.ref a)]/\A.δ[S.dict j]?\a:=by
 obtain⟨t,e,l,a,f,i⟩:=h.im.th.get<|bM d;have b:S.ts.getD (j:Ql).toNat ("",0)=S.ts[j]:=by show S.ts.getD j _=_;rw[hJ,bM d];rfl
 refine{t,l,a,?_,by unfold Rs.kind;rw[b];exact i,by unfold Rs.dict;rw[b];exact f};show R7 (A.θ.getD j 0)=_;rw[hJ,e];rfl
def xf5:cC ["run","due","word","x","y"] eR (bX qQ):=cF
def Kc(F:Fun Y.K "do_copy" "do_copy" qQ f fd)(Z:dS Y.K Y.C):↥eR (hW Y λd=>∃n a x y m,d=.op n a (.copy x y) m):=by
 refine F.ok xf5 ⇑?_;obtain⟨R,L,u,A,S,G,d,rfl,h,hd,⟨n,a,x,y,m,rfl⟩,i,J,q⟩:=h;have e:=fL hr;exists _,aJ (hZ (cH Z.d<|pv 1)<|dX (n:=3) rfl<|bI (gL 2 xf5.nd)<|bI (gL 3 xf5.nd)<|bI (gL 4 xf5.nd) dV)
  (aJ (jT e (cH Z.d<|pv 1) ⇑3 (kN e (cH Z.d<|pv 1) ⇑4 ⟨rfl,rfl,rfl,rfl⟩) rfl)<|aY<|bR iV)
 ac_rfl
 cases hd with
 | @op _ _ _ _ p B r _ j l o z=>
  obtain⟨b,_,_⟩:=h.dict l;exists 6,u,_,_,6,j,U,a,6,T2 o,U,_,6,_,6,_,6,U;exists 6,u,_,_,6,j,U,r,U,.inl {_,.inl b},6,_,DGet.k (k:=(Qt y:aK)) b,6,u,_,_,6,j,U,6,r,6,DPut.k (k:=(Qt x:aK)) b<|h.few i l;rw[sP];have:=h.put l (h.got l y) x;exact q _ _ this.1 this.2
def xk1:cC ["run","due","word","x","field","y","thing"] eR (bX ED):=cF
def uH(F:Fun Y.K "do_put" "do_put" ED f fd)(Z:dS Y.K Y.C):↥eR (hW Y λd=>∃n a x g y m,d=.op n a (.put x g y) m):=by
 refine F.ok xk1 ⇑?_;obtain⟨R,X,u,A,S,W,d,rfl,h,hd,⟨n,a,x,g,y,m,rfl⟩,z,hp,q⟩:=h;have o:=fL hr;exists _,aJ (hZ (cH Z.d<|pv 1)<|dX (n:=4) rfl<|bI (gL 2 xk1.nd)<|bI (gL 3 xk1.nd)<|bI (gL 4 xk1.nd)<|bI (gL 5 xk1.nd) dV)
  (aJ (sL 6 xk1.nd<|kN o (cH Z.d<|pv 1) ⇑3 ⟨rfl,rfl,rfl,rfl⟩)<|aJ (cY (kP<|wX<|pv 6) (aY<|bR bW) dJ)<|aJ (jT o (cH Z.t<|pv 6) ⇑4 (kN o (cH Z.d<|pv 1) ⇑5 ⟨rfl,rfl,rfl,rfl⟩) rfl)<|aY<|bR iV)
 ac_rfl
 cases hd with
 | @op _ _ _ _ p dx N _ J M L T=>
  obtain⟨i,_,_⟩:=h.dict M;exists 6,u,_,_,6,J,U,a,6,T2 L,U,_,6,_,6,_,6,_,6,U;exists 6,u,_,_,6,J,U,N,U,.inl {_,.inl i},6,_,DGet.k (k:=(Qt x:aK)) i;rw[sP];have l:∀O H',RunAt R H' X O (S.thing (S.get m x) λj=>(S.put (S.dict j) g<|S.get m y,Qq)).1 W->Im Y.C H H'->Q (bB (S.thing (S.get m x) λj=>(S.put (S.dict j) g<|S.get m y,Qq)).2) H':=q;show gJ _ _ _ (P6 _ _<|some<|cV A.θ<|S.get m x) _;obtain e|⟨j,e,hj⟩:=h.got M x
  .rw[e]at l ⊢;exact{6,6,bE (λ_=>l A H h Im.refl) λc=>absurd rfl c}
  .rw[e]at l ⊢;obtain⟨t,I,b,B,G,r⟩:=h.thing hj;rw[B];obtain⟨a1,_,_⟩:=h.dict r;refine{6,6,cT ?_};exists 6,u,_,_,6,J,U,N,U,.inl {_,.inl i},6,_,DGet.k (k:=(Qt y:aK)) i,6,t,_,_,6,G,U,6,b,6,DPut.k (k:=(Qt g:aK)) a1<|h.few z r;rw[sP];have:=h.put r (h.got M y) g;exact l _ _ this.1 this.2
def scTk:cC ["run","due","word","x","y","field","thing"] eR (bX WJ):=cF
def DJ(F:Fun Y.K "do_take" "do_take" WJ f fd)(Z:dS Y.K Y.C):↥eR (hW Y λd=>∃n a x y g m,d=.op n a (.take x y g) m):=by
 refine F.ok scTk ⇑?_;obtain⟨R,X,u,A,S,W,d,rfl,h,hd,⟨n,a,x,y,g,m,rfl⟩,z,hp,q⟩:=h;have o:=fL hr;exists _,aJ (hZ (cH Z.d<|pv 1)<|dX (n:=4) rfl<|bI (gL 2 scTk.nd)<|bI (gL 3 scTk.nd)<|bI (gL 4 scTk.nd)<|bI (gL 5 scTk.nd) dV)
  (aJ (sL 6 scTk.nd<|kN o (cH Z.d<|pv 1) ⇑4 ⟨rfl,rfl,rfl,rfl⟩)<|aJ (cY (kP<|wX<|pv 6) (aY<|bR bW) dJ)<|aJ (jT o (cH Z.d<|pv 1) ⇑3 (kN o (cH Z.t<|pv 6) ⇑5 ⟨rfl,rfl,rfl,rfl⟩) rfl)<|aY<|bR iV)
 ac_rfl
 cases hd with
 | @op _ _ _ _ p dx N _ J L M T=>
  obtain⟨l,_,_⟩:=h.dict L;exists 6,u,_,_,6,J,U,a,6,T2 M,U,_,6,_,6,_,6,_,6,U;exists 6,u,_,_,6,J,U,N,U,.inl {_,.inl l},6,_,DGet.k (k:=(Qt y:aK)) l;rw[sP];have i:∀O H',RunAt R H' X O (S.thing (S.get m y) λj=>(S.put m x<|S.get (S.dict j) g,Qq)).1 W->Im Y.C H H'->Q (bB (S.thing (S.get m y) λj=>(S.put m x<|S.get (S.dict j) g,Qq)).2) H':=q;show gJ _ _ _ (P6 _ _<|some<|cV A.θ<|S.get m y) _;obtain e|⟨j,e,hj⟩:=h.got L y
  .rw[e]at i ⊢;exact{6,6,bE (λ_=>i A H h Im.refl) λc=>absurd rfl c}
  .rw[e]at i ⊢;obtain⟨t,I,b,B,G,r⟩:=h.thing hj;rw[B];obtain⟨a1,_,_⟩:=h.dict r;refine{6,6,cT ?_};exists 6,t,_,_,6,G,U,b,U,.inl {_,.inl a1},6,_,DGet.k (k:=(Qt g:aK)) a1,6,u,_,_,6,J,U,6,N,6,DPut.k (k:=(Qt x:aK)) l<|h.few z L;rw[sP];have:=h.put L (h.got r g) x;exact i _ _ this.1 this.2
def scMk:cC ["run","due","word","x","kind"] eR (bX XH):=cF
def BJ(F:Fun Y.K "do_make" "do_make" XH f fd)(Z:dS Y.K Y.C)(M:iJ Y mg base k "Thing" Y.C.th kW (LW Y.C.th)):aR P w K mg base bT (k+2) f fd eR (hW Y λd=>∃n a x y m,d=.op n a (.make x y) m):=by
 refine F.ok scMk ⇑?_;obtain⟨R,rn,u,A,S,dn,d,rfl,h,hd,⟨n,a,x,y,m,rfl⟩,j,hp,q⟩:=h;have hu:=fL hr;exists _,aJ (hZ (cH Z.d<|pv 1)<|dX (n:=3) rfl<|bI (gL 2 scMk.nd)<|bI (gL 3 scMk.nd)<|bI (gL 4 scMk.nd) dV)
  (aJ (cY (cG (show dW _ _ (jF Y.K Qr) from xE) ⇑4 (cH Z.r<|pv 0) rfl) (aY<|bR bW) dJ)<|aJ (jT hu (cH Z.d<|pv 1) ⇑3 (LX M Nt hr rfl<|av 4 aA) rfl)<|aY<|bR iV)
 ac_rfl
 cases hd with
 | @op _ _ _ _ p dx na _ hu' hm hr' hb'=>
  exists 6,u,_,_,6,hu',U,a,6,T2 hr',U,_,6,_,6,_,6,U;exists 6,6,rn,_,_,6,h.run,U,A.he,6,.inl<|T1 h.he,U,jL _,6;show if (!gC (.str y) (S.hr.map R6))=Qr then _ else _
  rw[jS];have l:∀A' H',RunAt R H' rn A' (if y∈S.hr then(((S.make y).put m x<|.int S.ts.length),Qq) else(S,Qp "absent"):Rs×Qj zZ).1 dn->Im Y.C H H'->Q (bB (if y∈S.hr then(((S.make y).put m x<|.int S.ts.length),Qq) else(S,Qp "absent"):Rs×Qj zZ).2) H':=q
  by_cases c:y∈S.hr
  .rw[bG c]at l;rw[cN c];refine cT {6,y,U,λt i b ht T a4 n1 n2 X=>?_};have g1:=h.keep0<|S0 (o:=.own t) T;have a5:upd H i (.own t) b=none:=by rw[aE X];exact a4
   have O:RunAt R (upd (upd H i<|.own t) b<|.dK []) rn (A.dic b) (S.dic []) dn/\Im Y.C (upd H i<|.own t) (upd (upd H i<|.own t) b<|.dK []):=g1.dic (d:=[]) a5 λz hz=>nomatch hz;have N:upd (upd H i<|.own t) b (.dK []) t=none:=by rw[aE<|cJ n2,aE<|cJ n1];exact ht
   have B:RunAt R (upd (upd (upd H i<|.own t) b<|.dK []) t<|.ins Y.C.th i [("kind",.str y),("fields",.ref b)]) rn ((A.dic b).thg t) (S.make y) dn:=(O.1.keep0<|S0 (o:=.ins Y.C.th i [("kind",.str y),("fields",.ref b)]) N).thg (k:=y) (m:=S.ds.length) zb0 (by
    show(A.δ++[b])[S.ds.length]?=Qp b;rw[h.dc.len,kU<|aV _,xY];rfl)
   have I:Im Y.C H (upd (upd (upd H i<|.own t) b<|.dK []) t<|.ins Y.C.th i [("kind",.str y),("fields",.ref b)]):=((Im.new T).trans O.2).trans<|Im.new N;have a1:=I _ _ hu' Y.nd;have J:((A.dic b).thg t).δ[m]?\na:=pX hm;generalize upd (upd (upd H i<|.own t) b<|.dK []) t (.ins Y.C.th i [("kind",.str y),("fields",.ref b)])=H3 at B I a1;have hv:VOk (S.make y).ts.length (.int S.ts.length):=.inr ⟨_,rfl,by show _<↑(S.ts++[_]);rw[bK];exact wN _⟩;have e:cV ((A.dic b).thg t).θ (.int S.ts.length)=.ref t:=by
    show R7 ((A.θ++[t]).getD S.ts.length 0)=_;rw[h.im.th.len,hJ,kU<|aV _,xY];rfl
   obtain⟨W,_,_⟩:=B.dict J;have L:=B.put J hv x;rw[e]at L;refine{6,u,_,_,6,a1,U,6,na,6,DPut.k (k:=(Qt x:aK)) W ?_,l _ _ L.1<|I.trans L.2};have b3:Bd R.G (S.make y):=⟨j.td,j.lg,j.hr,λd hd=>by
    obtain hd|hd:=vj7.mp hd
    .exact j.ds d hd
    .rw[vj1.mp hd];exact cE _,j.hn,λz hz=>by
    obtain hz|hz:=vj7.mp hz
    .exact j.ts z hz
    .rw[vj1.mp hz];exact j.hn y c⟩
   exact B.few b3 J
  .rw[bA c]at l;rw[fE c];exact bE (λ_=>l A H h Im.refl) λc=>absurd rfl c
abbrev GV:Qd:=top 53
abbrev HF:Qd:=top 42
abbrev AK:Qd:=top 41
inductive PN(Y:Ry)(vs:Qi V)(H:Hp)(Q:VK)(_:XK):Prop
 | mk(R:Rx Y)(rn u:eH)(A:Ra)(S:Rs)(dn:Qk)(x:zZ)(g:Qj zZ)(s m:Qk)(h1:vs=[.ref rn,.ref u])(h2:RunAt R H rn A S dn)(h3:DuAt Y.C R.Z A.δ H (.back x g s m) u)(h5:Bd R.G S)(h7:∀H',RunAt R H' rn A (yI S x g s m) dn->Im Y.C H H'->Q .non H')
inductive JL(Y:Ry)(vs:Qi V)(H:Hp)(Q:VK)(_:XK):Prop
 | mk(R:Rx Y)(rn:eH)(A:Ra)(S:Rs)(dn:Qk)(h1:vs=[.ref rn])(h2:RunAt R H rn A S dn)(h3:∀H',RunAt R H' rn A (S.num (S.rd+1) S.uw S.lk) dn->Im Y.C H H'->Q (.int<|S.pick R.G) H')
def xx4:cC ["run","due","word","x","gives","names"] eR (bX GV):=cF
def xH(F:Fun Y.K "end_call" "end_call" GV f fd)(Z:dS Y.K Y.C):↥eR (PN Y):=by
 refine F.ok xx4 ⇑?_;obtain⟨R,T,u,A,S,dn,x,g,s,m,rfl,h,hd,G,q⟩:=h;have e:=fL hr;exists _,aJ (hZ (cH Z.d<|pv 1)<|dX (n:=4) rfl<|bI (gL 2 xx4.nd)<|bI (gL 3 xx4.nd)<|bI (gL 4 xx4.nd)<|bI (gL 5 xx4.nd) dV)
  (aJ (jT e (cH Z.d<|pv 1) ⇑3 (GW (kP<|wX<|pv 4) iV<|kN e ⇑5 ⇑4 ⟨rfl,rfl,rfl,rfl⟩) rfl)<|aY<|AJ (g:=λi j=>i-j) Z.r ⇑0 aQ uD)
 ac_rfl
 cases hd with
 | @back _ _ a _ p dx na X _ _ O hm hs hr'=>
  obtain⟨B,_,_⟩:=h.dict hm;obtain⟨l,_,_⟩:=h.dict hs;exists 6,u,_,_,6,O,U,a,6,T2 hr',U,_,6,_,6,_,6,_,6,U;have a1:∀v,VOk S.ts.length v->(∀W,RunAt R W T A ((S.put m x v).num S.rd (S.uw-1) S.lk) dn->Im Y.C H W->Q .non W)->YT Y.C.du "names" (.ref u) H λN M=>oN 3 [Qp<|.ref T,Qp<|.ref u,Qp<|.str "back",Qp<|.str x,Qp<|bB g,Qp<|.ref X] M λJ H2=>∃a H3,N=.ref a/\DPut H2 a J (cV A.θ v) H3/\oN 0 [Qp<|.ref T,Qp<|.ref u,Qp<|.str "back",Qp<|.str x,Qp<|bB g,Qp<|.ref X] H3 λz I=>SZ Y.C.rn "under_way" (λi j=>i-j) (tC<|.int 1) [Qp<|.ref T,Qp<|.ref u,Qp<|.str "back",Qp<|.str x,Qp<|bB g,Qp<|.ref X] ⟨λ_ W=>Q .non W,Q,λ_ _=>Qn,λ_ _=>Qn⟩ z I:=λv L q=>by
   have b:=h.put hm L x;have o:=b.1.num S.rd dn (S.uw-1) S.lk;exact{u,_,_,6,O,U,6,na,6,DPut.k (k:=(Qt x:aK)) B<|h.few G hm,6,T,_,_,6,b.1.run,U,_,_,6,b.1.run,by show 12<1000;decide,q _ o.1<|b.2.trans o.2}
  cases g with
  | none=>exact{6,6,bE (λ_=>{6,a1 .non (.inl rfl) q}) λc=>absurd rfl c}
  | some y=>
   refine{6,6,cT {6,X,U,.inl {_,.inl l},6,_,DGet.k (k:=(Qt y:aK)) l,?_}};rw[sP];exact{6,a1 _ (h.got hs y) q}
def scNxt:cC ["run","at"] ["run"] (bX HF):=cF
def vU(F:Fun Y.K "next_choice" "next_choice" HF f fd)(Z:dS Y.K Y.C)(b:mg "len"=Qq):↥["run"] (JL Y):=by
 refine F.ok scNxt ⇑?_;obtain⟨R,d,A,S,e,rfl,h,q⟩:=h;exists _,aJ (sL 1 scNxt.nd<|cH Z.r<|pv 0)
  (aJ (AJ (g:=λi j=>i+j) Z.r ⇑0 aQ LR)<|aY<|bR<|GW (cG tX ⇑1 (fO lR rfl b iP<|aI (cH Z.r<|pv 0) aA)<|cS _) (eT (cH Z.r<|pv 0)<|pv 1) aQ)
 ac_rfl
 have g:=h.num (S.rd+1) e S.uw S.lk;refine{6,d,_,_,6,h.run,U,6,d,_,_,6,h.run,U,_,_,6,h.run,by show 12<1000;decide,?_};exists 6,6,d,_,_,6,g.1.run,U,A.ch,6,.inr<|T2 g.1.im.ch,_,6,U,6;have a:=q _ g.1 g.2;unfold Rs.pick at a;rw[aF,hJ]at *;refine bE (λc=>?_) λc=>?_
 .have c:S.rd<R.G.ch.length:=by have:=dH c;lia
  rw[bM c]at a;exact{6,d,_,_,6,g.1.run,U,6,A.ch,_,_,6,U,T2 g.1.im.ch,sC (by rw[bP,bM c];rfl),a}
 .have c:R.G.ch.length<=S.rd:=E1 λz=>c (cN ∅)
  rw[tD c]at a;exact a
def XE{K:Fq}{S:V->St->Hp->(St->Hp->Prop)->Prop}{D:St->Hp->Prop}(b:Qk->St->Hp->Prop)(h0:b 0 d H)(hl:∀i d H,i<=↑xs->b i d H->SqT K H a xs)(hs:∀i x d H,xs.reverse[i]?\x->b i d H->S x d H (b<|i+1))(hd:∀d H,b ↑xs d H->D d H):pJ (uW K a ↑xs) S D d H:=
 tH ↑xs b h0 (λi d H h p=>have q:=hl i d H (cQ h) p; ⟨⟨xs,_,q,rfl,bM<|by rw[lZ];exact h⟩,by rintro x _ ⟨rfl,y⟩;exact hs i x d _ (y xs q) p⟩) λd H p=>⟨⟨xs,hl _ d H (aV _) p,rfl,aV _⟩,hd d H p⟩
def MJ(Y:Ry)(R:Rx Y)(δ:Z3)(m:Qk)(H:Hp)(d:Du)(e:eH):Prop:=∃(n:Qk)(a p:eH),H e\.tup [.int n,.ref a,.ref p]/\∀(f u h:eH)(b:Hp),δ[m]?\f->Tup H b->b u\(.ins Y.C.du h<|dF (.int n) a p f)->DuAt Y.C R.Z δ b d u
def Ens.at{R:Rx Y}(h:Ens R.Z H l es):A2 (MJ Y R δ m H) (l.dues m) es:=by
 induction h with
 | nil=>exact .nil
 | op h j i x _ e=>exact .cons {_,_,_,h,λd u q n b f a=>.op a b (f _ _ i) x} e
 | call h j i s hl A _ e=>exact .cons {_,_,_,h,λd u q n b f a=>.call a b (f _ _ i) (f _ _ s) hl A} e
 | either h j i o z r B _ _ _ e=>exact .cons {_,_,_,h,λd u q n b f a=>.either a b (f _ _ i) (f _ _ j) (f _ _ o) (f _ _ z) (r.keep f)<|B.keep f} e
 | again h j i o r _ _ e=>exact .cons {_,_,_,h,λd u q n b f a=>.again a b (f _ _ i) (f _ _ j) (f _ _ o)<|r.keep f} e
inductive yQ(Y:Ry)(vs:Qi V)(H:Hp)(Q:VK)(_:XK):Prop
 | mk(R:Rx Y)(rn l na:eH)(A:Ra)(S:Rs)(dn m:Qk)(L:LL)(es:Z3)(h1:vs=[.ref rn,.ref l,.ref na])(h2:RunAt R H rn A S dn)(h3:H l\(.tup<|es.map R7))(h4:Ens R.Z H L es)(h5:A.δ[m]?\na)(h6:S.td.length+L.size<=900000)(h7:∀us H',RunAt R H' rn (A.pop us) (S.push L m) dn->Im Y.C H H'->Q .non H')
inductive MD{Y:Ry}(R:Rx Y)(H:Hp)(rn l na:eH)(A:Ra)(S:Rs)(dn:Qk)(ds:Qi Du)(i:Qk)(σ:St)(Hx:Hp):Prop
 | mk(x y z:Qj V)(us:Z3)(h1:σ=[Qp<|.ref rn,Qp<|.ref l,Qp<|.ref na,x,y,z])(h2:RunAt R Hx rn (A.pop us) (S.pop<|ds.drop (↑ds-i)++S.td) dn)(h3:Im Y.C H Hx)
abbrev jR:Z2:=["run","rows","names"]
def wj7:cC ["run","rows","names","number","row","inners"] jR (bX AK):=cF
def wP(F:Fun Y.K "add_due" "add_due" AK f fd)(Z:dS Y.K Y.C)(M:iJ Y mg base k "Due" Y.C.du jQ (GX Y.C.du))(W:mg "reversed"=Qq):aR P w K mg base bT (k+2) f fd jR (yQ Y):=by
 refine F.ok wj7 ⇑?_;obtain⟨R,rn,l,z,A,S,dn,m,L,es,rfl,h,hl,hE,hm,hz,q⟩:=h;exists _,aY<|eZ eN rfl (XS rfl W<|av 1 aA) (dX (n:=3) rfl<|bI (gL 3 wj7.nd)<|bI (gL 4 wj7.nd)<|bI (gL 5 wj7.nd) dV)<|aY<|eX<|fR fU hH hX gS (cH Z.r<|pv 0)<|aI (LX M YN hr rfl<|av 3<|av 4<|av 5<|av 2 aA) aA
 ac_rfl
 have J:=hE.at (δ:=A.δ) (m:=m);have a0:=J.len;have a3:=yS m L;exists 6,l,6,T2 hl;refine XE (xs:=es.map R7) (MD R H rn l z A S dn<|L.dues m) {_,_,_,A.us,U,?_,Im.refl} ?_ ?_ ?_
 .rw[M4,C3];exact h
 .rintro i σ j hi ⟨_,_,_,_,_,_,f⟩;exact T2<|f.tup _ _ hl
 .rintro i x σ j hx ⟨_,_,_,us,rfl,g,f⟩;rw[<-GH,bP,vh8]at hx;obtain⟨e,he,rfl⟩:=hx;have hi:i<↑es:=by rw[<-lZ];exact(vh2.mp he).1
  rw[Ur hi]at he;obtain⟨d,hd,n,a,p,h1,X⟩:=A2.back J he;have t:=f.tup;exists e,6,T2<|t _ _ h1,U,_,6,_,6,_,6,U;refine{6,rn,_,_,6,g.run,U,.inl {U,_,T1 g.to},6,6,6,6,a,p,z,6,λu b B a1 N=>?_};have O:=g.keep0 ((S0 (o:=.own u) a1).trans<|S0 (o:=.ins Y.C.du b<|dF (.int n) a p z)<|by rw[aE<|cJ N];exact B);have T:Im Y.C j (upd (upd j b<|.own u) u<|.ins Y.C.du b<|dF (.int n) a p z):=(Im.new a1).trans (Im.new<|by rw[aE<|cJ N];exact B);have a2:=X z u b _ hm (t.trans T.tup)<|zb0 (H:=upd j b<|.own u) (o:=.ins Y.C.du b<|dF (.int n) a p z);have G:=O.due a2;have ed:(L.dues m).drop (↑(L.dues m)-(i+1))=d::(L.dues m).drop (↑(L.dues m)-i):=by
   have I:↑(L.dues m)-(i+1)<↑(L.dues m):=by lia
   rw[uM I,show(L.dues m).length-(i+1)+1=↑(L.dues m)-i by lia]
   congr 1
   have:↑es-1-i=↑(L.dues m)-(i+1):=by lia
   rw[this,bM I]at hd;exact iZ hd
  refine{_,_,6,U,O.to,qL ?_,_,_,_,u::us,U,?_,(f.trans T).trans G.2}
  .rw[aF,lZ,<-g.im.ud.len];show((L.dues m).drop _++S.td).length<=_;rw[bK,nM];lia
  .rw[ed];exact G.1
 .rintro σ j ⟨_,_,_,us,rfl,g,f⟩;rw[aF,<-a0,xY,Qi.drop_zero]at g;exact q us j g f
abbrev VL:Qd:=top 48
abbrev As:Qd:=top 49
def Du.size:Du->Qk
 | .either _ _ p q _=>p.size+q.size
 | .again _ _ p _=>p.size
 | _=>0
inductive Dk{Y:Ry}(R:Rx Y)(H:Hp)(rn u:eH)(tv:V)(A:Ra)(S:Rs)(dn:Qk)(p:LL)(m i:Qk)(σ:St)(Hx:Hp):Prop
 | mk(x:Qj V)(us:Z3)(h1:σ=[Qp<|.ref rn,Qp<|.ref u,Qp tv,x])(h2:RunAt R Hx rn (A.pop us) (pushN p m i S) dn)(h3:Im Y.C H Hx)
def Ig:∀(i:Qk)(S:Rs),(pushN p m i S).td.length<=S.td.length+i*p.size:=λi=>Ul
 (λS=>by rw[Qk.zero_mul];exact aV _)
 (λi a S=>by
  have e:=a<|S.push p m;have b:=yS m p;have d:(S.push p m).td.length=↑(p.dues m)+S.td.length:=bK;show(pushN p m i<|S.push p m).td.length<=_;rw[Yn];lia) i
def Dy:∀(i:Qk)(S:Rs),pushN p m (i+1) S=(pushN p m i S).push p m:=λi=>Ul
 (λS=>U)
 (λi a S=>a<|S.push p m) i
def scEi:cC ["run","due","rows","others"] eR (bX VL):=cF
def DC{k:Qk}(F:Fun Y.K "do_either" "do_either" VL f fd)(Z:dS Y.K Y.C)(r:X1 k "next_choice" ["run"] (JL Y))(x:X1 k "add_due" jR (yQ Y)):↥eR (hW Y λd=>∃n a p q m,d=.either n a p q m/\p.size+q.size<=80):=by
 refine F.ok scEi ⇑?_;obtain⟨R,L,u,A,S,J,d,rfl,h,hd,⟨n,a,j,X,m,rfl,hz⟩,o,hp,q⟩:=h;exists _,aJ (hZ (cH Z.d<|pv 1)<|dX (n:=2) rfl<|bI (gL 2 scEi.nd)<|bI (gL 3 scEi.nd) dV)
  (aJ (eX<|⇑@x<|av 0<|aI (GW (cG gF (⇑@r<|av 0 aA) aQ<|cS _) ⇑2<|pv 3)<|aI (cH Z.d<|pv 1) aA)<|aY<|bR iV)
 ac_rfl
 cases hd with
 | @either _ _ _ _ pp dx W l1 l2 v _ _ e1 e2 O T hr' M h1 h2 s1 s2=>
  exists 6,u,_,_,6,O,U,pp,6,T2 M,U,_,6,_,6,U;refine{6,6,R,L,A,S,J,U,h,λB g e=>{U,6,?_}};have t:=e.tup;have l:=e _ _ O Y.nd;have b:∀A' H',RunAt R H' L A' ((S.num (S.rd+1) S.uw S.lk).push (if S.pick R.G=0 then j else X) m) J->Im Y.C H H'->Q .non H':=q;have I:=o.td;refine bE (λc=>?_) λc=>?_
  .have c:S.pick R.G=0:=R8.inj<|dH c;rw[bG c]at b;exact{6,6,u,_,_,6,l,U,R,L,l1,W,A,_,J,m,j,e1,U,g,t _ _ h1,s1.keep t,T,by show S.td.length+_<=_;lia,λus H' N i=>b _ H' N<|e.trans i}
  .have c:S.pick R.G≠0:=λz=>c (cN<|by rw[z])
   rw[bA c]at b;exact{6,6,u,_,_,6,l,U,R,L,l2,W,A,_,J,m,X,e2,U,g,t _ _ h2,s2.keep t,T,by show S.td.length+_<=_;lia,λus H' N i=>b _ H' N<|e.trans i}
def scAg:cC ["run","due","times","turn"] eR (bX As):=cF
def CL{k:Qk}(F:Fun Y.K "do_again" "do_again" As f fd)(Z:dS Y.K Y.C)(z:X1 k "next_choice" ["run"] (JL Y))(B:X1 k "add_due" jR (yQ Y))(r:mg "min"=Qq)(x:mg "range"=Qq)(mt:∃tk,mg "MOST_TIMES"\.int 9 tk):↥eR (hW Y λd=>∃n a p m,d=.again n a p m/\p.size<=80):=by
 refine F.ok scAg ⇑?_;obtain⟨R,X,u,A,S,O,d,rfl,h,hd,⟨n,a,p,m,rfl,hz⟩,o,hp,q⟩:=h;obtain⟨tk,mt⟩:=mt;exists _,aJ (sL 2 scAg.nd<|fO (VM U) rfl r (by rfl')<|aI (⇑@z<|av 0 aA)<|aI (mG (v:=.int 9) rfl mt {6}) aA)
  (aJ (eZ eN rfl (oW rfl x<|av 2 aA) (gL 3 scAg.nd)<|aY<|eX<|⇑@B<|av 0<|aI (eT (cH Z.d<|pv 1) aQ)<|aI (cH Z.d<|pv 1) aA)<|aY<|bR iV)
 ac_rfl
 cases hd with
 | @again _ _ _ _ pp dx na l1 v _ e1 hu hm hr' hp' h1 s1=>
  refine{6,R,X,A,S,O,U,h,λT g I=>?_};have M:-100<=S.pick R.G:=by
   unfold Rs.pick;rw[hJ];cases e:R.G.ch[S.rd]? with
   | none=>show(-100:Ql)<=0;decide
   | some c=>exact hp.choose_spec.choose_spec.ch c<|dM e
  exists _,6;have j:∀A' H',RunAt R H' X A' (pushN p m (min (S.pick R.G) 9).toNat<|S.num (S.rd+1) S.uw S.lk) O->Im Y.C H H'->Q .non H':=q;have e:(if 9<S.pick R.G then 9 else S.pick R.G)=min (S.pick R.G) 9:=by split <;> lia
  rw[e];have a1:min (S.pick R.G) 9<=9/\-100<=min (S.pick R.G) 9:=by lia
  generalize min (S.pick R.G) 9=tv at j a1;have W:=o.td;refine{6,tv,U,∅,∅,?_};refine pB (lo:=0) (n:=tv.toNat) (Dk R H X u (.int tv) A (S.num (S.rd+1) S.uw S.lk) O p m) {_,A.us,U,g,I} ?_ ?_
  .rintro i σ l hi ⟨_,us,rfl,g,f⟩;have t:=f.tup;have b:=f _ _ hu Y.nd;have hl:=Ig (p:=p) (m:=m) i<|S.num (S.rd+1) S.uw S.lk;have N:i*p.size<=9*80:=G8 ∅ hz;refine{6,6,u,_,_,6,b,U,pp,_,_,6,U,T2<|t _ _ hp',U,6,u,_,_,6,b,U,R,X,l1,na,_,_,O,m,p,e1,U,g,t _ _ h1,s1.keep t,hm,?_,λJ H' g' L=>?_}
   .have:(S.num (S.rd+1) S.uw S.lk).td.length=S.td.length:=rfl;lia
   .exact⟨_,J,rfl,by rw[Dy];exact g',f.trans L⟩
  .rintro σ l ⟨_,us,rfl,g,f⟩;exact j _ l g f
abbrev CP:Qd:=top 32
abbrev YB:Qd:=top 33
abbrev UF:Qd:=top 50
inductive JO(vs:Qi V)(H:Hp)(Q:VK)(_:XK):Prop
 | mk(md:eH)(h1:vs=[.ref md])(h2:H md\.tup [])(h3:∀a,H a=Qq->Q (.ref a) (upd H a<|.dK []))
inductive xN(vs:Qi V)(H:Hp)(Q:VK)(_:XK):Prop
 | mk(md:eH)(v:V)(h1:vs=[.ref md,v])(h2:H md\.tup [])(h3:∀a H',FrS [] H H'->H' a\.tup []->Q (.ref a) H')
def DL:cC ["made"] ["made"] (bX CP):=cF
def uV(F:X0 "forms_of" CP f fd):↥["made"] JO:=by
 refine F.ok DL ⇑?_;obtain⟨m,rfl,h,q⟩:=h;have b:(["number","form","names"]:Z2).Nodup:=by rfl'
 exists _,aY<|bR<|JA (hp:=JY) (N':=["number","form","names"]) (src:=[Qq,Qq,Qq]) rfl eW (gB<|pv 0) (g:=eP K 3<|eG (cA 0)<|eG (cA 1)<|eG (cA 2) eO) (λ_ _ _ _=>dX (n:=3) rfl<|bI (gL 0 b)<|bI (gL 1 b)<|bI (gL 2 b) dV) (λ_ _ _ _=>gP) (λ_ _ _ _=>pv 0) λ_ _ _ _=>pv 1
 ac_rfl
 refine{6,m,U,{_,T2 h},λD d=>?_};exact gG (xs:=[]) (λ_ _ a=>a=upd H D (.dK [])) rfl (λi j a _ e=>by rw[e];exact T2<|(T3 d) _ _ h) (λi x j a l=>nomatch l) λj a e=>by rw[e];exact q D d
def scTb:cC ["made","came","found","number","form","names"] ["made","came"] (bX YB):=cF
def EG(F:X0 "turned_back" YB f fd)(j:mg "tuple"=Qq):↥["made","came"] xN:=by
 refine F.ok scTb ⇑?_;obtain⟨o,v,rfl,h,q⟩:=h;exists _,aJ (sL 2 scTb.nd<|cX aA)
  (aJ (eZ eN rfl (gB<|pv 0) (dX (n:=3) rfl<|bI (gL 3 scTb.nd)<|bI (gL 4 scTb.nd)<|bI (gL 5 scTb.nd) dV)<|aY zC)<|aY<|bR<|eV gR rfl j (by rfl')<|av 2 aA)
 ac_rfl
 refine{cE _,λl hl=>{6,o,U,{_,T2<|(T3 hl) _ _ h},?_}};refine gG (xs:=[]) (λ_ m b=>m=[Qp<|.ref o,Qp v,Qp<|.ref l,Qq,Qq,Qq]/\b=upd H l (.lst [])) ⟨rfl,rfl⟩ (λi m b _ e=>by rw[e.2];exact T2<|(T3 hl) _ _ h) (λi x m b r=>nomatch r) ?_;rintro m b ⟨rfl,rfl⟩;exact{6,l,6,.inl {T1 zb0,λa d=>q a _ ((S0 hl).trans<|S0 d) zb0}}
def Ra.mad(A:Ra)(a:eH):Ra:={A with md:=a}
def Ra.frm(A:Ra)(a:eH):Ra:={A with fo:=a}
section
variable{R:Rx Y}{H:Hp}{rn:eH}{A:Ra}{S:Rs}{dn:Qk}
theorem RunAt.mad(h:RunAt R H rn A S dn)(d:H a\.tup []):RunAt R (upd H rn<|.ins Y.C.rn A.dx<|rF R.pg (A.mad a) S.rd dn S.uw S.lk) rn (A.mad a) S dn/\Im Y.C H (upd H rn<|.ins Y.C.rn A.dx<|rF R.pg (A.mad a) S.rd dn S.uw S.lk):=by
 have f:Im Y.C H (upd H rn<|.ins Y.C.rn A.dx<|rF R.pg (A.mad a) S.rd dn S.uw S.lk):=.upd h.run λz=>z rfl;have nd:=h.nd;simp only[vn3,vj0,gI]at nd;obtain⟨⟨a1,l,b,j,e⟩,_⟩:=nd;have i:=h.im.keep f;exact{{im:={f.tup _ _ d,i.ch,i.ud,i.lg,i.th,i.bo},run:=zb0,fo:=(aE<|cJ a1).trans h.fo,he:=(aE<|cJ l).trans h.he,to:=(aE<|cJ b).trans h.to,lo:=(aE<|cJ j).trans h.lo,dc:=uB h.dc e,dk:=h.dk,nd:=h.nd,kp:=sR h.kp<|h.fr _<|.head _,fr:=h.fr},f}
theorem RunAt.frm(h:RunAt R H rn A S dn)(d:H a=Qq):RunAt R (upd (upd H a<|.dK []) rn<|.ins Y.C.rn A.dx<|rF R.pg (A.frm a) S.rd dn S.uw S.lk) rn (A.frm a) S dn/\Im Y.C H (upd (upd H a<|.dK []) rn<|.ins Y.C.rn A.dx<|rF R.pg (A.frm a) S.rd dn S.uw S.lk):=by
 have g:=h.keep0<|S0 (o:=.dK []) d;have f:Im Y.C (upd H a<|.dK []) (upd (upd H a<|.dK []) rn<|.ins Y.C.rn A.dx<|rF R.pg (A.frm a) S.rd dn S.uw S.lk):=.upd g.run λz=>z rfl;have J:R.H0 a=none:=by
  cases e:R.H0 a with
  | none=>rfl
  | some o=>rw[h.kp a o e]at d;cases d
 have q:rn≠a:=bF h.run d;have x:A.he≠a:=bF h.he d;have s:A.to≠a:=bF h.to d;have B:A.lo≠a:=bF h.lo d;have u:a∉A.δ:=λz=>by
  obtain⟨i,L⟩:=vn2.mp z;rw[(h.dict L).1]at d;cases d
 have nd:=h.nd;simp only[vn3,vj0,gI]at nd;obtain⟨⟨a1,r,l,n,m⟩,⟨b1,G,I,E⟩,nd⟩:=nd;have i:=g.im.keep f;refine{{im:={i.md,i.ch,i.ud,i.lg,i.th,i.bo},run:=zb0,fo:=(aE<|cJ q).trans zb0,he:=(aE<|cJ r).trans g.he,to:=(aE<|cJ l).trans g.to,lo:=(aE<|cJ n).trans g.lo,dc:=uB g.dc m,dk:=h.dk,nd:=?_,kp:=sR g.kp<|h.fr _<|.head _,fr:=λb j=>?_},(Im.new d).trans f}
 .show(rn::a::A.he::A.to::A.lo::A.δ).Nodup;simp only[vn3,vj0,gI];exact{⟨q,r,l,n,m⟩,{cJ x,cJ s,cJ B,u},nd}
 .obtain j|j:=vj0.mp j
  .rw[j];exact h.fr _<|.head _
  .obtain j|j:=vj0.mp j
   .rw[j];exact J
   .exact h.fr _<|.tail _<|.tail _ j
end
inductive Ou{Y:Ry}(R:Rx Y)(H:Hp)(rn u la:eH)(S:Rs)(dn:Qk)(l:Z2)(i:Qk)(σ:St)(Hx:Hp):Prop
 | mk(x:Qj V)(A:Ra)(h1:σ=[Qp<|.ref rn,Qp<|.ref u,Qp<|.ref la,x])(h2:RunAt R Hx rn A ((l.take i).foldl Rs.come S) dn)(h3:Im Y.C H Hx)
def SO:∀(l:Z2)(S:Rs),(l.foldl Rs.come S).hr.length<=S.hr.length+↑l/\(l.foldl Rs.come S).lg.length<=S.lg.length+↑l:=λl=>l.recOn
 (λS=>⟨aV _,aV _⟩)
 λk l a S=>by
  have h:=a<|S.come k;have b:(S.come k).hr.length<=S.hr.length+1/\(S.come k).lg.length<=S.lg.length+1:=by
   unfold Rs.come
   split
   .exact⟨lA _,lA _⟩
   .exact⟨by show(S.hr++[k]).length<=_;rw[bK];exact aV _,by show(S.lg++[_]).length<=_;rw[bK];exact aV _⟩
  rw[uF,cK];lia
def scBr:cC ["run","due","line","name"] eR (bX UF):=cF
def FH{k:Qk}(F:Fun Y.K "do_bring" "do_bring" UF f fd)(Z:dS Y.K Y.C)(EL:X1 k "elders" ["program","kind"] zP)(TB:X1 k "turned_back" ["made","came"] xN)(FO:X1 k "forms_of" ["made"] JO):↥eR (hW Y λd=>∃n a x m,d=.op n a (.bring x) m):=by
 refine F.ok scBr ⇑?_;obtain⟨R,rn,u,A,S,dn,d,rfl,h,hd,⟨n,a,x,m,rfl⟩,L,hp,q⟩:=h;exists _,aJ (sL 2 scBr.nd<|⇑@EL<|aI (cH Z.r<|pv 0)<|aI (eT (cH Z.d<|pv 1) aQ) aA)
  (aJ (eZ eN rfl (gB<|pv 2) (gL 3 scBr.nd)<|aY<|cY (cG (show dW _ _ (jF Y.K Qr) from xE) ⇑3 (cH Z.r<|pv 0) rfl) (aJ (eX<|fR fU hH hX gS (cH Z.r<|pv 0)<|av 3 aA)<|aJ (eX<|fR fU hH hX gS (cH Z.r<|pv 0)<|aI (cZ<|aI bW<|av 3 aA) aA)<|aY<|iC Z.r ⇑0<|⇑@TB<|aI (cH Z.r<|pv 0)<|aI (cZ<|av 3 aA) aA) dJ)<|aJ (iC Z.r ⇑0<|⇑@FO<|aI (cH Z.r<|pv 0) aA)<|aY<|bR iV)
 ac_rfl
 cases hd with
 | @op _ _ _ _ p dx na _ hu hm hr' hb'=>
  obtain⟨tr,kq,hp⟩:=hp;have hx:=hp.ln x<|hp.z0 x<|hb' x rfl;have ok:=hp.ok;have a6:=hp.l12;have k0:FrS [] R.H0 H:=λb o _ e=>h.kp b o e;have a4:↑(R.G.ln x)<=12:=by
   obtain⟨i,g,hi⟩:=hx.at;have:=Up.len ok i x g _ hi hx;have:=(vh2.mp hi).1;lia
  refine{6,rn,_,_,6,h.run,U,6,u,_,_,6,hu,U,a,_,_,6,U,T2 hr',U,R.pg,x,tr,6,hp.kn.keepT<|T4 k0,ok,a6,hx,λW X f1 _ a1=>?_};have I:=h.keep0 f1;have i1:Im Y.C H X:=λb o e _=>f1 b o aN e;exists 6,W,U,{_,T2 a1};refine gG (xs:=(R.G.ln x).reverse.map R6) (Ou R X rn u W S dn (R.G.ln x).reverse) {_,A,U,I,Im.refl} ?_ ?_ ?_
  .rintro i σ Hx hi ⟨_,_,_,_,f⟩;exact T2<|f.tup _ _ a1
  .rintro i v σ Hx O ⟨_,l,rfl,g,f⟩;rw[bP,vh8]at O;obtain⟨y,N,rfl⟩:=O;have hi:i<↑(R.G.ln x):=by rw[<-lZ];exact(vh2.mp N).1
   have e:((R.G.ln x).reverse.take<|i+1).foldl Rs.come S=(((R.G.ln x).reverse.take i).foldl Rs.come S).come y:=by
    rw[dE,N,yK];rfl
   have hl:=SO ((R.G.ln x).reverse.take i) S;rw[dR]at hl;have z:=L.hr;have a7:=L.lg;generalize ((R.G.ln x).reverse.take i).foldl Rs.come S=M at g e hl;exists 6,6,rn,_,_,6,g.run,U,l.he,6,.inl<|T1 g.he,U,jL _,6;show if (!gC (.str y) (M.hr.map R6))=Qr then _ else _
   rw[jS]
   by_cases c:y∈M.hr
   .rw[cN c];refine cT {_,l,U,?_,f};rw[e];unfold Rs.come;rw[bG c];exact g
   .rw[fE c];refine fX ?_;have j:=g.her y;exists 6,rn,_,_,6,g.run,U,.inl {U,_,T1 g.he},6,_,_,6,U,g.he,qL (by rw[aF];lia);refine{6,rn,_,_,6,j.1.run,U,.inl {U,_,T1 j.1.lo},6,cQ<|bS (by show 2<=_;decide),λt ht=>?_};have g3:=j.1.keep0<|S0 (o:=.tup [.str "came",.str y]) ht;have B:=g3.say zb0;exists _,_,6,U,g3.lo,qL (by rw[aF,<-g.im.lg.len];lia);refine{6,rn,_,_,6,B.1.run,U,6,cQ<|bS (by show 1<=_;decide),λt2 J=>?_};have T:=B.1.keep0<|S0 (o:=.tup [.str y]) J;refine{_,6,T.im.md,λa2 H5 f5 a5=>?_};have g6:=T.keep0 f5;have g7:=g6.mad a5;refine{6,rn,_,6,g6.run,by show 12<1000;decide,_,(l.say t).mad a2,U,?_,((((f.trans j.2).trans<|Im.new ht).trans B.2).trans<|Im.new J).trans<|Im.trans (λb o e _=>f5 b o aN e) g7.2};rw[e];unfold Rs.come;rw[bA c];exact g7.1
  .rintro σ Hx ⟨_,l,rfl,g,f⟩;rw[aF,cW<|aV _]at g;refine{6,rn,_,_,6,g.run,U,l.md,U,g.im.md,λb z=>?_};have I:=g.keep0<|S0 (o:=.dK []) z;have j:=g.frm z;exact{6,rn,_,6,I.run,by show 12<1000;decide,q _ _ j.1<|i1.trans<|f.trans j.2}
abbrev YP:Qd:=top 4
abbrev XB:Qd:=top 5
abbrev SU:Qd:=top 6
abbrev VC:Qd:=top 29
abbrev YQ:Qd:=top 30
def Ip:Qj eH->V
 | none=>.non
 | some g=>.ref g
def YA{b:Type}{l:Qi b}{j:Qk}{x:b}(h:l[j]?\x):l.take j++x::l.drop (j+1)=l:=by
 obtain⟨a,rfl⟩:=vh2.mp h;rw[<-uM a,vS]
def XQ{a:Type}{l:Qi a}{p:a->Qm}{j:Qk}{x:a}(h:(l.take j).find? p=Qq)(hx:l[j]?\x)(hp:p x=Qr):l.find? p\x:=by
 have e:=YA hx;rw[<-e,B1,h,oA,hp];rfl
def VF{a:Type}{l:Qi a}{p:a->Qm}{j:Qk}{x:a}(h:(l.take j).find? p=Qq)(hx:l[j]?\x)(hp:p x=Qs):(l.take<|j+1).find? p=none:=by
 rw[dE,hx,B1,h];show Qq.or (Qi.find? p [x])=Qq;rw[oA,hp];rfl
def SS{kq:Kq}{i:Qk}{n d:zZ}{z:zZ×Qj zZ×Qi (zZ×eH)}(h:gO (kq.take i) n d=Qq)(hz:kq[i]?\z)(a:(if z.1=n then(z.2.2.find? λe=>decide<|e.1=d).map (·.2) else Qq)=Qq):gO (kq.take<|i+1) n d=none:=by
 unfold gO at *;rw[dE,hz,Yq,h];show Qq.or (Qi.findSome? _ [z])=Qq;rw[II,a];rfl
def Jo{kq:Kq}{i:Qk}{n d:zZ}{g:eH}{z:zZ×Qj zZ×Qi (zZ×eH)}(h:gO (kq.take i) n d=Qq)(hz:kq[i]?\z)(a:(if z.1=n then(z.2.2.find? λe=>decide<|e.1=d).map (·.2) else Qq)\g):gO kq n d\g:=by
 have e:=YA hz;unfold gO at *;rw[<-e,Yq,h,II,a];rfl
inductive JJ(vs:Qi V)(H:Hp)(Q:VK)(_:XK):Prop
 | mk(p:eH)(n d:zZ)(kq:Kq)(h1:vs=[.ref p,.str n,.str d])(h2:DeedsQ H p kq)(h3:Q (Ip<|gO kq n d) H)
inductive Pe(H:Hp)(p:eH)(n d:zZ)(kq:Kq)(i:Qk)(σ:St)(Hx:Hp):Prop
 | mk(a b c e:Qj V)(h1:Hx=H)(h2:σ=[Qp<|.ref p,Qp<|.str n,Qp<|.str d,a,b,c,e])(h3:gO (kq.take i) n d=Qq)
inductive La(H:Hp)(p dt:eH)(n d m:zZ)(v:V)(ds:Qi (zZ×eH))(j:Qk)(σ:St)(Hx:Hp):Prop
 | mk(e:Qj V)(h1:Hx=H)(h2:σ=[Qp<|.ref p,Qp<|.str n,Qp<|.str d,Qp<|.str m,Qp v,Qp<|.ref dt,e])(h3:(ds.take j).find? (λe=>decide<|e.1=d)=Qq)
inductive oV(vs:Qi V)(H:Hp)(Q:VK)(_:XK):Prop
 | mk(p:eH)(n d:zZ)(kq:Kq)(tr:Tr)(l:Z2)(h1:vs=[.ref p,.str n,.str d])(h2:DeedsQ H p kq)(h3:KindsAt H p tr)(h4:TrOk tr)(h5:↑tr<=12)(h6:Up tr n l)(h7:∀(H':Hp),FrS [] H H'->Q (bB<|dZ kq d l) H')
inductive zF(vs:Qi V)(H:Hp)(Q:VK)(_:XK):Prop
 | mk(p:eH)(n d:zZ)(kq:Kq)(tr:Tr)(l:Z2)(h1:vs=[.ref p,.str n,.str d])(h2:DeedsQ H p kq)(h3:KindsAt H p tr)(h4:TrOk tr)(h5:↑tr<=12)(h6:Up tr n l)(h7:∀(H':Hp),FrS [] H H'->Q (.int<|pD kq d l) H')
inductive kQ(K:Fq)(sp:Sp)(vs:Qi V)(H:Hp)(Q:VK)(_:XK):Prop
 | mk(p:V)(fm:eH)(k d:V)(h1:vs=[p,.ref fm,k,d])(h2:SqT K H fm [.str "plain"])(h3:sp [p,k,d] H Q E0)
inductive Cv(H:Hp)(p:eH)(n d:zZ)(kq:Kq)(l:Z2)(i:Qk)(σ:St)(Hx:Hp):Prop
 | mk(e:Qj V)(h1:Hx=H)(h2:σ=[Qp<|.ref p,Qp<|.str n,Qp<|.str d,e])(h3:(l.take i).find? (λx=>(gO kq x d).isSome)=Qq)
def zv3:cC ["program","kind","deed","name","elder","deeds","found"] qI (bX YP):=cF
def Dc(F:X0 "deed_of" YP f fd):↥qI JJ:=by
 refine F.ok zv3 ⇑?_;obtain⟨p,n,d,kq,rfl,⟨Z,ts,x,y,hp,G,J,X⟩,q⟩:=h;exists _,aJ (eZ eN rfl (gB<|eT ⇑0 aQ) (dX (n:=3) rfl<|bI (gL 3 zv3.nd)<|bI (gL 4 zv3.nd)<|bI (gL 5 zv3.nd) dV)<|aY<|cY (cG gF ⇑3 ⇑1<|cS _) (aY<|eZ eN rfl (gB<|pv 5) (gL 6 zv3.nd)<|aY<|cY (cG gF (eT ⇑6 aQ) ⇑2<|cS _) (aY<|bR<|pv 6) dJ) dJ)
  (aY<|bR iV)
 ac_rfl
 exists 6,p,_,_,6,U,T2 hp,U,Z,U,{_,T2 G};refine gG (xs:=ts.map R7) (Pe H p n d kq) {_,_,_,6,U,U} (λi σ o _ h=>by obtain⟨_,_,_,_,rfl,_⟩:=h;exact T2 G) ?_ ?_
 .rintro i x σ o hx ⟨W,T,O,M,rfl,rfl,a1⟩;rw[bP,vh8]at hx;obtain⟨t,I,rfl⟩:=hx;have hi:i<↑kq:=by rw[<-J];exact(vh2.mp I).1
  have hz:kq[i]?=Qp kq[i]:=bM hi;obtain⟨C,B,l,u⟩:=X i t _ I hz;generalize kq[i]=z at hz B l u;exists t,6,T2 B,U,_,6,_,6,_,6,U;exists 6,6,U,6;refine bE (λc=>?_) λc=>?_
  .have en:z.1=n:=R6.inj<|dH c;exists 6,C,U,{_,T2 l};refine gG (xs:=z.2.2.map λd=>R7 d.2) (La o p C n d z.1 (bB z.2.1) z.2.2) {6,U,U} (λj σ r _ h=>by obtain⟨_,rfl,_⟩:=h;exact T2 l) ?_ ?_
   .rintro j x σ r hx ⟨L,rfl,rfl,a⟩;rw[bP,vh8]at hx;obtain⟨g,b,rfl⟩:=hx;obtain⟨rest,N⟩:=u g<|dM b;exists 6,g.2,_,_,.str g.1,U,U,T2 N,nP _ _,6,U,6;refine bE (λc=>?_) λc=>?_
    .have m:g.1=d:=R6.inj<|dH c;have:z.2.2.find? (λe=>decide<|e.1=d)\g:=XQ a b<|cN m;rw[Jo a1 hz (g:=g.2)<|by rw[bG en,this];rfl]at q;exact{6,q}
    .have m:g.1≠d:=λz=>c (cN<|by rw[z])
     exact{6,U,VF a b<|fE m}
   .rintro σ r ⟨L,rfl,rfl,a⟩;rw[aF,cW<|aV _]at a;exact{_,_,_,6,U,SS a1 hz<|by rw[bG en,a];rfl}
  .have en:z.1≠n:=λe=>c (cN<|by rw[e])
   exact{_,_,_,6,U,SS a1 hz<|bA en}
 .rintro σ o ⟨W,T,O,M,rfl,rfl,a1⟩;rw[aF,J,cW<|aV _]at a1;rw[a1]at q;exact q
def xb9:cC ["program","kind","deed","name"] qI (bX XB):=cF
def Mw{k:Qk}(F:X0 "answer" XB f fd)(T:X1 k "elders" ["program","kind"] zP)(C:X1 k "deed_of" qI JJ)(u:mg "reversed"=Qq):↥qI oV:=by
 refine F.ok xb9 ⇑?_;obtain⟨p,n,d,L,X,l,rfl,G,B,ok,o,I,q⟩:=h;exists _,aJ (eZ eN rfl (XS rfl u<|aI (⇑@T<|av 0<|av 1 aA) aA) (gL 3 xb9.nd)<|aY<|cY (kP<|AE<|⇑@C<|av 0<|av 3<|av 2 aA) (aY<|bR<|pv 3) dJ)
  (aY<|bR iV)
 ac_rfl
 refine{6,6,p,n,X,l,U,B,ok,o,I,λa W M J a1=>?_};exists a,6,T2 a1;refine XE (xs:=l.reverse.map R6) (Cv W p n d L l) {6,U,U} (λi N m _ h=>by obtain⟨_,rfl,_⟩:=h;exact T2 a1) ?_ ?_
 .rintro i x N m hx ⟨r,rfl,rfl,j⟩;rw[<-GH,Ux,bP,vh8]at hx;obtain⟨z,O,rfl⟩:=hx;exists 6,6,6,p,z,d,L,U,G.keep<|T4 M;have b:=q _ M;cases e:gO L z d with
  | some g=>
   have:dZ L d l\z:=XQ j O (by rw[e];rfl);rw[this]at b;exact{6,fX {6,b}}
  | none=>
   exact{6,cT {6,U,VF j O<|by rw[e];rfl}}
 .rintro N m ⟨r,rfl,rfl,j⟩;rw[aF,lZ,cW<|aV _]at j;have b:=q _ M;unfold dZ at b;rw[j]at b;exact b
def yx6:cC ["program","kind","deed","line","found"] qI (bX SU):=cF
def Er(h:dZ kq d l\z):z∈l:=oE h
def Lb{k:Qk}(F:X0 "asked" SU f fd)(T:X1 k "elders" ["program","kind"] zP)(TA:X1 k "answer" qI oV)(o:mg "len"=Qq):↥qI zF:=by
 refine F.ok yx6 ⇑?_;obtain⟨p,n,d,G,J,l,rfl,C,m,ok,u,a1,q⟩:=h;exists _,aJ (sL 3 yx6.nd<|⇑@T<|av 0<|av 1 aA)
  (aJ (sL 4 yx6.nd<|⇑@TA<|av 0<|av 1<|av 2 aA)<|aJ (cY (kP<|wX<|pv 4) (aY<|bR<|fO lR rfl o iP<|av 3 aA) dJ)<|aY<|bR<|cM pU (fO lR rfl o iP<|av 3 aA)<|uC ⇑3 ⇑4 ⟨rfl,rfl,rfl,rfl⟩)
 ac_rfl
 refine{6,6,p,n,J,l,U,m,ok,u,a1,λa I j _ B=>?_};refine{6,6,6,p,n,d,G,J,l,U,C.keep<|T4 j,m.keepT<|T4 j,ok,u,a1,λL r=>?_};have b:=q _<|j.trans r;have i:=r _ _ aN B;unfold pD at b;cases e:dZ G d l with
 | none=>
  rw[e]at b;refine{6,6,fX {6,a,6,.inr<|T2 i,?_}};rw[aF,lZ];exact b
 | some z=>
  rw[e]at b;have x:gC (.str z) (l.reverse.map R6)=true:=by rw[jS,DW,vx4];exact Er e
  refine{6,6,cT {6,a,6,.inr<|T2 i,6,a,6,.inl i,6,U,.inl i,jL _,x,_,6,U,?_}};rw[aF,lZ];exact b
abbrev oS:Z2:=["program","form","kind","deed"]
def Df:cC oS oS (bX VC):=cF
def DA{k:Qk}(F:X0 "found_by" VC f fd)(TA:X1 k "answer" qI oV):↥oS (kQ K oV):=by
 refine F.ok Df ⇑?_;obtain⟨p,b,k,d,rfl,a,h⟩:=h;exists _,aJ (cY (cG gF (eT ⇑1 aQ) bW<|cS _) (aY zC) dJ)
  (aJ (cY (cG gF (eT ⇑1 aQ) bW<|cS _) (aY zC) dJ)<|aY<|bR<|⇑@TA<|av 0<|av 2<|av 3 aA)
 ac_rfl
 refine{6,b,_,_,6,U,a,U,U,6,bE (λc=>absurd c<|by rfl') λ_=>?_};exact{6,b,_,_,6,U,a,U,U,6,bE (λc=>absurd c<|by rfl') λ_=>{6,6,6,h}}
def Fw:cC ["program","form","kind","deed","order"] oS (bX YQ):=cF
def EB{k:Qk}(F:X0 "cost_by" YQ f fd)(TA:X1 k "asked" qI zF):↥oS (kQ K zF):=by
 refine F.ok Fw ⇑?_;obtain⟨p,b,k,d,rfl,a,h⟩:=h;exists _,aJ (cY (cG gF (eT ⇑1 aQ) bW<|cS _) (aY zC) dJ)
  (aJ (cY (cG gF (eT ⇑1 aQ) bW<|cS _) (aJ zC<|aY zC) dJ)<|aY<|bR<|⇑@TA<|av 0<|av 2<|av 3 aA)
 ac_rfl
 refine{6,b,_,_,6,U,a,U,U,6,bE (λc=>absurd c<|by rfl') λ_=>?_};exact{6,b,_,_,6,U,a,U,U,6,bE (λc=>absurd c<|by rfl') λ_=>{6,6,6,h}}
abbrev UG:Qd:=top 52
abbrev UH:Qd:=top 51
def Dx{K:Fq}{S:V->St->Hp->(St->Hp->Prop)->Prop}{D:St->Hp->Prop}(d:Qk->St->Hp->Prop)(h0:d 0 l H)(hl:∀i l H,d i l H->iM K p H a xs/\iM K p H b ys)(hs:∀i x y T l H,xs[i]?\x->ys[i]?\y->d i l H->H T=Qq->S (.ref T) l (upd H T<|.tup [x,y]) (d<|i+1))(hd:∀i l H,i=min ↑xs ↑ys->d i l H->D l H):pJ (RD K p p a b) S D l H:=
 tH (min ↑xs ↑ys) d h0 (λi l H h q=>have ⟨m,n⟩:=hl i l H q; ⟨⟨xs,ys,_,_,m,n,bM ∅,bM ∅⟩,by rintro _ _ ⟨T,u,v,j,rfl,rfl,e,f⟩;exact hs i u v T l _ (e xs m) (f ys n) q j⟩) λl H q=>have ⟨m,n⟩:=hl _ l H q;
  ⟨⟨xs,ys,m,n,by lia⟩,hd _ l H rfl q⟩
def VT{Q:St->Hp->Prop}{a σ':St}{H:Hp}{i:Qk}{v:V}(e:a.set i (Qp v)=σ')(h:Q σ' H):cA i v a H Q:=by show Q _ _;rw[e];exact h
def CI{R:Rx Y}{Q:St->Hp->Prop}{a:St}{H H':Hp}(g:RunAt R H' rn A S dn)(h:Q a H')(e:X9 (H=H') X8):Q a H:=by rw[e];exact h
inductive vF(Y:Ry)(vs:Qi V)(H:Hp)(Q:VK)(_:XK):Prop
 | mk(R:Rx Y)(rn u t:eH)(A:Ra)(S:Rs)(dn n m j:Qk)(a:eH)(x y k d:zZ)(as:Z2)(h1:vs=[.ref rn,.ref u,.ref t])(h2:RunAt R H rn A S dn)(h3:DuAt Y.C R.Z A.δ H (.call n a x y k d as m) u)(h5:Bd R.G S)(h6:nO R)(hj:j<S.ts.length)(ht:cV A.θ (.int j)=.ref t)(hk:k∈R.G.ln (S.kind j))(h7:∀A' H',RunAt R H' rn A' (tF R.G S n m x d as j) dn->Im Y.C H H'->Q .non H')
def xD(S:Rs)(m:Qk)(l:Qi (zZ×zZ)):Qi (aK×V):=l.foldl (λd z=>aX d (Qt z.1)<|S.get m z.2) []
theorem QJ{S:Rs}{m n:Qk}(h:∀x,VOk n<|S.get m x):∀(l:Qi (zZ×zZ))(d:Qi (aK×V)),(∀z∈d,VOk n z.2)->∀z∈l.foldl (λd z=>aX d (Qt z.1)<|S.get m z.2) d,VOk n z.2
 | [],d,hd=>hd
 | y::l,d,hd=>QJ h l _<|AV hd<|h y.2
theorem JK{S:Rs}{m:Qk}:∀(l:Qi (zZ×zZ))(d:Qi (aK×V)),↑(l.foldl (λd z=>aX d (Qt z.1)<|S.get m z.2) d)<=↑d+↑l
 | [],d=>aV _
 | y::l,d=>by
  have b:=JK (S:=S) (m:=m) l<|aX d (Qt y.1)<|S.get m y.2;have a:=mK d (Qt y.1)<|S.get m y.2;rw[uF,cK];lia
def uY{S:Rs}{m:Qk}(θ:Z3)(l:Qi (zZ×zZ))(z:zZ×zZ):aX (cD θ<|xD S m l) (Qt z.1) (cV θ<|S.get m z.2)=cD θ (xD S m<|l++[z]):=by
 rw[QN];unfold xD;rw[yK];rfl
inductive NF{Y:Ry}(R:Rx Y)(H:Hp)(D u:eH)(θ:Z3)(S:Rs)(m:Qk)(l:Qi (zZ×zZ))(i:Qk)(σ:St)(Hx:Hp):Prop
 | mk(x y:Qj V)(h1:σ=[x,y,Qp<|.ref u])(h2:FrS [] H Hx)(h3:Hx D\(.dK<|cD θ<|xD S m<|l.take i))
abbrev IT:Z2:=["run","due","thing"]
abbrev Op:Z2:=["run","due","thing","word","x","y","kind","deed","args","form","found","name","params","rows","gives","names"]
def zk3:cC Op IT (bX UG):=cF
def Ho{k:Qk}(F:Fun Y.K "start_call" "start_call" UG f fd)(Z:dS Y.K Y.C)(FB:X1 (k+1) "found_by" oS (kQ Y.K oV))(CB:X1 (k+1) "cost_by" oS (kQ Y.K zF))(DE:X1 (k+1) "deed_of" qI JJ)(AD:X1 (k+1) "add_due" jR (yQ Y))(M:iJ Y mg base k "Due" Y.C.du jQ (GX Y.C.du))
  (mz:mg "zip"=Qq) (mP:mg "PLAIN"\.ref ap) (hP:∀H,SqT Y.K H ap [.str "plain"]) (mO:∃tk,mg "OWN"\.str "own" tk) (mB:∃tk,mg "BACK"\.str "back" tk):aR P w K mg base bT (k+2) f fd IT (vF Y):=by
 refine F.ok zk3 ⇑?_;obtain⟨R,rn,u,t,A,S,dn,n,m,j,a,x,y,kd,d,as,rfl,h,hd,hb,⟨tr,kq,hp⟩,hj,am,b3,q⟩:=h;obtain⟨tO,mO⟩:=mO;obtain⟨tB,mB⟩:=mB;have hu:=fL hr;have ag:(["param","arg","due"]:Z2).Nodup:=by rfl'
 exists _,aJ (hZ (cH Z.d<|pv 1)<|dX (n:=6) rfl<|bI (gL 3 zk3.nd)<|bI (gL 4 zk3.nd)<|bI (gL 5 zk3.nd)<|bI (gL 6 zk3.nd)<|bI (gL 7 zk3.nd)<|bI (gL 8 zk3.nd) dV)
  (aJ (sL 9 zk3.nd<|XO hu (cH Z.r<|pv 0) (cH Z.d<|pv 1) (mG (v:=.ref ap) rfl mP rfl) ⟨rfl,rfl,rfl,rfl⟩)<|aJ (sL 10 zk3.nd<|⇑@FB<|aI (cH Z.r<|pv 0)<|av 9<|aI (cH Z.t<|pv 2)<|av 7 aA)<|aJ (hZ (⇑@DE<|aI (cH Z.r<|pv 0)<|av 10<|av 7 aA)<|dX (n:=4) rfl<|bI (gL 11 zk3.nd)<|bI (gL 12 zk3.nd)<|bI (gL 13 zk3.nd)<|bI (gL 14 zk3.nd) dV)<|aJ (TL (hp:=JY) (i:=15) (N':=["param","arg","due"]) (src:=[Qq,Qq,Qp 1]) rfl zk3.nd rfl rfl eW (tY (p:=Qr) rfl mz<|av 12<|av 8 aA) (g:=eP Y.K 2<|eG (cA 0)<|eG (cA 1) eO) (λ_ _ _ _=>dX (n:=2) rfl<|bI (gL 0 ag)<|bI (gL 1 ag) dV) (λ_ _ _ _=>gP) (λ_ _ _ _=>pv 0) (te:=UW (VG Y.C.du "names"<|aG 2)<|aG 1) λ_ _ _ _=>kN hu (cH Z.d<|pv 2) ⇑1 ⟨rfl,rfl,rfl,rfl⟩)<|aJ (jT hu ⇑15 (mG (v:=.str "own") rfl mO ⟨_,rfl⟩) ⇑2 rfl)<|aJ (eX<|fR fU hH hX gS (cH Z.r<|pv 0)<|aI (cZ<|aI bW<|aI (cH Z.d<|pv 1)<|aI (cH Z.t<|pv 2)<|av 10 aA) aA)<|aJ (AJ (g:=λi j=>i+j) Z.r ⇑0 (⇑@CB<|aI (cH Z.r<|pv 0)<|av 9<|aI (cH Z.t<|pv 2)<|av 7 aA) LR)<|aJ (AJ (g:=λi j=>i+j) Z.r ⇑0 aQ LR)<|aJ (eX<|fR fU hH hX gS (cH Z.r<|pv 0)<|aI (LX M YN hr rfl<|aI iV<|aI (cZ<|aI (mG (v:=.str "back") rfl mB ⟨_,rfl⟩)<|av 4<|av 14<|av 15 aA)<|aI (cZ aA)<|aI (cH Z.d<|pv 1) aA) aA)<|aY<|eX<|⇑@AD<|av 0<|aI (qZ hu (cH Z.r<|pv 0) (cZ<|av 10<|av 7 aA) λ_ _=>U)<|av 15 aA)
 ac_rfl
 cases hd with
 | @call _ _ _ _ p dx na g _ _ _ _ _ hu' hm hr' hg hal hz=>
  obtain⟨t',dt,bt,J,ht,bc⟩:=h.thing hj;rw[am]at J;cases J;have a9:S.kind j∈R.G.nm:=by
   unfold Rs.kind;have:S.ts.getD (j:Ql).toNat ("",0)=S.ts[j]:=by show S.ts.getD j _=_;rw[hJ,bM hj];rfl
   rw[this];exact hb.ts _<|fP hj
  obtain⟨dg,pt,dv,c1,c2,c3,c4,c5,c6,c7,c8⟩:=hp.ca kd d hz _ a9 b3;have k0:FrS [] R.H0 H:=λb o _ e=>h.kp b o e;exists 6,u,_,_,6,hu',U,a,6,T2 hr',U,_,6,_,6,_,6,_,6,_,6,_,6,U;exists 6,rn,_,_,6,h.run,U,A.fo,U,.inl {_,.inl h.fo},6,u,_,_,6,hu',U,_,DGet.k (k:=(Qu (n:Ql):aK)) h.fo;refine{6,rn,_,_,6,h.run,U,6,6,t,_,_,6,ht,U,6,_,ap,_,6,hP _,R.pg,S.kind j,d,kq,tr,6,hp.dq.keep<|T4 k0,hp.kn.keepT<|T4 k0,hp.ok,hp.l12,hp.ln _ a9,λH1 f1=>?_};rw[c1];have g1:=h.keep0 f1;have k1:=k0.trans f1;have t1:=T4 f1;have i1:Im Y.C H H1:=λb o e _=>f1 b o aN e;have b1:=i1 _ _ hu' Y.nd;exists 6,rn,_,_,6,g1.run,U,6,6,R.pg,R.G.an (S.kind j) d,d,kq,U,hp.dq.keep<|T4 k1;rw[c2];exists dg,6,T2<|k1 _ _ aN c3,U,_,6,_,6,_,6,_,6,U;generalize hF:R.G.an (S.kind j) d=F at c1 c2 c3 c4 c5 c7 c8;have b6:=(h.dict hm).1;have ac:=k1 _ _ aN c4;have af:=t1 _ _ hg;refine{6,6,pt,g,_,6,T2 ac,T2 af,λD hD=>?_};have be:↑((R.G.ps F d).zip as)<=1000:=by rw[zN];lia
  have b5:∀x,VOk S.ts.length (S.get m x):=λx=>h.got hm x;refine Dx (p:=Qr) (xs:=(R.G.ps F d).map R6) (ys:=as.map R6) (NF R H1 D u A.θ S m<|(R.G.ps F d).zip as) {_,6,S0 hD,zb0} ?_ ?_ ?_
  .rintro i σ Hx ⟨_,_,_,L,_⟩;exact{T2<|L _ _ aN ac,T2<|L _ _ aN af}
  .rintro i v1 v2 T σ Hx J e2 ⟨_,_,rfl,L,a5⟩ hT;rw[bP,vh8]at J e2;obtain⟨x1,J,rfl⟩:=J;obtain⟨X,e2,rfl⟩:=e2;have fT:=L.trans<|S0 (o:=.tup [.str x1,.str X]) hT;have ez:((R.G.ps F d).zip as)[i]?\(x1,X):=by rw[JF];exact⟨J,e2⟩
   have ak:=fT _ _ aN<|f1 _ _ aN b6;exists T,6,T2 zb0,U,_,6,_,6,U;have hl:=JK (S:=S) (m:=m) (((R.G.ps F d).zip as).take i) [];rw[dR,iX]at hl;exists 6,6,u,_,_,6,fT _ _ aN b1,U,na,U,.inl {_,.inl ak},6,_,DGet.k (k:=(Qt X:aK)) ak,_,Qt x1,U,(aE<|bF a5 hT).trans a5,bS (by unfold cD xD;rw[aF];lia),_,_,rfl,fT.put hD;rw[zb0,sP];show Qp (HO.dK<|aX (cD A.θ _) _<|cV A.θ<|S.get m X)=_;rw[dE,ez];exact cP (λz=>Qp<|HO.dK z)<|uY A.θ _ (x1,X)
  .rintro i σ Hx hi ⟨_,_,rfl,L,a5⟩;rw[aF,aF,<-zN]at hi;rw[hi,cW<|aV _]at a5;have hl:=JK (S:=S) (m:=m) ((R.G.ps F d).zip as) [];rw[iX]at hl;refine VT (σ':=[Qp<|.ref rn,Qp<|.ref u,Qp<|.ref t,Qp<|.str "call",Qp<|.str x,Qp<|.str y,Qp<|.str kd,Qp<|.str d,Qp<|.ref g,Qp<|.ref ap,Qp<|.str F,Qp<|.str d,Qp<|.ref pt,Qp dv,Qp<|bB<|R.G.gv F d,Qp<|.ref D]) rfl ?_;exists 6,6,D,6,DPut.k (k:=(Qt "own":aK)) a5 (qL<|by unfold cD xD;rw[aF];lia);have ec:aX (cD A.θ<|xD S m<|(R.G.ps F d).zip as) (Qt "own") (.ref t)=cD A.θ (zW S m (R.G.ps F d) as j):=by
    rw[<-am,QN];rfl
   rw[ec];have f3:FrS [] H1 (upd Hx D<|.dK<|cD A.θ<|zW S m (R.G.ps F d) as j):=L.put hD;have g3:=g1.dic2 hD f3 zb0<|AV (QJ b5 _ _ λz hz=>nomatch hz)<|.inr ⟨j,rfl,hj⟩;have i3:Im Y.C H (upd Hx D<|.dK<|cD A.θ<|zW S m (R.G.ps F d) as j):=i1.trans λb o e _=>f3 b o aN e;generalize upd Hx D (.dK<|cD A.θ<|zW S m (R.G.ps F d) as j)=H3 at g3 i3 f3;have k3:=k1.trans f3;have b4:=i3 _ _ hu' Y.nd;have az:=i3 _ _ ht Y.nt;refine{6,rn,_,_,6,g3.run,U,.inl {U,_,T1 g3.lo},6,u,_,_,6,b4,U,6,t,_,_,6,az,U,6,cQ<|bS (by show 4<=_;decide),λtl aj=>?_};have g4:=g3.keep0<|S0 (o:=.tup [.str "did",.int n,.str<|S.kind j,.str F]) aj;have N:=g4.say zb0;have bb:=hb.lg;exists _,_,6,U,g4.lo,qL (by rw[aF,<-g4.im.lg.len];show S.lg.length<=_;lia);have k5:FrS [] R.H0 _:=λb o _ e=>N.1.kp b o e;have i5:=(i3.trans<|Im.new (o:=.tup [.str "did",.int n,.str<|S.kind j,.str F]) aj).trans N.2;generalize upd (upd H3 tl<|.tup [.str "did",.int n,.str<|S.kind j,.str F]) (A.dic D).lo (.lst<|(A.dic D).ls.map R7++[.ref tl])=H5 at N k5 i5;have b0:=i5 _ _ ht Y.nt;refine{6,rn,_,_,6,N.1.run,U,6,rn,_,_,6,N.1.run,U,6,6,t,_,_,6,b0,U,6,_,ap,_,6,hP _,R.pg,S.kind j,d,kq,tr,6,hp.dq.keep<|T4 k5,hp.kn.keepT<|T4 k5,hp.ok,hp.l12,hp.ln _ a9,λH6 f6=>?_};have g6:=N.1.keep0 f6;rw[<-c6];have g7:=g6.num S.rd dn S.uw<|S.lk+R.G.co (S.kind j) d;refine{_,_,6,g6.run,by show 12<1000;decide,?_};have I:=g7.1.num S.rd dn (S.uw+1)<|S.lk+R.G.co (S.kind j) d;refine{6,rn,_,_,6,g7.1.run,U,_,_,6,g7.1.run,by show 12<1000;decide,?_};have i8:=i5.trans<|Im.trans (λb o e _=>f6 b o aN e)<|g7.2.trans I.2;have I:=I.1;refine CI I ?_;generalize upd (upd H6 rn _) rn _=H8 at I i8 ⊢;have aw:((A.dic D).say tl).δ[m]?\na:=pX hm;have ae:((A.dic D).say tl).δ[S.ds.length]?\D:=by
    show(A.δ++[D])[S.ds.length]?=Qp D;rw[h.dc.len,kU<|aV _,xY];rfl
   have b9:=i8 _ _ hu' Y.nd;refine{6,rn,_,_,6,I.run,U,.inl {U,_,T1 I.to},6,6,6,cQ<|bS (by show 4<=_;decide),λtb b2=>{cE _,λte ah=>?_}};have f9:FrS [] H8 (upd (upd H8 tb<|.tup [.str "back",.str x,bB<|R.G.gv F d,.ref D]) te<|.tup []):=(S0 b2).trans<|S0 ah;have a2:upd (upd H8 tb<|.tup [.str "back",.str x,bB<|R.G.gv F d,.ref D]) te (.tup []) tb\.tup [.str "back",.str x,bB<|R.G.gv F d,.ref D]:=(T3 ah) _ _ zb0;generalize upd (upd H8 tb<|.tup [.str "back",.str x,bB<|R.G.gv F d,.ref D]) te (.tup [])=W at f9 a2;have g9:=I.keep0 f9;refine{6,u,_,_,6,f9 _ _ aN b9,U,tb,te,na,6,λl B aq ba n2=>?_};have aa:upd W B (.own l) l=none:=by rw[aE<|cJ n2];exact aq
   have a7:FrS [] W (upd (upd W B<|.own l) l<|.ins Y.C.du B<|dF .non tb te na):=(S0 ba).trans<|S0 aa;have a3:upd (upd W B<|.own l) l (.ins Y.C.du B<|dF .non tb te na) l\(.ins Y.C.du B<|dF .non tb te na):=zb0;generalize upd (upd W B<|.own l) l (.ins Y.C.du B<|dF .non tb te na)=ax at a7 a3;have ab:=g9.keep0 a7;have a1:=ab.due (d:=.back x (R.G.gv F d) S.ds.length m)<|.back a3 aw ae<|a7 _ _ aN a2;have bf:=hb.td;exists _,_,6,U,ab.to,qL (by rw[aF,lZ,<-ab.im.ud.len];show S.td.length<=_;lia);have ad:=(i8.trans λb o e _=>a7 b o aN<|f9 b o aN e).trans a1.2;have a1:=a1.1;generalize upd ax _ _=ai at a1 ad ⊢;obtain⟨qs,a8⟩:=a1.im.bo;obtain⟨z,b8,ao⟩:=vj2.mp<|a8.k F d c5;cases hfd:qs.find? (λq=>decide<|q.1=(F,d))with
   | none=>exact absurd ao ⇑[ub8.mp hfd z b8]
   | some z2=>
    have au:z2.1=(F,d):=⇑[uT hfd]
    obtain⟨es,ay,al⟩:=a8.e z2<|oE hfd;rw[au]at al;refine{6,6,rn,_,_,6,a1.run,U,6,6,cQ<|bS (by show 2<=_;decide),λtk b7=>?_};have O:FrS [] ai (upd ai tk<|.tup [.str F,.str d]):=S0 b7;have ar:=a1.keep0 O;have a4:=a8.keep λb o e _=>O b o aN e;refine{_,tk,qs,(F,d),z2,U,U,a4.d,a4.ok,T2 zb0,hfd,6,R,rn,z2.2.2,D,_,_,dn,S.ds.length,R.G.bo F d,es,U,ar,(T4 O) _ _ ay,al.keep<|T4 O,ae,by show(S.td.length+1)+_<=_;lia,λus H' g' f'=>?_};subst hF;exact q _ H' g'<|ad.trans<|Im.trans (λb o e _=>O b o aN e) f'
def zp2:cC ["run","due","word","x","y","kind","deed","args","thing"] eR (bX UH):=cF
def Jq{k:Qk}(F:Fun Y.K "do_call" "do_call" UH f fd)(Z:dS Y.K Y.C)(BE:X1 k "is_below" ["program","one","other"] CJ)(ST:X1 k "start_call" IT (vF Y))(O:∃tk,mg "MOST_UNDER_WAY"\.int 40 tk):↥eR (hW Y λd=>∃n a x y q d' as m,d=.call n a x y q d' as m):=by
 refine F.ok zp2 ⇑?_;obtain⟨R,rn,u,A,S,dn,d,rfl,h,hd,⟨n,a,x,y,kd,d',as,m,rfl⟩,W,hp,q⟩:=h;obtain⟨tM,O⟩:=O;have hu:=fL hr;exists _,aJ (hZ (cH Z.d<|pv 1)<|dX (n:=6) rfl<|bI (gL 2 zp2.nd)<|bI (gL 3 zp2.nd)<|bI (gL 4 zp2.nd)<|bI (gL 5 zp2.nd)<|bI (gL 6 zp2.nd)<|bI (gL 7 zp2.nd) dV)
  (aJ (sL 8 zp2.nd<|kN hu (cH Z.d<|pv 1) ⇑4 ⟨rfl,rfl,rfl,rfl⟩)<|aJ (cY (kP<|wX<|pv 8) (aY<|bR bW) dJ)<|aJ (cY (QZ<|HW<|⇑@BE<|aI (cH Z.r<|pv 0)<|aI (cH Z.t<|pv 8)<|av 5 aA) (aY<|bR bW) dJ)<|aJ (cY (cG NJ (cH Z.r<|pv 0) (mG (v:=.int 40) rfl O ⟨_,rfl⟩)<|cS _) (aY<|bR bW) dJ)<|aJ (eX<|⇑@ST<|av 0<|av 1<|av 8 aA)<|aY<|bR iV)
 ac_rfl
 have a2:=hd;cases hd with
 | @call _ _ _ _ p dx na g _ _ _ _ _ hu' hm hr' hg hal hz=>
  obtain⟨T,_,_⟩:=h.dict hm;exists 6,u,_,_,6,hu',U,a,6,T2 hr',U,_,6,_,6,_,6,_,6,_,6,_,6,U;exists 6,u,_,_,6,hu',U,na,U,.inl {_,.inl T},6,_,DGet.k (k:=(Qt y:aK)) T;rw[sP];have J:∀I H',RunAt R H' rn I (S.thing (S.get m y) λj=>if kd∈R.G.ln (S.kind j) then if 40<=S.uw then(S,Qp "deep") else(tF R.G S n m x d' as j,Qq) else(S,Qp "unfit")).1 dn->Im Y.C H H'->Q (bB (S.thing (S.get m y) λj=>if kd∈R.G.ln (S.kind j) then if 40<=S.uw then(S,Qp "deep") else(tF R.G S n m x d' as j,Qq) else(S,Qp "unfit")).2) H':=q;refine VT (σ':=[Qp<|.ref rn,Qp<|.ref u,Qp<|.str "call",Qp<|.str x,Qp<|.str y,Qp<|.str kd,Qp<|.str d',Qp<|.ref g,Qp<|cV A.θ<|S.get m y]) rfl ?_;obtain e|⟨j,e,hj⟩:=h.got hm y
  .rw[e]at J ⊢;exact{6,6,bE (λ_=>J A H h Im.refl) λc=>absurd rfl c}
  .rw[e]at J ⊢;obtain⟨t,dt,b,X,ht,a5⟩:=h.thing hj;have a1:=X;rw[X];refine{6,6,cT ?_};have a3:=hp;obtain⟨tr,kq,hp⟩:=hp;have a4:S.kind j∈R.G.nm:=by
    unfold Rs.kind;have:S.ts.getD (j:Ql).toNat ("",0)=S.ts[j]:=by show S.ts.getD j _=_;rw[hJ,bM hj];rfl
    rw[this];exact W.ts _<|fP hj
   have k0:FrS [] R.H0 H:=λb o _ e=>h.kp b o e;refine{6,rn,_,_,6,h.run,U,6,t,_,_,6,ht,U,6,R.pg,S.kind j,kd,tr,6,hp.kn.keepT<|T4 k0,hp.ok,hp.l12,hp.ln _ a4,λN f1=>{6,?_}};have M:=h.keep0 f1;have L:Im Y.C H N:=λb o e _=>f1 b o aN e
   by_cases c:kd∈R.G.ln (S.kind j)
   .rw[cN c];refine cT ?_;have B:∀I H',RunAt R H' rn I (if 40<=S.uw then(S,Qp "deep") else(tF R.G S n m x d' as j,Qq):Rs×Qj zZ).1 dn->Im Y.C H H'->Q (bB (if 40<=S.uw then(S,Qp "deep") else(tF R.G S n m x d' as j,Qq):Rs×Qj zZ).2) H':=by
     have:=J;simp only[Rs.thing,bG c]at this;exact this
    exists 6,rn,_,_,6,M.run,U,_,6,U,6;refine bE (λi=>?_) λi=>?_
    .have i:40<=S.uw:=dH i;rw[bG i]at B;exact B A N M L
    .have i:¬40<=S.uw:=λz=>i<|cN z;rw[bA i]at B;have a0:=a2.keep (l:=[]) Y.nd L;rw[eA]at a0;exact{6,6,6,R,rn,u,t,A,S,dn,n,m,j,a,x,y,kd,d',as,U,M,a0,W,a3,hj,a1,c,λI H' g' f'=>B I H' g'<|L.trans f'}
   .rw[fE c];refine fX ?_;have B:=J A N;simp only[Rs.thing,bA c]at B;exact B M L
abbrev SW:Qd:=top 55
abbrev Al:Qd:=top 56
def Rw.wd:Rw->zZ
 | .make _ _=>"make"
 | .copy _ _=>"copy"
 | .put _ _ _=>"put"
 | .take _ _ _=>"take"
 | .say _=>"say"
 | .bring _=>"bring"
def Du.wd:Du->zZ
 | .op _ _ r _=>r.wd
 | .call _ _ _ _ _ _ _ _=>"call"
 | .either _ _ _ _ _=>"either"
 | .again _ _ _ _=>"again"
 | .back _ _ _ _=>"back"
def Rw.hd(r:Rw):∃rest,r.vs=.str r.wd::rest:=by cases r <;> exact{6}
theorem DuAt.hd(h:DuAt C Z δ H d u):∃i a p j v rest,H u\(.ins C.du i<|dF v a p j)/\H a\(.tup<|.str d.wd::rest)/\∀n,d.num\n->v=.int n:=by
 cases h with
 | op h f b o=>
  obtain⟨rest,e⟩:=Rw.hd ‹_›;rw[e]at b;exact{_,_,_,_,_,_,h,b,λn z=>by cases z;rfl}
 | call h f b l hl q=>exact{_,_,_,_,_,_,h,b,λn z=>by cases z;rfl}
 | either h f b=>exact{_,_,_,_,_,_,h,b,λn z=>by cases z;rfl}
 | again h f b=>exact{_,_,_,_,_,_,h,b,λn z=>by cases z;rfl}
 | back h f m b=>exact{_,_,_,_,_,_,h,b,λn z=>nomatch z}
def sB(Y:Ry)(mg:zZ->Qj iH)(base:Qa)(k:Qk):Prop:=∃ad a,mg "DOERS"\.ref ad/\NZ P w K ad a/\∀d:Du,d.num.isSome->d.size<=80->∃g ok,valueAt a (Qt d.wd)\.ref g/\tP P w K mg base k eR g (hW Y ok)/\ok d
inductive RC(Y:Ry)(vs:Qi V)(H:Hp)(Q:VK)(_:XK):Prop
 | mk(R:Rx Y)(rn u:eH)(A:Ra)(S:Rs)(dn mo:Qk)(d:Du)(h1:vs=[.ref rn,.ref u,.int mo])(h2:RunAt R H rn A S dn)(h3:DuAt Y.C R.Z A.δ H d u)(h4:d.num.isSome)(h5:d.size<=80)(h6:Bd R.G S)(h7:nO R)(h8:mo<=dn->Q (.str "long") H)(h9:dn<mo->∀A' H',RunAt R H' rn A' (doR R.G S d).1 (dn+1)->Im Y.C H H'->Q (bB (doR R.G S d).2) H')
def xv4:cC ["run","due","most","doer"] ["run","due","most"] (bX SW):=cF
def Nz{k:Qk}(F:Fun Y.K "do_row" "do_row" SW f fd)(Z:dS Y.K Y.C)(D:sB Y mg base k):↥["run","due","most"] (RC Y):=by
 refine F.ok xv4 ⇑?_;obtain⟨R,rn,u,A,S,dn,m,d,rfl,h,hd,B,hz,q,hp,O,W⟩:=h;obtain⟨ad,kvs,N,a1,J⟩:=D;exists _,aJ (cY (cG NJ (cH Z.r<|pv 0) ⇑2<|cS _) (aY<|bR bW) dJ)
  (aJ (AJ (g:=λi j=>i+j) Z.r ⇑0 aQ LR)<|aJ (sL 3 xv4.nd<|AG (mG (v:=.ref ad) rfl N rfl)<|eT (cH Z.d<|pv 1) aQ)<|aY<|bR<|BZ (ps:=eR) hr ⇑3<|av 0<|av 1 aA)
 ac_rfl
 exists 6,rn,_,_,6,h.run,U,6,_,6,U,6;refine bE (λc=>?_) λc=>?_
 .have c:(m:Ql)<=dn:=dH c;exact O ∅
 .have c:¬(m:Ql)<=dn:=λz=>c<|cN z;have g:=h.num S.rd (dn+1) S.uw S.lk;obtain⟨dx,a,p,na,v,rest,G,o,_⟩:=hd.hd;have T:=g.2 _ _ G Y.nd;have n:=g.2.tup _ _ o;obtain⟨b,ok,L,I,x⟩:=J d B hz;have e:=hd.keep (l:=[]) Y.nd g.2;rw[eA]at e;refine{6,rn,_,_,6,h.run,U,_,_,6,h.run,by show 12<1000;decide,?_};refine CI g.1 ?_;exists 6,u,_,_,6,T,U,a,_,_,6,U,T2 n,nP _ _,ad,b,kvs,Qt d.wd,U,U,a1,L;exact{6,b,6,I,6,6,R,rn,u,A,S,dn+1,d,U,g.1,e,x,q,hp,λM H' g' X=>W ∅ M H' g'<|g.2.trans X}
def LL.dep:LL->Qk
 | .nil=>0
 | .op _ _ _ t=>t.dep
 | .call _ _ _ _ _ _ _ t=>t.dep
 | .either _ _ p q t=>max (max p.dep q.dep+1) t.dep
 | .again _ _ p t=>max (p.dep+1) t.dep
structure Pz(G:Pg):Prop where
 bo:∀f d,(G.bo f d).size<=80
 ps:∀f d,↑(G.ps f d)<=1000
 ln:∀k,↑(G.ln k)<=12
 nm:∀k,∀x∈G.ln k,x∈G.nm
 po:∀f d,("own":zZ)∉G.ps f d
 dp:∀f d,(G.bo f d).dep<=4
structure Wf(G:Pg)(S:Rs)(dn:Qk):Prop where
 td:S.td.length<=800*(dn+1)
 sz:∀d∈S.td,d.size<=80
 bk:bY S.td<=dn
 lg:S.lg.length<=12*dn
 hl:S.hr.length<=12+12*dn
 hn:∀k∈S.hr,k∈G.nm
 ts:∀z∈S.ts,z.1∈G.nm
 ds:∀d∈S.ds,↑d+bY S.td<=1001+2*dn
def Wf.bd(h:Wf G S dn)(hd:dn<=1001):Bd G S:=⟨by have:=h.td;lia,by have:=h.lg;lia,by have:=h.hl;lia,λd a=>by have:=h.ds d a;lia,h.hn,h.ts⟩
def NH(m:Qk):∀l:LL,l.size<=80->∀d∈l.dues m,d.size<=80:=λl=>l.recOn
 (λ_=>λd h=>nomatch h)
 (λn a r t b h=>λd hd=>by
  simp only[LL.size]at h;obtain rfl|hd:=vj0.mp hd
  .exact cE _
  .exact b ∅ d hd)
 (λn a x y k f i t b h=>λd hd=>by
  simp only[LL.size]at h;obtain rfl|hd:=vj0.mp hd
  .exact cE _
  .exact b ∅ d hd)
 (λn a p q t _ _ a1 h=>λd hd=>by
  simp only[LL.size]at h;obtain rfl|hd:=vj0.mp hd
  .show p.size+q.size<=80;lia
  .exact a1 ∅ d hd)
 (λn a p t _ e h=>λd hd=>by
  simp only[LL.size]at h;obtain rfl|hd:=vj0.mp hd
  .show p.size<=80;lia
  .exact e ∅ d hd)
def Wf.pop(h:Wf G S dn)(e:S.td=d::r)(f:d.num\n):Wf G {S with td:=r} dn:=by
 have b:bY S.td=bY r:=by
  rw[e];cases d with
  | back x g s m=>cases f
  | _=>simp only[bY,eE,lQ,kL,lW]
 exact{by have:=h.td;rw[e,cK]at this;show ↑r<=_;lia,λi a=>h.sz i (by rw[e];exact .tail _ a),by show bY r<=_;rw[<-b];exact h.bk,h.lg,h.hl,h.hn,h.ts,λi a=>by show _+bY r<=_;rw[<-b];exact h.ds i a}
def Wf.more(h:Wf G S dn):Wf G S (dn+1):=⟨by have:=h.td;lia,h.sz,by have:=h.bk;lia,by have:=h.lg;lia,by have:=h.hl;lia,h.hn,h.ts,λd hd=>by have:=h.ds d hd;lia⟩
theorem Wf.put(h:Wf G S dn)(m:Qk)(x:zZ)(v:V):Wf G (S.put m x v) (dn+1):=by
 refine{by have:=h.td;show S.td.length<=_;lia,h.sz,by have:=h.bk;show bY S.td<=_;lia,by have:=h.lg;show S.lg.length<=_;lia,by have:=h.hl;show S.hr.length<=_;lia,h.hn,h.ts,λd hd=>?_};show ↑d+bY S.td<=_;obtain hd|rfl:=LO hd
 .have:=h.ds d hd;lia
 .have hl:=mK (S.ds.getD m []) (Qt x) v;rw[hJ]at hl ⊢;cases e:S.ds[m]? with
  | none=>
   rw[e]at hl;have:=h.bk;simp only[Tz,iX]at hl ⊢;lia
  | some a=>
   rw[e]at hl;have:=h.ds a<|dM e;simp only[Zs]at hl ⊢;lia
theorem Wf.push(h:Wf G S dn)(hl:l.size<=80)(m:Qk)(hd:S.td.length+80<=800*(dn+1)):Wf G (S.push l m) dn:=by
 have a:bY (l.dues m++S.td)=bY S.td:=by rw[GP,vD,lW]
 refine{?_,λd hd=>?_,by show bY (l.dues m++S.td)<=_;rw[a];exact h.bk,h.lg,h.hl,h.hn,h.ts,λd hd=>by show _+bY (l.dues m++S.td)<=_;rw[a];exact h.ds d hd}
 .show(l.dues m++S.td).length<=_;have:=yS m l;rw[bK];lia
 .obtain hd|hd:=vj7.mp hd
  .exact NH m l hl d hd
  .exact h.sz d hd
theorem Wf.pushN(hl:l.size<=80)(m:Qk):∀(i:Qk)(S:Rs),Wf G S dn->S.td.length+80*i<=800*(dn+1)->Wf G (pushN l m i S) dn:=λi=>Ul
 (λS h _=>h)
 (λi a S h hd=>by
  refine a _ (h.push hl m ∅) ?_;show(l.dues m++S.td).length+_<=_;have:=yS m l;rw[bK];lia) i
def Jg:∀(l:Z2)(S:Rs),(l.foldl Rs.come S).ts=S.ts/\(l.foldl Rs.come S).ds=S.ds/\∀x∈(l.foldl Rs.come S).hr,x∈S.hr\/x∈l:=λl=>l.recOn
 (λS=>⟨rfl,rfl,λx h=>.inl h⟩)
 λy l d S=>by
  obtain⟨b,f,a⟩:=d<|S.come y;have e:(S.come y).ts=S.ts/\(S.come y).ds=S.ds/\∀x∈(S.come y).hr,x∈S.hr\/x=y:=by
   unfold Rs.come
   split
   .exact⟨rfl,rfl,λx h=>.inl h⟩
   .exact⟨rfl,rfl,λx h=>(vj7.mp h).imp id λz=>vj1.mp z⟩
  rw[uF,b,f];refine{e.1,e.2.1,λx i=>?_};obtain h|h:=a x i
  .obtain h|rfl:=e.2.2 x h
   .exact .inl h
   .exact .inr<|.head _
  .exact .inr<|.tail _ h
theorem Wf.thing(h:Wf G S dn)(a:∀j,Wf G (f j).1<|dn+1):Wf G (S.thing v f).1 (dn+1):=by
 cases v with
 | int j=>exact a j
 | _=>exact h.more
theorem Wf.doR(i:Pz G)(h:Wf G S dn)(hz:d.size<=80)(hd:d.num\n)(L:S.td.length<=800*(dn+1)):Wf G (doR G S d).1 (dn+1):=by
 cases d with
 | op n a r m=>
  cases r with
  | make x k=>
   show Wf G (if k∈S.hr then(((S.make k).put m x<|.int S.ts.length),Qq) else(S,Qp "absent"):Rs×Qj zZ).1 _
   by_cases c:k∈S.hr
   .rw[bG c];refine Wf.put (S:=S.make k) {h.td,h.sz,h.bk,h.lg,h.hl,h.hn,λz hz=>?_,λd hd=>?_} m x _
    .obtain hz|hz:=vj7.mp hz
     .exact h.ts z hz
     .rw[vj1.mp hz];exact h.hn k c
    .obtain hd|hd:=vj7.mp hd
     .exact h.ds d hd
     .rw[vj1.mp hd];have:=h.bk;show 0+bY S.td<=_;lia
   .rw[bA c];exact h.more
  | copy x y=>exact h.put m x _
  | put x f y=>exact h.thing λj=>h.put _ f _
  | take x y f=>exact h.thing λj=>h.put m x _
  | say w=>exact{by have:=h.td;show S.td.length<=_;lia,h.sz,by have:=h.bk;show bY S.td<=_;lia,by have:=h.lg;show(S.lg++[_]).length<=_;rw[bK,fI];lia,by have:=h.hl;show S.hr.length<=_;lia,h.hn,h.ts,λd hd=>by have:=h.ds d hd;show _+bY S.td<=_;lia}
  | bring k=>
   have hl:=SO (G.ln k).reverse S;obtain⟨B,E,o⟩:=Jg (G.ln k).reverse S;have e:=TX (G.ln k).reverse S;have N:=i.ln k;rw[lZ]at hl;have a1:=h.td;have I:=h.lg;have u:=h.hl;have C:=h.bk;show Wf G ((G.ln k).reverse.foldl Rs.come S) _;refine{by rw[e];lia,by rw[e];exact h.sz,by rw[e];lia,∅,∅,λx X=>?_,by rw[B];exact h.ts,λd hd=>?_}
   .obtain h'|h':=o x X
    .exact h.hn x h'
    .exact i.nm k x<|vx4.mp h'
   .rw[E]at hd;rw[e];have:=h.ds d hd;lia
 | call n a x y k d W m=>
  refine h.thing λj=>?_
  split
  .split
   .exact h.more
   .have A:=i.bo (G.an (S.kind j) d) d;have Z:=i.ps (G.an (S.kind j) d) d;have a1:=yS S.ds.length<|G.bo (G.an (S.kind j) d) d;have I:=h.td;have u:=h.lg;have C:=h.hl;have M:=h.bk;have l:bY ((G.bo (G.an (S.kind j) d) d).dues S.ds.length++.back x (G.gv (G.an (S.kind j) d) d) S.ds.length m::S.td)=bY S.td+1:=by
     rw[GP,vD];simp only[bY,eE,lQ,kL];lia
    refine{?_,λT b=>?_,?_,?_,?_,h.hn,h.ts,λT b=>?_}
    .show(_++_::S.td).length<=_;rw[bK,cK];lia
    .obtain b|b:=vj7.mp b
     .exact NH _ _ A T b
     .obtain rfl|b:=vj0.mp b
      .exact cE _
      .exact h.sz T b
    .show bY (_++_::S.td)<=_;rw[l];lia
    .show(S.lg++[_]).length<=_;rw[bK,fI];lia
    .show S.hr.length<=_;lia
    .show _+bY (_++_::S.td)<=_;rw[l];obtain b|b:=vj7.mp b
     .have:=h.ds T b;lia
     .rw[vj1.mp b];unfold zW;have O:=mK (((G.ps (G.an (S.kind j) d) d).zip W).foldl (λ(d:Qi (aK×V)) (z:zZ×zZ)=>aX d (Qt z.1)<|S.get m z.2) []) (Qt ("own":zZ))<|.int j;have H:=JK (S:=S) (m:=m) ((G.ps (G.an (S.kind j) d) d).zip W) [];rw[zN,iX]at H;lia
  .exact h.more
 | either n a p q m=>
  have hz:p.size+q.size<=80:=hz;have h':Wf G {S with rd:=S.rd+1} (dn+1):=Wf.more ⟨h.td,h.sz,h.bk,h.lg,h.hl,h.hn,h.ts,h.ds⟩;show Wf G (Rs.push {S with rd:=S.rd+1} (if S.pick G=0 then p else q) m) _;refine h'.push (by split <;> lia) m ?_;show S.td.length+80<=_;lia
 | again n a p m=>
  have h':Wf G {S with rd:=S.rd+1} (dn+1):=Wf.more ⟨h.td,h.sz,h.bk,h.lg,h.hl,h.hn,h.ts,h.ds⟩;refine Wf.pushN hz m _ _ h' ?_;have J:(min (S.pick G) 9).toNat<=9:=by lia
  show S.td.length+_<=_;lia
 | back x g s m=>cases hd
theorem Wf.back(h:Wf G S dn)(e:S.td=.back x g s m::r):Wf G (yI {S with td:=r} x g s m) dn:=by
 have a:bY S.td=bY r+1:=by rw[e];simp only[bY,eE,lQ,kL];lia
 have a1:=h.td;have b:=h.bk;rw[e,cK]at a1;refine{by show ↑r<=_;lia,λd hd=>h.sz d (by rw[e];exact .tail _ hd),by show bY r<=_;lia,h.lg,h.hl,h.hn,h.ts,λd hd=>?_};show ↑d+bY r<=_;obtain hd|rfl:=LO hd
 .have:=h.ds d hd;lia
 .have hl:=mK (S.ds.getD m []) (Qt x)<|Rs.giv {S with td:=r} s g;show(aX (S.ds.getD m []) (Qt x)<|Rs.giv {S with td:=r} s g).length+_<=_;rw[hJ]at hl ⊢;cases f:S.ds[m]? with
  | none=>
   rw[f]at hl;simp only[Tz,iX]at hl ⊢;lia
  | some i=>
   rw[f]at hl;have:=h.ds i<|dM f;simp only[Zs]at hl ⊢;lia
inductive vX(Y:Ry)(vs:Qi V)(H:Hp)(Q:VK)(_:XK):Prop
 | mk(R:Rx Y)(rn:eH)(A:Ra)(S S':Rs)(dn mo:Qk)(e:zZ)(v:V)(h1:vs=[.ref rn,.int mo])(h2:RunAt R H rn A S dn)(h3:Wf R.G S dn)(h4:nO R)(h5:Pz R.G)(h6:dn<=mo)(h7:mo<=1000)(t:Rn R.G mo dn S S' e v)(q:∀A' H' l dn',RunAt R H' rn A' S' dn'->Im Y.C H H'->H' l\.tup [.str e,v]->Q (.ref l) H')
inductive WV{Y:Ry}(R:Rx Y)(H:Hp)(rn:eH)(mo:Qk)(S':Rs)(e:zZ)(v:V)(c:Qk)(σ:St)(Hx:Hp):Prop
 | mk(x y:Qj V)(A:Ra)(S:Rs)(dn:Qk)(h1:σ=[Qp<|.ref rn,Qp<|.int mo,x,y])(h2:RunAt R Hx rn A S dn)(h3:Im Y.C H Hx)(h4:Wf R.G S dn)(h5:dn<=mo)(h6:Rn R.G mo dn S S' e v)(h7:2*(mo-dn)+bY S.td=c)
def yv4:cC ["run","most","due","ending"] ["run","most"] (bX Al):=cF
def Mz{k:Qk}(F:Fun Y.K "run_on" "run_on" Al f fd)(Z:dS Y.K Y.C)(EC:X1 k "end_call" eR (PN Y))(DR:X1 k "do_row" ["run","due","most"] (RC Y))(N:∃tk,mg "BACK"\.str "back" tk):↥["run","most"] (vX Y):=by
 refine F.ok yv4 ⇑?_;obtain⟨R,rn,A,S,S',dn,i,e,v,rfl,h,j,hp,hz,O,hm,t,q⟩:=h;obtain⟨tB,N⟩:=N;exists _,aJ (KG eN (Ga (cH Z.r<|pv 0) λ_=>U)<|aJ (sL 2 yv4.nd<|vR fU Xx Xw wK<|cH Z.r<|pv 0)<|aY<|cY (cG gF (eT (cH Z.d<|pv 2) aQ) (mG (v:=.str "back") rfl N {6})<|cS _) (aY<|eX<|⇑@EC<|av 0<|av 2 aA)<|aJ (sL 3 yv4.nd<|⇑@DR<|av 0<|av 2<|av 1 aA)<|aY<|cY (kP<|AE<|pv 3) (aY<|bR<|cZ<|av 3<|aI (cH Z.d<|pv 2) aA) dJ)
  (aY<|bR<|cZ<|aI bW<|aI iV aA)
 ac_rfl
 have s2:2<=sizeLine:=cQ (bS<|by decide);exists WV R H rn i S' e v,{_,_,_,A,S,dn,U,h,Im.refl,j,O,t,U};rintro c σ X ⟨_,_,A,S,dn,rfl,h,f,j,O,t,rfl⟩;exists 6,rn,_,_,6,h.run,U,_,.inl {_,T1 h.to,U};have B:=h.im.ud;cases hus:A.us with
 | nil=>
  have b:S.td=[]:=by
   rw[hus]at B;cases hud':S.td with
   | nil=>rfl
   | cons d r=>rw[hud']at B;cases B
  refine cT {s2,λl hl=>?_};obtain⟨rfl,rfl,rfl⟩:=t.inv.1 b;exact q A _ l dn (h.keep0<|S0 hl) (f.trans<|Im.new hl) zb0
 | cons u us=>
  obtain⟨d,r,b⟩:∃d r,S.td=d::r:=by
   rw[hus]at B;cases hud':S.td with
   | nil=>rw[hud']at B;cases B
   | cons d r=>exact⟨d,r,rfl⟩
  have g:=h.pop b hus;have hb:(!((u::us).reverse.map R7).isEmpty)=true:=by simp
  rw[hb];refine fX {λσ' H'=>∃c',c'<2*(i-dn)+bY S.td/\WV R H rn i S' e v c' σ' H',λσ' H' z=>z,?_};have a7:X A.to\(.lst<|us.reverse.map R7++[R7 u]):=by
   have:=h.to;rw[hus,zT,bU]at this;exact this
  have a3:(us.reverse.map R7++[R7 u])[↑(us.reverse.map R7++[R7 u])-1]?\R7 u:=by
   rw[bK,fI,JI,kU<|aV _,xY];rfl
  exists 6,rn,_,_,6,h.run,U,.inl {U,_,T1 a7},A.to,_,.ref u,U,U,a7,a3;rw[Qi.dropLast_concat];obtain⟨g,f1,hd⟩:=g;generalize upd X A.to (.lst<|us.reverse.map R7)=H1 at g f1 hd;have L:=f.trans f1;obtain⟨dx,a,p,na,vn,rest,T,ha,a5⟩:=hd.hd;exists 6,u,_,_,6,T,U,a,_,_,6,U,T2 ha,nP _ _,U,6;have a1:=j.bd ∅;have a9:Bd R.G (S.pop r):=⟨by have:=a1.td;rw[b,cK]at this;show ↑r<=_;lia,a1.lg,a1.hr,a1.ds,a1.hn,a1.ts⟩;cases hdn:d.num with
  | none=>
   cases d with
   | back x gi s m'=>
    refine bE (λ_=>?_) λc=>absurd (cN rfl) c;refine{6,6,R,rn,u,A.pop us,S.pop r,dn,x,gi,s,m',U,g,hd,a9,λH2 J I=>?_};refine{_,?_,_,_,_,_,dn,U,J,L.trans I,j.back b,O,t.inv.2.1 _ _ _ _ _ b,U};show 2*(i-dn)+bY r<_;rw[b];simp only[bY,eE,lQ,kL];lia
   | _=>cases hdn
  | some n=>
   have ae:d.wd≠"back":=by
    cases d with
    | op n a r m=>cases r <;> (simp only[Du.wd,Rw.wd];rfl')
    | call n a x y k d as m=>simp only[Du.wd];rfl'
    | either n a p q m=>simp only[Du.wd];rfl'
    | again n a p m=>simp only[Du.wd];rfl'
    | back x g s m=>cases hdn
   refine bE (λc=>absurd (R6.inj<|dH c) ae) λ_=>?_;have hsz:=j.sz d (by rw[b];exact .head _);have aa:=j.pop b hdn;have ad:=a5 n hdn;subst ad;refine{6,6,6,R,rn,u,A.pop us,S.pop r,dn,i,d,U,g,hd,by rw[hdn];rfl,hsz,a9,hp,λab=>?_,λaf A' H2 J I=>?_}
   .refine⟨_,rfl,_,rfl,bE (λ_=>⟨_,rfl,_,rfl,u,_,_,_,rfl,T,rfl,s2,λl hl=>?_⟩) λc=>absurd rfl c⟩;obtain⟨rfl,rfl,rfl⟩:=(t.inv.2.2 _ _ _ b hdn).1 ∅;exact q _ _ l dn (g.keep0<|S0 hl) (L.trans<|Im.new hl) zb0
   .have ac:=I _ _ T Y.nd;cases z:doR R.G (S.pop r) d with
    | mk S1 o=>
     have t':=(t.inv.2.2 _ _ _ b hdn).2 ∅ S1 o z;rw[z]at J;cases o with
     | some e=>
      obtain⟨rfl,rfl,rfl⟩:=t';refine{6,6,fX {6,6,u,_,_,6,ac,U,s2,λl hl=>?_}};exact q _ _ l (dn+1) (J.keep0<|S0 hl) ((L.trans I).trans<|Im.new hl) zb0
     | none=>
      have W:Wf R.G (doR R.G (S.pop r) d).1 (dn+1):=aa.doR hz hsz hdn aa.td;have M:bY (doR R.G (S.pop r) d).1.td<=bY r+1:=YY R.G (S.pop r) d;rw[z]at W M;refine{6,6,cT {2*(i-(dn+1))+bY S1.td,?_,_,_,A',S1,dn+1,U,J,L.trans I,W,∅,t',U}};have ag:bY S.td=bY r:=by
       rw[b];cases d with
       | back x g s m=>cases hdn
       | _=>simp only[bY,eE,lQ,kL,lW]
      have M:bY S1.td<=bY r+1:=M;lia
inductive Ly(Z:Z0)(H:Hp):Qk->Qk->Z3->LL->Qk->Prop
 | nil {n k:Qk}:Ly Z H n k [] .nil k
 | op {n k k':Qk} {a:eH} {r:Rw} {rs:Z3} {L:LL} (h:H a\.tup r.vs) (hb:∀x,r=.bring x->Z x Qq) (t:Ly Z H n (k+1) rs L k'):Ly Z H n k (a::rs) (.op k a r L) k'
 | call {n k k':Qk} {a g:eH} {x y q d:zZ} {as:Z2} {rs:Z3} {L:LL} (h:H a\.tup [.str "call",.str x,.str y,.str q,.str d,.ref g]) (hg:H g\(.tup<|as.map R6)) (hl:↑as<=1000) (hz:Z q (Qp d)) (t:Ly Z H n (k+1) rs L k'):Ly Z H n k (a::rs) (.call k a x y q d as L) k'
 | again {n k k1 k':Qk} {a l:eH} {rs1 rs:Z3} {L1 L:LL} (h:H a\.tup [.str "again",.ref l]) (hl:H l\(.tup<|rs1.map R7)) (s:Ly Z H n (k+1) rs1 L1 k1) (t:Ly Z H (n+1) k1 rs L k'):Ly Z H (n+1) k (a::rs) (.again k a L1 L) k'
 | either {n k k1 k2 k':Qk} {a l1 l2:eH} {rs1 rs2 rs:Z3} {L1 L2 L:LL} (h:H a\.tup [.str "either",.ref l1,.ref l2]) (h1:H l1\(.tup<|rs1.map R7)) (h2:H l2\(.tup<|rs2.map R7)) (s1:Ly Z H n (k+1) rs1 L1 k1) (s2:Ly Z H n k1 rs2 L2 k2) (t:Ly Z H (n+1) k2 rs L k'):Ly Z H (n+1) k (a::rs) (.either k a L1 L2 L) k'
def Ly.keep(h:Ly Z H n k rs L k')(f:Tup H H'):Ly Z H' n k rs L k':=by
 induction h with
 | nil=>exact .nil
 | op h i _ d=>exact .op (f _ _ h) i d
 | call h e hl o _ d=>exact .call (f _ _ h) (f _ _ e) hl o d
 | again h hl _ _ b a=>exact .again (f _ _ h) (f _ _ hl) b a
 | either h l m _ _ _ b a j=>exact .either (f _ _ h) (f _ _ l) (f _ _ m) b a j
def Ly.len(h:Ly Z H n k rs L k'):k'=k+L.size:=by
 induction h with
 | nil=>rfl
 | op h f _ d=>simp only[LL.size];lia
 | call h e hl m _ d=>simp only[LL.size];lia
 | again h hl _ _ b a=>simp only[LL.size];lia
 | either h j l _ _ _ b a i=>simp only[LL.size];lia
theorem Ly.dep(h:Ly Z H n k rs L k'):L.dep<=n:=by
 induction h with
 | nil=>exact cE _
 | op h f _ a=>exact a
 | call h e hl m _ a=>exact a
 | again h hl _ _ d b=>simp only[LL.dep];lia
 | either h j l _ _ _ d b i=>simp only[LL.dep];lia
def Ly.rl(h:Ly Z H n k rs L k'):k+↑rs<=k':=by
 induction h with
 | nil=>exact aV _
 | op h f _ d=>rw[cK];lia
 | call h e hl m _ d=>rw[cK];lia
 | again h hl _ _ b a=>rw[cK];lia
 | either h j l _ _ _ b a i=>rw[cK];lia
def LL.fl:LL->Z3
 | .nil=>[]
 | .op _ a _ t=>a::t.fl
 | .call _ a _ _ _ _ _ t=>a::t.fl
 | .either _ a p q t=>a::(p.fl++(q.fl++t.fl))
 | .again _ a p t=>a::(p.fl++t.fl)
def Fl.ly(h:Fl Z H n rs fs):∀k,∃L,Ly Z H n k rs L (k+↑fs)/\L.fl=fs:=by
 induction h with
 | nil=>exact λk=>{_,.nil,U}
 | @one n a rs fs h _ A=>
  intro k;obtain⟨L,t,rfl⟩:=A<|k+1;rw[cK,show k+(L.fl.length+1)=k+1+L.fl.length by lia];obtain⟨r,h,C⟩|⟨x,y,q,d,g,N,h,u,hl,z⟩:=h
  .exact⟨_,.op h C t,rfl⟩
  .exact⟨_,.call h u hl z t,rfl⟩
 | @again n a l s j rs fs h hl _ _ o m=>
  intro k;obtain⟨b,f,rfl⟩:=o<|k+1;obtain⟨L,t,rfl⟩:=m<|k+1+↑b.fl;rw[cK,bK,show k+(↑b.fl+L.fl.length+1)=k+1+↑b.fl+L.fl.length by lia];exact{_,.again h hl f t,U}
 | @either n a T O s j M B rs fs h G J _ _ _ o m E=>
  intro k;obtain⟨b,f,rfl⟩:=o<|k+1;obtain⟨e,i,rfl⟩:=m<|k+1+↑b.fl;obtain⟨L,t,rfl⟩:=E<|k+1+↑b.fl+↑e.fl;rw[cK,bK,bK,show k+(↑b.fl+(↑e.fl+L.fl.length)+1)=k+1+↑b.fl+↑e.fl+L.fl.length by lia];exact{_,.either h G J f i t,U}
def LL.app:LL->LL->LL
 | .nil,M=>M
 | .op n a r t,M=>.op n a r<|t.app M
 | .call n a x y k d b t,M=>.call n a x y k d b<|t.app M
 | .either n a p q t,M=>.either n a p q<|t.app M
 | .again n a p t,M=>.again n a p<|t.app M
theorem Ens.app(h:Ens Z H L es)(g:Ens Z H M fs):Ens Z H (L.app M) (es++fs):=by
 induction h with
 | nil=>exact g
 | op h b d j _ a=>exact .op h b d j a
 | call h b d i hl m _ a=>exact .call h b d i hl m a
 | either h b d e l f n _ _ _ a=>exact .either h b d e l f n a
 | again h b d e f _ _ a=>exact .again h b d e f a
def Kb(L:LL):L.app .nil=L:=by
 induction L with
 | nil=>rfl
 | op n a r t b=>exact cP (LL.op n a r) b
 | call n a x y k d e t b=>exact cP (LL.call n a x y k d e) b
 | either n a p q t _ _ b=>exact cP (LL.either n a p q) b
 | again n a p t _ b=>exact cP (LL.again n a p) b
def Ge(M N:LL)(L:LL):(L.app M).app N=L.app (M.app N):=by
 induction L with
 | nil=>rfl
 | op n a r t b=>exact cP (LL.op n a r) b
 | call n a x y k d e t b=>exact cP (LL.call n a x y k d e) b
 | either n a p q t _ _ b=>exact cP (LL.either n a p q) b
 | again n a p t _ b=>exact cP (LL.again n a p) b
def YS(L M:LL):(L.app M).fl=L.fl++M.fl:=by
 induction L with
 | nil=>rfl
 | op n a r t b=>exact cP (a::·) b
 | call n a x y k d e t b=>exact cP (a::·) b
 | either n a p q t _ _ b=>show a::(p.fl++(q.fl++(t.app M).fl))=a::(p.fl++(q.fl++t.fl))++M.fl;rw[b];simp
 | again n a p t _ b=>show a::(p.fl++(t.app M).fl)=a::(p.fl++t.fl)++M.fl;rw[b];simp
inductive En(H:Hp)(bd:eH):Qk->Z3->Z3->Prop
 | nil {k:Qk}:En H bd k [] []
 | cons {k:Qk} {e a:eH} {es as:Z3} (h:H e\.tup [.int (k:Ql),.ref bd,.ref a]) (t:En H bd (k+1) es as):En H bd k (e::es) (a::as)
def En.keep(h:En H bd k es as)(f:Tup H H'):En H' bd k es as:=by
 induction h with
 | nil=>exact .nil
 | cons h _ a=>exact .cons (f _ _ h) a
def En.app(h:En H bd k es as)(g:En H bd (k+↑es) es' as'):En H bd k (es++es') (as++as'):=by
 induction h with
 | nil=>exact g
 | cons h _ a=>exact .cons h (a<|by rw[cK]at g;rwa [Qk.add_assoc,Yp 1])
inductive Gg(Z:Z0)(H:Hp)(n k:Qk)(a:eH)(rs:Z3)(L:LL)(k':Qk):Prop
 | mk(w:zZ)(rest:Qi V)(ls:Qi (eH×Z3×LL×Qk×Qk))(k1:Qk)(Lr:LL)(M:LL)(h1:H a\(.tup<|.str w::rest))(h2:kR w rest=ls.map λz=>R7 z.1)
  (h3:∀z∈ls,H z.1\(.tup<|z.2.1.map R7)/\∃n',n=n'+1/\Ly Z H n' z.2.2.2.1 z.2.1 z.2.2.1 z.2.2.2.2) (h4:∀(i:Qk) z,ls[i]?\z->z.2.2.2.1=(if i=0 then k+1 else((ls[i-1]?).map λy=>y.2.2.2.2).getD 0)) (h5:k1=((ls.getLast?).map λy=>y.2.2.2.2).getD (k+1)) (h6:↑ls<=2)
  (h7:L=M.app Lr) (h8:∀(e p:eH)(ts:Z3)(H':Hp),Tup H H'->H' e\.tup [.int k,.ref a,.ref p]->H' p\(.tup<|ts.map R7)->A2 (λz t=>∃es:Z3,H' t\(.tup<|es.map R7)/\Ens Z H' z.2.2.1 es) ls ts->Ens Z H' M [e]) (h9:Ly Z H n k1 rs Lr k') (h10:M.fl=a::ls.flatMap λz=>z.2.2.1.fl)
theorem Ly.hd(h:Ly Z H n k (a::rs) L k'):Gg Z H n k a rs L k':=by
 have B:¬(("call":zZ)="either"\/("call":zZ)="again"):=by rfl'
 cases h with
 | @op _ _ _ _ r _ L h hb t=>
  obtain⟨rest,e⟩:=r.hd;have nw:¬(r.wd="either"\/r.wd="again"):=by cases r <;> (simp only[Rw.wd];rfl')
  refine{r.wd,rest,[],k+1,L,.op k a r .nil,by rw[h,e],by unfold kR;rw[bA nw];rfl,(λz hz=>nomatch hz),(λi z hz=>nomatch hz),U,cE _,U,λm p T W f J E b=>?_,t,U};cases b;exact .op J E (f _ _ h) hb .nil
 | @call _ _ _ _ g x y q d as _ L h hg hl hz t=>
  refine{"call",_,[],k+1,L,.call k a x y q d as .nil,h,by unfold kR;rw[bA B];rfl,(λz hz=>nomatch hz),(λi z hz=>nomatch hz),U,cE _,U,λm p T W f J E b=>?_,t,U};cases b;exact .call J E (f _ _ h) (f _ _ hg) hl hz .nil
 | @again n _ O _ _ l G _ N L h hl s t=>
  refine{"again",_,[(l,G,N,k+1,O)],O,L,.again k a N .nil,h,by unfold kR;rw[bG<|.inr rfl];rfl,λz hz=>?_,λi z hz=>?_,U,by first | (show 1<=2;decide) | (show 2<=2;decide),U,λm p T W f J E b=>?_,t,U}
  .rw[vj1.mp hz];exact⟨hl,n,rfl,s⟩
  .cases i with
   | zero=>cases hz;rfl
   | succ i=>cases hz
  .cases b with
   | cons r M=>
    cases M;obtain⟨es,j,o⟩:=r;exact .again J E (f _ _ h) j o .nil
 | @either n _ O k2 _ _ l1 l2 G X _ N L2 L h h1 h2 s1 s2 t=>
  refine{"either",_,[(l1,G,N,k+1,O),(l2,X,L2,O,k2)],k2,L,.either k a N L2 .nil,h,by unfold kR;rw[bG<|.inl rfl];rfl,λz hz=>?_,λi z hz=>?_,U,by first | (show 1<=2;decide) | (show 2<=2;decide),U,λm p T W f J E b=>?_,t,U}
  .obtain rfl|hz:=vj0.mp hz
   .exact⟨h1,n,rfl,s1⟩
   .rw[vj1.mp hz];exact⟨h2,n,rfl,s2⟩
  .match i,hz with
   | 0,hz=>cases hz;rfl
   | 1,hz=>cases hz;rfl
  .cases b with
   | cons r M=>
    cases M with
    | cons r2 M=>
     cases M;obtain⟨es,j,o⟩:=r;obtain⟨C,A,u⟩:=r2;exact .either J E (f _ _ h) j A o u .nil
abbrev Lt:=eH×Z3×LL×Qk×Qk
inductive lF(n:Qk)(vs:Qi V)(H:Hp)(Q:VK)(_:XK):Prop
 | mk(Z:Z0)(bd l fd:eH)(rs es:Z3)(L:LL)(k':Qk)(h1:vs=[.ref bd,.ref l,.ref fd])(h2:H l\(.tup<|rs.map R7))(h3:Ly Z H n ↑es rs L k')(h4:H fd\(.lst<|es.map R7))(h5:k'<=1000000)
  (h6:∀(x:eH)(xs ns:Z3)(H':Hp),FrS [fd] H H'->H' fd\(.lst<|(es++ns).map R7)->↑(es++ns)=k'->H' x\(.tup<|xs.map R7)->Ens Z H' L xs->En H' bd ↑es ns L.fl->Q (.ref x) H')
def OX:Qk->Sp
 | 0=>λ_ _ _ _=>Qn
 | n+1=>lF n
inductive Gc(Z:Z0)(n:Qk)(H:Hp)(bd l fd tl:eH)(rs es:Z3)(L:LL)(k' i:Qk)(σ:St)(Hx:Hp):Prop
 | mk(a b:Qj V)(ts ns:Z3)(L1 L2:LL)(hσ:σ=[Qp<|.ref bd,Qp<|.ref l,Qp<|.ref fd,Qp<|.ref tl,a,b])(fr:FrS [fd] H Hx)(hf:Hx fd\(.lst<|(es++ns).map R7))(ht:Hx tl\(.lst<|ts.map R7))(hn:↑ts<=i)(he:L=L1.app L2)(hl:Ly Z Hx n ↑(es++ns) (rs.drop i) L2 k')(hE:Ens Z Hx L1 ts)(hN:En Hx bd ↑es ns L1.fl)
def IK(k:Qk)(ls:Qi Lt)(j:Qk):Nat:=if j=0 then k+1 else((ls[j-1]?).map λy=>y.2.2.2.2).getD 0
inductive Nw(Z:Z0)(k:Qk)(H1 H2:Hp)(bd fd Dl:eH)(es:Z3)(ls:Qi Lt)(j:Qk)(σ:St)(Hx:Hp):Prop
 | mk(a:Qj V)(zs ns:Z3)(hσ:σ=[a,Qp<|.ref bd,Qp<|.ref fd])(fr:FrS [fd] H1 Hx)(tp:Tup H2 Hx)(hf:Hx fd\(.lst<|(es++ns).map R7))(hc:↑(es++ns)=IK k ls j)(hD:Hx Dl\(.lst<|zs.map R7))(hE:A2 (λ(z:Lt) t=>∃es:Z3,Hx t\(.tup<|es.map R7)/\Ens Z Hx z.2.2.1 es) (ls.take j) zs)(hN:En Hx bd ↑es ns ((ls.take j).flatMap λz=>z.2.2.1.fl))
def FrS.tup1(f:FrS [a] H H')(h:H a\.lst ys):Tup H H':=FrS.tup f λb d i e=>by
 have:b=a:=⇑[d]
 subst this;rw[h]at e;cases e
abbrev sG:Z2:=["body","rows","found"]
def scLy:cC ["body","rows","found","told","row","number"] sG (bX uQ):=cF
def tK{n k:Qk}(F:X0 "lay" uQ f fd)(WI:X1 k "rows_within" ["row"] NX)(LA:X1 k "lay" sG (OX n))(ml:mg "len"=Qq)(ba:mg "tuple"=Qq):↥sG (lF n):=by
 refine F.ok scLy ⇑?_;obtain⟨Z,bd,l,fl,rs,es,L,k',rfl,hl,hF,b1,hb,q⟩:=h;have bu:(["inner","body","found"]:Z2).Nodup:=by rfl'
 exists _,aJ (sL 3 scLy.nd<|cX aA)
  (aJ (eZ eN rfl (gB<|pv 1) (gL 4 scLy.nd) (aJ (sL 5 scLy.nd<|fO lR rfl ml iP<|av 2 aA) (aJ (eX<|fR fU hH hX gS ⇑2<|aI (cZ<|av 5<|av 0<|av 4 aA) aA) (aY (eX (fR fU hH hX gS ⇑3 (aI (cZ (av 5 (av 4 (aI (eV gR rfl ba (by rfl') (aI (jB (N':=["inner","body","found"]) (src:=[Qq,Qp 0,Qp 2]) rfl eW (gB<|⇑@WI<|av 4 aA)
     (g:=cA 0) (λ_ _ _ _=>gL 0 bu) (λ_ _ _ _=>gP)
     (te:=hV (OX n) [] E0<|bJ (aG 1)<|bJ (aG 0)<|bJ (aG 2) bN)
     (λ_ _ _ _=>⇑@LA<|av 1<|av 0<|av 2 aA)) aA)) aA)))) aA)))))))
  (aY<|bR<|eV gR rfl ba (by rfl')<|av 3 aA))
 ac_rfl
 have s3:3<=sizeLine:=cQ (bS<|by decide);refine{cE _,λtl aj=>?_};have b5:Tup H (upd H tl<|.lst []):=T3 aj;have ak:fl≠tl:=bF b1 aj;exists 6,l,U,{_,T2<|b5 _ _ hl};refine gG (xs:=rs.map R7) (Gc Z n H bd l fl tl rs es L k') {_,_,[],[],.nil,L,U,S0 aj,by rw[aE ak,eA];exact b1,zb0,aV _,U,by rw[eA];exact hF.keep b5,.nil,.nil} ?_ ?_ ?_
 .rintro i σ C hi ⟨_,_,_,_,_,_,_,fr,_⟩;exact T2<|fr.tup1 b1 _ _ hl
 .rintro i x σ C hx ⟨a0,b0,ts,b,L1,L2,rfl,fr,a8,an,bv,rfl,N,hE,hN⟩;rw[bP,vh8]at hx;obtain⟨a,ha,rfl⟩:=hx;obtain⟨hi,rfl⟩:=vh2.mp ha;rw[uM hi]at N;have az:=N.len;have c2:↑(es++b)+1<=k':=by
   cases N <;> simp only[LL.size]at az <;> lia
  obtain⟨w,rest,ls,k1,Lr,M,h1,h2,h3,h4,h5,h6,rfl,h8,h9,b9⟩:=N.hd;generalize rs[i]=a at h1 h8 b9;exists 6,fl,6,.inl<|T1 a8;refine{6,.inl {U,_,T1 a8},6,6,6,s3,λd ae=>?_};have ah:=(S0 (S:=[]) (o:=.tup [.int (↑((es++b).map R7):Qk),.ref bd,.ref a]) ae) _ _ aN a8;exists fl,_,6,U,ah,jM (by rw[aF];lia);have ap:(↑((es++b).map R7):Qk)=↑(es++b):=yB _;rw[ap]at ah ⊢;have au:(es++b).map R7++[R7 d]=((es++(b++[d])).map R7):=by rw[<-dY,bU (l₂:=[d])];rfl
  rw[au];have O:Tup C (upd (upd C d<|.tup [.int (↑(es++b):Qk),.ref bd,.ref a]) fl<|.lst<|(es++(b++[d])).map R7):=(T3 ae).trans<|Tup.lst ah;have bb:FrS [fl] H (upd (upd C d<|.tup [.int (↑(es++b):Qk),.ref bd,.ref a]) fl<|.lst<|(es++(b++[d])).map R7):=(fr.trans<|S0 ae).put'<|.head _;have ag:upd (upd C d<|.tup [.int (↑(es++b):Qk),.ref bd,.ref a]) fl (.lst<|(es++(b++[d])).map R7) tl\(.lst<|ts.map R7):=by rw[aE<|cJ ak,aE<|bF an ae];exact an
  have aq:upd (upd C d<|.tup [.int (↑(es++b):Qk),.ref bd,.ref a]) fl (.lst<|(es++(b++[d])).map R7) fl\(.lst<|(es++(b++[d])).map R7):=zb0;have be:=(hN.keep O).app<|.cons (k:=↑es+↑b) (e:=d) (a:=a) (by rw[<-bK];exact(Tup.lst ah) _ _ zb0) .nil;generalize upd (upd C d<|.tup [.int (↑(es++b):Qk),.ref bd,.ref a]) fl (.lst<|(es++(b++[d])).map R7)=m at bb ag aq O be;have bl:=O _ _ h1;refine{6,.inl {U,_,T1 ag},6,6,6,a,w,rest,U,bl,λpw bc=>{pw,U,{_,T2 zb0},λr ab=>?_}};rw[h2];have T:FrS [] m (upd (upd m pw<|.tup<|kR w rest) r<|.lst []):=(S0 bc).trans<|S0 ab;have ac:m r=none:=zX (S0 bc) ab;rw[h2]at T ab;have bg:fl≠r:=bF aq ac;have bi:upd (upd m pw<|.tup<|ls.map λz=>R7 z.1) r (.lst []) pw\(.tup<|ls.map λz=>R7 z.1):=by rw[aE λz=>by rw[<-z,zb0]at ab;cases ab];exact zb0
  have bf:=T _ _ aN aq;have bt:=T _ _ aN ag;have af:=T4 T;have b6:upd (upd m pw<|.tup<|ls.map λz=>R7 z.1) r (.lst []) r\.lst []:=zb0;generalize upd (upd m pw<|.tup<|ls.map λz=>R7 z.1) r (.lst [])=H2 at T bi bf bt af b6;have bk:∀z∈ls,m z.1\(.tup<|z.2.1.map R7)/\∃n',n=n'+1/\Ly Z m n' z.2.2.2.1 z.2.1 z.2.2.1 z.2.2.2.2:=λz hz=>let ⟨x1,n',x2,x3⟩:=h3 z hz;⟨O _ _ x1,n',x2,x3.keep O⟩
  have ax:∀z∈ls,z.2.2.2.2<=k':=λz hz=>by
   obtain⟨j,hj⟩:=vn2.mp hz;have c1:=h9.len;have c3:=(vh2.mp hj).1;have last:∀(u:Lt),ls[↑ls-1]?\u->u.2.2.2.2<=k':=λu hu=>by
    rw[Xp,hu]at h5;have:k1=u.2.2.2.2:=h5;lia
   by_cases e:j=↑ls-1
   .exact last z (by rw[<-e];exact hj)
   .have bn:j+1=↑ls-1:=by lia
    have hu:ls[j+1]?=Qp ls[j+1]:=bM ∅;have e4:=h4 (j+1) _ hu;rw[bA ∅,JI,hj]at e4;have e4:ls[j+1].2.2.2.1=z.2.2.2.2:=e4;obtain⟨_,n',_,bm⟩:=h3 _<|fP (by lia:j+1<↑ls);have:=bm.len;have:=last _ (by rw[<-bn];exact hu);lia
  refine gG (xs:=ls.map λz=>R7 z.1) (Nw Z ↑(es++b) m H2 bd fl r (es++(b++[d])) ls) {_,[],[],U,T.mono λ_ h=>absurd h aN,(λ_ _ h=>h),by rw[eA];exact bf,?_,b6,.nil,.nil} ?_ ?_ ?_
  .show(es++(b++[d])++[]).length=↑(es++b)+1;rw[eA,<-dY,bK (bs:=[d])];rfl
  .rintro j σ I hj ⟨_,_,_,_,_,ty,_⟩;exact T2<|ty _ _ bi
  .rintro j x σ I hx ⟨x0,B,X,rfl,fy,ty,am,al,b2,W,a7⟩;rw[bP,vh8]at hx;obtain⟨z,hz,rfl⟩:=hx;have b4:Tup m I:=af.trans ty;have bh:=dM hz;obtain⟨z1,n',rfl,z2⟩:=bk z bh;have bp:=h4 j z hz;have bx:↑(es++(b++[d])++X)=z.2.2.2.1:=al.trans bp.symm;refine{6,6,6,Z,bd,z.1,fl,z.2.1,es++(b++[d])++X,z.2.2.1,z.2.2.2.2,U,b4 _ _ z1,by rw[bx];exact z2.keep b4,am,by have:=ax z bh;lia,λx xs nx Hz fz bj ao bz bw bq=>?_};have b3:=fz _ _ ⇑[cJ bg] b2;have ai:=fz.tup1 am;have J:Tup Hz (upd Hz r<|.lst<|B.map R7++[.ref x]):=Tup.lst b3;have c5:B.length<=2:=by rw[<-W.len,dR];lia
   exists _,b3,bS (by rw[aF];lia),_,B++[x],X++nx,rfl,(fy.trans fz).put ac,(ty.trans ai).trans J,by rw[aE bg,<-dY];exact bj,?_,by rw[zb0,bU];rfl,?_
   .rw[<-dY,ao];show _=IK _ ls (j+1);unfold IK;rw[bA ∅,JI,hz];rfl
   .rw[dE,hz];exact(W.imp λ_ _ ⟨e,a1,a2⟩=>{e,(ai.trans J) _ _ a1,a2.keep<|ai.trans J}).snoc {xs,J _ _ bz,bw.keep J}
   .rw[dE,hz,sW];refine(a7.keep<|ai.trans J).app ?_;rw[<-bK];exact(show Qi.flatMap (λz:Lt=>z.2.2.1.fl) (Qp z).toList=z.2.2.1.fl from eA _)▸bq.keep J
  .rintro σ I ⟨x0,B,X,rfl,fy,ty,am,al,b2,W,a7⟩;rw[aF]at al W a7;rw[cW<|aV _]at W a7;refine{r,6,.inl {T1 b2,λpt bo=>{s3,λG b8=>?_}}};have c0:=fy _ _ ⇑[cJ ak] ag;have fn:FrS [] I (upd (upd I pt<|.tup<|B.map R7) G<|.tup [.int (↑(es++b):Qk),.ref a,.ref pt]):=(S0 bo).trans<|S0 b8;have aw:=fn _ _ aN c0;have b7:=fn _ _ aN am;have ad:upd (upd I pt<|.tup<|B.map R7) G (.tup [.int (↑(es++b):Qk),.ref a,.ref pt]) G\.tup [.int (↑(es++b):Qk),.ref a,.ref pt]:=zb0;have a9:upd (upd I pt<|.tup<|B.map R7) G (.tup [.int (↑(es++b):Qk),.ref a,.ref pt]) pt\(.tup<|B.map R7):=(T3 b8) _ _ zb0;generalize upd (upd I pt<|.tup<|B.map R7) G (.tup [.int (↑(es++b):Qk),.ref a,.ref pt])=H3 at fn aw b7 ad a9;have ar:Tup H3 (upd H3 tl<|.lst<|ts.map R7++[.ref G]):=Tup.lst aw;have aa:=(T4 fn).trans ar;have ay:Tup C (upd H3 tl<|.lst<|ts.map R7++[.ref G]):=O.trans<|(af.trans ty).trans aa;exists tl,_,6,U,aw,jM (by rw[aF];have:=hF.rl;lia);exists _,_,ts++[G],b++[d]++X,L1.app M,Lr,U,((bb.trans fy).trans<|fn.mono λ_ h=>absurd h aN).put aj,by rw[aE ak,<-dY];exact b7,by rw[zb0,bU];rfl,by rw[bK,fI];lia,(Ge _ _ _).symm,?_,(hE.keep ay).app<|h8 G pt B _ ay (ar _ _ ad) (ar _ _ a9)<|W.imp λ_ _ ⟨e,a1,a2⟩=>⟨e,aa _ _ a1,a2.keep aa⟩
   case refine_2=>
    rw[YS,b9,show L1.fl++a::(ls.flatMap λz=>z.2.2.1.fl)=L1.fl++[a]++ls.flatMap λz=>z.2.2.1.fl from by simp];refine(be.keep<|(af.trans ty).trans aa).app ?_;rw[bK (as:=es)]at a7;exact a7.keep aa
   have:↑(es++(b++[d]++X))=k1:=by
    rw[<-dY,al,h5];unfold IK;rw[Xp]
    split
    .rw[tD ∅];rfl
    .have br:↑ls-1<↑ls:=by lia
     rw[bM br];rfl
   rw[this];exact h9.keep ay
 .rintro σ C ⟨a0,b0,ts,b,L1,L2,rfl,fr,a8,an,bv,rfl,N,hE,hN⟩;rw[aF,C3]at N;cases N;rw[Kb]at q;refine{6,tl,6,.inl {T1 an,λx hx=>?_}};exact q x ts b _ (fr.trans<|S0 hx) ((S0 (S:=[]) hx) _ _ aN a8) rfl zb0 (hE.keep<|T3 hx)<|hN.keep<|T3 hx
abbrev sZ:Qd:=top 14
inductive LyB(Z:Z0)(H:Hp):Qk->Qi Bz->Qi LL->Qk->Prop
 | nil {k:Qk}:LyB Z H k [] [] k
 | cons {k k1 k':Qk} {z:Bz} {zs:Qi Bz} {L:LL} {Ls:Qi LL} (h:H z.2.2.1\(.tup<|z.2.2.2.1.map R7)) (s:Ly Z H 4 k z.2.2.2.1 L k1) (hz:L.size<=80/\L.fl=z.2.2.2.2) (t:LyB Z H k1 zs Ls k'):LyB Z H k (z::zs) (L::Ls) k'
theorem LyB.keep(h:LyB Z H k zs Ls k')(f:Tup H H'):LyB Z H' k zs Ls k':=by
 induction h with
 | nil=>exact .nil
 | cons h s b _ a=>exact .cons (f _ _ h) (s.keep f) b a
def LyB.mk:∀(a:Qi Bz),(∀z∈a,RowsIs Z H z.2)->∀k,∃d b,LyB Z H k a d b/\b<=k+80*↑a:=λa=>a.recOn
 (λ_ k=>⟨[],k,.nil,aV _⟩)
 λz a l h k=>by
  obtain⟨f,j,n⟩:=h z<|.head _;obtain⟨L,s,e⟩:=j.ly k;obtain⟨d,b,t,m⟩:=l (λy i=>h y<|.tail _ i)<|k+↑z.2.2.2.2;have:=s.len;exact⟨L::d,b,.cons f s {∅,e} t,by rw[cK];lia⟩
def LyB.le(h:LyB Z H k zs Ls k'):k<=k':=by
 induction h with
 | nil=>exact aV _
 | cons h s b _ a=>have:=s.len;lia
def mJ(l:Qi (Pr×LL))(n:Pr):LL:=l.foldl (λa z=>if z.1=n then z.2 else a) .nil
def Le(l:Qi (Pr×LL))(z:Pr×LL)(n:Pr):mJ (l++[z]) n=if z.1=n then z.2 else mJ l n:=by
 unfold mJ;rw[yK];rfl
def vN{p:LL->Prop}:∀(l:Qi (Pr×LL))(a:LL),p a->(∀z∈l,p z.2)->p (l.foldl (λa z=>if z.1=n then z.2 else a) a):=λl=>l.recOn
 (λ_ b _=>b)
 λz l d a b h=>d _ (by show p (if z.1=n then z.2 else a);split;exact h z<|.head _;exact b) λy e=>h y<|.tail _ e
def uS{K:Fq}{H H':Hp}{a b:eH}{xs ys:Qi V}(f:FrS [a] H H')(d:H a\.lst ys)(h:SqT K H b xs):SqT K H' b xs:=by
 have ne:∀{o:HO},H b\o->(∀z,o≠.lst z)->b∉[a]:=λe n z=>by
  rw[vj1.mp z,d]at e;cases e;exact n _ rfl
 obtain(h|⟨o,h⟩)|h:=h
 .exact .inl<|.inl<|f _ _ (ne h λz e=>nomatch e) h
 .exact .inl<|.inr ⟨o,f _ _ (ne h λz e=>nomatch e) h⟩
 .exact .inr h
inductive RE(P:Py)(w:Qb)(K:Fq)(vs:Qi V)(H:Hp)(Q:VK)(_:XK):Prop
 | mk(Z:Z0)(p:eH)(ks:Qi (zZ×Qi Dz))(m0:Dz)(Ls:Qi LL)(k':Qk)(h1:vs=[.ref p])(h2:ProgIs Z H p ks m0)(h3:LyB Z H 0 (bQ ks m0) Ls k')(h4:k'<=1000000)
  (h5:∀(bo:eH)(qs:Qi (Pr×eH×eH))(H':Hp),FrS [] H H'->H' bo\kE P w bo qs->PvOk K H' qs->(∀z∈bQ ks m0,z.1∈qs.map (·.1))->(∀q∈qs,∃es:Z3,H' q.2.2\(.tup<|es.map R7)/\Ens Z H' (mJ (((bQ ks m0).map (·.1)).zip Ls) q.1) es)->Q (.ref bo) H')
inductive Lu(Z:Z0)(P:Py)(w:Qb)(K:Fq)(H H1:Hp)(fd D:eH)(zs:Qi Bz)(Ls:Qi LL)(k' i:Qk)(σ:St)(Hx:Hp):Prop
 | mk(x y:Qj V)(ns:Z3)(qs:Qi (Pr×eH×eH))(h1:σ=[x,y,Qp<|.ref fd])(h2:FrS [] H Hx)(h3:Tup H1 Hx)(h4:Hx fd\(.lst<|ns.map R7))(h5:Hx D\kE P w D qs)(h6:PvOk K Hx qs)(h7:∀z∈zs.take i,z.1∈qs.map (·.1))(h8:∀q∈qs,∃es:Z3,Hx q.2.2\(.tup<|es.map R7)/\Ens Z Hx (mJ ((zs.map (·.1)).zip Ls |>.take i) q.1) es)(h9:LyB Z Hx ↑ns (zs.drop i) (Ls.drop i) k')(h10:↑qs<=i)
def wp8:cC ["program","found"] ["program"] (bX sZ):=cF
def Co{k:Qk}(F:X0 "laid" sZ f fd)(BO:X1 k "bodies" qK (GZ K))(LA:X1 k "lay" sG (lF 4)):↥["program"] (RE P w K):=by
 refine F.ok wp8 ⇑?_;obtain⟨Z,p,ks,r,m,k',rfl,hP,hL,hk,q⟩:=h;have hu:=fL hr;have aa:(["body","rows","found"]:Z2).Nodup:=by rfl'
 exists _,aJ (jU (i:=1) wp8.nd rfl (jH U)<|cX aA)
  (aY<|bR<|JA (hp:=Mc<|rS hu) (N':=["body","rows","found"]) (src:=[Qq,Qq,Qp 1]) rfl eW (gB<|⇑@BO<|av 0 aA) (g:=eP K 2<|eG (cA 0)<|eG (cA 1) eO) (λ_ _ _ _=>dX (n:=2) rfl<|bI (gL 0 aa)<|bI (gL 1 aa) dV) (λ_ _ _ _=>gP) (λ_ _ _ _=>pv 0) (te:=hV (lF 4) [] E0<|bJ (aG 0)<|bJ (aG 1)<|bJ (aG 2) bN) λ_ _ _ _=>⇑@LA<|av 0<|av 1<|av 2 aA)
 ac_rfl
 refine{cE _,λfl af=>?_};have f0:FrS [] H (upd H fl<|.lst []):=S0 af;refine{6,p,ks,r,U,hP.keep<|T4 f0,λb qs N f1 hb hA ar=>?_};have ac:=f1 _ _ aN<|zb0 (H:=H) (a:=fl) (o:=.lst []);refine{b,U,{_,T2 hb},λD J=>?_};have a8:D≠fl:=λz=>by rw[z,ac]at J;cases J
 have t1:Tup N (upd N D<|kE P w D []):=T3 J;have fD:FrS [] H (upd N D<|kE P w D []):=(f0.trans f1).trans<|S0 J;have an:H D=none:=zX (f0.trans f1) J;refine gG (xs:=qs.map R7) (Lu Z P w K H N fl D (bQ ks r) m k') {_,_,[],[],U,fD,t1,by rw[aE<|cJ a8];exact ac,zb0,(λq d=>nomatch d),(λz hz=>nomatch hz),(λq d=>nomatch d),hL.keep<|T4 fD,aV _} ?_ ?_ ?_
 .rintro i σ Hx hi ⟨_,_,_,_,_,_,tx,_⟩;exact T2<|tx _ _ hb
 .rintro i x σ Hx hx ⟨x0,y0,ns,ps,rfl,fx,tx,a1,a7,ok,C,W,M,ai⟩;rw[bP,vh8]at hx;obtain⟨u,ab,rfl⟩:=hx;obtain⟨z,hz,bd,d,aq⟩:=hA.get ab;have hi:=(vh2.mp hz).1;have ap:=uM hi;have ag:=(vh2.mp hz).2;rw[ap,ag]at M;generalize hLd:m.drop i=Ld at M;cases M with
  | @cons _ k1 _ _ _ L Lr h1 s1 hs tl=>
   have ao:m[i]?\L:=by
    have:=cP (λl=>l[0]?) hLd;simpa using this
   exists u,6,T2<|tx _ _ d,U,_,6,_,6,U;refine{6,6,6,6,Z,bd,z.2.2.1,fl,z.2.2.2.1,ns,L,k1,U,h1,s1,a1,fM tl.le hk,λl xs nx H3 O ak a6 al ah _=>?_};have I:=O.tup1 a1;have a5:=O _ _ ⇑[a8] a7;have a9:=(aq.keep<|tx.trans I).sq;have ae:PvOk K H3 ps:=λq d=>uS O a1<|ok q d;have B:Tup H3 (upd H3 D<|kE P w D<|iB ps z.1 bd l):=λc xs e=>by rw[aE λy=>by rw[y,a5]at e;cases e];exact e
   have k4:∀{c:eH}{xs:Qi V},SqT K H3 c xs->SqT K (upd H3 D<|kE P w D<|iB ps z.1 bd l) c xs:=λh=>by
    have ne:∀{c:eH}{o:HO},H3 c\o->(∀φ,o≠.ext φ)->c≠D:=λe n y=>by
     rw[y,a5]at e;cases e;exact n _ rfl
    obtain(h|⟨o,h⟩)|h:=h
    .exact .inl (.inl<|by rw[aE<|ne h λ_ e=>nomatch e];exact h)
    .exact .inl<|.inr ⟨o,by rw[aE<|ne h λ_ e=>nomatch e];exact h⟩
    .exact .inr h
   have a4:((((bQ ks r).map (·.1)).zip m).take<|i+1)=(((bQ ks r).map (·.1)).zip m).take i++[(z.1,L)]:=by
    have:(((bQ ks r).map (·.1)).zip m)[i]?\(z.1,L):=by rw[JF];exact{by rw[bP,hz];rfl,ao}
    rw[dE,this];rfl
   have ad:i<1000:=by
    have:=(vh2.mp ab).1;lia
   refine{ps,bd,z.1,l,U,U,a5,ae,a9,bS ∅,_,_,ns++nx,iB ps z.1 bd l,U,?_,(tx.trans I).trans B,by rw[aE<|cJ a8];exact ak,zb0,λq d=>k4<|(ae.put a9) q d,λy j=>?_,λq d=>?_,?_,by have:=VW (qs:=ps) (n:=z.1) (b:=bd) (l:=l);lia}
   .intro c o _ e;have hc:c≠D:=bF e an;rw[aE hc];exact O _ _ ⇑[(bF e af)]<|fx _ _ aN e
   .have G:z.1∈(iB ps z.1 bd l).map (·.1)/\∀n∈ps.map (·.1),n∈(iB ps z.1 bd l).map (·.1):=by
     unfold iB
     split
     .have e:(ps.map λq=>if q.1=z.1 then(q.1,q.2.1,l) else q).map (·.1)=ps.map (·.1):=by
       rw[gU];refine nL λq _=>?_;show(if q.1=z.1 then(q.1,q.2.1,l) else q).1=q.1
       split <;> rfl
      rw[e];exact{‹_›,λ_ h=>h}
     .rw[bU];exact{jE _<|.head _,λ_ h=>nC _ h}
    rw[dE,hz]at j;obtain j|j:=vj7.mp j
    .exact G.2 _<|C y j
    .have:y=z:=⇑[j]
     rw[this];exact G.1
   .rw[a4,Le];have old:∀q∈ps,q.1≠z.1->∃es:Z3,upd H3 D (kE P w D<|iB ps z.1 bd l) q.2.2\(.tup<|es.map R7)/\Ens Z (upd H3 D<|kE P w D<|iB ps z.1 bd l) (if z.1=q.1 then L else mJ ((((bQ ks r).map (·.1)).zip m).take i) q.1) es:=λq d aj=>by
     obtain⟨es,X,T⟩:=W q d;rw[bA<|cJ aj];exact{es,(I.trans B) _ _ X,T.keep<|I.trans B}
    have new:∃es:Z3,upd H3 D (kE P w D<|iB ps z.1 bd l) l\(.tup<|es.map R7)/\Ens Z (upd H3 D<|kE P w D<|iB ps z.1 bd l) L es:=⟨xs,B _ _ al,ah.keep B⟩;unfold iB at d
    split at d
    .obtain⟨y,j,rfl⟩:=vj2.mp d
     by_cases c:y.1=z.1
     .rw[bG c];show ∃es:Z3,_/\Ens Z _ (if z.1=y.1 then L else _) es;rw[bG c.symm];exact new
     .rw[bA c];exact old y j c
    .obtain d|d:=vj7.mp d
     .exact old q d λc=>absurd (vj2.mpr ⟨q,d,c⟩) ‹_›
     .rw[vj1.mp d];show ∃es:Z3,_/\Ens Z _ (if z.1=z.1 then L else _) es;rw[bG rfl];exact new
   .have am:m.drop (i+1)=Lr:=by
     have:=cP (Qi.drop 1) hLd;rw[F1]at this;exact this
    rw[am,a6];exact tl.keep<|I.trans B
 .rintro σ Hx ⟨x0,y0,ns,ps,rfl,fx,tx,a1,a7,ok,C,W,M,ai⟩;have ad:↑(bQ ks r)=↑qs:=hA.len.symm;rw[aF,<-ad]at C W;rw[cW<|aV _]at C;refine q D ps Hx fx a7 ok C λq d=>?_;obtain⟨es,X,T⟩:=W q d;rw[cW<|by rw[zN,aF];exact Qk.min_le_left _ _]at T;exact⟨es,X,T⟩
abbrev kF(p md fo bo ch he to:eH)(n:Qk):Qi (zZ×V):=([("program",.ref p),("made",.ref md),("forms",.ref fo),("bodies",.ref bo),("choices",.ref ch),("many_read",.int 0),("many_done",.int 0),("under_way",.int 0),("here",.ref he),("todo",.ref to)]:Qi (zZ×V)).take n
abbrev rG:Qd:=zA 40
def hr0(tr:Tr)(a:Z2):Z2:=(tr.map (·.1)).filter λx=>decide<|x∉a
inductive LN(Y:Ry)(vs:Qi V)(H:Hp)(Q:VK)(_:XK):Prop
 | mk(Z:Z0)(x dx p md ch:eH)(ks:Qi (zZ×Qi Dz))(m0:Dz)(tr:Tr)(late:Z2)(Ls:Qi LL)(k':Qk)(h1:vs=[.ref x,.ref p,.ref md,.ref ch])(h2:H x\.ins Y.C.rn dx [])(h3:H md\.tup [])(h4:ProgIs Z H p ks m0)(h5:KindsAt H p tr)(h6:LateAt H p tr late)(h7:↑tr<=12)(h8:LyB Z H 0 (bQ ks m0) Ls k')(h9:k'<=1000000)
  (q:∀(fo bo he to lo:eH)(qs:Qi (Pr×eH×eH))(H':Hp),FrS [x] H H'->H' x\(.ins Y.C.rn dx<|rF p ⟨dx,md,fo,bo,ch,he,to,lo,[],[],[],[]⟩ 0 0 0 0)->H' fo\.dK []->H' he\(.lst<|(hr0 tr late).map R6)->H' to\.lst []->H' lo\.lst []->(∀b∈[fo,he,to,lo],H b=Qq)->[fo,he,to,lo].Nodup-> H' bo\kE Y.pr Y.w bo qs->PvOk Y.K H' qs->(∀z∈bQ ks m0,z.1∈qs.map (·.1))->(∀q∈qs,∃es:Z3,H' q.2.2\(.tup<|es.map R7)/\Ens Z H' (mJ (((bQ ks m0).map (·.1)).zip Ls) q.1) es)->Q .non H')
abbrev yV:Z2:=["self","program","made","choices"]
def CN{Q:St->Hp->Prop}{a:St}{H H':Hp}(h:Q a H')(e:X9 (H=H') X8):Q a H:=by rw[e];exact h
def BW{t:TE}{a:St}{Q:VK}{H H':Hp}(h:t a H' Q)(e:X9 (H=H') X8):t a H Q:=by rw[e];exact h
inductive Nk(H1:Hp)(Dl p:eH)(ns late:Z2)(i:Qk)(σ:St)(Hx:Hp):Prop
 | mk(x y z:Qj V)(hσ:σ=[x,y,z,Qp<|.ref p])(fr:FrS [] H1 Hx)(hD:Hx Dl\(.lst<|((ns.take i).filter λx=>decide<|x∉late).map R6))
def vZ:cC yV yV (bX rG):=cF
def Js{k:Qk}(F:Fun Y.K "__init__" "Run.__init__" rG f fd)(Z:dS Y.K Y.C)(FO:X1 k "forms_of" ["made"] JO)(LD:X1 k "laid" ["program"] (RE P w K)):↥yV (LN Y):=by
 refine F.ok vZ ⇑?_;obtain⟨Z',x,dx,p,md,ch,ks,m0,tr,a,Ls,k',rfl,hx,ay,hP,hK,b4,b1,hL,hk,q⟩:=h;have aj:(["name","elder","deeds","program"]:Z2).Nodup:=by rfl'
 exists _,aJ (iC Z.r ⇑0<|pv 1)<|aJ (iC Z.r ⇑0<|pv 2)<|aJ (iC Z.r ⇑0<|⇑@FO<|av 2 aA)<|aJ (iC Z.r ⇑0<|⇑@LD<|av 1 aA)<|aJ (iC Z.r ⇑0<|pv 3)<|aJ (iC Z.r ⇑0 aQ)<|aJ (iC Z.r ⇑0 aQ)<|aJ (iC Z.r ⇑0 aQ)<|aJ (iC Z.r ⇑0<|jB (N':=["name","elder","deeds","program"]) (src:=[Qq,Qq,Qq,Qp 1]) rfl eW (gB<|eT ⇑1 aQ) (g:=eP Y.K 3<|eG (cA 0)<|eG (cA 1)<|eG (cA 2) eO) (λ_ _ _ _=>dX (n:=3) rfl<|bI (gL 0 aj)<|bI (gL 1 aj)<|bI (gL 2 aj) dV) (tt:=iE<|dG (jF Y.K Qr) (aG 0)<|dG (cO Y.K) (aG 3)<|tC<|.int 1) (λ_ _ _ _=>mV<|cG (show dW _ _ (jF Y.K Qr) from xE) ⇑0 (jK (show jN _ (cO Y.K) from lU) ⇑3 aQ λ_ _=>U) U) λ_ _ _ _=>pv 0)<|aJ (iC Z.r ⇑0<|cX aA)<|aJ (iC Z.r ⇑0<|cX aA)<|aY<|iC Z.r ⇑0 aQ
 ac_rfl
 refine{6,6,x,dx,6,hx,by decide,6,6,x,dx,6,zb0,by show 1<1000;decide,?_};rw[iN];have nx:∀{b:eH},H b=Qq->b∉[x]:=λh z=>by rw[vj1.mp z,hx]at h;cases h
 have up:∀{G J:Hp}(o:HO),FrS [] G J->FrS [x] G (upd J x o):=λo f=>(f.mono λ_ h=>absurd h aN).put'<|.head _;have tx:∀{G J:Hp}{fs:Qi (zZ×V)},G x\.ins Y.C.rn dx fs->FrS [x] G J->Tup G J:=λe f b xs h=>f b _ (λz=>by rw[vj1.mp z,e]at h;cases h) h
 have c1:FrS [x] H (upd H x<|.ins Y.C.rn dx<|dC "made" (.ref md)<|dC "program" (.ref p) []):=T0<|.head _;have x1:upd H x (.ins Y.C.rn dx<|dC "made" (.ref md)<|dC "program" (.ref p) []) x\.ins Y.C.rn dx [("program",.ref p),("made",.ref md)]:=zb0;generalize upd H x (.ins Y.C.rn dx<|dC "made" (.ref md)<|dC "program" (.ref p) [])=G1 at c1 x1;have t1:=tx hx c1;refine{6,md,U,t1 _ _ ay,λfo I=>{6,x,dx,6,(S0 (S:=[]) I) _ _ aN x1,by show 2<1000;decide,?_}};have B:H fo=none:=by
  cases e:H fo with
  | none=>rfl
  | some o=>
   by_cases z:fo=x
   .rw[z,x1]at I;cases I
   .rw[c1 _ _ ⇑[z] e]at I;cases I
 have c2:=up (.ins Y.C.rn dx<|kF p md fo p p p p 3)<|S0 (S:=[]) (o:=.dK []) I;have x2:upd (upd G1 fo<|.dK []) x (.ins Y.C.rn dx<|kF p md fo p p p p 3) x\(.ins Y.C.rn dx<|kF p md fo p p p p 3):=zb0;have o2:upd (upd G1 fo<|.dK []) x (.ins Y.C.rn dx<|kF p md fo p p p p 3) fo\.dK []:=(aE<|⇑[nx B]).trans zb0;refine CN (H':=upd (upd G1 fo<|.dK []) x<|.ins Y.C.rn dx<|kF p md fo p p p p 3) ?_;generalize upd (upd G1 fo<|.dK []) x (.ins Y.C.rn dx<|kF p md fo p p p p 3)=G2 at c2 x2 o2 ⊢;have t2:=t1.trans<|tx x1 c2;refine{6,Z',p,ks,m0,Ls,k',U,hP.keep t2,hL.keep t2,hk,λbo qs m f3 al hok ax b2=>{6,x,dx,6,f3 _ _ aN x2,by show 3<1000;decide,?_}};refine{6,6,x,dx,6,zb0,by show 4<1000;decide,6,x,dx,6,zb0,by show 5<1000;decide,6,x,dx,6,zb0,by show 6<1000;decide,6,x,dx,6,zb0,by show 7<1000;decide,?_};rw[iN,iN,iN,iN];have c3:=up (.ins Y.C.rn dx<|kF p md fo bo ch p p 8) f3;have d3:FrS [x] m (upd m x<|.ins Y.C.rn dx<|kF p md fo bo ch p p 8):=T0<|.head _;have x3:upd m x (.ins Y.C.rn dx<|kF p md fo bo ch p p 8) x\(.ins Y.C.rn dx<|kF p md fo bo ch p p 8):=zb0;refine CN (H':=upd m x<|.ins Y.C.rn dx<|kF p md fo bo ch p p 8) ?_;generalize upd m x (.ins Y.C.rn dx<|kF p md fo bo ch p p 8)=G4 at c3 d3 x3 ⊢;have t4:=t2.trans<|tx x2 c3;have ak:=(c1.trans c2).trans c3;obtain⟨kt,ts,v1,v2,hp,an,ad,b3⟩:=hK.keepT t4;obtain⟨b7,lt,v3,az,b0,b5,_,_⟩:=b4.keep t4;refine{6,p,_,_,6,U,T2 hp,U,kt,U,{_,T2 an},λhe W=>?_};have b6:↑(tr.map (·.1))<=12:=by rw[aF];exact b1
 refine gG (xs:=ts.map R7) (Nk G4 he p (tr.map (·.1)) a) {_,_,6,(FrS.refl).put W,zb0} ?_ ?_ ?_
 .rintro j σ Hy hj ⟨_,_,_,_,fr,_⟩;exact T2<|fr _ _ aN an
 .rintro j x' σ Hy am ⟨_,_,_,rfl,fr,aw⟩;rw[bP,vh8]at am;obtain⟨u,hu,rfl⟩:=am;have hj:j<↑tr:=by rw[<-ad];exact(vh2.mp hu).1
  have hz:tr[j]?=Qp tr[j]:=bM hj;obtain⟨v,hv⟩:=b3 j u _ hu hz;generalize tr[j]=T at hz hv;have eF:((tr.map (·.1)).take<|j+1).filter (λx=>decide<|x∉a)=((tr.map (·.1)).take j).filter (λx=>decide<|x∉a)++[T.1].filter (λx=>decide<|x∉a):=by
   rw[dE,bP,hz,zO];rfl
  have b8:↑(((tr.map (·.1)).take j).filter λx=>decide<|x∉a)<=12:=by
   have h2:=jJ (λx=>decide<|x∉a)<|(tr.map (·.1)).take j;rw[dR]at h2;lia
  exists u,6,T2<|fr _ _ aN hv,U,_,6,_,6,_,6,U;exists 6,6,p,_,_,6,U,T2<|fr _ _ aN az,U,lt,6,.inr<|T2<|fr _ _ aN b0,U,jL _,6;show if (!gC (.str T.1) (a.map R6))=Qr then _ else _
  rw[jS];refine bE (λc=>?_) λc=>?_
  .have c:T.1∉a:=⇑[c]
   exists 6,_,aw,bS (by rw[aF];lia),_,_,_,rfl,fr.put W;rw[zb0,eF,BN ⇑[c],nW,bU];rfl
  .have c:T.1∈a:=⇑[c]
   exists _,_,6,fr;rw[eF,IA ⇑[c],nW,eA];exact aw
 rintro σ O ⟨_,_,_,rfl,f5,ao⟩;rw[aF,ad,<-yB (as:=tr) (f:=(·.1)),cW<|aV _]at ao;have back:∀{G:Hp}{fs:Qi (zZ×V)}{b:eH},FrS [x] H G->G x\.ins Y.C.rn dx fs->G b=Qq->H b=none:=λ{G fs b} c e h=>by
  cases z:H b with
  | none=>rfl
  | some o=>
   have n:b≠x:=λy=>by rw[y,e]at h;cases h
   rw[c _ _ ⇑[n] z]at h;cases h
 have a1:=back ak x3 W;have x5:=f5 _ _ aN x3;have aa:G4 fo\.dK []:=c3 _ _ (nx B) o2;have n1:fo≠he:=bF aa W;refine{6,x,dx,6,x5,by show 8<1000;decide,cE _,λto l=>?_};have X:=up (.ins Y.C.rn dx<|kF p md fo bo ch he p 9) f5;have x6:upd O x (.ins Y.C.rn dx<|kF p md fo bo ch he p 9) x\(.ins Y.C.rn dx<|kF p md fo bo ch he p 9):=zb0;have a5:upd O x (.ins Y.C.rn dx<|kF p md fo bo ch he p 9) he\(.lst<|(hr0 tr a).map R6):=(aE<|⇑[nx a1]).trans ao;have l:upd O x (.ins Y.C.rn dx<|kF p md fo bo ch he p 9) to=none:=l;refine BW (H':=upd (upd O x<|.ins Y.C.rn dx<|kF p md fo bo ch he p 9) to<|.lst []) ?_;generalize upd O x (.ins Y.C.rn dx<|kF p md fo bo ch he p 9)=N at X x6 a5 l ⊢;have au:=ak.trans X;have a6:=back au x6 l;have ac:=X _ _ (nx B) aa;refine{6,x,dx,6,(S0 (S:=[]) l) _ _ aN x6,by show 9<1000;decide,cE _,λlo i=>?_};have L:=up (.ins Y.C.rn dx<|kF p md fo bo ch he to 10)<|S0 (S:=[]) (o:=.lst []) l;have x7:upd (upd N to<|.lst []) x (.ins Y.C.rn dx<|kF p md fo bo ch he to 10) x\(.ins Y.C.rn dx<|kF p md fo bo ch he to 10):=zb0;have a4:upd (upd N to<|.lst []) x (.ins Y.C.rn dx<|kF p md fo bo ch he to 10) to\.lst []:=(aE<|⇑[nx a6]).trans zb0;have i:upd (upd N to<|.lst []) x (.ins Y.C.rn dx<|kF p md fo bo ch he to 10) lo=none:=i;refine BW (H':=upd (upd (upd N to<|.lst []) x<|.ins Y.C.rn dx<|kF p md fo bo ch he to 10) lo<|.lst []) ?_;generalize upd (upd N to<|.lst []) x (.ins Y.C.rn dx<|kF p md fo bo ch he to 10)=G7 at L x7 a4 i ⊢;have aq:=au.trans L;have a8:=back aq x7 i;have a9:=L _ _ (nx B) ac;have ab:=L _ _ (nx a1) a5;have x8:=(S0 (S:=[]) (o:=.lst []) i) _ _ aN x7;have M:=up (.ins Y.C.rn dx<|rF p ⟨dx,md,fo,bo,ch,he,to,lo,[],[],[],[]⟩ 0 0 0 0)<|S0 (S:=[]) (o:=.lst []) i;refine{6,x,dx,6,x8,by show 10<1000;decide,6,x,dx,6,zb0,by show 11<1000;decide,?_};rw[iN];have ag:FrS [x] m (upd (upd G7 lo<|.lst []) x<|.ins Y.C.rn dx<|rF p ⟨dx,md,fo,bo,ch,he,to,lo,[],[],[],[]⟩ 0 0 0 0):=((d3.trans X).trans L).trans M;have ap:=f3 _ _ aN x2;have af:=tx ap ag;have ar:∀{b:eH}{o:HO},m b\o->(∀d fs,o≠.ins Y.C.rn d fs)->b∉[x]:=λe n z=>by
  rw[vj1.mp z,ap]at e;cases e;exact n _ _ rfl
 have ah:upd (upd G7 lo<|.lst []) x (.ins Y.C.rn dx<|rF p ⟨dx,md,fo,bo,ch,he,to,lo,[],[],[],[]⟩ 0 0 0 0) lo\.lst []:=(aE<|⇑[nx a8]).trans zb0;refine q fo bo he to lo qs _ (aq.trans M) zb0 (M _ _ (nx B) a9) (M _ _ (nx a1) ab) (M _ _ (nx a6) a4) ah ?_ ?_ (ag _ _ (ar al λ_ _ e=>nomatch e) al) ?_ ax ?_
 .intro b hb;simp only[vj0,aN,eC]at hb;obtain rfl|rfl|rfl|rfl:=hb
  .exact B
  .exact a1
  .exact a6
  .exact a8
 .simp only[vn3,vj0,aN,eC,gI,not_false_eq_true,lO,and_true];exact{{n1,bF ac l,bF a9 i},{bF a5 l,bF ab i},bF a4 i}
 .intro q' ai;obtain(h|⟨o,h⟩)|h:=hok q' ai
  .exact .inl<|.inl<|af _ _ h
  .exact .inl<|.inr ⟨o,ag _ _ (ar h λ_ _ e=>nomatch e) h⟩
  .exact .inr h
 .intro q' ai;obtain⟨es,e1,e2⟩:=b2 q' ai;exact{es,af _ _ e1,e2.keep af}
abbrev YF:Qd:=top 57
abbrev UN:Qd:=top 59
structure HX{Y:Ry}(R:Rx Y)(H:Hp)(ks:Qi (zZ×Qi Dz))(m0:Dz)(tr:Tr)(late:Z2)(Ls:Qi LL)(k':Qk):Prop where
 p:ProgIs R.Z H R.pg ks m0
 k:KindsAt H R.pg tr
 l:LateAt H R.pg tr late
 t12:↑tr<=12
 b:LyB R.Z H 0 (bQ ks m0) Ls k'
 k6:k'<=1000000
 hs:∀n d,R.G.hs n d->(n,d)∈(bQ ks m0).map (·.1)
 h0:R.G.hs "" ""
 bo:∀n d,R.G.bo n d=mJ (((bQ ks m0).map (·.1)).zip Ls) (n,d)
 pg:nO R
 pz:Pz R.G
 nm:∀x∈hr0 tr late,x∈R.G.nm
inductive Oz(Y:Ry)(vs:Qi V)(H:Hp)(Q:VK):Prop
 | mk(R:Rx Y)(md ch:eH)(ks:Qi (zZ×Qi Dz))(m0:Dz)(tr:Tr)(late:Z2)(Ls:Qi LL)(k':Qk)(h1:vs=[.ref R.pg,.ref md,.ref ch])(h2:H md\.tup [])(h3:HX R H ks m0 tr late Ls k')(h4:H ch\(.tup<|R.G.ch.map R8))(h5:R.H0=H)
  (q:∀(x:eH)(A:Ra)(H':Hp),RunAt R H' x A ⟨[],[],[],[],0,0,0,hr0 tr late⟩ 0->Q (.ref x) H')
def Ed(vs:Qi V)(H:Hp)(Q:VK)(h:Oz Y vs H Q)(x dx:eH)(j:H x=Qq)(G:H dx=Qq)(J:dx≠x):LN Y (.ref x::vs) (upd (upd H dx<|.own x) x<|.ins Y.C.rn dx []) (λv H2=>v=.non/\Q (.ref x) H2) E0:=by
 obtain⟨R,md,ch,ks,M,tr,i,Ls,k',rfl,r,g,T,rfl,q⟩:=h;have f:FrS [] R.H0 (upd (upd R.H0 dx<|.own x) x<|.ins Y.C.rn dx []):=(S0 G).trans (S0<|by rw[aE<|cJ J];exact j);have t:=T4 f;refine{R.Z,x,dx,R.pg,md,ch,ks,M,tr,i,Ls,k',U,zb0,t _ _ r,g.p.keep t,g.k.keepT t,g.l.keep t,g.t12,g.b.keep t,g.k6,λfo bo he to lo qs H' fr hx a2 E u L I aa A m X O=>{U,q x {dx,md,fo,bo,ch,he,to,lo,[],[],[],[]} H' ?_}};have s:∀b∈[fo,he,to,lo],R.H0 b=Qq/\b≠x:=λb a=>by
  have:=I b a;refine{?_,λz=>by rw[z,zb0]at this;cases this};cases e:R.H0 b with
  | none=>rfl
  | some o=>rw[f _ _ aN e]at this;cases this
 have kp:∀b o,R.H0 b\o->H' b\o:=λb o e=>fr _ _ ⇑[(bF e j)]<|f _ _ aN e
 refine {im:={kp _ _ r,kp _ _ T,.nil,.nil,.nil,qs,{A,m,λn d h=>?_,λN a1=>?_}},run:=hx,fo:=a2,he:=E,to:=u,lo:=L,dc:=.nil,dk:=(λd hd=>nomatch hd),nd:=?_,kp:=kp,fr:=?_}
 .obtain⟨z,hz,e⟩:=vj2.mp<|g.hs n d h;rw[<-e];exact X z hz
 .obtain⟨es,B,W⟩:=O N a1;exact{es,B,by rw[g.bo];exact W}
 .exact vn3.mpr ⟨λz=>(s x z).2 rfl,aa⟩
 .intro b a;obtain rfl|a:=vj0.mp a
  .exact j
  .exact(s b a).1
def st0(G:Pg)(hr:Z2):Rs:=(Rs.dic ⟨[],[],[],[],0,0,0,hr⟩ []).push (G.bo "" "") 0
inductive yD(Y:Ry)(vs:Qi V)(H:Hp)(Q:VK)(_:XK):Prop
 | mk(R:Rx Y)(md ch:eH)(ks:Qi (zZ×Qi Dz))(m0:Dz)(tr:Tr)(late:Z2)(Ls:Qi LL)(k' mo:Qk)(S':Rs)(e:zZ)(v:V)(h1:vs=[.ref R.pg,.ref md,.ref ch,.int mo])(h2:H md\.tup [])(h3:HX R H ks m0 tr late Ls k')(h4:H ch\(.tup<|R.G.ch.map R8))(h5:R.H0=H)(h7:mo<=1000)(t:Rn R.G mo 0 (st0 R.G<|hr0 tr late) S' e v)
  (q:∀(l tl el:eH)(ls:Z3)(H':Hp),FrS [] H H'->H' l\.tup [.ref tl,.int S'.lk,.ref el]->H' tl\(.tup<|ls.map R7)->A2 (λr a=>H' a\.tup r) S'.lg ls->H' el\.tup [.str e,v]->Q (.ref l) H')
def ZJ(hz:Pz G)(e:↑hr<=12)(a:∀x∈hr,x∈G.nm):Wf G (st0 G hr) 0:=by
 have b:=hz.bo "" "";have hl:=yS 0<|G.bo "" "";refine{?_,λd hd=>?_,?_,aV _,by show ↑hr<=_;lia,a,(λz hz=>nomatch hz),λd hd=>?_}
 .show((G.bo "" "").dues 0++[]).length<=_;rw[eA];lia
 .obtain hd|hd:=vj7.mp hd
  .exact NH 0 _ b d hd
  .cases hd
 .show bY ((G.bo "" "").dues 0++[])<=0;rw[eA,vD];exact aV _
 .show ↑d+bY ((G.bo "" "").dues 0++[])<=_;rw[eA,vD];have:d=[]:=by simpa [st0,Rs.push,Rs.dic]using hd
  rw[this];exact cE _
abbrev LG:Z2:=["program","made","choices","most"]
def yx1:cC ["program","made","choices","most","run","end"] LG (bX YF):=cF
def Gf{k:Qk}(F:Fun Y.K "whole_run" "whole_run" YF f fd)(Z:dS Y.K Y.C)(M:iJ Y mg base k "Run" Y.C.rn yV (LN Y))(AD:X1 (k+1) "add_due" jR (yQ Y))(RO:X1 (k+1) "run_on" ["run","most"] (vX Y))(mM:mg "MAIN"\.ref am)(hM:∀H,SqT Y.K H am [.str "",.str ""])(ac:mg "tuple"=Qq):aR P w K mg base bT (k+2) f fd LG (yD Y):=by
 refine F.ok yx1 ⇑?_;obtain⟨R,md,ch,ks,m0,tr,a,Ls,k',mo,O,e,v,rfl,a8,g,ab,rfl,hm,t,q⟩:=h;have hu:=fL hr;exists _,aJ (sL 4 yx1.nd<|LX M Ed hr rfl<|av 0<|av 1<|av 2 aA)
  (aJ (eX<|⇑@AD<|av 4<|aI (qZ hu (cH Z.r<|pv 4) (mG (v:=.ref am) rfl mM rfl) λ_ _=>U)<|aI pK aA)<|aJ (sL 5 yx1.nd<|⇑@RO<|av 4<|av 3 aA)<|aY<|bR<|cZ<|aI (eV gR rfl ac (by rfl')<|aI (cH Z.r<|pv 4) aA)<|aI (cH Z.r<|pv 4)<|av 5 aA)
 ac_rfl
 refine{6,6,6,R,md,ch,ks,m0,tr,a,Ls,k',U,a8,g,ab,U,λrn A n j=>?_};obtain⟨qs,m⟩:=j.im.bo;obtain⟨z,aa,X⟩:=vj2.mp<|m.k "" "" g.h0;cases hfd:qs.find? (λq=>decide<|q.1=((("":zZ),("":zZ)):Pr))with
 | none=>exact absurd X ⇑[ub8.mp hfd z aa]
 | some z2=>
  have a9:z2.1=(("":zZ),("":zZ)):=⇑[uT hfd]
  obtain⟨es,ad,J⟩:=m.e z2<|oE hfd;rw[a9]at J;refine{6,6,rn,_,_,6,j.run,U,A.bo,am,qs,(("":zZ),("":zZ)),z2,U,U,m.d,m.ok,hM _,hfd,λi a7=>?_};have B:RunAt R (upd n i<|.dK []) rn (A.dic i) (Rs.dic ⟨[],[],[],[],0,0,0,hr0 tr a⟩ []) 0/\Im Y.C n (upd n i<|.dK []):=j.dic (d:=[]) a7 λz hz=>nomatch hz;have a4:=g.pz.bo "" "";have ae:(A.dic i).δ[0]?\i:=by
   have:=j.dc.len;have e:A.δ=[]:=ud5.mp this.symm;show(A.δ++[i])[0]?=Qp i;rw[e];rfl
  refine{R,rn,z2.2.2,i,A.dic i,_,0,0,R.G.bo "" "",es,U,B.1,B.2.tup _ _ ad,J.keep B.2.tup,ae,by show 0+_<=_;lia,λus H3 h3 f3=>?_};have a1:↑(hr0 tr a)<=12:=by
   have:=jJ (λx=>decide<|x∉a)<|tr.map (·.1);rw[aF]at this;unfold hr0;have:=g.t12;lia
  refine{6,6,R,rn,_,_,O,0,mo,e,v,U,h3,ZJ g.pz a1 g.nm,g.pg,g.pz,cE _,hm,t,λI H4 T ag u f4 a5=>?_};refine{6,rn,_,_,6,u.run,U,I.lo,6,.inl {T1 u.lo,λtl W=>?_}};have L:=u.keep0<|S0 (o:=.tup<|I.ls.map R7) W;refine{6,rn,_,_,6,L.run,U,6,cQ<|bS (by show 3<=_;decide),λl hl=>?_};have N:=L.keep0<|S0 (o:=.tup [.ref tl,.int O.lk,.ref T]) hl;exact q l tl T I.ls _ (λb o _ e=>N.kp b o e) zb0 ((T3 hl) _ _ zb0) N.im.lg<|((T3 W).trans<|T3 hl) _ _ a5
def Ee:cC ["program","choices","most"] ["program","choices","most"] (bX UN):=cF
inductive vO(Y:Ry)(vs:Qi V)(H:Hp)(Q:VK)(_:XK):Prop
 | mk(R:Rx Y)(ch:eH)(ks:Qi (zZ×Qi Dz))(m0:Dz)(tr:Tr)(late:Z2)(Ls:Qi LL)(k' mo:Qk)(S':Rs)(e:zZ)(v:V)(h1:vs=[.ref R.pg,.ref ch,.int mo])(h3:∀H',FrS [] H H'->HX ({R with H0:=H'}:Rx Y) H' ks m0 tr late Ls k')(h4:H ch\(.tup<|R.G.ch.map R8))(h7:mo<=1000)(t:Rn R.G mo 0 (st0 R.G<|hr0 tr late) S' e v)
  (q:∀(l tl el:eH)(ls:Z3)(H':Hp),FrS [] H H'->H' l\.tup [.ref tl,.int S'.lk,.ref el]->H' tl\(.tup<|ls.map R7)->A2 (λr a=>H' a\.tup r) S'.lg ls->H' el\.tup [.str e,v]->Q (.ref l) H')
def Og{k:Qk}(F:Fun Y.K "plain_run" "plain_run" UN f fd)(r:X1 k "whole_run" LG (yD Y)):↥["program","choices","most"] (vO Y):=by
 refine F.ok Ee ⇑?_;obtain⟨R,G,C,d,N,a,u,x,m,j,e,v,rfl,g,a1,o,t,q⟩:=h;exists _,aY<|bR<|⇑@r<|av 0<|aI (cZ aA)<|av 1<|av 2 aA
 ac_rfl
 refine{6,cE _,λB i=>?_};have b:FrS [] H (upd H B<|.tup []):=S0 i;exact{6,6,{R with H0:=upd H B<|.tup []},B,G,C,d,N,a,u,x,m,j,e,v,U,zb0,g _ b,b _ _ aN a1,U,o,t,λl L n J M z=>q l L n J M<|b.trans z}
def Up.suf(h:Up tr x l):∀k∈l,∃b,Up tr k b/\b <:+ l:=by
 induction h with
 | root f=>intro k a;rw[vj1.mp a];exact{_,.root f,C0 _}
 | step f j i=>
  intro k a;obtain rfl|a:=vj0.mp a
  .exact⟨_,.step f j,C0 _⟩
  .obtain⟨b,e,d⟩:=i k a;exact{b,e,d.trans<|List.suffix_cons _ _}
inductive KqAt(Z:Z0)(H:Hp)(y:zZ×Qi Dz)(z:zZ×Qj zZ)(u:eH)(w:zZ×Qj zZ×Qi (zZ×eH)):Prop
 | mk(dt:eH)(h1:w.1=z.1)(h2:w.2.1=z.2)(h0:y.1=z.1)(h3:H u\.tup [.str w.1,bB w.2.1,.ref dt])(h4:H dt\(.tup<|w.2.2.map λd=>R7 d.2))(h5:A2 (λ(d:zZ×eH) (e:Dz)=>d.1=e.1/\DeedIs Z H d.2 e) w.2.2 y.2)(h6:(y.2.map (·.1)).Nodup)
def KqAt.ex(h:KindIs Z H u y)(g:∃v,H u\.tup [.str z.1,bB z.2,v]):∃w,KqAt Z H y z u w:=by
 obtain⟨e,q,fs,m,o,r,x,A,s⟩:=h;obtain⟨v,g⟩:=g;rw[m]at g;have n:∀(fs:Z3)(ds:Qi Dz),↑fs=↑ds->(∀(j:Qk) f z,fs[j]?\f->ds[j]?\z->DeedIs Z H f z)->∃B:Qi (zZ×eH),B.map (λd=>R7 d.2)=fs.map R7/\A2 (λ(d:zZ×eH) (e:Dz)=>d.1=e.1/\DeedIs Z H d.2 e) B ds:=by
  intro fs
  induction fs with
  | nil=>
   intro ds hl _;cases ds with
   | nil=>exact{[],U,.nil}
   | cons _ _=>cases hl
  | cons f fs C=>
   intro ds hl hd;cases ds with
   | nil=>cases hl
   | cons d ds=>
    obtain⟨B,i,l⟩:=C ds (K0 hl) λj f z a b=>hd (j+1) f z a b;exact{(d.1,f)::B,by rw[eE,i];rfl,.cons {U,hd 0 f d rfl rfl} l}
 obtain⟨B,i,l⟩:=n fs y.2 r x;injection g with g;injection g with g;injection g with g1 g2;injection g2 with g2 g3;injection g3 with g3 _;refine{(z.1,z.2,B),q,U,U,R6.inj g1,?_,by rw[i];exact o,l,s};rw[m,g1,g2]
inductive KqL(Z:Z0)(H:Hp):Qi (zZ×Qi Dz)->Tr->Z3->Kq->Prop
 | nil:KqL Z H [] [] [] []
 | cons {y:zZ×Qi Dz} {z:zZ×Qj zZ} {u:eH} {w:zZ×Qj zZ×Qi (zZ×eH)} {ks:Qi (zZ×Qi Dz)} {tr:Tr} {us:Z3} {kq:Kq} (h:KqAt Z H y z u w) (t:KqL Z H ks tr us kq):KqL Z H (y::ks) (z::tr) (u::us) (w::kq)
theorem KqL.ex:∀(us:Z3)(ks:Qi (zZ×Qi Dz))(tr:Tr),↑us=↑ks->↑us=↑tr->(∀(j:Qk) u y,us[j]?\u->ks[j]?\y->KindIs Z H u y)->(∀(j:Qk) u z,us[j]?\u->tr[j]?\z->∃v,H u\.tup [.str z.1,bB z.2,v])->∃kq,KqL Z H ks tr us kq:=λus=>us.recOn
 (λks tr e d _ _=>by
  cases ks with
  | nil=>cases tr with
   | nil=>exact{_,.nil}
   | cons _ _=>cases d
  | cons _ _=>cases e)
 λu us l ks tr e d f i=>by
  cases ks with
  | nil=>cases e
  | cons y ks=>cases tr with
   | nil=>cases d
   | cons z tr=>
    obtain⟨kq,t⟩:=l ks tr (K0 e) (K0 d) (λj u y a b=>f (j+1) u y a b) λj u z a b=>i (j+1) u z a b;obtain⟨w,h⟩:=KqAt.ex (f 0 u y rfl rfl)<|i 0 u z rfl rfl;exact{_,.cons h t}
def KqL.at(h:KqL Z H ks tr us kq):↑us=↑kq/\∀(j:Qk) u w,us[j]?\u->kq[j]?\w->∃y∈ks,∃z,KqAt Z H y z u w:=by
 induction h with
 | nil=>exact{U,λj u w a=>nomatch a}
 | cons h _ f=>
  refine{cP (·+1) f.1,λj u w a b=>?_};cases j with
  | zero=>cases a;cases b;exact{_,.head _,_,h}
  | succ j=>
   obtain⟨y,d,z,e⟩:=f.2 j u w a b;exact{y,.tail _ d,z,e}
def A2.mapf{e d i:Type}{R:e->d->Prop}{f:e->i}{g:d->i}{as:Qi e}{bs:Qi d}(h:A2 R as bs)(k:∀a b,R a b->f a=g b):as.map f=bs.map g:=by
 induction h with
 | nil=>rfl
 | cons h _ j=>rw[eE,eE,k _ _ h,j]
def KqL.fn(h:KqL Z H ks tr us kq)(nd:(tr.map (·.1)).Nodup):((fl kq).map (·.1)).Nodup/\∀q∈(fl kq).map (·.1),q.1∈tr.map (·.1):=by
 induction h with
 | nil=>exact⟨lO,nofun⟩
 | @cons y z u w ks tr us kq h t J=>
  obtain⟨C,x,B,L,E,G,s,A⟩:=h;rw[eE,vn3]at nd;obtain⟨r,l⟩:=J nd.2;have e:(fl<|w::kq).map (·.1)=(y.2.map (·.1)).map (λd=>(z.1,d))++(fl kq).map (·.1):=by
   rw[<-A2.mapf (f:=λd:zZ×eH=>d.1) (g:=λe:Dz=>e.1) s λa b g=>g.1,<-x];unfold fl;rw[zJ,bU,gU,gU];rfl
  rw[e];have j:∀q∈(y.2.map (·.1)).map (λd=>(z.1,d)),q.1=z.1:=λq i=>by
   obtain⟨d,_,rfl⟩:=vj2.mp i;rfl
  refine{uk4.mpr {Qi.pairwise_map.mpr<|A.imp λn z=>n (Prod.mk.inj z).2,r,λa m b o e=>?_},λq i=>?_}
  .exact nd.1<|j a m▸e▸l b o
  .obtain i|i:=vj7.mp i
   .rw[j q i];exact .head _
   .exact .tail _<|l q i
def KqL.has(h:KqL Z H ks tr us kq):∀y∈ks,∀e∈y.2,(gO kq y.1 e.1).isSome:=by
 induction h with
 | nil=>intro y b;cases b
 | @cons y z u w ks tr us kq h t x=>
  intro l a e s;obtain⟨n,j,m,A,o,r,f,q⟩:=h;unfold gO;rw[II]
  split
  .rfl
  .rename_i hn
   obtain rfl|a:=vj0.mp a
   .rw[bG<|j.trans A.symm]at hn;obtain⟨i,B⟩:=vn2.mp s;obtain⟨d,hd,a1,_⟩:=A2.back f B;have:=Qj.map_eq_none_iff.mp hn;exact absurd (cN a1) ⇑[ub8.mp this d (dM hd)]
   .exact x l a e s
def KqL.fd(h:KqL Z H ks tr us kq)(a:gO kq n d\g):∃y∈ks,y.1=n/\∃e∈y.2,e.1=d/\DeedIs Z H g e:=by
 induction h with
 | nil=>cases a
 | @cons y z u w ks tr us kq h t B=>
  obtain⟨o,j,m,C,q,s,f,r⟩:=h;unfold gO at a;rw[II]at a
  split at a
  .rename_i v hv
   cases a
   split at hv
   .rename_i hn
    obtain⟨x,A,rfl⟩:=vh8.mp hv;have hd:x.1=d:=⇑[uT A]
    obtain⟨i,G⟩:=vn2.mp<|oE A;obtain⟨e,E,a1,D⟩:=f.get G;exact{y,.head _,(C.trans j.symm).trans hn,e,dM E,a1.symm.trans hd,D}
   .cases hv
  .obtain⟨l,b,e⟩:=B a;exact{l,.tail _ b,e}
def KqL.dq(h:KqL Z H ks tr us kq)(hp:H p\.tup [.ref kt,x,y])(o:H kt\(.tup<|us.map R7)):DeedsQ H p kq:=by
 refine{kt,us,x,y,hp,o,h.at.1,λj u w a b=>?_};obtain⟨B,_,z,l,A,s,G,q,r,m,_⟩:=h.at.2 j u w a b;refine{l,q,r,λd hd=>?_};obtain⟨i,E⟩:=vn2.mp hd;obtain⟨e,_,f,C,a1,n,_⟩:=m.get E;exact{_,by rw[f];exact n}
def LU(A:ProgIs Z H p ks m0):(∀z∈bQ ks m0,RowsIs Z H z.2)/\↑(bQ ks m0)<=961:=by
 obtain⟨J,us,lt,s,o,q,E,B,I⟩:=A;have i:∀y∈ks,∃u,KindIs Z H u y:=λy a=>by
  obtain⟨j,b⟩:=vn2.mp a;have hl:j<↑us:=by rw[q];exact(vh2.mp b).1
  exact{_,E j _ y (bM hl) b}
 constructor
 .intro z hz;obtain rfl|hz:=vj0.mp hz
  .exact B
  .obtain⟨y,a,hz⟩:=ub3.mp hz;obtain⟨e,M,rfl⟩:=vj2.mp hz;obtain⟨u,ev,x,fs,C,G,f,m,n⟩:=i y a;obtain⟨j,b⟩:=vn2.mp M;have hl:j<↑fs:=by rw[f];exact(vh2.mp b).1
   obtain⟨_,_,_,_,r⟩:=m j _ e (bM hl) b;exact r
 .have d:∀l:Qi (zZ×Qi Dz),(∀y∈l,↑y.2<=80)->↑(l.flatMap fN)<=80*↑l:=by
   intro l
   induction l with
   | nil=>intro _;exact aV _
   | cons y l L=>
    intro h;have s:=h y<|.head _;have o:=L λz hz=>h z<|.tail _ hz;rw[zJ,bK,cK];have:↑(fN y)=↑y.2:=yB _;lia
  have:=d ks λy a=>by obtain⟨u,ev,x,fs,C,G,f,m,n⟩:=i y a;lia
  unfold bQ;rw[cK];lia
def QA(I:ProgIs Z H p ks m0)(M:KindsAt H p tr)(ok:TrOk tr)(O:↑tr<=12)(aj:LateAt H p tr late)(W:NK Z ks tr)(E:Qi Ql)(hc:∀c∈E,-100<=c):
  ∃(G:Pg)(m:Qi LL)(J:Qk),G.ch=E/\(∀k,k∉tr.map (·.1)->G.ln k=[])/\∀H',FrS [] H H'->HX (⟨Z,H',p,G⟩:Rx Y) H' ks m0 tr late m J:=by
 obtain⟨kt,us,lt,T,h2,h3,h4,h5,h6⟩:=id I;obtain⟨ao,ts,x,y,g1,g2,g3,g4⟩:=id M;rw[T]at g1;cases g1;rw[h2]at g2;have a7:us=ts:=by
  have e:us.map R7=ts.map R7:=HO.tup.inj<|iZ g2;exact(Vl λa b h=>R7.inj h).mp e
 subst a7;obtain⟨kq,o⟩:=KqL.ex us ks tr h3 g3 h4 g4;obtain⟨hR,al⟩:=LU I;obtain⟨m,J,hB,ak⟩:=LyB.mk (bQ ks m0) hR 0;obtain⟨ln,j⟩:∃ln:zZ->Z2,∀k,(k∈tr.map (·.1)->Up tr k (ln k))/\(k∉tr.map (·.1)->ln k=[]):=by
  have:∀k,∃l,(k∈tr.map (·.1)->Up tr k l)/\(k∉tr.map (·.1)->l=[]):=λk=>by
   by_cases c:k∈tr.map (·.1)
   .obtain⟨z,hz,rfl⟩:=vj2.mp c;obtain⟨i,hi⟩:=vn2.mp hz;obtain⟨l,hl⟩:=Up.exists ok i _ _ hi;exact{l,λ_=>hl,λh=>absurd c h}
   .exact⟨[],λh=>absurd h c,λ_=>U⟩
  exact{λk=>(this k).choose,λk=>(this k).choose_spec}
 obtain⟨F,A⟩:∃F:zZ->zZ->Z2×Qj zZ,∀f d,((F f d).1.length<=1000/\("own":zZ)∉(F f d).1)/\∀g,gO kq f d\g->∃pt v,H g\.tup [.str d,.ref pt,v,bB (F f d).2]/\H pt\(.tup<|(F f d).1.map R6):=by
  have:∀f d,∃r:Z2×Qj zZ,(↑r.1<=1000/\("own":zZ)∉r.1)/\∀g,gO kq f d\g->∃pt v,H g\.tup [.str d,.ref pt,v,bB r.2]/\H pt\(.tup<|r.1.map R6):=λf d=>by
   cases e:gO kq f d with
   | none=>exact{([],Qq),{cE _,aN},λg h=>nomatch h}
   | some g=>
    obtain⟨y,_,_,u,_,rfl,an,am,d1,⟨pt,ps,N,rfl,p2,rfl,p4,p5⟩,_⟩:=o.fd e;exact{(ps,N),⟨p4,p5⟩,λg' h=>by cases h;exact{pt,_,d1,p2}}
  exact{λf d=>(this f d).choose,λf d=>(this f d).choose_spec}
 refine{{tr.map (·.1),λn d=>(n,d)∈(bQ ks m0).map (·.1),ln,λk d=>(dZ kq d<|ln k).getD "",λk d=>pD kq d<|ln k,λf d=>(F f d).1,λf d=>(F f d).2,λn d=>mJ (((bQ ks m0).map (·.1)).zip m) (n,d),E},m,J,U,λk=>(j k).2,λH' f=>?_};have t:=T4 f;have aa:∀(L:Qi LL)(zs:Qi Bz)(k k2:Qk),LyB Z H k zs L k2->∀l∈L,l.size<=80/\l.dep<=4:=λL zs k k2 h=>by
  induction h with
  | nil=>intro l hl;cases hl
  | cons _ s hz _ ih=>
   intro l hl;obtain rfl|hl:=vj0.mp hl
   .exact⟨hz.1,s.dep⟩
   .exact ih l hl
 have B:∀n d,(mJ (((bQ ks m0).map (·.1)).zip m) (n,d)).size<=80/\(mJ (((bQ ks m0).map (·.1)).zip m) (n,d)).dep<=4:=λn d=>vN (p:=λl=>l.size<=80/\l.dep<=4) _ _ ⟨cE _,cE _⟩ λz hz=>aa m _ _ _ hB _ (xO hz).2;refine {p:=I.keep t,k:=M.keepT t,l:=aj.keep t,t12:=O,b:=hB.keep t,k6:=by lia,hs:=λn d h=>h,h0:=by show _∈(bQ ks m0).map (·.1);exact .head _,bo:=λ_ _=>U,pg:={tr,kq,?_},pz:=?_,nm:=λx hx=>(vq0.mp hx).1}
 .refine {kn:=M.keepT t,dq:=(o.dq T h2).keep t,ok:=ok,l12:=O,nm:=rfl,ln:=λk hk=>(j k).1 hk,z0:=W.nb,ch:=hc,fn:=(o.fn ok.nd).1,ca:=λk d hz x hx ae=>?_};obtain⟨ap,n,l,ai,ad,y,hy,a8,e,he,ah⟩:=W.hz k d hz;have af:=(j x).1 hx;obtain⟨l',ac,a4⟩:=af.suf k ae;have hn:n∈ln x:=by
   have:=Up.inj ok ai ac;exact a4.subset (by rw[<-this];exact ad)
  have a1:(gO kq n d).isSome:=by rw[<-a8,<-ah];exact o.has y hy e he
  cases ea:dZ kq d (ln x)with
  | none=>exact absurd a1 ⇑[ub8.mp ea n hn]
  | some fx=>
   have ab:(gO kq fx d).isSome:=uT (p:=λx=>(gO kq x d).isSome) ea;obtain⟨g,C⟩:=uh4.mp ab;obtain⟨pt,v,e1,e2⟩:=(A fx d).2 g C;obtain⟨X,a9,a2,u,ag,a5,_⟩:=o.fd C;have q:(dZ kq d<|ln x).getD ""=fx:=by rw[ea];rfl
   refine{g,pt,v,?_,?_,?_,?_,?_,U,(B _ _).1,(A _ _).1.1}
   .show dZ kq d (ln x)=Qp ((dZ kq d<|ln x).getD "");rw[q];exact ea
   .show gO kq ((dZ kq d<|ln x).getD "") d=Qp g;rw[q];exact C
   .show H' g=Qp (.tup [.str d,.ref pt,v,bB (F ((dZ kq d<|ln x).getD "") d).2]);rw[q];exact t _ _ e1
   .show H' pt=Qp (.tup<|(F ((dZ kq d<|ln x).getD "") d).1.map R6);rw[q];exact t _ _ e2
   .show((dZ kq d<|ln x).getD "",d)∈(bQ ks m0).map (·.1);rw[q];refine .tail _<|vj2.mpr {((X.1,u.1),u),ub3.mpr {X,a9,vj2.mpr ⟨u,ag,rfl⟩},?_};rw[a2,a5]
 .refine⟨λf d=>(B f d).1,λf d=>(A f d).1.1,λk=>?_,λk x hx=>?_,λf d=>(A f d).1.2,λf d=>(B f d).2⟩
  .by_cases c:k∈tr.map (·.1)
   .have hu:=(j k).1 c;obtain⟨i,N,hi⟩:=hu.at;have:=Up.len ok i k N _ hi hu;have:=(vh2.mp hi).1;show(ln k).length<=12;lia
   .show(ln k).length<=12;rw[(j k).2 c];exact cE _
  .by_cases c:k∈tr.map (·.1)
   .exact((j k).1 c).mem x hx
   .have hx:x∈ln k:=hx;rw[(j k).2 c]at hx;cases hx
inductive RowIs(Z:Z0)(H:Hp)(a:eH):Prop
 | mk(w:zZ)(rest:Qi V)(h:H a\(.tup<|.str w::rest))(c:w="call"->CallR Z H a)(m:w="make"->∃x k:zZ,rest=[.str x,.str k]):RowIs Z H a
theorem RowIs.keep(h:RowIs Z H a)(f:Tup H H'):RowIs Z H' a:=by
 obtain⟨w,rest,h,c,m⟩:=h;exact{w,rest,f _ _ h,λe=>(c e).keep f,m}
def Row1.is(h:Row1 Z H a):RowIs Z H a:=by
 obtain⟨r,h,_⟩|⟨x,y,k,d,g,i,h,b,hl,f⟩:=h
 .cases r with
  | make x k=>exact{_,_,h,λe=>absurd e (by rfl'),λ_=>⟨x,k,rfl⟩}
  | _=>exact{_,_,h,λe=>absurd e (by rfl'),λe=>absurd e<|by rfl'}
 .exact⟨_,_,h,λ_=>⟨x,y,k,d,g,i,h,b,hl,f⟩,λe=>absurd e<|by rfl'⟩
theorem Fl.is(h:Fl Z H n rs fs):∀a∈fs,RowIs Z H a:=by
 induction h with
 | nil=>exact λ_ h=>nomatch h
 | one h _ i=>exact vn4.mpr {h.is,i}
 | again h hl s _ d b=>exact vn4.mpr {{_,_,h,λe=>absurd e (by rfl'),λe=>absurd e<|by rfl'},Qi.forall_mem_append.mpr ⟨d,b⟩}
 | either h j l m o _ d b f=>exact vn4.mpr {{_,_,h,λe=>absurd e (by rfl'),λe=>absurd e<|by rfl'},Qi.forall_mem_append.mpr {d,Qi.forall_mem_append.mpr ⟨b,f⟩}}
abbrev Fz:=(zZ×zZ)×eH
def cL(L:Qi Bz):Qi Fz:=L.flatMap λz=>z.2.2.2.2.map λa=>(z.1,a)
inductive CaIs(K:Fq)(H:Hp)(e:eH)(q:Fz×Qk):Prop
 | mk(bd:eH)(h:H e\.tup [.int (q.2:Ql),.ref bd,.ref q.1.2])(hb:BT K H bd q.1.1):CaIs K H e q
theorem CaIs.keep(h:CaIs K H e q)(f:Tup H H'):CaIs K H' e q:=by
 obtain⟨bd,h,a⟩:=h;exact{bd,f _ _ h,a.keep f}
def _root_.L2.A2.ckeep(h:A2 (CaIs K H) qs L)(f:Tup H H'):A2 (CaIs K H') qs L:=h.imp λ_ _ g=>g.keep f
def En.ca(b:BT K H bd n)(h:En H bd k es as):A2 (CaIs K H) es ((as.map λa=>(n,a)).zipIdx k):=by
 induction h with
 | nil=>exact .nil
 | cons h _ d=>exact .cons ⟨bd,h,b⟩ d
def ProgIs.rows(h:ProgIs Z H p ks m0):∀z∈bQ ks m0,RowsIs Z H z.2:=(LU h).1
def xR{L:Qi Bz}:(∀z∈L,RowsIs Z H z.2)->↑(cL L)<=80*L.length:=by
 induction L with
 | nil=>exact λ_=>cE _
 | cons z L e=>
  intro h;have b:=e λy a=>h y<|.tail _ a;obtain⟨_,_,d⟩:=h z<|.head _;unfold cL at b ⊢;rw[zJ,bK,aF,cK];lia
def pC(h:∀z∈L,RowsIs Z H z.2):∀q∈cL L,RowIs Z H q.2:=by
 intro q b;unfold cL at b;obtain⟨z,f,b⟩:=ub3.mp b;obtain⟨a,d,rfl⟩:=vj2.mp b;obtain⟨_,e,_⟩:=h z f;exact e.is a d
def FrS.own(f:FrS [] H Hx)(g:FrS [a] Hx Hy)(h:H a=Qq):FrS [] H Hy:=λb o _ e=>g b o ⇑[bF e h]<|f b o aN e
inductive IQ(K:Fq)(vs:Qi V)(H:Hp)(Q:VK)(_:XK):Prop
 | mk(Z:Z0)(p:eH)(ks:Qi (zZ×Qi Dz))(m0:Dz)(h1:vs=[.ref p])(h2:ProgIs Z H p ks m0)(h3:∀(b:eH)(ns:Z3)(H':Hp),FrS [] H H'->H' b\(.tup<|ns.map R7)->A2 (CaIs K H') ns ((cL<|bQ ks m0).zipIdx 0)->Q (.ref b) H')
inductive GC(K:Fq)(H H1:Hp)(p fd:eH)(L:Qi Bz)(i:Qk)(σ:St)(Hx:Hp):Prop
 | mk(a b:Qj V)(ns:Z3)(hσ:σ=[Qp<|.ref p,Qp<|.ref fd,a,b])(fr:FrS [] H Hx)(tp:Tup H1 Hx)(hf:Hx fd\(.lst<|ns.map R7))(ha:A2 (CaIs K Hx) ns ((cL<|L.take i).zipIdx 0)):GC K H H1 p fd L i σ Hx
def xb2:cC ["program","found","body","rows"] qK (bX sU):=cF
def Nc{k:Qk}(F:X0 "numbered" sU f fd)(BO:X1 k "bodies" qK (GZ K))(LA:X1 k "lay" sG (lF 4))(ac:mg "tuple"=Qq):↥qK (IQ K):=by
 refine F.ok xb2 ⇑?_;obtain⟨Z,p,ks,l,rfl,m,q⟩:=h;exists _,aJ (sL 1 xb2.nd<|cX aA)
  (aJ (eZ eN rfl (gB<|⇑@BO<|av 0 aA) (dX (n:=2) rfl<|bI (gL 2 xb2.nd)<|bI (gL 3 xb2.nd) dV)<|aY<|eX<|⇑@LA<|av 2<|av 3<|av 1 aA)<|aY<|bR<|eV gR rfl ac (by rfl')<|av 1 aA)
 ac_rfl
 refine{cE _,λfl r=>?_};have f0:FrS [] H (upd H fl<|.lst []):=S0 r;refine{6,p,ks,l,U,m.keep<|T3 r,λb qs G J C o af=>{b,U,{_,T2 C},?_}};have a7:=J _ _ aN zb0;have M:=f0.trans J;have j:∀z∈bQ ks l,RowsIs Z G z.2:=(m.keep<|T4 M).rows;have T:=o.len;have a9:↑(bQ ks l)<=961:=(LU m).2;generalize bQ ks l=L at o j T q a9;have aa:=xR j;refine gG (xs:=qs.map R7) (GC K H G p fl L) {_,_,[],U,M,(λ_ _ h=>h),a7,.nil} ?_ ?_ ?_
 .rintro i σ I hi ⟨_,_,_,_,_,tp,_⟩;exact T2<|tp _ _ C
 .rintro i x σ I hx ⟨a0,b0,e,rfl,fr,tp,a1,d⟩;rw[bP,vh8]at hx;obtain⟨u,hu,rfl⟩:=hx;obtain⟨z,hz,bd,u1,u2⟩:=o.get hu;obtain⟨X,r3,r4⟩:=(j z<|dM hz).keep tp;have eF:cL (L.take<|i+1)=cL (L.take i)++z.2.2.2.2.map λa=>(z.1,a):=by
   unfold cL;rw[dE,hz,sW];simp
  have B:=d.len;rw[kD]at B;have a8:↑(cL<|L.take i)<=80*L.length:=by
   have:=xR (L:=L.take i) λy hy=>j y<|lT hy;have h2:↑(L.take i)<=L.length:=by rw[dR];lia
   lia
  obtain⟨Lz,ab,ae⟩:=r3.ly ↑e;exists u,6,T2<|tp _ _ u1,U,_,6,_,6,U;refine{6,6,6,Z,bd,z.2.2.1,fl,z.2.2.2.1,e,Lz,6,X,ab,a1,∅,λx xs nx Hy O ad _ _ _ W=>?_};have ty:=O.tup1 a1;exists _,_,e++nx,U,fr.own O r,tp.trans ty,ad;rw[eF,Qi.zipIdx_append];refine(d.ckeep ty).app ?_;have:=W.ca<|u2.keep<|tp.trans ty;rwa [ae,B,<-lW ↑(cL<|L.take i)]at this
 .rintro σ I ⟨a0,b0,e,rfl,fr,tp,a1,d⟩;rw[aF,T,cW<|aV _]at d;refine{6,fl,6,.inl {T1 a1,λc N=>?_}};exact q c e _ (fr.trans<|S0 N) zb0<|d.ckeep<|T3 N
def Jk(A B:Qi Bz):cL (A++B)=cL A++cL B:=by
 unfold cL;rw[sW]
def ProgIs.many(h:ProgIs Z H p ks m0):↑(bQ ks m0)<=1000:=by
 obtain⟨x,us,lt,_,_,b,l,_,s⟩:=h;have a:∀ks:Qi (zZ×Qi Dz),(∀y∈ks,↑y.2<=80)->↑(ks.flatMap fN)<=80*↑ks:=by
  intro ks
  induction ks with
  | nil=>intro _;exact cE _
  | cons y ks B=>
   intro h;have r:=B λz A=>h z<|.tail _ A;have o:=h y<|.head _;have b:↑(fN y)=↑y.2:=by unfold fN;rw[aF]
   rw[zJ,bK,cK];lia
 have n:=a ks λy i=>by
  obtain⟨j,d⟩:=vn2.mp i;have f:j<↑us:=by rw[b];exact(vh2.mp d).1
  obtain⟨e,q,fs,_,_,u,_,m⟩:=l j us[j] y (bM f) d;lia
 unfold bQ;rw[cK];lia
abbrev sI:Qd:=top 3
open Classical in
noncomputable def below(tr:Tr)(o x:zZ):Bool:=decide (∃l,Up tr x l/\o∈l)
open Classical in
def yL(ok:TrOk tr)(h:Up tr x l):decide (o∈l)=below tr o x:=by
 unfold below
 by_cases e:o∈l
 .rw[cN e];exact(cN ⟨l,h,e⟩).symm
 .rw[fE e];refine(fE ?_).symm;rintro⟨b,d,a⟩;rw[Up.inj ok h d]at e;exact e a
def FY(b:PI X tg l w1)(d:PI X tg l w2):PI X tg l (λe H R=>w1 e H R\/w2 e H R):=λa s e H R I h=>h.elim (b a s e H R I)<|d a s e H R I
def LT(H:Hp)(a:eH)(xs:Qi V):Prop:=H a=Qp (.lst xs)\/H a\.tup xs
def LT.keep(h:LT H a xs)(f:FrS [] H H'):LT H' a xs:=h.imp (f _ _ aN)<|f _ _ aN
def Nq(q:s[j]?\(Qp<|R7 a))(f:LT H a xs)(h:∀e,H e=Qq->∃d:Qk->St->Hp->Prop,d 0 (sub src s) (upd H e<|.lst [])/\(∀i s H',i<=↑xs->d i s H'->FrS [] H H')/\(∀i x s H,xs[i]?\x->d i s H->g x s H λu C=>tt u C λb B=>if b=Qr then te u B λv r=>∃ys,r e\.lst ys/\↑ys<sizeLine/\d (i+1) u (upd r e<|.lst<|ys++[v]) else d (i+1) u B)/\∀s H,d ↑xs s H->Q (.ref e) H):
  BA (λs H R=>OV K (aG j) s H R\/HC K (aG j) s H R) src g tt te s H Q:=by
 obtain f|f:=f
 .refine .inl ⟨_,q,a,rfl,⟨_,T1 f⟩,λe l=>?_⟩;obtain⟨d,z,o,m,n⟩:=h e l;exact iT (xs:=xs) d z (λi s H' A p=>T1<|o i s H' A p _ _ aN f) m n
 .refine .inr ⟨_,q,a,rfl,⟨_,T2 f⟩,λe l=>?_⟩;obtain⟨d,z,o,m,n⟩:=h e l;exact gG (xs:=xs) d z (λi s H' A p=>T2<|o i s H' A p _ _ aN f) m n
inductive EH(vs:Qi V)(H:Hp)(Q:VK)(_:XK):Prop
 | mk(p a:eH)(o:zZ)(tr:Tr)(ss:Z2)(h1:vs=[.ref p,.ref a,.str o])(h2:KindsAt H p tr)(h3:TrOk tr)(h4:↑tr<=12)(h5:LT H a (ss.map R6))(h6:∀x∈ss,∃l,Up tr x l)(h7:↑ss<=64)
  (h8:∀(b:eH)(H':Hp),FrS [] H H'->H' b\(.lst<|(ss.filter<|below tr o).map R6)->Q (.ref b) H')
inductive CU(H1:Hp)(p Dl:eH)(o:zZ)(tr:Tr)(ss:Z2)(i:Qk)(σ:St)(Hx:Hp):Prop
 | mk(x:Qj V)(hσ:σ=[x,Qp<|.ref p,Qp<|.str o])(fr:FrS [] H1 Hx)(hD:Hx Dl\(.lst<|((ss.take i).filter<|below tr o).map R6)):CU H1 p Dl o tr ss i σ Hx
abbrev yY:Z2:=["program","kinds","other"]
def vC:cC yY yY (bX sI):=cF
def Mx(F:X0 "all_below" sI f fd)(N:X1 k "is_below" ["program","one","other"] CJ):↥yY EH:=by
 refine F.ok vC ⇑?_;obtain⟨p,a,o,X,Z,rfl,L,m,M,B,C,hl,q⟩:=h;have I:(["kind","program","other"]:Z2).Nodup:=by rfl'
 exists _,aY<|bR<|jB (N':=["kind","program","other"]) (src:=[Qq,Qp 0,Qp 2]) rfl eW (FY (gY<|pv 1)<|gB<|pv 1) (g:=cA 0) (λ_ _ _ _=>gL 0 I) (tt:=tB<|hV CJ [] E0<|bJ (aG 1)<|bJ (aG 0)<|bJ (aG 2) bN) (λ_ _ _ _=>mV<|HW<|⇑@N<|av 1<|av 0<|av 2 aA) λ_ _ _ _=>pv 0
 ac_rfl
 refine Nq (a:=a) (xs:=Z.map R6) rfl B λu z=>{CU H p u o X Z,{6,(FrS.refl).put z,zb0},?_,?_,?_}
 .rintro i σ e hi ⟨_,_,W,_⟩;exact W
 .rintro i x σ e hx ⟨G,rfl,W,b⟩;rw[bP,vh8]at hx;obtain⟨y,n,rfl⟩:=hx;obtain⟨l,j⟩:=C y<|dM n;have r:(Z.take<|i+1).filter (below X o)=(Z.take i).filter (below X o)++[y].filter (below X o):=by
   rw[dE,n,zO];rfl
  have T:↑((Z.take i).filter<|below X o)<=64:=by
   have J:=jJ (below X o)<|Z.take i;rw[dR]at J;lia
  refine{6,6,6,p,y,o,X,l,U,L.keepT<|T4 W,m,M,j,λO d=>{6,?_}};have a1:=d _ _ aN b;rw[yL m j];refine bE (λc=>?_) λc=>?_
  .exists _,rfl,_,a1,bS (by rw[aF];lia),_,rfl,(W.trans d).put z;rw[zb0,r,BN c,nW,bU];rfl
  .exists _,rfl,W.trans d;rw[r,IA c,nW,eA];exact a1
 .rintro σ e ⟨G,rfl,W,b⟩;rw[aF,cW<|aV _]at b;exact q u e W b
open Classical in
noncomputable def lineOf(tr:Tr)(x:zZ):Z2:=if h:∃l,Up tr x l then h.choose else []
def LK(ok:TrOk tr)(h:Up tr x l):lineOf tr x=l:=by
 unfold lineOf;rw[dif_pos ⟨l,h⟩];exact Up.inj ok (Exists.choose_spec (⟨l,h⟩:∃l,Up tr x l)) h
noncomputable def ansOf(kq:Kq)(tr:Tr)(x d:zZ):Qj zZ:=dZ kq d<|lineOf tr x
structure jV(Z:Z0)(tr:Tr)(kq:Kq):Prop where
 ca:∀k d x l,Z k (Qp d)->Up tr x l->k∈l->∃r,dZ kq d l\r/\r∈tr.map (·.1)
 dl:∃ds:Z2,↑ds<=6/\∀k d,Z k (Qp d)->d∈ds
def TK{Z:Z0}(L:jV Z tr kq)(ok:TrOk tr)(hz:Z k (Qp d))(hx:Up tr x l)(a:k∈l):∃r,ansOf kq tr x d\r/\r∈tr.map (·.1):=by
 unfold ansOf;rw[LK ok hx];exact L.ca k d x l hz hx a
def FrS.old0(f:FrS [] H H')(h:H' a=Qq):H a=none:=by
 cases e:H a with
 | none=>rfl
 | some o=>rw[f a o aN e]at h;cases h
def lL(H:Hp)(a:eH):Qj zZ:=match H a with
 | some (.tup<|.str w::r)=>if w="make" then(match r with | [_,.str k]=>Qp k | _=>Qq) else Qq
 | _=>Qq
def iR(H:Hp)(a:eH):Qj (zZ×zZ):=match H a with
 | some (.tup<|.str w::r)=>if w="call" then(match r with | [_,_,.str k,.str d,_]=>Qp (k,d) | _=>Qq) else Qq
 | _=>Qq
def IZ(h:RowIs Z H a)(f:Tup H H'):lL H' a=lL H a/\iR H' a=iR H a:=by
 obtain⟨w,rest,h,_,_⟩:=h;unfold lL iR;rw[h,f _ _ h];exact⟨rfl,rfl⟩
def Br{Z:Z0}{H:Hp}{a:eH}{w:zZ}{rest:Qi V}(h:H a\(.tup<|.str w::rest))(m:w="make"->∃x k:zZ,rest=[.str x,.str k]):(w="make"/\∃x k:zZ,rest=[.str x,.str k]/\lL H a\k)\/(w≠"make"/\lL H a=Qq):=by
 by_cases e:w="make"
 .obtain⟨x,k,rfl⟩:=m e;refine .inl {e,x,k,U,?_};unfold lL;rw[h];exact bG e
 .refine .inr ⟨e,?_⟩;unfold lL;rw[h];exact bA e
def xC{Z:Z0}{H:Hp}{a:eH}{w:zZ}{rest:Qi V}(h:H a\(.tup<|.str w::rest))(c:w="call"->CallR Z H a):(w="call"/\∃(x y k d:zZ)(g:eH),rest=[.str x,.str y,.str k,.str d,.ref g]/\iR H a\(k,d)/\Z k (Qp d))\/(w≠"call"/\iR H a=Qq):=by
 by_cases e:w="call"
 .obtain⟨x,y,k,d,g,ss,f,_,_,hz⟩:=c e;have b:=h;rw[f]at b;injection b with b;injection b with b;injection b with _ b;refine .inl {e,x,y,k,d,g,b.symm,?_,hz};unfold iR;rw[f];exact bG rfl
 .refine .inr ⟨e,?_⟩;unfold iR;rw[h];exact bA e
def gK(H:Hp)(ts:Z2)(a:eH):Z2:=match lL H a with
 | some k=>if k∈ts then [k] else []
 | none=>[]
noncomputable def clL(H:Hp)(kq:Kq)(tr:Tr)(ss:Z2)(a:eH):Qi (zZ×zZ):=match iR H a with
 | some (k,d)=>(ss.filter<|below tr k).map λx=>((ansOf kq tr x d).getD "",d)
 | none=>[]
abbrev SF:Qd:=top 22
abbrev XY:Qd:=top 23
inductive PJ(vs:Qi V)(H:Hp)(Q:VK)(_:XK):Prop
 | mk(th a:eH)(ts:Z2)(Z:Z0)(h1:vs=[.ref th,.ref a])(h2:H th\(.tup<|ts.map R6))(h3:RowIs Z H a)(h4:∀(l:eH)(H':Hp),FrS [] H H'->H l=Qq->H' l\(.lst<|(gK H ts a).map R6)->Q (.ref l) H')
def Dv:cC ["there","row"] ["there","row"] (bX SF):=cF
def Hi(F:X0 "kinds_by" SF f fd):↥["there","row"] PJ:=by
 refine F.ok Dv ⇑?_;obtain⟨u,a,ts,Z,rfl,d,⟨w,rest,b,o,j⟩,q⟩:=h;exists _,aY<|bR<|GW (PW.pt<|nJ (cG gF (eT ⇑1 aQ) bW<|cS _)<|oX<|cG (show dW _ _ (jF K Qs) from oH) (eT ⇑1 aQ) ⇑0 U) (cX<|aI (eT ⇑1 aQ) aA)<|cX aA
 ac_rfl
 have nil:gK H ts a=[]->(lC bN) [Qp<|.ref u,Qp<|.ref a] H Q:=λe=>⟨cE _,λl hl=>q l _ (S0 hl) hl<|by rw[e];exact zb0⟩
 exists 6,a,_,_,.str w,U,U,T2 b,nP _ _,U,6;obtain⟨rfl,x,r,rfl,e⟩|⟨n,e⟩:=Br (Z:=Z) b j
 .refine fX ?_;exists 6,a,_,_,.str r,U,U,T2 b,U,6,u,6,.inr<|T2 d,U,jL _,6;rw[jS];refine bE (λc=>?_) λc=>?_
  .have c:r∈ts:=⇑[c]
   exists 6,a,_,_,.str r,U,U,T2 b,U;refine{eQ rfl,λl hl=>q l _ (S0 hl) hl ?_};have m:gK H ts a=[r]:=by unfold gK;rw[e];exact bG c
   rw[m,zb0];rfl
  .have c:r∉ts:=⇑[c]
   refine nil ?_;unfold gK;rw[e];exact bA c
 .have i:(decide<|R6 w=R6 "make")=false:=fE λz=>n<|R6.inj z;show if (decide<|R6 w=R6 "make")=Qr then _ else _
  rw[i];refine cT<|cT<|nil ?_;unfold gK;rw[e]
inductive QY(vs:Qi V)(H:Hp)(Q:VK)(_:XK):Prop
 | mk(p kl a:eH)(kq:Kq)(tr:Tr)(ss:Z2)(Z:Z0)(h1:vs=[.ref p,.ref kl,.ref a])(h2:DeedsQ H p kq/\KindsAt H p tr)(h3:jV Z tr kq)(h4:TrOk tr)(h5:↑tr<=12)(h6:H kl\(.lst<|ss.map R6))(h7:∀x∈ss,∃l,Up tr x l)(h8:↑ss<=64)(h9:RowIs Z H a)
  (h10:∀(l:eH)(bs:Z3)(H':Hp),FrS [] H H'->H l=Qq->H' l\(.lst<|bs.map R7)->A2 (λb (n:zZ×zZ)=>H' b\.tup [.str n.1,.str n.2]) bs (clL H kq tr ss a)->Q (.ref l) H')
inductive Ao(H1:Hp)(p Dl a:eH)(F:zZ->zZ×zZ)(zs:Z2)(i:Qk)(σ:St)(Hx:Hp):Prop
 | mk(x:Qj V)(bs:Z3)(hσ:σ=[x,Qp<|.ref p,Qp<|.ref a])(fr:FrS [] H1 Hx)(hD:Hx Dl\(.lst<|bs.map R7))(ha:A2 (λb (n:zZ×zZ)=>Hx b\.tup [.str n.1,.str n.2]) bs ((zs.take i).map F)):Ao H1 p Dl a F zs i σ Hx
abbrev DS:Z2:=["program","kinds","row"]
def Ng:cC DS DS (bX XY):=cF
def Ku(F:X0 "bodies_by" XY f fd)(AN:X1 k "answer" qI oV)(AB:X1 k "all_below" yY EH):↥DS QY:=by
 refine F.ok Ng ⇑?_;obtain⟨p,kl,a,kq,tr,ss,Z,rfl,hD,hL,m,ad,ah,hU,a7,⟨w,rest,u,hc,hm⟩,q⟩:=h;have af:(["kind","program","row"]:Z2).Nodup:=by rfl'
 exists _,aJ (cY (cG EM (eT ⇑2 aQ) bW<|cS _) (aY<|bR<|cX aA) dJ)
  (aY<|bR<|jB (N':=["kind","program","row"]) (src:=[Qq,Qp 0,Qp 2]) rfl eW (gY<|⇑@AB<|av 0<|av 1<|aI (eT ⇑2 aQ) aA) (g:=cA 0) (λ_ _ _ _=>gL 0 af) (λ_ _ _ _=>gP) (te:=fF<|bJ (hV oV [] E0<|bJ (aG 1)<|bJ (aG 0)<|bJ (dG (cO K) (aG 2)<|tC<|.int 4) bN)<|bJ (dG (cO K) (aG 2)<|tC<|.int 4) bN) λ_ _ _ _=>cZ<|aI (⇑@AN<|av 1<|av 0<|aI (eT ⇑2 aQ) aA)<|aI (eT ⇑2 aQ) aA)
 ac_rfl
 exists 6,a,_,_,.str w,U,U,T2 u,nP _ _,U,6;obtain⟨rfl,x,y,kk,d,gg,rfl,e,hz⟩|⟨n,e⟩:=xC u hc
 .refine cT ?_;have T:clL H kq tr ss a=(ss.filter<|below tr kk).map λx=>((ansOf kq tr x d).getD "",d):=by
   unfold clL;rw[e]
  rw[T]at q;have hK:=hD.2;refine{6,6,6,a,_,_,.str kk,U,U,T2 u,U,p,kl,kk,tr,ss,U,hK,m,ad,.inl ah,hU,a7,λb H1 O M=>{b,U,{_,T1 M},λo J=>?_}};have aj:↑(ss.filter<|below tr kk)<=64:=fM (jJ _ _) a7;generalize hzs:ss.filter (below tr kk)=I at q M aj;refine iT (xs:=I.map R6) (Ao H1 p o a (λx=>((ansOf kq tr x d).getD "",d)) I) {_,[],U,(FrS.refl).put J,zb0,.nil} ?_ ?_ ?_
  .rintro i σ C hi ⟨_,_,_,fr,_⟩;exact T1<|fr _ _ aN M
  .rintro i v σ C hv ⟨x0,bs,rfl,fr,W,j⟩;rw[bP,vh8]at hv;obtain⟨z,a6,rfl⟩:=hv;have ak:z∈ss.filter (below tr kk):=by rw[hzs];exact dM a6
   obtain⟨ae,aa⟩:=vq0.mp ak;obtain⟨l,B⟩:=hU z ae;have a2:kk∈l:=by
    rw[<-yL m B]at aa;exact dH aa
   obtain⟨r,N,_⟩:=TK hL m hz B a2;have a1:=O.trans fr;have a9:=a1 _ _ aN u;refine{6,6,6,a,_,_,.str d,U,U,T2 a9,U,p,z,d,kq,tr,l,U,hD.1.keep<|T4 a1,hK.keepT<|T4 a1,m,ad,B,λHy G=>?_};have L:dZ kq d l\r:=by
    unfold ansOf at N;rwa [LK m B]at N
   rw[L];have ai:=G _ _ aN a9;refine{6,a,_,_,.str d,U,U,T2 ai,U,eQ rfl,λtp X=>?_};have ab:=G _ _ aN W;have a8:o≠tp:=bF ab X;have ac:upd Hy tp (.tup [bB<|some r,R6 d]) o\(.lst<|bs.map R7):=by rw[aE a8];exact ab
   have al:↑bs<=64:=by
    have:=j.len;rw[aF,dR]at this;lia
   have ag:Tup C (upd (upd Hy tp<|.tup [bB<|some r,R6 d]) o<|.lst<|(bs++[tp]).map R7):=((T4 G).trans<|T3 X).trans<|Tup.lst ac;have ea:bs.map R7++[R7 tp]=(bs++[tp]).map R7:=by rw[bU];rfl
   exists _,ac,bS (by rw[aF];lia);rw[ea];exists _,bs++[tp],U,((fr.trans G).trans<|S0 X).put J,zb0;have e9:(I.take<|i+1).map (λx=>((ansOf kq tr x d).getD "",d))=(I.take i).map (λx=>((ansOf kq tr x d).getD "",d))++[((ansOf kq tr z d).getD "",d)]:=by
    rw[dE,a6,bU];rfl
   rw[e9];refine(j.imp λb n h=>ag _ _ h).app<|.cons ?_ .nil;show upd _ _ _ tp=Qp (.tup [.str<|(ansOf kq tr z d).getD "",.str d]);rw[N,aE<|cJ a8,zb0];rfl
  .rintro σ C ⟨x0,bs,rfl,fr,W,j⟩;rw[aF,cW<|aV _]at j;exact q o bs C (O.trans fr) (O.old0 J) W j
 .have L:(decide<|R6 w=R6 "call")=false:=fE λz=>n<|R6.inj z;show if (!decide (R6 w=R6 "call"))=Qr then _ else _
  rw[L];refine fX {cE _,λl hl=>q l [] _ (S0 hl) hl zb0 ?_};have T:clL H kq tr ss a=[]:=by unfold clL;rw[e]
  rw[T];exact .nil
section
variable{α:Type}[DecidableEq α]
def bZ(l more:Qi α):Qi α:=more.foldl (λa k=>if k∈a then a else a++[k]) l
def Bw(l:Qi α):bZ l []=l:=rfl
def zE(l:Qi α)(k:α)(more:Qi α):bZ l (k::more)=bZ (if k∈l then l else l++[k]) more:=rfl
def nK:∀(more l:Qi α)(x:α),x∈bZ l more↔x∈l\/x∈more:=λmore=>more.recOn
 (λl x=>by rw[Bw];simp)
 λk more a l x=>by
  rw[zE,a _ x]
  by_cases c:k∈l
  .rw[bG c,vj0]
   constructor
   .rintro(h | h)
    .exact .inl h
    .exact .inr<|.inr h
   .rintro(h | rfl | h)
    .exact .inl h
    .exact .inl c
    .exact .inr h
  .rw[bA c,vj7,vj1,vj0,or_assoc]
def SL:∀(more l:Qi α),l.Nodup->(bZ l more).Nodup:=λmore=>more.recOn
 (λl h=>h)
 λk more a l h=>by
  rw[zE];refine a _ ?_
  by_cases c:k∈l
  .rw[bG c];exact h
  .rw[bA c];exact DX h c
def ZZ:∀(more l:Qi α),↑l<=↑(bZ l more)/\(↑(bZ l more)=↑l->bZ l more=l):=λmore=>more.recOn
 (λl=>⟨aV _,λ_=>U⟩)
 λk more a l=>by
  rw[zE]
  by_cases c:k∈l
  .rw[bG c];exact a l
  .rw[bA c];obtain⟨b,d⟩:=a<|l++[k];rw[bK,fI]at b;exact{∅,λe=>by lia}
end
abbrev MN:zZ×zZ:=("","")
def wF(ds:Z2):∀l:Z2,↑(l.flatMap λr=>ds.map λd=>(r,d))=↑l*↑ds:=λl=>l.recOn
 ↥_
 λr l a=>by rw[zJ,bK,a,aF,cK,Yn,Yp]
def Sat(H0:Hp)(kq:Kq)(tr:Tr)(ts:Z2)(come:Qi (zZ×zZ))(a:Z2)(q:Fz):Prop:=q.1∈come->(∀k∈gK H0 ts q.2,k∈a)/\∀n∈clL H0 kq tr a q.2,n∈come
structure MdOk(H0:Hp)(kq:Kq)(tr:Tr)(L:Qi Fz)(ts:Z2)(come:Qi (zZ×zZ))(kinds:Z2):Prop where
 m0:MN∈come
 nk:kinds.Nodup
 nc:come.Nodup
 kt:∀k∈kinds,k∈ts/\∃q∈L,q.1∈come/\lL H0 q.2\k
 co:∀n∈come,n=MN\/∃q∈L,q.1∈come/\q.1≠n/\n∈clL H0 kq tr kinds q.2
 ls:∀(C:Qi (zZ×zZ))(Ks:Z2),MN∈C->(∀q∈L,Sat H0 kq tr ts C Ks q)->(∀n∈come,n∈C)/\∀k∈kinds,k∈Ks
def LP(h:∀x∈ss,x∈ss'):∀n∈clL H0 kq tr ss a,n∈clL H0 kq tr ss' a:=by
 intro n b;unfold clL at b ⊢;cases e:iR H0 a with
 | none=>rw[e]at b;exact b
 | some j=>
  obtain⟨k,d⟩:=j;rw[e]at b;obtain⟨x,l,rfl⟩:=vj2.mp b;obtain⟨f,i⟩:=vq0.mp l;exact vj2.mpr {x,vq0.mpr {h x f,i},U}
def xs2:k∈gK H0 ts a↔lL H0 a=Qp k/\k∈ts:=by
 unfold gK;cases e:lL H0 a with
 | none=>exact{λh=>(nomatch h),λh=>(nomatch h.1)}
 | some b=>
  show k∈(if b∈ts then [b] else [])↔_
  by_cases c:b∈ts
  .rw[bG c,vj1];exact{λh=>{by rw[h],by rw[h];exact c},λh=>(iZ h.1).symm}
  .rw[bA c];exact{λh=>(nomatch h),λh=>absurd h.2<|by rw[<-iZ h.1];exact c}
section
variable{H0:Hp}{kq:Kq}{tr:Tr}{L:Qi Fz}{ts:Z2}{come:Qi (zZ×zZ)}{kinds:Z2}
def MdOk.start:MdOk H0 kq tr L ts [MN] []:=⟨.head _,lO,vn3.mpr ⟨aN,lO⟩,λ_ h=>(nomatch h),λn h=>.inl<|vj1.mp h,λC a b _=>⟨λn h=>by rw[vj1.mp h];exact b,λ_ h=>nomatch h⟩⟩
def MdOk.make(h:MdOk H0 kq tr L ts come kinds)(i:q∈L)(f:q.1∈come):MdOk H0 kq tr L ts come (bZ kinds<|gK H0 ts q.2):=by
 refine{h.m0,SL _ _ h.nk,h.nc,λk a=>?_,λn j=>?_,λC d m b=>{(h.ls C d m b).1,λk a=>((nK _ _ _).mp a).elim ((h.ls C d m b).2 k)<|(b q i<|(h.ls C d m b).1 _ f).1 k}}
 .obtain a|a:=(nK _ _ _).mp a
  .exact h.kt k a
  .obtain⟨e,l⟩:=xs2.mp a;exact⟨l,q,i,f,e⟩
 .obtain e|⟨r,hr,h1,h2,h3⟩:=h.co n j
  .exact .inl e
  .exact .inr ⟨r,hr,h1,h2,LP (λx o=>(nK _ _ _).mpr<|.inl o) n h3⟩
def MdOk.call(h:MdOk H0 kq tr L ts come kinds)(l:q∈L)(f:q.1∈come):MdOk H0 kq tr L ts (bZ come<|bZ []<|clL H0 kq tr kinds q.2) kinds:=by
 have b:∀n,n∈come->n∈bZ come (bZ []<|clL H0 kq tr kinds q.2):=λn a=>(nK _ _ _).mpr<|.inl a;refine{b _ h.m0,h.nk,SL _ _ h.nc,λk x=>?_,λn a=>?_,λC u A m=>?_}
 rotate_right
 .obtain⟨o,s⟩:=h.ls C u A m;refine{λn a=>?_,s};obtain a|a:=(nK _ _ _).mp a
  .exact o n a
  .obtain a|a:=(nK _ _ _).mp a
   .cases a
   .exact(m q l<|o _ f).2 n (LP s n a)
 .obtain⟨j,r,d,i,z⟩:=h.kt k x;exact{j,r,d,b _ i,z}
 .by_cases c:n∈come
  .obtain e|⟨r,hr,j,d,i⟩:=h.co n c
   .exact .inl e
   .exact .inr ⟨r,hr,b _ j,d,i⟩
  .obtain a|a:=(nK _ _ _).mp a
   .exact absurd a c
   .obtain a|a:=(nK _ _ _).mp a
    .cases a
    .exact .inr ⟨q,l,b _ f,λe=>c (by rw[<-e];exact f),a⟩
end
def MdOk.few(h:MdOk H0 kq tr L ts come kinds){Z:Z0}(f:jV Z tr kq)(ok:TrOk tr)(m:↑tr<=12)(j:∀q∈L,RowIs Z H0 q.2)(B:↑ts<=12)(s:∀x∈ts,∃l,Up tr x l):
  ↑come<=73/\↑kinds<=12:=by
 obtain⟨ds,z,a1⟩:=f.dl;refine{?_,fM (KL kinds ts h.nk λx G=>(h.kt x G).1) B};have:=KL come (MN::(tr.map (·.1)).flatMap λr=>ds.map λd=>(r,d)) h.nc λn u=>by
  obtain rfl|⟨q,M,_,_,E⟩:=h.co n u
  .exact .head _
  .refine jD _ ?_;obtain⟨w,rest,o,C,_⟩:=j q M;unfold clL at E;obtain⟨_,_,_,k,d,_,_,e,H⟩|⟨_,e⟩:=xC o C
   .rw[e]at E;obtain⟨x,G,rfl⟩:=vj2.mp E;obtain⟨A,a⟩:=vq0.mp G;obtain⟨l,b⟩:=s x (h.kt x A).1;rw[<-yL ok b]at a;obtain⟨r,i,J⟩:=TK f ok H b<|dH a;rw[i];exact ub3.mpr {r,J,vj2.mpr {d,a1 k d H,U}}
   .rw[e]at E;cases E
 have e:↑((tr.map (·.1)).flatMap λr=>ds.map λd=>(r,d))=↑tr*↑ds:=by
  rw[wF,aF]
 rw[cK,e]at this;have a:↑tr*↑ds<=12*6:=G8 m z;lia
def gD(l:Z2):Qi (aK×V):=l.map λk=>(Qt k,V.bl Qr)
def uZ{q o:Type}[DecidableEq q][DecidableEq o](f:o->q)(n:∀a b,f a=f b->a=b)(l:Qi o)(k:o):aX (l.map λa=>(f a,V.bl Qr)) (f k) (V.bl Qr)=(if k∈l then l else l++[k]).map λa=>(f a,V.bl Qr):=by
 have i:((l.map λa=>(f a,V.bl Qr)).any λd=>decide<|d.1=f k)=decide (k∈l):=by
  rw[rR,ub1,DW]
  constructor
  .rintro⟨d,m,e⟩;obtain⟨a,j,rfl⟩:=vj2.mp m;rw[<-n _ _ (dH e)];exact j
  .intro h;exact{(f k,V.bl Qr),vj2.mpr ⟨k,h,rfl⟩,cN rfl}
 unfold aX;rw[i]
 by_cases c:k∈l
 .rw[bG<|cN c,bG c,gU];refine nL λa _=>?_;show(if f a=f k then(f a,V.bl Qr) else(f a,V.bl Qr))=_
  split <;> rfl
 .rw[bA (by rw[fE c];exact eJ),bA c,bU];rfl
def UD(l:Z2)(k:zZ):aX (gD l) (Qt k) (.bl Qr)=gD (if k∈l then l else l++[k]):=uZ (λk=>(Qt k:aK)) (λ_ _ h=>oT h) l k
def Cb:∀(more l:Z2),cU (gD l) (gD more)=gD (bZ l more):=λmore=>more.recOn
 (λl=>U)
 λk more a l=>by
  show cU (aX (gD l) (Qt k)<|.bl Qr) (gD more)=_;rw[UD,a,zE]
def HE(l:Z2):↑(gD l)=↑l:=yB _
def UP{a:Type}[DecidableEq a](l more:Qi a)(k:a):bZ l (more++[k])=if k∈bZ l more then bZ l more else bZ l more++[k]:=by
 unfold bZ;rw[yK];rfl
def IF{b:Type}[DecidableEq b]:∀(more l:Qi b),↑(bZ l more)<=↑l+↑more:=λmore=>more.recOn
 (λl=>aV _)
 λk more a l=>by
  rw[zE,cK];have:=a (if k∈l then l else l++[k])
  by_cases c:k∈l
  .rw[bG c]at this ⊢;lia
  .rw[bA c]at this ⊢;rw[bK,fI]at this;lia
def VS(qs:Qi (Pr×eH))(q:Pr×eH):(kG qs q).map (·.1)=if q.1∈qs.map (·.1) then qs.map (·.1) else qs.map (·.1)++[q.1]:=by
 unfold kG
 split
 .rfl
 .rw[bU];rfl
def Dg:∀(more:Qi (Pr×eH))(qs:Qi (Pr×eH)),(oJ qs more).map (·.1)=bZ (qs.map (·.1)) (more.map (·.1)):=λmore=>more.recOn
 (λqs=>U)
 λq more a qs=>by
  show(oJ (kG qs q) more).map (·.1)=_;rw[a,VS,eE,zE]
  by_cases c:q.1∈qs.map (·.1)
  .simp only[bG c]
  .simp only[bA c]
theorem MZ:∀(more:Qi (Pr×eH))(qs:Qi (Pr×eH)),∀x∈oJ qs more,x∈qs\/x∈more
 | [],qs,x,h=>.inl h
 | q::more,qs,x,h=>by
  obtain h|h:=MZ more (kG qs q) x h
  .unfold kG at h
   split at h
   .exact .inl h
   .obtain h|h:=vj7.mp h
    .exact .inl h
    .exact .inr (by rw[vj1.mp h];exact .head _)
  .exact .inr<|.tail _ h
theorem Tup.ext(hp:H p\.ext φ):Tup H (upd H p o):=λb a h=>by
 rw[aE λz=>by rw[z,hp]at h;cases h];exact h
abbrev tE:Qd:=top 24
section
variable{H0:Hp}{kq:Kq}{tr:Tr}{L:Qi Fz}{ts:Z2}{come come':Qi (zZ×zZ)}{kinds kinds':Z2}
def MdOk.perm(h:MdOk H0 kq tr L ts come kinds)(a:come'.Perm come)(b:kinds'.Perm kinds):MdOk H0 kq tr L ts come' kinds':=by
 refine{a.mem_iff.mpr h.m0,b.nodup_iff.mpr h.nk,a.nodup_iff.mpr h.nc,λk f=>?_,λn d=>?_,λC o s r=>{λn d=>(h.ls C o s r).1 n<|a.mem_iff.mp d,λk f=>(h.ls C o s r).2 k<|b.mem_iff.mp f}}
 .obtain⟨j,q,m,i,l⟩:=h.kt k<|b.mem_iff.mp f;exact{j,q,m,a.mem_iff.mpr i,l}
 .obtain e|⟨q,j,m,i,l⟩:=h.co n (a.mem_iff.mp d)
  .exact .inl e
  .exact .inr ⟨q,j,a.mem_iff.mpr m,i,LP (λx u=>b.mem_iff.mpr u) n l⟩
def Sat.perm(h:Sat H0 kq tr ts come kinds q)(a:come'.Perm come)(b:kinds'.Perm kinds):Sat H0 kq tr ts come' kinds' q:=λi=>by
 obtain⟨f,j⟩:=h<|a.mem_iff.mp i;exact{λk e=>b.mem_iff.mpr<|f k e,λn d=>a.mem_iff.mpr<|j n<|LP (λx l=>b.mem_iff.mp l) n d}
end
def VQ(h:RowIs Z H a)(f:Tup H H'):gK H' ts a=gK H ts a/\clL H' kq tr ss a=clL H kq tr ss a:=by
 obtain⟨b,d⟩:=IZ h f;unfold gK clL;rw[b,d];exact⟨rfl,rfl⟩
def Ae:gK H ts a=[]\/∃k,gK H ts a=[k]:=by
 unfold gK
 split
 .split
  .exact .inr ⟨_,rfl⟩
  .exact .inl rfl
 .exact .inl rfl
def Kk:↑(gK H ts a)<=1:=by
 obtain e|⟨k,e⟩:=Ae (H:=H) (ts:=ts) (a:=a) <;> rw[e] <;> simp
def By:bZ [] (gK H ts a)=gK H ts a:=by
 obtain e|⟨k,e⟩:=Ae (H:=H) (ts:=ts) (a:=a) <;> rw[e] <;> rfl
def Kp:↑(clL H kq tr ss a)<=↑ss:=by
 unfold clL
 split
 .rw[aF];exact jJ _ _
 .exact cE _
inductive GY(K:Fq)(H H':Hp)(r:eH)(kq:Kq)(tr:Tr)(L:Qi Fz)(ss:Z2)(qs:Qi (Pr×eH))(kinds:Z2):Prop
 | mk(ca ka:eH)(h1:H' r\.tup [.ref ca,.ref ka])(h2:H' ca\(.tup<|qs.map λq=>R7 q.2))(h3:∀q∈qs,BT K H' q.2 q.1)(h4:H' ka\(.tup<|kinds.map R6))(h5:MdOk H kq tr L ss (qs.map (·.1)) kinds)(h6:∀q∈L,Sat H kq tr ss (qs.map (·.1)) kinds q)(h7:Wr kinds=Qr):GY K H H' r kq tr L ss qs kinds
inductive JX(K:Fq)(vs:Qi V)(H:Hp)(Q:VK)(_:XK):Prop
 | mk(p a:eH)(ks:Qi (zZ×Qi Dz))(m0:Dz)(tr:Tr)(ss:Z2)(Z:Z0)(h1:vs=[.ref p,.ref a])(h2:ProgIs Z H p ks m0)(h3:KindsAt H p tr)(h4:TrOk tr)(h5:↑tr<=12)(kq:Kq)(h6:jV Z tr kq)(h61:DeedsQ H p kq)(h7:H a\(.tup<|ss.map R6))(h8:∀x∈ss,∃l,Up tr x l)(h9:↑ss<=12)
  (h10:∀(r:eH)(qs:Qi (Pr×eH))(kinds:Z2)(H':Hp),FrS [] H H'->GY K H H' r kq tr (cL<|bQ ks m0) ss qs kinds->Q (.ref r) H')
inductive QI(P:Py)(w:Qb)(K:Fq)(H H1:Hp)(p a cm kn rw:eH)(kq:Kq)(tr:Tr)(L:Qi Fz)(ss:Z2)(m i:Qk)(σ:St)(Hx:Hp):Prop
 | mk(x6 x7 x8:Qj V)(qs:Qi (Pr×eH))(kinds:Z2)(hσ:σ=[Qp<|.ref p,Qp<|.ref a,Qp<|.ref cm,Qp<|.ref kn,Qp<|.ref rw,Qp<|.int (m:Ql),x6,x7,x8])(fr:FrS [] H Hx)(tp:Tup H1 Hx)(hc:Hx cm\iQ P w cm qs)(hq:∀q∈qs,BT K Hx q.2 q.1)(hk:Hx kn\(.dK<|gD kinds))
  (md:MdOk H kq tr L ss (qs.map (·.1)) kinds) (l1:m<=↑qs+↑kinds) (l2:↑qs+↑kinds=m->∀z∈L.take i,Sat H kq tr ss (qs.map (·.1)) kinds z):QI P w K H H1 p a cm kn rw kq tr L ss m i σ Hx
inductive YW(H1:Hp)(Dl:eH)(zs:Z2)(i:Qk)(σ:St)(Hx:Hp):Prop
 | mk(x:Qj V)(hσ:σ=[x])(fr:FrS [] H1 Hx)(hD:Hx Dl\(.dK<|gD<|bZ []<|zs.take i)):YW H1 Dl zs i σ Hx
inductive ZP(P:Py)(w:Qb)(H1:Hp)(Dl:eH)(zs:Qi (zZ×zZ))(i:Qk)(σ:St)(Hx:Hp):Prop
 | mk(x:Qj V)(ms:Qi (Pr×eH))(hσ:σ=[x])(fr:FrS [] H1 Hx)(hD:Hx Dl\iQ P w Dl ms)(hk:ms.map (·.1)=bZ [] (zs.take i))(hs:∀q∈ms,Hx q.2\.tup [.str q.1.1,.str q.1.2]):ZP P w H1 Dl zs i σ Hx
def vM(a:St)(_:Hp):Nat:=match (a[5]?:Qj (Qj V))with | some (Qp<|R8 m)=>(1000-m).toNat | _=>0
def BT.pd(h:∀q∈qs,BT K H q.2 q.1):PdOk K H qs:=λq a=>(h q a).sq
abbrev lI:Z2:=["program","there"]
def zw5:cC ["program","there","come","kinds","rows","many","number","body","row"] lI (bX tE):=cF
def Ix(F:X0 "made_paper" tE f fd)(NU:X1 k "numbered" qK (IQ K))(KB:X1 k "kinds_by" ["there","row"] PJ)(BB:X1 k "bodies_by" DS QY)(mM:mg "MAIN"\.ref am)(hM:∀H,SqT K H am [.str "",.str ""])(bg:mg "tuple"=Qq)(bf:mg "sorted"=Qq)(aq:mg "len"=Qq)(c8:mg "list"=Qq):↥lI (JX K):=by
 refine F.ok zw5 ⇑?_;obtain⟨p,a,ks,m0,tr,ss,Z,rfl,hP,hK,hT,az,kq,hL,c4,ha,hU,bq,q⟩:=h;have hu:=fL hr;have bm:=rS hu;have nd1:(["kind"]:Z2).Nodup:=by rfl'
 have b7:(["one"]:Z2).Nodup:=by rfl'
 exists _,aJ (sL 2 zw5.nd<|Bk (ZD bm) (mG (v:=.ref am) rfl mM U) nX)
  (aJ (sL 3 zw5.nd pK) (aJ (sL 4 zw5.nd<|⇑@NU<|av 0 aA) (aJ (sL 5 zw5.nd aQ) (aJ (KG eN (cG tX ⇑5 (cM lB (fO WM rfl aq iP<|av 2 aA)<|fO UC rfl aq iP<|av 3 aA)<|cS _) (aJ (sL 5 zw5.nd<|cM lB (fO WM rfl aq iP<|av 2 aA)<|fO UC rfl aq iP<|av 3 aA) (aY (eZ eN rfl (gB<|pv 4) (dX (n:=3) rfl<|bI (gL 6 zw5.nd)<|bI (gL 7 zw5.nd)<|bI (gL 8 zw5.nd) dV) (aY (cY (kP<|xP hu ⇑7<|pv 2) (aJ (eX<|fR rQ Xb Wy Gb ⇑3<|aI (JA (hp:=JY) (N':=["kind"]) (src:=[Qq]) rfl eW (gY<|⇑@KB<|av 1<|av 8 aA) (g:=cA 0) (λ_ _ _ _=>gL 0 nd1) (λ_ _ _ _=>gP) (λ_ _ _ _=>pv 0) (te:=tC<|.bl Qr) λ_ _ _ _=>nX) aA) (aY (eX (Et hu ⇑2 (JA (hp:=ZD bm) (N':=["one"]) (src:=[Qq]) rfl eW (gY<|⇑@BB<|av 0<|aI (eV (TN rfl) rfl c8 (by rfl')<|av 3 aA)<|av 8 aA)
       (g:=cA 0) (λ_ _ _ _=>gL 0 b7) (λ_ _ _ _=>gP) (λ_ _ _ _=>pv 0) (te:=tC<|.bl Qr) (λ_ _ _ _=>nX)) ⟨rfl,rfl,rfl,rfl⟩)))) dJ))))))
  (aY<|bR<|cZ<|aI (eV gR rfl bg (by rfl')<|aI (fO (Ko rfl) rfl bf (by rfl')<|av 2 aA) aA)<|aI (eV gR rfl bg (by rfl')<|aI (fO (Dr rfl) rfl bf (by rfl')<|av 3 aA) aA) aA)))))
 ac_rfl
 have hI:=pC hP.rows;have s2:2<=sizeLine:=cQ (bS<|by decide);refine λd be=>rY (qs:=[]) (n:=MN) zb0 (λ_ h=>nomatch h) (hM _) (bS<|cE _) ?_;rw[iN,show kG [] (MN,am)=[(MN,am)] from rfl];refine λkn aj=>?_;have bw:FrS [] H (upd (upd H d<|iQ P w d [(MN,am)]) kn<|.dK []):=(S0 be).trans<|S0 aj;have b4:upd H d (iQ P w d [(MN,am)]) d\iQ P w d [(MN,am)]:=zb0;have ar:d≠kn:=bF b4 aj;have b0:H kn=none:=by rw[aE<|cJ ar]at aj;exact aj
 refine{6,Z,p,ks,m0,U,hP.keep<|T4 bw,λao ns H1 f1 bk hA=>?_};have cg:=bw.trans f1;have cq:H1 d\iQ P w d [(MN,am)]:=f1 _ _ aN (by rw[aE ar];exact zb0);have cj:H1 kn\(.dK<|gD []):=f1 _ _ aN zb0;have bp:=hA.len;rw[kD]at bp;have cd:∀{I:Hp},FrS [] H I->DeedsQ I p kq/\KindsAt I p tr:=λfx=>⟨c4.keep<|T4 fx,hK.keepT<|T4 fx⟩;generalize hLL:cL (bQ ks m0)=L at *;refine MW (λσ I=>∃m,QI P w K H H1 p a d kn ao kq tr L ss m L.length σ I) vM {0,_,_,_,[(MN,am)],[],U,cg,(λ_ _ h=>h),cq,(λq o=>by rw[vj1.mp o];exact .inr hM),cj,MdOk.start,cE _,λe=>nomatch e} ?_ ?_
 .rintro σ I ⟨m,x6,x7,x8,qs,C,rfl,fr,tp,J,o,W,md,l1,l2⟩;obtain⟨a9,bu⟩:=md.few hL hT az hI bq hU;rw[aF]at a9;exists 6,6,d,qs,U,J,6,kn,6,W,_,6,U,_,6,U,6;rw[HE,<-F2];refine bE (λc=>?_) λc=>?_
  .have c:((m:Qk):Ql)<((↑qs+C.length:Qk):Ql):=dH c;exists 6,d,qs,U,J,6,kn,6,W,_,6,U;exists 6,ao,U,{_,T2<|tp _ _ bk};refine gG (xs:=ns.map R7) (QI P w K H H1 p a d kn ao kq tr L ss<|↑qs+C.length) {x6,x7,x8,qs,C,(by show [Qp<|R7 p,Qp<|R7 a,Qp<|R7 d,Qp<|R7 kn,Qp<|R7 ao,Qp<|R8<|(↑qs:Ql)+(↑(gD C):Ql),x6,x7,x8]=_;rw[HE,F2]),fr,tp,J,o,W,md,aV _,λ_ z hz=>nomatch hz} ?_ ?_ ?_
   .rintro i σ Hy hi ⟨_,_,_,_,_,_,_,tp,_⟩;exact T2<|tp _ _ bk
   .clear l1 l2 a9 bu J W o md tp fr c;generalize ↑qs+C.length=m1;rintro i x σ I hx ⟨x6,x7,x8,qs,C,rfl,fr,tp,J,o,W,md,l1,l2⟩;rw[bP,vh8]at hx;obtain⟨u,c2,rfl⟩:=hx;obtain⟨z,hz,bd,u1,u2⟩:=hA.get c2;rw[Va]at hz;obtain⟨z,aw,rfl⟩:=vh8.mp hz;have b6:z∈L:=dM aw;have aa:=hI z b6;obtain⟨a9,bu⟩:=md.few hL hT az hI bq hU;rw[aF]at a9;exists u,6,T2<|tp _ _ u1,U,_,6,_,6,_,6,U;exists 6,6,d,bd,qs,z.1,U,U,J,BT.pd o,(u2.keep tp).sq,6;refine bE (λc=>?_) λc=>?_
    rotate_left
    .refine⟨_,_,_,qs,C,rfl,fr,tp,J,o,W,md,l1,λe y B=>?_⟩;rw[dE,aw]at B;obtain B|B:=vj7.mp B
     .exact l2 e y B
     .have ey:y=z:=⇑[B]
      rw[ey];exact λh=>absurd (cN h) c
    have a5:z.1∈qs.map (·.1):=dH c;have tx:=T4 fr;exists 6,.inr<|.inr<|.inl {U,.inl {_,W}};refine{6,6,a,z.2,ss,Z,U,fr _ _ aN ha,aa.keep tx,λl Hy fy cr hl=>{l,U,{_,T1 hl},λD1 ay=>?_}};rw[(VQ (kq:=[]) (tr:=[]) (ss:=[]) aa tx).1]at hl;have c7:↑(gK H ss z.2)<=1:=Kk;have bo:bZ [] (gK H ss z.2)=gK H ss z.2:=By;have al:=md.make b6 a5;generalize hmk:gK H ss z.2=X at hl c7 bo al;refine iT (xs:=X.map R6) (YW Hy D1 X) {6,(FrS.refl).put ay,zb0} ?_ ?_ ?_
    .rintro j σ O hj ⟨_,_,N,_⟩;exact T1<|N _ _ aN hl
    .rintro j x σ O hx ⟨x0,rfl,N,a8⟩;rw[bP,vh8]at hx;obtain⟨y,B,rfl⟩:=hx;exists 6,_,Qt y,U,a8,bS ?_,6,N.put ay
     .have h1:=IF (X.take j) [];rw[dR,iX]at h1;rw[HE];lia
     .rw[zb0,UD,dE,B];show _=Qp (HO.dK<|gD<|bZ []<|X.take j++[y]);rw[UP]
    rintro σ O ⟨x0,rfl,N,a8⟩;rw[aF,cW<|aV _,bo]at a8;have ah:FrS [] I O:=fy.trans N;have bt:=ah _ _ aN W;exists kn,D1,_,6,U,bF (fy _ _ aN W) ay,bt,a8,cQ (bS<|by rw[HE,HE];lia);rw[Cb];have ad:↑(bZ C X)<=13:=by have:=IF X C;lia
    have kin:∀k∈X,k∈bZ C X:=λk h=>(nK _ _ _).mpr<|.inr h;have bv:=ZZ X C;generalize bZ C X=G at al ad kin bv;have b2:FrS [] H (upd O kn<|.dK<|gD G):=(fr.trans ah).put b0;have br:Tup I (upd O kn<|.dK<|gD G):=(T4 ah).trans<|Tup.dk bt;have ax:upd O kn (.dK<|gD G) kn\(.dK<|gD G):=zb0;have ag:upd O kn (.dK<|gD G) d\iQ P w d qs:=by rw[aE ar];exact ah _ _ aN J
    generalize upd O kn (.dK<|gD G)=H3 at b2 br ax ag;exists 6,d,qs,U,ag;have c5:∀x∈G,∃l,Up tr x l:=λx hx=>hU x (al.kt x hx).1;refine{6,6,kn,6,Rd.of ax,λl4 ci=>?_};have f4:FrS [] H3 (upd H3 l4<|.lst<|(gD G).map λkv=>kV kv.1):=S0 ci;have ae:upd H3 l4 (.lst<|(gD G).map λkv=>kV kv.1) l4\(.lst<|G.map R6):=by
     rw[zb0];unfold gD;rw[gU];rfl
    generalize upd H3 l4 (.lst<|(gD G).map λkv=>kV kv.1)=H4 at f4 ae;have bb:=b2.trans f4;have t4:=T4 bb;refine{6,p,l4,z.2,kq,tr,G,Z,U,cd bb,hL,hT,az,ae,c5,∅,aa.keep t4,λl5 bs H5 f5 cp bz ai=>{l5,U,{_,T1 bz},λD2 au=>?_}};rw[(VQ (ts:=ss) (kq:=kq) (tr:=tr) (ss:=G) aa t4).2]at ai;have an:=al.call b6 a5;have af:=ai.len;have b3:↑(clL H kq tr G z.2)<=13:=fM Kp ad;generalize hcn:clL H kq tr G z.2=a7 at ai af b3 an;refine iT (xs:=bs.map R7) (ZP P w H5 D2 a7) {_,[],U,(FrS.refl).put au,zb0,U,λ_ h=>nomatch h} ?_ ?_ ?_
    .rintro j σ O hj ⟨_,_,_,N,_⟩;exact T1<|N _ _ aN bz
    .rintro j x σ O hx ⟨x0,ms,rfl,N,a8,ab,ac⟩;rw[bP,vh8]at hx;obtain⟨b,hb,rfl⟩:=hx;obtain⟨n,hn,cn⟩:=ai.get hb;have bi:=N _ _ aN cn;refine{6,rY a8 (λq o=>T2<|ac q o) (T2 bi) (bS ?_) {_,6,N.put au,zb0,?_,λq o=>Tup.ext a8 _ _ ?_}}
     .have h1:=IF (a7.take j) [];rw[<-ab,aF,dR,iX]at h1;lia
     .rw[VS,ab,dE,hn];show _=bZ [] (a7.take j++[n]);rw[UP]
      by_cases c:n∈bZ [] (a7.take j)
      .simp only[bG c]
      .simp only[bA c]
     .obtain h|h:=MZ [(n,b)] ms q o
      .exact ac q h
      .rw[vj1.mp h];exact bi
    rintro σ H6 ⟨x0,ms,rfl,f6,a8,ab,ac⟩;rw[aF,af,cW<|aV _]at ab;have ak:FrS [] H3 H6:=f4.trans<|f5.trans f6;have ba:=ak _ _ aN ag;have c0:Tup I H6:=br.trans<|T4 ak;have bh:∀q∈qs,BT K H6 q.2 q.1:=λq h=>(o q h).keep c0;have co:↑ms<=13:=by have:=IF a7 [];rw[<-ab,aF,iX]at this;lia
    have b1:∀n∈a7,n∈bZ (qs.map (·.1)) (bZ [] a7):=λn h=>(nK _ _ _).mpr<|.inr<|(nK _ _ _).mpr<|.inr h;exists d,D2,qs,ms,U,U,bF ((f4.trans f5) _ _ aN ag) au,ba,(λe=>by rw[e]at a5;cases a5),BT.pd bh,a8,λq o=>T2<|ac q o,cQ (bS ∅);have eK:(oJ qs ms).map (·.1)=bZ (qs.map (·.1)) (bZ [] a7):=by rw[Dg,ab]
    have ap:Tup H6 (upd H6 d<|iQ P w d<|oJ qs ms):=Tup.ext ba;have as:=ZZ (bZ [] a7)<|qs.map (·.1);rw[<-eK]at as an b1;have bj:=MZ ms qs;generalize oJ qs ms=cb at eK ap as an b1 bj;rw[aF,aF]at as;refine{_,_,_,cb,G,U,(b2.trans ak).put be,tp.trans<|c0.trans ap,zb0,λq h=>?_,?_,an,∅,λe y B=>?_}
    .obtain h|h:=bj q h
     .exact(bh q h).keep ap
     .exact .inl<|ap _ _<|ac q h
    .rw[aE<|cJ ar];exact ak _ _ aN ax
    .rw[dE,aw]at B;obtain B|B:=vj7.mp B
     .have e1:=as.2 ∅;have e2:=bv.2 ∅;rw[e1,e2];exact l2 ∅ y B
     .have ey:y=z:=⇑[B]
      rw[ey];exact λ_=>{by rw[hmk];exact kin,by rw[hcn];exact b1}
   .rintro σ Hy ⟨y6,y7,y8,M,T,rfl,ce,cf,c3,b5,cc,cl,ch,b9⟩;rw[aF,bp]at b9;exists {_,y6,y7,y8,M,T,U,ce,cf,c3,b5,cc,cl,ch,b9};show(1000-((↑qs+C.length:Qk):Ql)).toNat<(1000-((m:Qk):Ql)).toNat;lia
  .have c:¬((m:Qk):Ql)<((↑qs+C.length:Qk):Ql):=λh=>c<|cN h;have e:↑qs+C.length=m:=by lia
   have bc:=l2 e;rw[cW<|aV _]at bc;refine{6,d,qs,U,J,BT.pd o,∅,λla M c6 pq=>{la,6,.inl {T1 zb0,λca ck=>?_}}};have fA:FrS [] I (upd (upd I la<|.lst<|M.map λq=>R7 q.2) ca<|.tup<|M.map λq=>R7 q.2):=(S0 c6).trans<|S0 ck;have bx:upd (upd I la<|.lst<|M.map λq=>R7 q.2) ca (.tup<|M.map λq=>R7 q.2) ca\(.tup<|M.map λq=>R7 q.2):=zb0;generalize upd (upd I la<|.lst<|M.map λq=>R7 q.2) ca (.tup<|M.map λq=>R7 q.2)=HA at fA bx;refine{6,kn,C,6,fA _ _ aN W,by unfold gD;rw[gU];rfl,∅,λlb T c9 pk sk=>{lb,6,.inl {T1 zb0,λka c1=>{s2,λr bn=>?_}}}};have fB:FrS [] HA (upd (upd HA lb<|.lst<|T.map R6) ka<|.tup<|T.map R6):=(S0 c9).trans<|S0 c1;have b8:upd (upd HA lb<|.lst<|T.map R6) ka (.tup<|T.map R6) ka\(.tup<|T.map R6):=zb0;generalize upd (upd HA lb<|.lst<|T.map R6) ka (.tup<|T.map R6)=HB at fB b8 bn;have fC:FrS [] HB (upd HB r<|.tup [R7 ca,R7 ka]):=S0 bn;have fx:=fA.trans<|fB.trans fC;refine q r M T _ (fr.trans fx) {ca,ka,zb0,(fB.trans fC) _ _ aN bx,λq b5=>(o q<|pq.mem_iff.mp b5).keep<|T4 fx,fC _ _ aN b8,md.perm (pq.map _) pk,λy B=>(bc y B).perm (pq.map _) pk,sk}
 .intro σ I R R' hR J;obtain⟨v1,h1,v2,h2,a1,q1,e1,e2,v3,h3,a2,k2,e3,e4,i1,j1,e5,e6,i2,j2,e7,e8,b,e9,o⟩:=J;exact{v1,h1,v2,h2,a1,q1,e1,e2,v3,h3,a2,k2,e3,e4,i1,j1,e5,e6,i2,j2,e7,e8,b,e9,hR _ _ o}
def gV(H:Hp)(q:Fz×Qk):Bool:=(iR H q.1.2).isSome
def yW(H:Hp)(a:eH):zZ:=((iR H a).map (·.1)).getD ""
inductive OM(K:Fq)(vs:Qi V)(H:Hp)(Q:VK)(_:XK):Prop
 | mk(p:eH)(ks:Qi (zZ×Qi Dz))(m0:Dz)(h1:vs=[.ref p])(h2:ProgIs Z H p ks m0)(h3:∀(b:eH)(cs:Z3)(H':Hp),FrS [] H H'->H' b\(.tup<|cs.map R7)->A2 (CaIs K H') cs (((cL<|bQ ks m0).zipIdx 0).filter<|gV H)->Q (.ref b) H')
inductive EU(K:Fq)(H H1:Hp)(Dl:eH)(QL:Qi (Fz×Qk))(i:Qk)(σ:St)(Hx:Hp):Prop
 | mk(a:Qj V)(cs:Z3)(hσ:σ=[a])(fr:FrS [] H1 Hx)(hD:Hx Dl\(.lst<|cs.map R7))(ha:A2 (CaIs K Hx) cs ((QL.take i).filter<|gV H)):EU K H H1 Dl QL i σ Hx
def JU{Z:Qi Fz}{q:Fz×Qk}(h:q∈Z.zipIdx 0):q.1∈Z:=by
 obtain⟨j,a⟩:=vn2.mp h;rw[Va]at a;obtain⟨y,b,rfl⟩:=vh8.mp a;exact dM b
def Cm:cC qK qK (bX Ab):=cF
def Ec{k:Qk}(F:X0 "calls" Ab f fd)(NU:X1 k "numbered" qK (IQ K))(W:mg "tuple"=Qq):↥qK (OM K):=by
 refine F.ok Cm ⇑?_;obtain⟨p,ks,N,rfl,o,q⟩:=h;have C:(["entry"]:Z2).Nodup:=by rfl'
 exists _,aY (bR (eV gR rfl W (by rfl') (aI (jB (N':=["entry"]) (src:=[Qq]) rfl eW (gB<|⇑@NU<|av 0 aA)
   (g:=cA 0) (λ_ _ _ _=>gL 0 C)
   (tt:=iE<|dG oF (dG (cO K) (dG (cO K) (aG 0)<|tC<|.int 2)<|tC<|.int 0)<|tC<|.str "call")
   (λ_ _ _ _=>mV<|cG gF (jK (show jN _ (cO K) from lU) (jK (show jN _ (cO K) from lU) ⇑0 aQ λ_ _=>U) aQ λ_ _=>U) bW<|cS _) (λ_ _ _ _=>pv 0)) aA)))
 ac_rfl
 refine{6,_,p,ks,N,U,o,λb ns H1 T I B=>{b,U,{_,T2 I},λr G=>?_}};have M:=pC o.rows;have a2:=xR o.rows;have a4:=o.many;generalize cL (bQ ks N)=Z at B M a2 q;refine gG (xs:=ns.map R7) (EU K H H1 r<|Z.zipIdx 0) {_,[],U,(FrS.refl).put G,zb0,.nil} ?_ ?_ ?_
 .rintro i σ l hi ⟨_,_,_,fr,_⟩;exact T2<|fr _ _ aN I
 .rintro i x σ l hx ⟨a0,j,rfl,fr,a1,a⟩;rw[bP,vh8]at hx;obtain⟨u,hu,rfl⟩:=hx;obtain⟨z,hz,bd,J,u2⟩:=B.get hu;obtain⟨w,rest,O,m,_⟩:=M z.1<|JU<|dM hz;have a5:Tup H l:=T4<|T.trans fr;have L:((Z.zipIdx 0).take<|i+1).filter (gV H)=((Z.zipIdx 0).take i).filter (gV H)++[z].filter (gV H):=by
   rw[dE,hz,zO];rfl
  have a8:↑j<=Z.length:=by
   have h1:=a.len;have X:=jJ (gV H)<|(Z.zipIdx 0).take i;rw[dR,kD]at X;lia
  exists 6,u,_,_,6,U,T2<|fr _ _ aN J,U,z.1.2,_,_,.str w,U,U,T2<|a5 _ _ O,nP _ _,U,6;obtain⟨rfl,_,_,k,d,_,_,e,_⟩|⟨n,e⟩:=xC O m
  .have es:gV H z=true:=by unfold gV;rw[e];rfl
   refine fX {6,_,a1,jM (by rw[aF];lia),_,j++[u],U,fr.put G,by rw[zb0,bU];rfl,?_};rw[L,BN es,nW];have tl:Tup l (upd l r<|.lst<|j.map R7++[R7 u]):=Tup.lst a1;exact(a.ckeep tl).snoc<|CaIs.keep ⟨bd,J,u2⟩<|(T4 fr).trans tl
  .have es:¬gV H z=true:=by unfold gV;rw[e];exact eJ
   show if (decide<|R6 w=R6 "call")=Qr then _ else _
   rw[fE λz=>n<|R6.inj z];refine cT {_,j,U,fr,a1,?_};rw[L,IA es,nW,eA];exact a
 .rintro σ l ⟨a0,j,rfl,fr,a1,a⟩;rw[aF,B.len,cW<|aV _]at a;refine{r,6,.inl {T1 a1,λc m=>?_}};exact q c j _ ((T.trans fr).trans<|S0 m) zb0<|a.ckeep<|T3 m
def LT.sq(h:LT H a xs):SqL K H a xs\/SqT K H a xs:=h.imp T1 T2
inductive ToIs(H:Hp)(e:eH)(z:Qk×Z2):Prop
 | mk(t:eH)(h1:H e\.tup [.int (z.1:Ql),.ref t])(h2:H t\(.tup<|z.2.map R6))(h3:↑z.2<=64):ToIs H e z
def ToIs.keep(h:ToIs H e z)(f:Tup H H'):ToIs H' e z:=by
 obtain⟨t,b,a,d⟩:=h;exact{t,f _ _ b,f _ _ a,d}
def _root_.L2.A2.tkeep(h:A2 (ToIs H) qs L)(f:Tup H H'):A2 (ToIs H') qs L:=h.imp λ_ _ g=>g.keep f
noncomputable def toldF(H:Hp)(tr:Tr)(ss:Z2)(C:Qi (zZ×zZ))(q:Fz×Qk):Qk×Z2:=(q.2,if q.1.1∈C then ss.filter (below tr<|yW H q.1.2) else [])
noncomputable def toldL(H:Hp)(tr:Tr)(ss:Z2)(C:Qi (zZ×zZ))(Z:Qi Fz):Qi (Qk×Z2):=((Z.zipIdx 0).filter<|gV H).map<|toldF H tr ss C
def Fe(hl:↑ss<=64):(toldF H tr ss C z).2.length<=64:=by
 unfold toldF;show(if _ then _ else _:Z2).length<=64
 split
 .exact fM (jJ _ _) hl
 .exact cE _
def LF{i:Z0}{H H':Hp}{tr:Tr}{ss:Z2}{C b:Qi (zZ×zZ)}{Z:Qi Fz}(j:∀q∈Z,RowIs i H q.2)(f:Tup H H')(d:∀n,n∈b↔n∈C):toldL H' tr ss b Z=toldL H tr ss C Z:=by
 have e:∀q∈Z.zipIdx 0,iR H' q.1.2=iR H q.1.2:=λq a=>(IZ (j q.1<|JU a) f).2;unfold toldL;have l:(Z.zipIdx 0).filter (gV H')=(Z.zipIdx 0).filter (gV H):=B2 λq a=>by unfold gV;rw[e q a]
 rw[l];refine nL λq a=>?_;unfold toldF yW;rw[e q (vq0.mp a).1]
 by_cases c:q.1.1∈C
 .rw[bG c,bG<|(d _).mpr c]
 .rw[bA c,bA λh=>c<|(d _).mp h]
inductive JH(K:Fq)(vs:Qi V)(H:Hp)(Q:VK)(_:XK):Prop
 | mk(p c a:eH)(ks:Qi (zZ×Qi Dz))(m0:Dz)(tr:Tr)(ss:Z2)(qs:Qi (Pr×eH))(h1:vs=[.ref p,.ref c,.ref a])(h2:ProgIs Z H p ks m0)(h3:KindsAt H p tr)(h4:TrOk tr)(h5:↑tr<=12)
  (h6:LT H c (qs.map λq=>R7 q.2)) (h7:∀q∈qs,BT K H q.2 q.1) (h8:H a\(.tup<|ss.map R6)) (h9:∀x∈ss,∃l,Up tr x l) (h10:↑ss<=64)
  (h11:∀(b:eH)(es:Z3)(H':Hp),FrS [] H H'->H' b\(.tup<|es.map R7)->A2 (ToIs H') es (toldL H tr ss (qs.map (·.1))<|cL<|bQ ks m0)->Q (.ref b) H')
inductive VP(H:Hp)(H1:Hp)(p c a fl:eH)(L:Qi (Qk×Z2))(i:Qk)(σ:St)(Hx:Hp):Prop
 | mk(x1 x2 x3 x4:Qj V)(es:Z3)(hσ:σ=[Qp<|.ref p,Qp<|.ref c,Qp<|.ref a,Qp<|.ref fl,x1,x2,x3,x4])(fr:FrS [] H Hx)(tp:Tup H1 Hx)(hf:Hx fl\(.lst<|es.map R7))(ha:A2 (ToIs Hx) es (L.take i)):VP H H1 p c a fl L i σ Hx
abbrev WB:Qd:=top 19
abbrev SK:Qd:=top 25
abbrev HR:Z2:=["program","come","kinds"]
def zx3:cC ["program","come","kinds","found","number","body","row","told"] HR (bX WB):=cF
def Cy{k:Qk}(F:X0 "told_among" WB f fd)(CA:X1 k "calls" qK (OM K))(AB:X1 k "all_below" yY EH)(aa:mg "tuple"=Qq):↥HR (JH K):=by
 refine F.ok zx3 ⇑?_;obtain⟨p,c,a,ks,o,tr,ss,qs,rfl,J,hK,hT,al,G,ai,ha,hU,hl,q⟩:=h;have hu:=fL hr;exists _,aJ (sL 3 zx3.nd<|cX aA)
  (aJ (eZ eN rfl (gB<|⇑@CA<|av 0 aA) (dX (n:=3) rfl<|bI (gL 4 zx3.nd)<|bI (gL 5 zx3.nd)<|bI (gL 6 zx3.nd) dV)<|aJ (sL 7 zx3.nd<|GW (cG (wW hu) ⇑5 ⇑1 rfl) (⇑@AB<|av 0<|av 2<|aI (eT ⇑6 aQ) aA)<|cX aA)<|aY<|eX<|fR fU hH hX gS ⇑3<|aI (cZ<|av 4<|aI (eV gR rfl aa (by rfl')<|av 7 aA) aA) aA)
  (aY<|bR<|eV gR rfl aa (by rfl')<|av 3 aA))
 ac_rfl
 have s2:2<=sizeLine:=cQ (bS<|by decide);refine{cE _,λfl a9=>?_};have f0:FrS [] H (upd H fl<|.lst []):=S0 a9;have t0:=T4 f0;refine{6,p,ks,o,U,J.keep t0,λb ns H1 f1 W m=>{b,U,{_,T2 W},?_}};have af:=f1 _ _ aN zb0;have ad:=f0.trans f1;have hI:=pC J.rows;have ah:=xR J.rows;have ab:=J.many;have eS:((cL<|bQ ks o).zipIdx 0).filter (gV<|upd H fl<|.lst [])=((cL<|bQ ks o).zipIdx 0).filter (gV H):=B2 λq l=>by
  unfold gV;rw[(IZ (hI q.1<|JU l) t0).2]
 rw[eS]at m;have an:↑ns<=80000:=by
  have Z:=m.len;have h2:=jJ (gV H)<|(cL<|bQ ks o).zipIdx 0;rw[kD]at h2;lia
 have a0:∀q∈((cL<|bQ ks o).zipIdx 0).filter (gV H),∃(k x y d:zZ)(g:eH),H q.1.2\.tup [.str "call",.str x,.str y,.str k,.str d,.ref g]/\yW H q.1.2=k:=λq l=>by
  obtain⟨l,G⟩:=vq0.mp l;obtain⟨w,rest,hw,ak,_⟩:=hI q.1<|JU l;obtain⟨rfl,_,_,k,d,_,rfl,e,_⟩|⟨n,e⟩:=xC hw ak
  .exact⟨k,_,_,_,_,hw,by unfold yW;rw[e];rfl⟩
  .unfold gV at G;rw[e]at G;cases G
 unfold toldL at q;generalize ((cL<|bQ ks o).zipIdx 0).filter (gV H)=L at m a0 q;refine gG (xs:=ns.map R7) (VP H H1 p c a fl<|L.map<|toldF H tr ss<|qs.map (·.1)) {_,_,_,_,[],U,ad,(λ_ _ h=>h),af,.nil} ?_ ?_ ?_
 .rintro i σ C hi ⟨_,_,_,_,_,_,_,tp,_⟩;exact T2<|tp _ _ W
 .rintro i x σ C hx ⟨x1,x2,x3,x4,es,rfl,fr,tp,N,B⟩;rw[bP,vh8]at hx;obtain⟨u,ae,rfl⟩:=hx;obtain⟨z,hz,bd,u1,u2⟩:=m.get ae;obtain⟨ck,_,_,_,_,a6,ek⟩:=a0 z<|dM hz;have a1:Tup H C:=T4 fr;have aj:(L.map<|toldF H tr ss<|qs.map (·.1)).take (i+1)=(L.map<|toldF H tr ss<|qs.map (·.1)).take i++[toldF H tr ss (qs.map (·.1)) z]:=by
   rw[dE,bP,hz];rfl
  have am:↑es<=80000:=by
   have Z:=B.len;have h2:=m.len;rw[dR,aF]at Z;lia
  have O:(toldF H tr ss (qs.map (·.1)) z).2.length<=64:=Fe hl;exists u,6,T2<|tp _ _ u1,U,_,6,_,6,_,6,U;have M:∀Q:VK,(∀(tl:eH)(j:Hp),FrS [] C j->j tl\(.lst<|(toldF H tr ss (qs.map (·.1)) z).2.map R6)->Q (.ref tl) j)->
    XT (iE<|dG (wT K Qs) (aG 5)<|aG 1) (hV EH [] E0<|bJ (aG 0)<|bJ (aG 2)<|bJ (dG (cO K) (aG 6)<|tC<|.int 3) bN) (lC bN) [Qp<|.ref p,Qp<|.ref c,Qp<|.ref a,Qp<|.ref fl,Qp<|.int (z.2:Ql),Qp<|.ref bd,Qp<|.ref z.1.2,x4] C Q:=by
   intro Q r;exists 6,6,bd,c,z.1.1,qs,U,U,(u2.keep tp).sq,(G.keep fr).sq,BT.pd λq l=>(ai q l).keep a1,6;rw[F4];unfold toldF at r;refine bE (λc'=>?_) λc'=>?_
   .rw[bG<|dH c',ek]at r;exact{6,6,6,z.1.2,_,_,.str ck,U,U,T2<|a1 _ _ a6,U,p,a,ck,tr,ss,U,hK.keepT a1,hT,al,.inr<|a1 _ _ ha,hU,hl,λtl j I O=>r tl j I O}
   .rw[bA λh=>c'<|cN h]at r;exact{cE _,λtl hn=>r tl _ (S0 hn) zb0}
  refine M _ λtl j I a3=>?_;have ac:=I _ _ aN N;refine{6,.inl {U,_,T1 ac},6,6,tl,6,.inl {T1 a3,λtt ag=>{s2,λte a8=>?_}}};have fn:FrS [] j (upd (upd j tt<|.tup<|(toldF H tr ss (qs.map (·.1)) z).2.map R6) te<|.tup [.int (z.2:Ql),.ref tt]):=(S0 ag).trans<|S0 a8;have a7:=fn _ _ aN ac;have T:Tup _ (upd (upd (upd j tt<|.tup<|(toldF H tr ss (qs.map (·.1)) z).2.map R6) te<|.tup [.int (z.2:Ql),.ref tt]) fl<|.lst<|es.map R7++[R7 te]):=Tup.lst a7;have X:=(T4<|I.trans fn).trans T;refine{fl,_,6,U,a7,jM (by rw[aF];lia),_,_,_,_,es++[te],U,((fr.trans I).trans fn).put a9,tp.trans X,by rw[zb0,bU];rfl,?_};rw[aj];exact(B.tkeep X).snoc {tt,T _ _ zb0,((T3 a8).trans T) _ _ zb0,O}
 .rintro σ C ⟨_,_,_,_,es,rfl,fr,tp,N,B⟩;rw[aF,m.len,<-yB (as:=L) (f:=toldF H tr ss<|qs.map (·.1)),cW<|aV _]at B;refine{6,fl,6,.inl {T1 N,λd hd=>?_}};exact q d es _ (fr.trans<|S0 hd) zb0<|B.tkeep<|T3 hd
inductive CG(K:Fq)(H H':Hp)(b:eH)(kq:Kq)(tr:Tr)(L:Qi Fz)(ss:Z2)(come:Qi (zZ×zZ))(kinds:Z2):Prop
 | mk(es:Z3)(h1:H' b\(.tup<|es.map R7))(h2:A2 (ToIs H') es (toldL H tr kinds come L))(h5:MdOk H kq tr L ss come kinds)(h6:∀q∈L,Sat H kq tr ss come kinds q)(h7:Wr kinds=Qr):CG K H H' b kq tr L ss come kinds
inductive OB(K:Fq)(vs:Qi V)(H:Hp)(Q:VK)(_:XK):Prop
 | mk(p a:eH)(ks:Qi (zZ×Qi Dz))(m0:Dz)(tr:Tr)(ss:Z2)(Z:Z0)(h1:vs=[.ref p,.ref a])(h2:ProgIs Z H p ks m0)(h3:KindsAt H p tr)(h4:TrOk tr)(h5:↑tr<=12)(kq:Kq)(h6:jV Z tr kq)(h61:DeedsQ H p kq)(h7:H a\(.tup<|ss.map R6))(h8:∀x∈ss,∃l,Up tr x l)(h9:↑ss<=12)
  (h10:∀(b:eH)(come:Qi (zZ×zZ))(kinds:Z2)(H':Hp),FrS [] H H'->CG K H H' b kq tr (cL<|bQ ks m0) ss come kinds->Q (.ref b) H')
def ym2:cC ["program","there","come","kinds"] lI (bX SK):=cF
def Ex(F:X0 "by_made" SK f fd)(X:X1 k "made_paper" lI (JX K))(I:X1 k "told_among" HR (JH K)):↥lI (OB K):=by
 refine F.ok ym2 ⇑?_;obtain⟨p,a,ks,o,tr,ss,Z,rfl,i,l,j,a1,kq,G,a8,L,d,z,q⟩:=h;exists _,aJ (hZ (⇑@X<|av 0<|av 1 aA)<|dX (n:=2) rfl<|bI (gL 2 ym2.nd)<|bI (gL 3 ym2.nd) dV)
  (aY<|bR<|⇑@I<|av 0<|av 2<|av 3 aA)
 ac_rfl
 have m:=pC i.rows;exists 6,6,p,a,ks,o,tr,ss,Z,U,i,l,j,a1,kq,G,a8,L,d,z;rintro r qs u H1 C ⟨ca,W,a7,a5,J,O,md,M,T⟩;have e:=T4 C;have few:=(md.few G j a1 m z d).2;exists r,6,T2 a7,U,_,6,_,6,U;refine{6,6,6,p,ca,W,ks,o,tr,u,qs,U,i.keep e,l.keepT e,j,a1,.inr a5,J,O,(λx hx=>d x (md.kt x hx).1),∅,λb es H2 f2 N B=>?_};rw[LF m e λ_=>Iff.rfl]at B;exact q b _ u H2 (C.trans f2) ⟨es,N,B,md,M,T⟩
abbrev RX:Qd:=top 20
def nI(ss:Z2)(n:zZ×zZ):Bool:=decide (n=MN) || decide (n.1∈ss)
inductive EA(H H':Hp)(b:eH)(tr:Tr)(L:Qi Fz)(ss:Z2):Prop
 | mk(es:Z3)(C:Qi (zZ×zZ))(h1:H' b\(.tup<|es.map R7))(h2:A2 (ToIs H') es (toldL H tr ss C L))(h3:∀q∈L,q.1∈C↔nI ss q.1=Qr):EA H H' b tr L ss
inductive tZ(vs:Qi V)(H:Hp)(Q:VK)(_:XK):Prop
 | mk(p a:eH)(ks:Qi (zZ×Qi Dz))(m0:Dz)(tr:Tr)(ss:Z2)(Z:Z0)(h1:vs=[.ref p,.ref a])(h2:ProgIs Z H p ks m0)(h3:KindsAt H p tr)(h4:TrOk tr)(h5:↑tr<=12)
  (h8:H a\(.tup<|ss.map R6)) (h9:∀x∈ss,∃l,Up tr x l) (h10:↑ss<=12)
  (h11:∀(b:eH)(H':Hp),FrS [] H H'->EA H H' b tr (cL<|bQ ks m0) ss->Q (.ref b) H')
inductive NG(K:Fq)(H1:Hp)(a Dl:eH)(ss:Z2)(L:Qi (zZ×zZ))(i:Qk)(σ:St)(Hx:Hp):Prop
 | mk(x y:Qj V)(qs:Qi (Pr×eH))(hσ:σ=[x,y,Qp<|.ref a])(fr:FrS [] H1 Hx)(hD:Hx Dl\(.lst<|qs.map λq=>R7 q.2))(hq:∀q∈qs,BT K Hx q.2 q.1)(hn:qs.map (·.1)=(L.take i).filter (nI ss)):NG K H1 a Dl ss L i σ Hx
def scBy:cC ["program","there","come"] lI (bX RX):=cF
def HP(F:X0 "by_tree" RX f fd)(BO:X1 k "bodies" qK (GZ K))(AM:X1 k "told_among" HR (JH K))(mM:mg "MAIN"\.ref am)(hM:∀H,SqT K H am [.str "",.str ""]):↥lI tZ:=by
 refine F.ok scBy ⇑?_;obtain⟨p,a,ks,M,tr,ss,Z,rfl,J,hK,hT,aa,T,hU,hl,q⟩:=h;have a6:=rS<|fL hr;have a2:(["body","rows","there"]:Z2).Nodup:=by rfl'
 exists _,aJ (nB (i:=2) (N':=["body","rows","there"]) (src:=[Qq,Qq,Qp 1]) rfl scBy.nd rfl rfl eW (gB<|⇑@BO<|av 0 aA) (g:=eP K 2<|eG (cA 0)<|eG (cA 1) eO) (λ_ _ _ _=>dX (n:=2) rfl<|bI (gL 0 a2)<|bI (gL 1 a2) dV) (λ_ _ _ _=>mV<|PW.pt<|IY (cG (show dW _ _ (GU K) from vW a6) ⇑0 (mG (v:=.ref am) rfl mM U)<|cS _)<|KW<|cG (show dW _ _ (jF K Qs) from oH) (jK (show jN _ (cO K) from lU) ⇑0 aQ λ_ _=>U) ⇑2 U) λ_ _ _ _=>pv 0)
  (aY<|bR<|⇑@AM<|av 0<|av 2<|av 1 aA)
 ac_rfl
 refine{6,p,ks,M,U,J,λb qs H1 f1 W hB ab=>{b,U,{_,T2 W},λm a5=>?_}};have hI:=pC J.rows;have a9:=hB.len;generalize hL:bQ ks M=L at *;refine gG (xs:=qs.map R7) (NG K H1 a m ss<|L.map (·.1)) {_,_,[],U,(FrS.refl).put a5,zb0,(λ_ h=>nomatch h),U} ?_ ?_ ?_
 .rintro i σ r hi ⟨_,_,_,_,fr,_⟩;exact T2<|fr _ _ aN W
 .rintro i x σ r hx ⟨x0,y0,l,rfl,fr,a1,G,j⟩;rw[bP,vh8]at hx;obtain⟨u,a7,rfl⟩:=hx;obtain⟨z,hz,bd,u1,u2⟩:=hB.get a7;have tx:=T4 fr;have O:=(u2.keep tx).sq;have ad:↑l<=1000:=by
   have I:=cP Rk j;have B:=jJ (nI ss)<|(L.map (·.1)).take i;rw[dR,aF]at B;rw[aF]at I;lia
  have X:((L.map (·.1)).take<|i+1).filter (nI ss)=((L.map (·.1)).take i).filter (nI ss)++[z.1].filter (nI ss):=by
   rw[dE,bP,hz,zO];rfl
  have a4:nI ss z.1=Qr->∀(te:TE),te=aG 0->te [Qp<|.ref bd,Qp<|.ref z.2.2.1,Qp<|.ref a] r λv H4=>∃ys,H4 m\.lst ys/\↑ys<sizeLine/\NG K H1 a m ss (L.map (·.1)) (i+1) [Qp<|.ref bd,Qp<|.ref z.2.2.1,Qp<|.ref a] (upd H4 m<|.lst<|ys++[v]):=by
   rintro c _ rfl;have tl:Tup r (upd r m<|.lst<|(l.map λq=>R7 q.2)++[R7 bd]):=Tup.lst a1;exists 6,_,a1,bS (by rw[aF];lia),_,_,l++[(z.1,bd)],rfl,fr.put a5,by rw[zb0,bU];rfl,λq o=>?_
   .obtain o|o:=vj7.mp o
    .exact(G q o).keep tl
    .rw[vj1.mp o];exact u2.keep<|tx.trans tl
   .rw[X,BN c,nW,bU,j];rfl
  exists u,6,T2<|tx _ _ u1,U,_,6,_,6,U;exists 6,bd,am,[z.1.1,z.1.2],["",""],U,U,O,hM _,6;refine bE (λc=>?_) λc=>?_
  .have c':z.1=MN:=by
    have:=dH c;injection this with I B;injection B with B _;exact pO I B
   exact a4 (by unfold nI;rw[cN c'];rfl) _ rfl
  have c':z.1≠MN:=λe=>c (cN<|by rw[e])
  exists 6,bd,_,_,.str z.1.1,U,U,O,nP _ _,6,a,6,.inr<|T2<|tx _ _<|T4 f1 _ _ T,U,jL _,6;show if gC (.str z.1.1) (ss.map R6)=Qr then _ else _
  rw[jS];refine bE (λN=>?_) λN=>?_
  .exact a4 (by unfold nI;rw[cN<|dH N,Qm.or_true]) _ rfl
  .have a8:z.1.1∉ss:=λe=>N<|cN e;exists _,_,l,U,fr,a1,G;rw[X,IA (by unfold nI;rw[fE c',fE a8];decide),nW,eA];exact j
 .rintro σ r ⟨x0,y0,l,rfl,fr,a1,G,j⟩;rw[aF,a9,<-yB (as:=L) (f:=(·.1)),cW<|aV _]at j;have fx:=f1.trans fr;have tx:=T4 fx;refine{6,6,6,p,m,a,ks,M,tr,ss,l,U,J.keep tx,hK.keepT tx,hT,aa,.inl a1,G,tx _ _ T,hU,∅,λd es H2 f2 hd hE=>?_};rw[hL,LF hI tx λ_=>Iff.rfl]at hE;refine q d H2 (fx.trans f2) {es,_,hd,hE,λn C=>?_};rw[j,vq0];refine{λh=>h.2,λh=>{?_,h}};unfold cL at C;obtain⟨z,hz,C⟩:=ub3.mp C;obtain⟨y,_,rfl⟩:=vj2.mp C;exact vj2.mpr ⟨z,hz,rfl⟩
abbrev zf(z:Lt):=z.2.2.1.fl
abbrev NR:Qd:=top 80
def LtAt(Z:Z0)(H:Hp)(n:Qk)(ls:Qi Lt):Prop:=∀z∈ls,H z.1\(.tup<|z.2.1.map R7)/\∃a,n=a+1/\Ly Z H a z.2.2.2.1 z.2.1 z.2.2.1 z.2.2.2.2
theorem LtAt.keep(h:LtAt Z H n ls)(f:Tup H H'):LtAt Z H' n ls:=λz d=>let ⟨a,n',e,b⟩:=h z d;⟨f _ _ a,n',e,b.keep f⟩
inductive IJ(n:Qk)(vs:Qi V)(H:Hp)(Q:VK)(_:XK):Prop
 | mk(l:eH)(rs:Z3)(L:LL)(k k':Qk)(h1:vs=[.ref l])(h2:H l\(.tup<|rs.map R7))(h3:Ly Z H n k rs L k')(h4:L.fl.length<=1000)(h5:∀(p:eH)(H':Hp),FrS [] H H'->H' p\(.lst<|L.fl.map R7)->Q (.ref p) H')
def XX:Qk->Sp
 | 0=>λ_ _ _ _=>Qn
 | n+1=>IJ n
inductive BF(n:Qk)(H:Hp)(l p:eH)(rs fs:Z3)(i:Qk)(σ:St)(Hx:Hp):Prop
 | mk(a b:Qj V)(f1:Z3)(L:LL)(k k':Qk)(hσ:σ=[Qp<|.ref l,Qp<|.ref p,a,b])(fr:FrS [] H Hx)(hp:Hx p\(.lst<|f1.map R7))(he:fs=f1++L.fl)(hl:Ly Z Hx n k (rs.drop i) L k'):BF n H l p rs fs i σ Hx
inductive FG(H H2:Hp)(l p a:eH)(g1:Z3)(ls:Qi Lt)(j:Qk)(σ:St)(Hx:Hp):Prop
 | mk(b:Qj V)(hσ:σ=[Qp<|.ref l,Qp<|.ref p,Qp<|.ref a,b])(fr:FrS [] H Hx)(tp:Tup H2 Hx)(hp:Hx p\(.lst<|(g1++(ls.take j).flatMap zf).map R7)):FG H H2 l p a g1 ls j σ Hx
abbrev kA:Z2:=["_law_rows_here"]
def zw7:cC ["_law_rows_here","_law_found","_law_row_here","_law_lot"] kA (bX NR):=cF
def WG(F:X0 "_law_flat" NR f fd)(LI:X1 k "_law_flat" kA (XX n)):↥kA (IJ n):=by
 refine F.ok zw7 ⇑?_;obtain⟨l,rs,L,k0,k1,rfl,hl,hF,hb,q⟩:=h;exists _,aJ (sL 1 zw7.nd<|cX aA)
  (aJ (eZ eN rfl (gB<|pv 0) (gL 2 zw7.nd)<|aJ (eX<|fR fU hH hX gS ⇑1<|av 2 aA)<|aY<|cY (cG oH (eT ⇑2 aQ) (cZ<|NL<|NL aA) rfl) (aY<|eZ eN rfl (gB<|kT xp1 ⇑2 (kM aQ) mR) (gL 3 zw7.nd)<|aY<|eX<|fR fU PF MR QF ⇑1<|aI (⇑@LI<|av 3 aA) aA) dJ)<|aY<|bR<|pv 1)
 ac_rfl
 have s2:2<=sizeLine:=cQ (bS<|by decide);refine{cE _,λp B=>?_};have t0:Tup H (upd H p<|.lst []):=T3 B;exists 6,l,U,{_,T2<|t0 _ _ hl};refine gG (xs:=rs.map R7) (BF n H l p rs L.fl) {_,_,[],L,_,6,S0 B,zb0,U,hF.keep t0} ?_ ?_ ?_
 .rintro i σ d hi ⟨_,_,_,_,_,_,_,fr,_⟩;exact T2<|fr _ _ aN hl
 .rintro i x σ d hx ⟨a0,b0,b,L2,k2,k3,rfl,fr,hp,m,o⟩;rw[bP,vh8]at hx;obtain⟨a,ha,rfl⟩:=hx;obtain⟨hi,rfl⟩:=vh2.mp ha;rw[uM hi]at o;obtain⟨w,rest,ls,_,Lr,M,h1,h2,h3,_,_,h6,rfl,_,h5,ag⟩:=o.hd;generalize rs[i]=a at h1 ag;rw[YS,ag]at m;rw[m]at hb;simp only[bK,cK]at hb;exists 6,.inl {U,_,T1 hp},6,p,_,6,U,hp,jM (by rw[aF];lia);rw[show b.map R7++[R7 a]=(b++[a]).map R7 by rw[bU];rfl];have N:Tup d (upd d p<|.lst<|(b++[a]).map R7):=Tup.lst hp;have af:FrS [] H (upd d p<|.lst<|(b++[a]).map R7):=fr.put B;have ah:upd d p (.lst<|(b++[a]).map R7) p\(.lst<|(b++[a]).map R7):=zb0;have X:=N _ _ h1;have ad:=LtAt.keep h3 N;have ak:=h5.keep N;generalize upd d p (.lst<|(b++[a]).map R7)=C at ah af X ad ak;refine{6,a,_,_,.str w,U,U,T2 X,nP _ _,s2,λpd ao=>?_};have a9:FrS [] C (upd C pd<|.tup [.str "either",.str "again"]):=S0 ao;have ap:upd C pd (.tup [.str "either",.str "again"]) pd\.tup [.str "either",.str "again"]:=zb0;exists pd,6,.inr<|T2 ap,U,U,6;have T:=af.trans a9;have t2:=T4 a9;have Z:=a9 _ _ aN ah;have a4:=t2 _ _ X;have a5:=ad.keep t2;have a1:=ak.keep t2;generalize upd C pd (.tup [.str "either",.str "again"])=H2 at T Z a4 a5 a1;have ei:gC (.str w) [.str "either",.str "again"]=decide (w="either"\/w="again"):=by
   have:=jS w ["either","again"];simpa using this
  show if gC (.str w) [.str "either",.str "again"]=Qr then _ else _
  rw[ei];refine bE (λc=>?_) λc=>?_
  .have I:kR w rest=rest:=by unfold kR;rw[bG<|dH c]
   refine{6,6,a,6,T2 a4,?_,λr al=>?_}
   .intro z;have:=z.1;unfold HT.sIx at this;simp at this
   rw[HM,<-I,h2];have G:FrS [] H2 (upd H2 r<|.tup<|ls.map λz=>R7 z.1):=S0 al;have a7:upd H2 r (.tup<|ls.map λz=>R7 z.1) r\(.tup<|ls.map λz=>R7 z.1):=zb0;have ae:=T.trans G;have aj:=G _ _ aN Z;have J:=T4 G;generalize upd H2 r (.tup<|ls.map λz=>R7 z.1)=H3 at G a7 ae aj J;exists r,U,{_,T2 a7};refine gG (xs:=ls.map λz=>R7 z.1) (FG H H3 l p a (b++[a]) ls) {6,ae,(λ_ _ h=>h),by rw[Xi,Qi.flatMap_nil,eA];exact aj} ?_ ?_ ?_
   .rintro j σ Hy hj ⟨_,_,_,ty,_⟩;exact T2<|ty _ _ a7
   .rintro j x σ Hy hx ⟨b1,rfl,fy,ty,u⟩;rw[bP,vh8]at hx;obtain⟨z,hz,rfl⟩:=hx;obtain⟨W,n',rfl,z2⟩:=a5 z<|dM hz;have W:=(J.trans ty) _ _ W;have z2:=z2.keep<|J.trans ty;have an:j<↑ls:=(vh2.mp hz).1;have aa:↑((ls.take j).flatMap zf)+↑(zf z)<=↑(ls.flatMap zf):=by
     have e:ls=ls.take j++(z::ls.drop (j+1)):=by
      rw[<-(vh2.mp hz).2,<-uM an,vS]
     conv=>rhs;rw[e]
     rw[sW,zJ,bK,bK];lia
    have e:(ls.take<|j+1).flatMap zf=(ls.take j).flatMap zf++zf z:=by
     rw[dE,hz,sW];simp
    refine{6,.inl {U,_,T1 u},6,z.1,z.2.1,z.2.2.1,_,6,W,z2,by unfold zf at aa;lia,λp4 Hz O am=>?_};have ai:=O _ _ aN u;exists p,p4,_,6,U,ai,am,cQ (jM<|by rw[aF,aF,bK,bK,fI];lia);exact{6,(fy.trans O).put B,(ty.trans<|T4 O).trans<|Tup.lst ai,by rw[zb0,e,<-dY,<-bU]}
   .rintro σ Hy ⟨b1,rfl,fy,ty,u⟩;rw[aF,cW<|aV _]at u;exact{_,_,b++[a]++ls.flatMap zf,Lr,_,6,fy,u,by rw[m];simp[zf],a1.keep<|J.trans ty}
  .have I:kR w rest=[]:=by unfold kR;rw[bA λz=>c<|cN z]
   rw[h2]at I;have:ls=[]:=by
    cases ls with
    | nil=>rfl
    | cons _ _=>cases I
   subst this;exact{_,_,b++[a],Lr,_,6,T,Z,by rw[m];simp,a1}
 .rintro σ d ⟨a0,b0,b,L2,k2,k3,rfl,fr,hp,m,o⟩;rw[aF,Qi.drop_of_length_le<|aV _]at o;cases o;rw[m,show LL.nil.fl=[] from rfl,eA]at q;exact{6,q p d fr hp}
abbrev sN:Qd:=top 81
def Dh(h:SqL K H a xs)(f:∀b o,H b\o->H' b\o):SqL K H' a xs:=by
 obtain(h|⟨o,h⟩)|h:=h
 .exact .inl<|.inl<|f _ _ h
 .exact .inl<|.inr ⟨o,f _ _ h⟩
 .exact .inr h
inductive PaIs(H:Hp)(p:eH)(z:Fz):Prop
 | mk(bd:eH)(h1:H p\.tup [.ref bd,.ref z.2])(h2:H bd\.tup [.str z.1.1,.str z.1.2]):PaIs H p z
def PaIs.keep(h:PaIs H p z)(f:Tup H H'):PaIs H' p z:=by
 obtain⟨bd,b,a⟩:=h;exact{bd,f _ _ b,f _ _ a}
def _root_.L2.A2.pkeep(h:A2 (PaIs H) qs L)(f:Tup H H'):A2 (PaIs H') qs L:=h.imp λ_ _ g=>g.keep f
inductive VY(H1:Hp)(Dl:eH)(Pσ:St->Prop)(L:Qi Fz)(i:Qk)(σ:St)(Hx:Hp):Prop
 | mk(ps:Z3)(hσ:Pσ σ)(fr:FrS [] H1 Hx)(hD:Hx Dl\(.lst<|ps.map R7))(ha:A2 (PaIs Hx) ps (L.take i)):VY H1 Dl Pσ L i σ Hx
def Ah{K:Fq}{h:Hp}{a f:eH}{fs:Z3}{n:zZ×zZ}{te:TE}{J:St}{Pσ:St->Prop}(s:h a\(.lst<|fs.map R7))(o:h f=Qq)(C:↑fs<=1000)(h0:Pσ J)(A:∀G v,Pσ G->Pσ (G.set 0<|some v))
  (r:∀G x H (Q:VK),Pσ G->FrS [] h H->(∀d e,H d=Qq->upd H d (.tup [.str n.1,.str n.2]) e=Qq->Q (.ref e) (upd (upd H d<|.tup [.str n.1,.str n.2]) e<|.tup [.ref d,.ref x]))->te (G.set 0<|some<|.ref x) H Q)
  {Q:Hp->Prop} (B:∀ps b,FrS [] h b->b f\(.lst<|ps.map R7)->A2 (PaIs b) ps (fs.map λa=>(n,a))->Q b):sO (AI K a) (cA 0) nE te f J (upd h f<|.lst []) Q:=by
 refine iT (xs:=fs.map R7) (VY h f Pσ<|fs.map λa=>(n,a)) {[],h0,(FrS.refl).put o,zb0,.nil} ?_ ?_ ?_
 .rintro i G b hi ⟨_,_,fr,_⟩;exact T1<|fr _ _ aN s
 .rintro i x G b hx ⟨ps,l,fr,a1,j⟩;rw[bP,vh8]at hx;obtain⟨y,u,rfl⟩:=hx;have eT:(fs.map λa=>(n,a)).take (i+1)=(fs.map λa=>(n,a)).take i++[(n,y)]:=by
   rw[dE,bP,u];rfl
  have E:↑ps<=↑fs:=by
   have:=j.len;rw[dR,aF]at this;lia
  refine r G y b _ l fr λd e z m=>?_;have fn:FrS [] b (upd (upd b d<|.tup [.str n.1,.str n.2]) e<|.tup [.ref d,.ref y]):=(S0 z).trans<|S0 m;have q:=fn _ _ aN a1;have L:Tup _ (upd (upd (upd b d<|.tup [.str n.1,.str n.2]) e<|.tup [.ref d,.ref y]) f<|.lst<|ps.map R7++[R7 e]):=Tup.lst q;refine{_,q,bS (by rw[aF];lia),ps++[e],A G _ l,(fr.trans fn).put o,by rw[zb0,bU];rfl,?_};rw[eT];exact(j.pkeep<|(T4 fn).trans L).snoc {d,L _ _ zb0,((T3 m).trans L) _ _ zb0}
 .rintro G b ⟨ps,l,fr,a1,j⟩;rw[aF,cW<|by rw[aF];exact aV _]at j;exact B ps b fr a1 j
inductive RU(K:Fq)(vs:Qi V)(H:Hp)(Q:VK)(_:XK):Prop
 | mk(p:eH)(ks:Qi (zZ×Qi Dz))(m0:Dz)(h1:vs=[.ref p])(h2:ProgIs Z H p ks m0)(h3:∀(b:eH)(ns:Z3)(H':Hp),FrS [] H H'->H b=Qq->H' b\(.lst<|ns.map R7)->A2 (CaIs K H') ns ((cL<|bQ ks m0).zipIdx 0)->Q (.ref b) H')
inductive WZ(H H1:Hp)(p fl:eH)(L:Qi Bz)(σ:St)(Hx:Hp):Prop
 | mk(x2 x3 x4 x5:Qj V)(ps:Z3)(h1:σ=[Qp<|.ref p,Qp<|.ref fl,x2,x3,x4,x5])(h2:FrS [] H Hx)(tp:Tup H1 Hx)(h3:Hx fl\(.lst<|ps.map R7))(h4:A2 (PaIs Hx) ps (cL L)):WZ H H1 p fl L σ Hx
inductive VZ(H H1:Hp)(p fl:eH)(n:zZ)(e:V)(dt:eH)(L:Qi Bz)(σ:St)(Hx:Hp):Prop
 | mk(x5:Qj V)(ps:Z3)(h1:σ=[Qp<|.ref p,Qp<|.ref fl,Qp<|.str n,Qp e,Qp<|.ref dt,x5])(h2:FrS [] H Hx)(tp:Tup H1 Hx)(h3:Hx fl\(.lst<|ps.map R7))(h4:A2 (PaIs Hx) ps (cL L)):VZ H H1 p fl n e dt L σ Hx
inductive WO(K:Fq)(H2:Hp)(Dl:eH)(QL:Qi (Fz×Qk))(i:Qk)(σ:St)(Hx:Hp):Prop
 | mk(x y:Qj V)(cs:Z3)(hσ:σ=[x,y])(fr:FrS [] H2 Hx)(hD:Hx Dl\(.lst<|cs.map R7))(ha:A2 (CaIs K Hx) cs (QL.take i)):WO K H2 Dl QL i σ Hx
def yj4:cC ["_law_program_here","_law_found","_law_name","_law_elder","_law_deeds","_law_deed_here"] qJ (bX sN):=cF
def Bu{k:Qk}(F:X0 "_law_numbered" sN f fd)(LI:X1 k "_law_flat" kA (IJ 4))(me:mg "enumerate"=Qq):↥qJ (RU K):=by
 refine F.ok yj4 ⇑?_;obtain⟨p,ks,b,rfl,hP,q⟩:=h;have O:(["_law_row_here"]:Z2).Nodup:=by rfl'
 have C:(["_law_k","_law_one"]:Z2).Nodup:=by rfl'
 have aw:(["_law_row_here","_law_name","_law_deed_here"]:Z2).Nodup:=by rfl'
 exists _,aJ (nB (i:=1) (N':=["_law_row_here"]) (src:=[Qq]) rfl yj4.nd rfl rfl eW (gY<|⇑@LI<|aI (eT ⇑0 aQ) aA) (g:=cA 0) (λ_ _ _ _=>gL 0 O) (λ_ _ _ _=>gP) (te:=fF<|bJ (fF<|bJ (tC<|.str "")<|bJ (tC<|.str "") bN)<|bJ (aG 0) bN) λ_ _ _ _=>cZ<|aI (cZ<|aI bW<|aI bW aA)<|av 0 aA)
  (aJ (eZ eN rfl (gB<|eT ⇑0 aQ) (dX (n:=3) rfl<|bI (rH (i:=2) yj4.nd rfl<|jH rfl)<|bI (gL 3 yj4.nd)<|bI (gL 4 yj4.nd) dV)<|aY<|eZ eN rfl (gB<|pv 4) (rH (i:=5) yj4.nd rfl<|jH rfl)<|aY<|eX<|fR fU PF MR QF ⇑1<|aI (jB (N':=["_law_row_here","_law_name","_law_deed_here"]) (src:=[Qq,Qp 2,Qp 5]) rfl eW (gY<|⇑@LI<|aI (eT ⇑5 aQ) aA) (g:=cA 0) (λ_ _ _ _=>gL 0 aw) (λ_ _ _ _=>gP) (te:=fF<|bJ (fF<|bJ (aG 1)<|bJ (dG (cO K) (aG 2)<|tC<|.int 0) bN)<|bJ (aG 0) bN) λ_ _ _ _=>cZ<|aI (cZ<|av 1<|aI (jK (show jN _ (cO K) from lU) ⇑2 aQ λ_ _=>U) aA)<|av 0 aA) aA)<|aY<|bR<|jB (N':=["_law_k","_law_one"]) (src:=[Qq,Qq]) rfl eW (OH Qs rfl me<|av 1 aA) (g:=eP K 2<|eG (cA 0)<|eG (cA 1) eO) (λ_ _ _ _=>dX (n:=2) rfl<|bI (gL 0 C)<|bI (gL 1 C) dV) (λ_ _ _ _=>gP) (te:=fF<|bJ (aG 0)<|bJ (dG (cO K) (aG 1)<|tC<|.int 0)<|bJ (dG (cO K) (aG 1)<|tC<|.int 1) bN) λ_ _ _ _=>cZ<|av 0<|aI (jK (show jN _ (cO K) from lU) ⇑1 aQ λ_ _=>U)<|aI (jK (show jN _ (cO K) from lU) ⇑1 aQ λ_ _=>U) aA)
 ac_rfl
 have s2:2<=sizeLine:=cQ (bS<|by decide);have s3:3<=sizeLine:=cQ (bS<|by decide);have hR:=hP.rows;have az:=xR hR;have a1:=hP.many;obtain⟨kt,us,lt,hp,hk,ad,ao,hM,b3⟩:=id hP;obtain⟨m1,Z,m3⟩:=id hM;obtain⟨Lm,Z,em⟩:=Z.ly 0;rw[<-em]at m3;refine{6,p,_,_,6,U,T2 hp,U,b.2.1,b.2.2.1,Lm,_,6,m1,Z,∅,λla H2 f2 M=>{la,U,{_,T1 M},λfl ah=>?_}};rw[em]at M m3;refine Ah (n:=(("":zZ),("":zZ))) (Pσ:=λσ=>∃x,σ=[x]) M ah ∅ {6} (by rintro σ v ⟨x,rfl⟩;exact{6}) (by
  rintro σ x H Q ⟨x0,rfl⟩ _ h;exact{s2,λt1 r=>{6,s2,λW I=>h t1 W r I}}) λb1 H3 f3 am an=>?_
 have G:=f2.trans f3;have a9:H fl=none:=zX f2 ah;exists 6,p,_,_,6,U,T2<|G _ _ aN hp,U,kt,U,{_,T2<|G _ _ aN hk};refine gG (xs:=us.map R7) (λi=>WZ H H p fl<|bQ (ks.take i) b) {_,_,_,_,b1,U,G,T4 G,am,?_} ?_ ?_ ?_
 .have e:cL (bQ (ks.take 0) b)=b.2.2.2.map λa=>(((("":zZ),("":zZ)),a):Fz):=by unfold cL bQ;simp
  rw[e];exact an
 .rintro i σ m hi ⟨_,_,_,_,_,_,fr,_⟩;exact T2<|fr _ _ aN hk
 .rintro i x σ m hx ⟨_,_,_,_,ps,rfl,fr,_,l,d⟩;rw[bP,vh8]at hx;obtain⟨u,J,rfl⟩:=hx;have hi:i<↑ks:=by rw[<-ad];exact(vh2.mp J).1
  have hy:ks[i]?=Qp ks[i]:=bM hi;obtain⟨e,dt,ds,d1,d2,d3,d4,d5⟩:=ao i u _ J hy;have eL:bQ (ks.take<|i+1) b=bQ (ks.take i) b++fN ks[i]:=by
   unfold bQ;rw[dE,hy,sW,Wp];simp
  have a2:∀z∈bQ (ks.take i) b++fN ks[i],z∈bQ ks b:=by
   intro z hz;rw[<-eL]at hz;unfold bQ at hz ⊢;obtain rfl|hz:=vj0.mp hz
   .exact .head _
   .obtain⟨y,au,ay⟩:=ub3.mp hz;exact .tail _<|ub3.mpr {y,lT au,ay}
  have ac:↑(bQ (ks.take i) b++fN ks[i])<=1000:=by
   rw[<-eL];refine fM ?_ a1;unfold bQ;rw[cK,cK];have:ks=ks.take (i+1)++ks.drop (i+1):=(vS _ _).symm
   conv=>rhs;rw[this]
   rw[sW,bK];lia
  rw[eL];generalize ks[i]=y at d1 d3 d4 a2 ac;exists u,6,T2<|fr _ _ aN d1,U,_,6,_,6,_,6,U;exists 6,dt,U,{_,T2<|fr _ _ aN d2};refine gG (xs:=ds.map R7) (λj=>VZ H H p fl y.1 e dt<|bQ (ks.take i) b++(fN y).take j) {_,ps,U,fr,T4 fr,l,by rw[Xi,eA];exact d} ?_ ?_ ?_
  .rintro j σ Hy hj ⟨_,_,_,o,_⟩;exact T2<|o _ _ aN d2
  .rintro j x σ Hy hx ⟨_,ps,rfl,o,_,l,d⟩;rw[bP,vh8]at hx;obtain⟨g,hg,rfl⟩:=hx;have hj:j<↑y.2:=by rw[<-d3];exact(vh2.mp hg).1
   have hz:y.2[j]?=Qp y.2[j]:=bM hj;obtain⟨b7,b6,g1,_,g2⟩:=d4 j g _ hg hz;have eD:(fN y).take (j+1)=(fN y).take j++[((y.1,y.2[j].1),y.2[j])]:=by
    have:(fN y)[j]?\((y.1,y.2[j].1),y.2[j]):=by unfold fN;rw[bP,hz];rfl
    rw[dE,this];rfl
   have b4:↑ps<=80000:=by
    have r:=d.len;have I:=xR (H:=H) (L:=bQ (ks.take i) b++(fN y).take j) λz hz=>by
     refine hR z<|a2 z ?_;obtain hz|hz:=vj7.mp hz
     .exact vj7.mpr<|.inl hz
     .exact vj7.mpr<|.inr<|lT hz
    have h3:↑(bQ (ks.take i) b++(fN y).take j)<=1000:=by
     refine fM ?_ ac;rw[bK,bK,dR];lia
    lia
   rw[eD,<-dY];generalize y.2[j]=z at g1 g2;obtain⟨r1,N,r3⟩:=g2.keep<|T4 o;obtain⟨Lz,N,ez⟩:=N.ly 0;rw[<-ez]at r3;refine{6,.inl {U,_,T1 l},6,g,_,_,6,U,T2<|o _ _ aN g1,U,z.2.1,z.2.2.1,Lz,_,6,r1,N,∅,λlb H4 f4 a7=>{lb,U,{_,T1 a7},λDe ap=>?_}};rw[ez]at a7 r3;refine Ah (n:=(y.1,z.1)) (Pσ:=λσ=>∃x,σ=[x,Qp<|.str y.1,Qp<|.ref g]) a7 ap ∅ {6} (by rintro σ v ⟨x,rfl⟩;exact{6}) (by
    rintro σ x Hq Q ⟨x0,rfl⟩ fq h;exact{6,6,g,_,_,6,U,T2<|((o.trans f4).trans fq) _ _ aN g1,U,s2,λt1 r=>{6,s2,λW I=>h t1 W r I}}) λpn H5 f5 aq ae=>?_
   have a4:=f4.trans f5;have ax:=ae.len;rw[aF]at ax;have aa:=a4 _ _ aN l;have tl:Tup H5 (upd H5 fl<|.lst<|ps.map R7++pn.map R7):=Tup.lst aa;exists fl,De,_,6,U,aa,aq,cQ (jM<|by rw[aF,aF];lia);have fz:FrS [] H (upd H5 fl<|.lst<|ps.map R7++pn.map R7):=(o.trans a4).put a9;refine{_,ps++pn,U,fz,T4 fz,by rw[zb0,bU],?_};rw[Jk];have e1:cL [((y.1,z.1),z)]=z.2.2.2.map λa=>((y.1,z.1),a):=by unfold cL;simp
   rw[e1];exact(d.pkeep<|(T4 a4).trans tl).app<|ae.pkeep tl
  .rintro σ Hy ⟨_,ps,rfl,o,ty,l,d⟩;have el:(fN y).take ↑(ds.map R7)=fN y:=cW (by unfold fN;rw[aF,aF];lia);rw[el]at d;exact{_,_,_,_,ps,U,o,ty,l,d}
 rintro σ H6 ⟨_,_,_,_,ps,rfl,f6,_,l,d⟩;rw[aF,ad,cW<|aV _]at d;have ak:=d.len;refine{6,fl,6,T1 l,λDu T=>?_};refine ND (xs:=ps.map R7) (WO K H6 Du<|(cL<|bQ ks b).zipIdx 0) {_,_,[],U,(FrS.refl).put T,zb0,.nil} ?_ ?_ ?_
 .rintro i σ m hi ⟨_,_,_,_,fr,_⟩;exact T1<|fr _ _ aN l
 .rintro i x pt σ m hx ⟨_,_,B,rfl,fr,as,hC⟩ ab;rw[bP,vh8]at hx;obtain⟨u,J,rfl⟩:=hx;obtain⟨z,hz,bd,u1,u2⟩:=d.get J;have af:Tup H6 m:=T4 fr;have al:Tup m (upd m pt<|.tup [.int (i:Qk),.ref u]):=T3 ab;have aj:((cL<|bQ ks b).zipIdx 0)[i]?\(z,i):=by rw[Va,hz];simp
  have b2:B.length<=80000:=by
   have r:=hC.len;rw[dR,kD]at r;lia
  have ai:=al _ _<|af _ _ u1;exists pt,6,T2 zb0,U,_,6,_,6,U;refine{6,6,u,_,_,6,U,T2 ai,U,6,u,_,_,6,U,T2 ai,U,s3,λpe b0=>?_};have fn:FrS [] m (upd (upd m pt<|.tup [.int (i:Qk),.ref u]) pe<|.tup [.int (i:Qk),.ref bd,.ref z.2]):=(S0 ab).trans<|S0 b0;have ag:=fn _ _ aN as;have tl:Tup _ (upd (upd (upd m pt<|.tup [.int (i:Qk),.ref u]) pe<|.tup [.int (i:Qk),.ref bd,.ref z.2]) Du<|.lst<|B.map R7++[R7 pe]):=Tup.lst ag;have tn:=(T4 fn).trans tl;refine{_,ag,jM (by rw[aF];lia),_,_,B++[pe],U,(fr.trans fn).put T,by rw[zb0,bU];rfl,?_};rw[dE,aj];exact(hC.ckeep tn).snoc {bd,tl _ _ zb0,.inl<|(af.trans tn) _ _ u2}
 .rintro σ H7 ⟨_,_,B,rfl,f7,ar,X⟩;rw[aF,ak]at X;rw[cW<|by rw[kD];exact aV _]at X;exact q Du B H7 (f6.trans f7) (zX f6 T) ar X
abbrev FN:Qd:=top 79
def FrS.old1(f:FrS [a] H H')(h:H' a\o)(hp:H' p=Qq):H p=none:=f.old (λb d=>by
 have:b=a:=⇑[d]
 subst this;exact{_,h}) hp
inductive MY(vs:Qi V)(H:Hp)(Q:VK)(_:XK):Prop
 | mk(hd:eH)(d m t r:Ql)(h1:vs=[.ref hd])(h2:Hand H hd d m t r)(h3:t<=20000)(h4:∀(ch:eH)(cs:Qi Ql)(H':Hp)(d' m' t':Ql),FrS [hd] H H'->H' ch\(.tup<|cs.map R8)->(∀c∈cs,-100<=c)->Hand H' hd d' m' t' r->t'<=t+12->Q (.ref ch) H')
inductive Ad(H:Hp)(hd Dl:eH)(t r:Ql)(i:Qk)(σ:St)(Hx:Hp):Prop
 | mk(x:Qj V)(cs:Qi Ql)(dx mx tx:Ql)(h1:σ=[x,Qp<|.ref hd])(h2:FrS [hd] H Hx)(h3:Hand Hx hd dx mx tx r)(h4:tx<=t+1+i)(h5:Hx Dl\(.lst<|cs.map R8))(h6:↑cs=i)(h7:∀c∈cs,-100<=c)
def AL:cC [qH] [qH] (bX FN):=cF
def vG{k:Qk}(F:X0 "_law_choices" FN f fd)(T:X1 k "_law_take" qB iL)(O:X1 k "_law_of" qC (dP K))(mr:mg "range"=Qq)(ae:mg "tuple"=Qq):↥[qH] MY:=by
 refine F.ok AL ⇑?_;obtain⟨hd,d,m,t,r,rfl,hh,ht,q⟩:=h;have nd2:(["_law_k",qH]:Z2).Nodup:=by rfl'
 exists _,aY (bR (eV gR rfl ae (by rfl') (aI (jB (N':=["_law_k",qH]) (src:=[Qq,Qp 0]) rfl eW (oW rfl mr<|aI (⇑@T<|av 0<|aI aQ aA) aA) (g:=cA 0) (λ_ _ _ _=>gL 0 nd2) (λ_ _ _ _=>gP)
  (te:=hV (dP K) [] E0<|bJ (aG 1)<|bJ (lC<|bJ (tC<|.int 0)<|bJ (tC<|.int 1)<|bJ (tC<|.int 1)<|bJ (tC<|.int 2)<|bJ (tC<|.int 3)<|bJ (tC<|.int 12)<|bJ (RF (rU λi=>.int<|-i)<|tC<|.int 1)<|bJ (tC<|.int 0) bN) bN)
  (λ_ _ _ _=>⇑@O<|av 1<|aI (cX<|aI aQ<|aI aQ<|aI aQ<|aI aQ<|aI aQ<|aI aQ<|aI (rP sF aQ)<|aI aQ aA) aA)) aA)))
 ac_rfl
 refine{6,hd,d,m,t,r,9,U,hh,∅,by decide,by decide,λx C I G x0 x1 c1 e1=>?_};have f1:FrS [hd] H (upd H hd<|hl C I G r):=T0<|.head _;have a1:Hand (upd H hd<|hl C I G r) hd C I G r:=Hand.at c1;generalize upd H hd (hl C I G r)=H1 at f1 a1;refine{x,U,∅,∅,λa X=>?_};have aa:a≠hd:=λz=>by rw[z,a1.1]at X;cases X
 have a8:H a=none:=FrS.old1 f1 a1.1 X;refine pB (lo:=0) (n:=x.toNat) (Ad H hd a t r) {_,[],C,I,G,U,f1.put a8,a1.new X,∅,zb0,U,λc hc=>nomatch hc} ?_ ?_
 .rintro i σ M hi ⟨_,B,dx,mx,tx,rfl,fx,J,af,L,ab,a7⟩;refine{6,6,cQ<|bS (by show 8<=_;decide),λl u=>?_};have ad:l≠hd:=λz=>by rw[z,J.1]at u;cases u
  have ac:=J.new (o:=.lst [.int 0,.int 1,.int 1,.int 2,.int 3,.int 12,.int<|-1,.int 0]) u;refine{hd,l,dx,mx,tx,r,6,ac,∅,ad,T1 zb0,by simp,by show 8<1000;decide,λy j b e hy c2 e2=>?_};obtain⟨c,rfl,hc⟩:∃c:Ql,y=.int c/\-100<=c:=by
   simp only[vj0,aN,eC]at hy;obtain rfl|rfl|rfl|rfl|rfl|rfl|rfl|rfl:=hy <;> exact{6,by decide}
  have N:FrS [hd] H (upd (upd M l<|.lst [.int 0,.int 1,.int 1,.int 2,.int 3,.int 12,.int<|-1,.int 0]) hd<|hl j b e r):=(fx.trans<|S0 u).put'<|.head _;have W:Hand (upd (upd M l<|.lst [.int 0,.int 1,.int 1,.int 2,.int 3,.int 12,.int<|-1,.int 0]) hd<|hl j b e r) hd j b e r:=Hand.at c2;have Z:upd (upd M l<|.lst [.int 0,.int 1,.int 1,.int 2,.int 3,.int 12,.int<|-1,.int 0]) hd (hl j b e r) a\(.lst<|B.map R8):=by rw[aE aa,aE<|bF L u];exact L
  refine(λ(key:∀H2:Hp,FrS [hd] H H2->Hand H2 hd j b e r->H2 a\(.lst<|B.map R8)->∃ys,H2 a\.lst ys/\↑ys<sizeLine/\Ad H hd a t r (i+1) [Qp<|R8<|0+i,Qp<|.ref hd] (upd H2 a<|.lst<|ys++[R8 c]))=>key _ N W Z) ?_;clear N W Z;intro H2 N W Z;refine{_,Z,bS (by rw[aF];lia),_,B++[c],j,b,e,U,N.put a8,{(aE<|cJ aa).trans W.1,c2},∅,by rw[zb0,bU];rfl,by rw[bK,ab];rfl,λz hz=>?_};obtain hz|hz:=vj7.mp hz
  .exact a7 z hz
  .rw[vj1.mp hz];exact hc
 .rintro σ M ⟨_,B,dx,mx,tx,rfl,fx,J,af,L,ab,a7⟩;refine{a,6,.inl {T1 L,λch a9=>?_}};exact q ch B _ dx mx tx (fx.trans<|S0 a9) zb0 a7 (J.new a9) ∅
abbrev Rp:=Qk->Qj zZ->Qj (zZ×zZ)->Prop
def Rw.mkd:Rw->Qj zZ
 | .make _ k=>Qp k
 | _=>Qq
def LL.ev(p:Rp):LL->Prop
 | .nil=>True
 | .op n _ r t=>p n r.mkd Qq/\t.ev p
 | .call n _ _ _ k d _ t=>p n Qq (Qp (k,d))/\t.ev p
 | .either _ _ a b t=>a.ev p/\b.ev p/\t.ev p
 | .again _ _ a t=>a.ev p/\t.ev p
def Du.ev(p:Rp):Du->Prop
 | .op n _ r _=>p n r.mkd Qq
 | .call n _ _ _ k d _ _=>p n Qq<|some (k,d)
 | .either _ _ a b _=>a.ev p/\b.ev p
 | .again _ _ a _=>a.ev p
 | .back _ _ _ _=>True
def PB{p:Rp}(m:Qk)(l:LL)(h:l.ev p):∀d∈l.dues m,d.ev p:=by
 induction l with
 | nil=>exact λ_ h=>nomatch h
 | op n a r t b=>exact vn4.mpr {h.1,b h.2}
 | call n a x y k d e t b=>exact vn4.mpr {h.1,b h.2}
 | either n a p q t _ _ b=>exact vn4.mpr {{h.1,h.2.1},b h.2.2}
 | again n a p t _ b=>exact vn4.mpr {h.1,b h.2}
inductive Ev(D:Qk->zZ->zZ->Prop):Qi V->Prop
 | say (n:Qk) (w:zZ):Ev D [.str "say",.int n,.str w]
 | came (k:zZ):Ev D [.str "came",.str k]
 | did (n:Qk) (k f:zZ) (h:D n k f):Ev D [.str "did",.int n,.str k,.str f]
def Ev.imp(h:Ev D r)(f:∀n k g,D n k g->D' n k g):Ev D' r:=by
 cases h with
 | say n w=>exact .say n w
 | came k=>exact .came k
 | did n k g h=>exact .did n k g<|f _ _ _ h
def ES:Qi V->Qj zZ
 | [_,.str k]=>Qp k
 | _=>Qq
def gE(l:Qi (Qi V)):Z2:=l.filterMap ES
def mI(k:zZ):Qi V:=[.str "came",.str k]
def Iq(l:Z2):gE (l.map mI)=l:=by
 induction l with
 | nil=>rfl
 | cons k l a=>show k::gE (l.map mI)=_;rw[a]
structure Cl(G:Pg)(E:zZ×zZ->Rp)(come:zZ×zZ->Prop)(kinds ss:zZ->Prop):Prop where
 c0:come ("","")
 cm:∀b n k,come b->E b n (Qp k) Qq->ss k->kinds k
 cc:∀b n q d x,come b->E b n Qq (Qp (q,d))->kinds x->q∈G.ln x->come (G.an x d,d)
 bo:∀f d,(G.bo f d).ev<|E (f,d)
def Dd(G:Pg)(E:zZ×zZ->Rp)(come:zZ×zZ->Prop)(a:zZ->Prop)(n:Qk)(x f:zZ):Prop:=∃b q d,E b n Qq (Qp (q,d))/\come b/\a x/\q∈G.ln x/\f=G.an x d/\come (f,d)
structure Wi(E:zZ×zZ->Rp)(come:zZ×zZ->Prop)(kinds:zZ->Prop)(S:Rs):Prop where
 th:∀z∈S.ts,kinds z.1
 vl:∀d∈S.ds,∀z∈d,VOk S.ts.length z.2
 td:∀d∈S.td,∃b,come b/\d.ev (E b)
structure Sx(G:Pg)(E:zZ×zZ->Rp)(come:zZ×zZ->Prop)(kinds ss:zZ->Prop)(S S1:Rs):Prop where
 ex:∃z new,S1.hr=S.hr++new/\(S.hr.Nodup->S1.hr.Nodup)/\S1.lg=S.lg++z/\gE z=new/\(∀r∈z,Ev (λ_ _ _=>True) r)/\(new≠[]->(∃k z',z=mI k::z')/\∃k,(∀x∈new,x∈G.ln k)/\∀x∈G.ln k,x∈S1.hr)/\((∀x∈S.hr,ss x)->Wi E come kinds S->Wi E come kinds S1/\∀r∈z,Ev (Dd G E come kinds) r)
section
variable{G:Pg}{E:zZ×zZ->Rp}{come:zZ×zZ->Prop}{kinds ss:zZ->Prop}
def Sx.none(d:S1.hr=S.hr)(e:S1.lg=S.lg)(f:(∀x∈S.hr,ss x)->Wi E come kinds S->Wi E come kinds S1):Sx G E come kinds ss S S1:=
 ⟨[],[],by rw[d,eA],λh=>by rw[d];exact h,by rw[e,eA],rfl,λ_ h=>(nomatch h),λh=>absurd rfl h,λa b=>{f a b,λ_ h=>nomatch h}⟩
def yT{S:Rs}(h:∀d∈S.ds,∀z∈d,VOk S.ts.length z.2)(m:Qk)(x:zZ):VOk S.ts.length (S.get m x):=by
 refine TU (λz a=>?_) _;obtain c|c:=nN m S.ds.length
 .rw[hJ,bM c]at a;exact h _ (fP c) z a
 .rw[hJ,tD c]at a;cases a
def YR{S:Rs}(h:∀d∈S.ds,∀z∈d,VOk S.ts.length z.2){v:V}(a:VOk S.ts.length v)(m:Qk)(x:zZ):∀d∈(S.put m x v).ds,∀z∈d,VOk S.ts.length z.2:=by
 intro d hd;obtain hd|rfl:=LO hd
 .exact h d hd
 .refine AV (λz b=>?_) a;obtain c|c:=nN m S.ds.length
  .rw[hJ,bM c]at b;exact h _ (fP c) z b
  .rw[hJ,tD c]at b;cases b
theorem Wi.put(h:Wi E come kinds S)(a:VOk S.ts.length v):Wi E come kinds (S.put m x v):=⟨h.th,YR h.vl a m x,h.td⟩
theorem Sx.thing{S:Rs}{v:V}{f:Ql->Rs×Qj zZ}(h:∀j:Ql,Sx G E come kinds ss S (f j).1):Sx G E come kinds ss S (S.thing v f).1:=by
 cases v with
 | int j=>exact h j
 | _=>exact .none rfl rfl λ_ h=>h
theorem Wi.push(h:Wi E come kinds S)(a:come b)(hl:l.ev (E b)):Wi E come kinds (S.push l m):=⟨h.th,h.vl,λd hd=>(vj7.mp hd).elim (λhd=>⟨b,a,PB m l hl d hd⟩)<|h.td d⟩
def Fk(l:LL)(m n:Qk):∀S:Rs,(pushN l m n S).hr=S.hr/\(pushN l m n S).lg=S.lg:=by
 induction n with
 | zero=>exact λ_=>⟨rfl,rfl⟩
 | succ n a=>exact λS=>a<|S.push l m
theorem Wi.pushN(a:come b)(hl:l.ev (E b))(n:Qk):∀S,Wi E come kinds S->Wi E come kinds (pushN l m n S):=by
 induction n with
 | zero=>exact λ_ h=>h
 | succ n d=>exact λS h=>d _<|h.push a hl
def My(l:Z2):∀S:Rs,∃new,l.foldl Rs.come S={S with hr:=S.hr++new,lg:=S.lg++new.map mI}/\(S.hr.Nodup->(S.hr++new).Nodup)/\(∀x∈new,x∈l)/\∀x∈l,x∈S.hr++new:=by
 induction l with
 | nil=>exact λS=>{[],by simp,λh=>⇑[h],λ_ h=>(nomatch h),λ_ h=>nomatch h}
 | cons k l j=>
  intro S;obtain⟨new,a,d,f,b⟩:=j<|S.come k;rw[uF]
  by_cases c:k∈S.hr
  .rw[show S.come k=S from bG c]at a d b ⊢;exact{new,a,d,λx i=>.tail _<|f x i,vn4.mpr {nC _ c,b}}
  .have e:S.come k={S with hr:=S.hr++[k],lg:=S.lg++[[.str "came",.str k]]}:=bA c;rw[e]at a d b ⊢;refine⟨k::new,by rw[a];simp[mI],λh=>?_,vn4.mpr {.head _,λx i=>.tail _<|f x i},vn4.mpr {jE _<|.head _,λx i=>?_}⟩
   .have:=d<|DX h c;rwa [dY]at this
   .have:=b x i;rwa [dY]at this
def TF(C:Cl G E come kinds ss)(S:Rs)(d:Du)(hd:∃b,come b/\d.ev (E b)):Sx G E come kinds ss S (doR G S d).1:=by
 obtain⟨b,A,hd⟩:=hd;cases d with
 | op n a r m=>
  cases r with
  | make x k=>
   show Sx G E come kinds ss S (if k∈S.hr then(((S.make k).put m x<|.int S.ts.length),Qq) else(S,Qp "absent"):Rs×Qj zZ).1
   split
   .next c=>
    refine .none rfl rfl λI h=>Wi.put (S:=S.make k) {λz hz=>?_,λd hd z hz=>?_,h.td}<|.inr {6,by show _<↑(S.ts++[_]);rw[bK];exact wN _}
    .obtain hz|hz:=vj7.mp hz
     .exact h.th z hz
     .rw[vj1.mp hz];exact C.cm b n k A hd<|I k c
    .obtain hd|hd:=vj7.mp hd
     .exact(h.vl d hd z hz).mono (by show _<=↑(S.ts++[_]);rw[bK];exact lA _)
     .rw[vj1.mp hd]at hz;cases hz
   .exact .none rfl rfl λ_ h=>h
  | copy x y=>exact .none rfl rfl λ_ h=>h.put<|yT h.vl m y
  | put x f y=>exact .thing λj=>.none rfl rfl λ_ h=>h.put<|yT h.vl m y
  | take x y f=>exact .thing λj=>.none rfl rfl λ_ h=>h.put<|yT h.vl _ f
  | say w=>exact{[[.str "say",.int n,.str w]],[],by rw[eA];rfl,id,U,U,λr T=>by rw[vj1.mp T];exact .say n w,λh=>absurd rfl h,λ_ h=>{{h.th,h.vl,h.td},λr T=>by rw[vj1.mp T];exact .say n w}}
  | bring k=>
   obtain⟨new,e,nd,M,N⟩:=My (G.ln k).reverse S;show Sx G E come kinds ss S<|(G.ln k).reverse.foldl Rs.come S;rw[e];have Z:∀D,∀r∈new.map mI,Ev D r:=λD r T=>by obtain⟨k,_,rfl⟩:=vj2.mp T;exact .came k
   refine{new.map mI,new,U,nd,U,Iq new,Z _,λO=>?_,λ_ h=>{{h.th,h.vl,h.td},Z _}};refine{?_,k,λx W=>vx4.mp<|M x W,λx W=>N x<|vx4.mpr W};cases new with
   | nil=>exact absurd rfl O
   | cons k l=>exact{k,6}
 | call n a x y k d X m=>
  show Sx G E come kinds ss S (S.thing (S.get m y) λj=>if k∈G.ln (S.kind j) then if 40<=S.uw then(S,Qp "deep") else(tF G S n m x d X j,Qq) else(S,Qp "unfit")).1;cases hv:S.get m y with
  | int j=>
   show Sx G E come kinds ss S (if k∈G.ln (S.kind j) then if 40<=S.uw then(S,Qp "deep") else(tF G S n m x d X j,Qq) else(S,Qp "unfit"):Rs×Qj zZ).1
   split
   .next c=>
    split
    .exact .none rfl rfl λ_ h=>h
    .refine⟨[[.str "did",.int n,.str<|S.kind j,.str<|G.an (S.kind j) d]],[],by rw[eA];rfl,id,rfl,rfl,λr T=>by rw[vj1.mp T];exact .did _ _ _ fG,λh=>absurd rfl h,λI h=>?_⟩;have H:VOk S.ts.length (.int j):=by rw[<-hv];exact yT h.vl m y
     have L:kinds (S.kind j):=by
      obtain H|⟨i,hi,hl⟩:=H
      .cases H
      .cases hi;show kinds (S.ts.getD (Ql.toNat (i:Ql)) ("",0)).1;rw[rD,hJ,bM hl];exact h.th _<|fP hl
     have J:=C.cc b n k d _ A hd L c;refine{{h.th,λd' B=>?_,λu o=>?_},λr T=>by rw[vj1.mp T];exact .did _ _ _ ⟨b,k,d,hd,A,L,c,rfl,J⟩}
     .obtain B|B:=vj7.mp B
      .exact h.vl d' B
      .rw[vj1.mp B];exact AV (QJ (λx=>yT h.vl m x) _ _ λz hz=>nomatch hz) H
     .obtain o|o:=vj7.mp o
      .exact⟨_,J,PB _ _ (C.bo _ d) u o⟩
      .obtain rfl|o:=vj0.mp o
       .exact⟨b,A,fG⟩
       .exact h.td u o
   .exact .none rfl rfl λ_ h=>h
  | _=>exact .none rfl rfl λ_ h=>h
 | either n a p q m=>
  refine .none rfl rfl λ_ h=>?_;refine Wi.push (S:={S with rd:=S.rd+1}) {h.th,h.vl,h.td} A ?_
  split
  .exact hd.1
  .exact hd.2
 | again n a p m=>
  have e:=Fk p m (min (S.pick G) 9).toNat {S with rd:=S.rd+1};exact .none e.1 e.2 λ_ h=>Wi.pushN A hd _ _ {h.th,h.vl,h.td}
 | back x g s m=>exact .none rfl rfl λ_ h=>h
def NB(l:LL):l.ev (λ_ _ _=>True):=by
 induction l with
 | nil=>exact fG
 | op n a r t f=>exact⟨fG,f⟩
 | call n a x y k d i t f=>exact⟨fG,f⟩
 | either n a p q t e b h=>exact⟨e,b,h⟩
 | again n a p t e b=>exact⟨e,b⟩
structure Jx(G:Pg)(E:zZ×zZ->Rp)(come:zZ×zZ->Prop)(kinds ss:zZ->Prop)(hz:Z2)(S:Rs):Prop where
 hr:S.hr=hz++gE S.lg
 nd:S.hr.Nodup
 ev:∀r∈S.lg,Ev (λ_ _ _=>True) r
 up:∀x∈S.hr,x∈G.nm/\∀y∈G.ln x,y∈S.hr
 lf:((∀x∈S.hr,ss x)/\Wi E come kinds S/\∀r∈S.lg,Ev (Dd G E come kinds) r)\/((¬∀x∈S.hr,ss x)/\∃l1 k l2,S.lg=l1++mI k::l2/\∀r∈l1,Ev (Dd G E come kinds) r)
def ZO(a b:Qi (Qi V)):gE (a++b)=gE a++gE b:=Yr
structure nA(G:Pg):Prop where
 nm:∀k,∀x∈G.ln k,x∈G.nm
 up:∀k,∀x∈G.ln k,∀y∈G.ln x,y∈G.ln k
def Jx.step(lo:nA G)(h:Jx G E come kinds ss hz S)(s:Sx G E come kinds ss S S1):Jx G E come kinds ss hz S1:=by
 obtain⟨z,new,b,o,a,n,i,f,j⟩:=s;exists by rw[b,a,ZO,<-dY,<-h.hr,n],o h.nd,λr A=>?_,λx hx=>?_
 .rw[a]at A;exact(vj7.mp A).elim (h.ev r)<|i r
 .rw[b]at hx;obtain hx|hx:=vj7.mp hx
  .exact⟨(h.up x hx).1,λy d=>by rw[b];exact nC _<|(h.up x hx).2 y d⟩
  .obtain⟨_,k,e,u⟩:=f<|List.ne_nil_of_mem hx;exact{lo.nm k x<|e x hx,λy d=>u y<|lo.up k x (e x hx) y d}
 .obtain⟨a1,a2,a3⟩|⟨a1,l1,k,l2,a2,a3⟩:=h.lf
  .obtain⟨b1,l⟩:=j a1 a2
   by_cases c:∀x∈S1.hr,ss x
   .exact .inl ⟨c,b1,λr A=>by rw[a]at A;exact(vj7.mp A).elim (a3 r)<|l r⟩
   .refine .inr ⟨c,?_⟩;have q:new≠[]:=λz=>c (by rw[b,z,eA];exact a1)
    obtain⟨⟨k,m,hz⟩,_⟩:=f q;exact{S.lg,k,m,by rw[a,hz],a3}
  .exact .inr ⟨λc=>a1 λx hx=>c x (by rw[b];exact nC _ hx),l1,k,l2++z,by rw[a,a2];simp,a3⟩
def Jx.pop(h:Jx G E come kinds ss hz S)(e:S.td=d::r):Jx G E come kinds ss hz {S with td:=r}:=⟨h.hr,h.nd,h.ev,h.up,h.lf.imp (λ⟨a,b,c⟩=>⟨a,⟨b.th,b.vl,λd hd=>b.td d<|by rw[e];exact .tail _ hd⟩,c⟩) id⟩
def Lc(S:Rs)(x:zZ)(g:Qj zZ)(s m:Qk):Sx G E come kinds ss S (yI S x g s m):=.none rfl rfl λ_ h=>by
 have a:VOk S.ts.length (S.giv s g):=by
  cases g with
  | none=>exact .inl rfl
  | some g=>exact yT h.vl s g
 exact{h.th,YR h.vl a m x,h.td}
def Ag(lo:nA G)(h:Jx G E come kinds ss hz S)(C:Cl G E come kinds ss)(e:S.td=d::r):Jx G E come kinds ss hz (doR G {S with td:=r} d).1:=by
 obtain⟨a1,o,q⟩|⟨a1,s,k,u,o,q⟩:=h.lf
 .exact(h.pop e).step lo (TF C _ d<|o.td d<|by rw[e];exact .head _)
 .-- nothing is asked of what is to be done
  have:Sx G (λ_ _ _ _=>True) (λ_=>True) (λ_=>True) (λ_=>True) {S with td:=r} (doR G {S with td:=r} d).1:=TF ⟨fG,λ_ _ _ _ _ _=>fG,λ_ _ _ _ _ _ _ _ _=>fG,λf d=>NB _⟩ _ d ⟨("",""),fG,by cases d <;> simp[Du.ev,NB]⟩;obtain⟨z,new,j,n,a,m,i,l,_⟩:=this;exact(h.pop e).step lo {z,new,j,n,a,m,i,l,λb=>absurd b a1}
def Rn.jx(lo:nA G)(C:Cl G E come kinds ss)(t:Rn G mo dn S S' e v)(h:Jx G E come kinds ss hz S):Jx G E come kinds ss hz S':=by
 induction t with
 | done _=>exact h
 | back e t a=>exact a<|(h.pop e).step lo<|Lc _ _ _ _ _
 | long e f d=>exact h.pop e
 | stop e f d b=>have:=Ag lo h C e;rw[b]at this;exact this
 | go e f d b t a=>have:=Ag lo h C e;rw[b]at this;exact a this
def Rn.within(lo:nA G)(C:Cl G E come kinds ss)(nd:hz.Nodup)(a:∀x∈hz,x∈G.nm/\∀y∈G.ln x,y∈hz)(h0:∀x∈hz,ss x)(t:Rn G mo 0 (st0 G hz) S' e v):Jx G E come kinds ss hz S':=by
 refine t.jx lo C {by show hz=hz++[];rw[eA],nd,λr h=>(nomatch h),a,.inl {h0,{λz h=>(nomatch h),λd hd z hz=>?_,λd hd=>?_},λr h=>nomatch h}}
 .have:d=[]:=vj1.mp hd;rw[this]at hz;cases hz
 .obtain hd|hd:=vj7.mp hd
  .exact⟨_,C.c0,PB 0 _ (C.bo "" "") d hd⟩
  .cases hd
end
abbrev TV:Qd:=top 82
def Dw(H:Hp)(tr:Tr)(L:Qi Fz)(ss:Z2)(come:Qi (zZ×zZ))(e:Z2)(n:Qk)(x f:zZ):Prop:=∃b a q d,L[n]?\(b,a)/\iR H a\(q,d)/\b∈come/\x∈e/\x∈ss/\below tr q x=Qr/\nI ss b=Qr/\(f,d)∈come
inductive YM(H1:Hp)(Dl:eH)(QL:Qi (Fz×Qk))(i:Qk)(σ:St)(Hx:Hp):Prop
 | mk(x y z:Qj V)(ts:Z3)(hσ:σ=[x,y,z])(fr:FrS [] H1 Hx)(hD:Hx Dl\(.lst<|ts.map R7))(ha:A2 (λt (q:Fz×Qk)=>Hx t\.tup [.int (q.2:Ql),.ref q.1.2]) ts (QL.take i)):YM H1 Dl QL i σ Hx
inductive wS(vs:Qi V)(H:Hp)(Q:VK)(_:XK):Prop
 | mk(Z:Z0)(p a l:eH)(ks:Qi (zZ×Qi Dz))(m0:Dz)(tr:Tr)(ss:Z2)(kq:Kq)(rows:Z3)(lg:Qi (Qi V))(h1:vs=[.ref p,.ref a,.ref l])(h2:ProgIs Z H p ks m0)(h3:KindsAt H p tr)(h4:TrOk tr)(h5:↑tr<=12)(h6:jV Z tr kq)(h61:DeedsQ H p kq)(h7:H a\(.tup<|ss.map R6))(h8:∀x∈ss,∃l,Up tr x l)(h9:↑ss<=12)
  (h10:H l\(.tup<|rows.map R7)) (h11:A2 (λr a=>H a\.tup r) lg rows) (h12:∀(Hy:Hp) come kinds,FrS [] H Hy->MdOk Hy kq tr (cL<|bQ ks m0) ss come kinds->(∀q∈cL (bQ ks m0),Sat Hy kq tr ss come kinds q)->∀r∈lg,Ev (Dw H tr (cL<|bQ ks m0) ss come kinds) r)
  (q:∀H',FrS [] H H'->Q (.bl Qr) H')
def OU{kvs:Qi (aK×V)}(nd:(kvs.map (·.1)).Nodup)(h:(k,v)∈kvs):aO (cU [] kvs) k\v:=by
 rw[Aa kvs []<|⇑[nd]];obtain⟨i,a⟩:=vn2.mp h;exact NP nd a
def SH{L:Qi α}:((L.zipIdx 0).map λq=>(Qu (q.2:Ql):aK)).Nodup:=by
 have h:((L.zipIdx 0).map Prod.snd).Nodup:=by rw[Qi.zipIdx_map_snd];exact Qi.nodup_range'
 have:=Qi.Pairwise.map (S:=λa b=>a≠b) (λn:Qk=>(Qu (n:Ql):aK)) (λa b h e=>h<|by injection e with e;exact Ql.ofNat.inj e) h;rwa [gU]at this
def XP{K:Fq}(h:A2 (ToIs H) es q):∃kvs:Qi (aK×V),↑es=↑kvs/\(∀(j:Qk) e d,es[j]?\e->kvs[j]?\d->SqT K H e [kV d.1,d.2])/\kvs.map (·.1)=q.map (λz=>(Qu (z.1:Ql):aK))/\∀z∈q,∃t,((Qu (z.1:Ql):aK),R7 t)∈kvs/\H t\(.tup<|z.2.map R6):=by
 induction h with
 | nil=>exact{[],U,λ_ _ _ h=>(nomatch h),U,λ_ h=>nomatch h}
 | @cons e z es q h t s=>
  obtain⟨kvs,m,f,l,n⟩:=s;obtain⟨t,i,o,_⟩:=h;refine{(Qu (z.1:Ql),.ref t)::kvs,cP (·+1) m,λj e d a b=>?_,cP (_::·) l,vn4.mpr {{t,.head _,o},λz r=>let ⟨t,a,b⟩:=n z r;⟨t,.tail _ a,b⟩}};cases j with
  | zero=>cases a;cases b;exact T2 i
  | succ j=>exact f j e d a b
def SX(f:L[n]?\(b,a))(e:iR H a\(q,d))(h:b∈C):(n,ss.filter<|below tr q)∈toldL H tr ss C L:=by
 refine vj2.mpr {((b,a),n),vq0.mpr {Qi.mem_zipIdx_iff_getElem?.mpr f,?_},?_}
 .show(iR H a).isSome=Qr;rw[e];rfl
 .show(n,if b∈C then ss.filter (below tr<|yW H a) else [])=_;rw[bG h];unfold yW;rw[e];rfl
def VU:((toldL H tr ss C L).map λz=>(Qu (z.1:Ql):aK)).Nodup:=by
 unfold toldL;rw[gU];exact(SH (L:=L)).sublist<|(Zi (p:=gV H) (l:=L.zipIdx 0)).map _
abbrev IG:Z2:=["_law_program_here","_law_there","_law_log"]
def scIn:cC ["_law_program_here","_law_there","_law_log","_law_calls_here","_law_tree_here","_law_some","_law_come_to","_law_event","_law_word","_law_number","_law_kind","_law_found"] IG (bX TV):=cF
def DG{k:Qk}(F:X0 "_law_within" TV f fd)(NU:X1 k "_law_numbered" qJ (RU K))(TR:X1 k "by_tree" lI tZ)(BM:X1 k "by_made" lI (OB K))(MP:X1 k "made_paper" lI (JX K))(ah:mg "dict"=Qq):↥IG wS:=by
 refine F.ok scIn ⇑?_;obtain⟨Z,p,a,l,ks,N,tr,ss,kq,rows,lg,rfl,J,hK,hT,ak,hL,au,ha,hU,an,hl,bc,hD,q⟩:=h;have hu:=fL hr;have G:(["_law_number","_law_body","_law_row_here"]:Z2).Nodup:=by rfl'
 exists _,aJ (sL 3 scIn.nd (eV (MA U) rfl ah (by rfl') (aI (jB (N':=["_law_number","_law_body","_law_row_here"]) (src:=[Qq,Qq,Qq]) rfl eW (gY<|⇑@NU<|av 0 aA)
    (g:=eP K 3<|eG (cA 0)<|eG (cA 1)<|eG (cA 2) eO) (λ_ _ _ _=>dX (n:=3) rfl<|bI (gL 0 G)<|bI (gL 1 G)<|bI (gL 2 G) dV) (λ_ _ _ _=>gP) (te:=fF<|bJ (aG 0)<|bJ (aG 2) bN) (λ_ _ _ _=>cZ<|av 0<|av 2 aA)) aA)))
  (aJ (UT (i:=4) (j:=5) rfl scIn.nd rfl rfl ↥?_ rfl rfl (aI (eV (UB rfl) rfl ah (by rfl')<|aI (⇑@TR<|av 0<|av 1 aA) aA)<|aI (eV (UB rfl) rfl ah (by rfl')<|aI (⇑@BM<|av 0<|av 1 aA) aA) aA) rfl)
  (aJ (sL 6 scIn.nd<|eT (⇑@MP<|av 0<|av 1 aA) aQ)<|aJ (eZ eN rfl (gB<|pv 2) (gL 7 scIn.nd)<|aY<|cY (cG gF (eT ⇑7 aQ) bW<|cS _) (aJ (hZ ⇑7<|dX (n:=4) rfl<|bI (gL 8 scIn.nd)<|bI (gL 9 scIn.nd)<|bI (gL 10 scIn.nd)<|bI (gL 11 scIn.nd) dV)<|aJ (cY (PW.pt<|IY (cG xE ⇑10 (dL hu ⇑4 ⇑9 λ_ _=>U) rfl)<|KW<|cG xE ⇑10 (dL hu ⇑5 ⇑9 λ_ _=>U) rfl) (aY<|bR nX) dJ)<|aY<|cY (cG (Dj hu) (cZ<|av 11<|aI (eT (dL hu ⇑3 ⇑9 λ_ _=>U) aQ) aA) ⇑6 rfl) (aY<|bR nX) dJ) dJ)<|aY<|bR nX))
 ac_rfl
 have s2:2<=sizeLine:=cQ (bS<|by decide);have hI:=pC J.rows;have b5:↑(cL<|bQ ks N)<=80000:=by have:=xR J.rows;have:=(LU J).2;lia
 refine{6,p,ks,N,U,J,λb ns H1 f1 c2 hb hA=>{b,U,{_,T1 hb},λDl b0=>?_}};generalize hLL:cL (bQ ks N)=L at *;have b6:=hA.len;rw[kD]at b6;refine iT (xs:=ns.map R7) (YM H1 Dl<|L.zipIdx 0) {_,_,_,[],U,(FrS.refl).put b0,zb0,.nil} ?_ ?_ ?_
 .rintro i σ u hi ⟨_,_,_,_,_,fr,_⟩;exact T1<|fr _ _ aN hb
 .rintro i x σ u hx ⟨x0,y0,z0,ts,rfl,fr,aj,T⟩;rw[bP,vh8]at hx;obtain⟨e,he,rfl⟩:=hx;obtain⟨qz,hq,bd,e1,e2⟩:=hA.get he;exists e,6,T2<|fr _ _ aN e1,U,_,6,_,6,_,6,U;refine{6,6,s2,λt ht=>?_};have ap:=(S0 (o:=.tup [.int (qz.2:Ql),.ref qz.1.2]) ht) _ _ aN aj;have ae:=T.len;rw[dR,kD]at ae;refine{_,ap,jM (by rw[aF];lia),_,_,_,ts++[t],U,(fr.trans<|S0 ht).put b0,by rw[zb0,bU];rfl,?_};rw[dE,hq];exact(T.imp λ_ _ h=>(Tup.lst ap) _ _<|(T3 ht) _ _ h).snoc<|(Tup.lst ap) _ _ zb0
 .rintro σ u ⟨x0,y0,z0,ts,rfl,fr,aj,T⟩;rw[aF,cW<|by rw[kD,b6];exact aV _]at T;have ae:=T.len;rw[kD]at ae;refine{Dl,ts,(L.zipIdx 0).map λq=>((Qu (q.2:Ql):aK),R7 q.1.2),U,T1 aj,by rw[aF,kD,ae],jM (by rw[aF,kD];lia),λj t kv hj hk=>?_,λM bw=>?_}
  .rw[bP,vh8]at hk;obtain⟨qz,hq,rfl⟩:=hk;obtain⟨q',bb,g⟩:=T.get hj;rw[hq]at bb;cases bb;exact T2 g
  have f2:FrS [] H (upd u M<|.dK<|cU []<|(L.zipIdx 0).map λq=>((Qu (q.2:Ql):aK),R7 q.1.2)):=(f1.trans fr).trans<|S0 bw;have az:upd u M (.dK<|cU []<|(L.zipIdx 0).map λq=>((Qu (q.2:Ql):aK),R7 q.1.2)) M\(.dK<|cU []<|(L.zipIdx 0).map λq=>((Qu (q.2:Ql):aK),R7 q.1.2)):=zb0;generalize upd u M (.dK<|cU []<|(L.zipIdx 0).map λq=>((Qu (q.2:Ql):aK),R7 q.1.2))=H2 at f2 az;have t2:=T4 f2;exists 6,6,p,a,ks,N,tr,ss,Z,U,J.keep t2,hK.keepT t2,hT,ak,f2 _ _ aN ha,hU,an;rintro b1 H3 f3 ⟨bz,C1,bq,ai,bg⟩;rw[hLL]at ai bg;obtain⟨a1,k1,k2,k3,k4⟩:=XP (K:=K) ai;have bi:↑(toldL H2 tr ss C1 L)<=80000:=by
   unfold toldL;rw[aF];exact fM (jJ _ _) (by rw[kD];exact b5)
  have bm:↑a1<=80000:=by rw[<-k1,ai.len];exact bi
  refine{b1,bz,a1,U,bq,k1,jM ∅,k2,λI a5=>?_};have f4:FrS [] H (upd H3 I<|.dK<|cU [] a1):=(f2.trans f3).trans<|S0 a5;have b3:=((f3.trans<|S0 (o:=.dK<|cU [] a1) a5)) _ _ aN az;have ax:upd H3 I (.dK<|cU [] a1) I\(.dK<|cU [] a1):=zb0;have b8:∀z∈toldL H tr ss C1 L,∃t,((Qu (z.1:Ql):aK),R7 t)∈a1/\upd H3 I (.dK<|cU [] a1) t\(.tup<|z.2.map R6):=λz hz=>by
   rw[<-LF hI t2 λ_=>Iff.rfl]at hz;obtain⟨t,a,b⟩:=k4 z hz;exact{t,a,(T3 a5) _ _ b}
  have ar:(a1.map (·.1)).Nodup:=by rw[k3];exact VU
  generalize upd H3 I (.dK<|cU [] a1)=H4 at f4 b3 ax b8;have t4:=T4 f4;exists 6,6,p,a,ks,N,tr,ss,Z,U,J.keep t4,hK.keepT t4,hT,ak,kq,hL,au.keep t4,f4 _ _ aN ha,hU,an;rintro b2 a4 X H5 f5 ⟨br,bs,aq,b7,ac,_⟩;rw[hLL]at aq b7 ac;obtain⟨m,l1,l2,l3,l4⟩:=XP (K:=K) aq;have c3:↑m<=80000:=by
   rw[<-l1,aq.len];unfold toldL;rw[aF];exact fM (jJ _ _) (by rw[kD];exact b5)
  refine{b2,br,m,U,bs,l1,jM ∅,l2,λC a9=>?_};have ad:=f5.trans<|S0 (o:=.dK<|cU [] m) a9;have b4:=ad _ _ aN b3;have a8:=ad _ _ aN ax;have be:upd H5 C (.dK<|cU [] m) C\(.dK<|cU [] m):=zb0;have aw:∀z∈toldL H tr X a4 L,∃t,((Qu (z.1:Ql):aK),R7 t)∈m/\upd H5 C (.dK<|cU [] m) t\(.tup<|z.2.map R6):=λz hz=>by
   rw[<-LF hI t4 λ_=>Iff.rfl]at hz;obtain⟨t,a,b⟩:=l4 z hz;exact{t,a,(T3 a9) _ _ b}
  have af:(m.map (·.1)).Nodup:=by rw[l3];exact VU
  have ab:∀z∈toldL H tr ss C1 L,∃t,((Qu (z.1:Ql):aK),R7 t)∈a1/\upd H5 C (.dK<|cU [] m) t\(.tup<|z.2.map R6):=λz hz=>let ⟨t,a,b⟩:=b8 z hz;⟨t,a,(T4 ad) _ _ b⟩
  have f6:=f4.trans ad;generalize upd H5 C (.dK<|cU [] m)=H6 at f6 b4 a8 be aw ab;exists _,6;have t6:=T4 f6;exists 6,6,p,a,ks,N,tr,ss,Z,U,J.keep t6,hK.keepT t6,hT,ak,kq,hL,au.keep t6,f6 _ _ aN ha,hU,an;rintro r qs a6 H7 f7 ⟨ca,ka,bn,bv,bt,c1,b9,aa,_⟩;rw[hLL]at b9 aa;exists r,_,_,.ref ca,U,U,T2 bn,U;have W:=f6.trans f7;have bx:=hD H4 a4 X f4 b7 ac;have bh:=hD H6 (qs.map (·.1)) a6 f6 b9 aa;exists 6,l,U,{_,T2<|W _ _ aN hl};refine gG (xs:=rows.map R7) (λi σ u=>∃x7 x8 x9 am ao,σ=[Qp<|.ref p,Qp<|.ref a,Qp<|.ref l,Qp<|.ref M,Qp<|.ref I,Qp<|.ref C,Qp<|.ref ca,x7,x8,x9,am,ao]/\FrS [] H7 u) {_,_,_,_,6,FrS.refl} ?_ ?_ ?_
  .rintro i σ u hi ⟨_,_,_,_,_,_,B⟩;exact T2<|(W.trans B) _ _ aN hl
  .rintro i x σ u hx ⟨x7,x8,x9,am,ao,rfl,B⟩;rw[bP,vh8]at hx;obtain⟨e,he,rfl⟩:=hx;have al:i<↑lg:=by rw[bc.len];exact(vh2.mp he).1
   obtain⟨e',ay,bk⟩:=bc.get<|bM al;rw[he]at ay;cases ay;have a2:=(W.trans B) _ _ aN bk;have bf:=bx _<|fP al;have ba:=bh _<|fP al;generalize lg[i]=rw at a2 bf ba;cases bf with
   | say n w=>
    exists 6,e,_,_,.str "say",U,U,T2 a2,U,U,6;exact cT {_,_,_,_,6,B}
   | came k=>
    exists 6,e,_,_,.str "came",U,U,T2 a2,U,U,6;exact cT {_,_,_,_,6,B}
   | did n x fn h1=>
    obtain⟨b,ra,qk,d,O,g2,g3,g4,g5,g6,g7,_⟩:=h1;exists 6,e,_,_,.str "did",U,U,T2 a2,U,U,6;refine fX {6,e,6,T2 a2,U,_,6,_,6,_,6,_,6,U,?_};have fm:=f7.trans B;have m1:b∈C1:=(bg _<|dM O).mpr g7;obtain⟨t1,u1,u2⟩:=ab _<|SX (ss:=ss) (tr:=tr) O g2 m1;obtain⟨bu,v1,v2⟩:=aw _<|SX (ss:=X) (tr:=tr) O g2 g3;exists 6,6,6,I,6,(OU ar u1)▸DGet.k (k:=Qu (n:Ql)) (fm _ _ aN a8),t1,6,.inr<|T2<|fm _ _ aN u2,U,jL _;have w1:gC (.str x) ((ss.filter<|below tr qk).map R6)=true:=by rw[jS];exact cN<|vq0.mpr ⟨g5,g6⟩
    have w2:gC (.str x) ((X.filter<|below tr qk).map R6)=true:=by rw[jS];exact cN<|vq0.mpr ⟨g4,g6⟩
    show nH (.bl<|!gC (.str x) ((ss.filter<|below tr qk).map R6)) _ _;rw[w1];refine{6,cT ?_};exists 6,6,6,C,6,(OU af v1)▸DGet.k (k:=Qu (n:Ql)) (fm _ _ aN be),bu,6,.inr<|T2<|fm _ _ aN v2,U,jL _;show nH (.bl<|!gC (.str x) ((X.filter<|below tr qk).map R6)) _ _;rw[w2];refine{6,cT ?_};have i8:(fn,d)∈qs.map (·.1):=by
     cases ba with
     | did _ _ _ h2=>
      obtain⟨b',c4,c6,d',i1,i2,_,_,_,_,_,i8⟩:=h2;rw[O]at i1;cases i1;rw[g2]at i2;cases i2;exact i8
    have mL:=dM O;obtain⟨w',rest,as,bp,_⟩:=hI _ mL;obtain⟨rfl,rx,ry,rk,rd,rg,rfl,e4,_⟩|⟨_,e4⟩:=xC as bp
    .rw[g2]at e4;cases e4;have mk:((Qu (n:Ql):aK),R7 ra)∈(L.zipIdx 0).map λq=>((Qu (q.2:Ql):aK),R7 q.1.2):=vj2.mpr ⟨((b,ra),n),Qi.mem_zipIdx_iff_getElem?.mpr O,rfl⟩;have bj:(((L.zipIdx 0).map λq=>((Qu (q.2:Ql):aK),R7 q.1.2)).map (·.1)).Nodup:=by rw[gU];exact SH
     refine{6,6,6,M,6,(OU bj mk)▸DGet.k (k:=Qu (n:Ql)) (fm _ _ aN b4),ra,_,_,.str d,U,U,T2<|(W.trans B) _ _ aN as,U,s2,λtp bo=>?_};have ag:=B.trans<|S0 (o:=.tup [.str fn,.str d]) bo;exists 6,tp,ca,(fn,d),qs,U,U,T2 zb0,.inr<|T2<|ag _ _ aN bv,BT.pd λz hz=>(bt z hz).keep<|T4 ag;rw[cN i8];exact{6,cT {_,_,_,_,6,ag}}
    .rw[g2]at e4;cases e4
  .rintro σ u ⟨x7,x8,x9,am,ao,rfl,B⟩;exact q _<|W.trans B
def IM(L:LL):L.fl.length=L.size:=by
 induction L with
 | nil=>rfl
 | op n a r t f=>show ↑t.fl+1=1+t.size;lia
 | call n a x y k d i t f=>show ↑t.fl+1=1+t.size;lia
 | either n a p q t e b h=>show(p.fl++(q.fl++t.fl)).length+1=1+p.size+q.size+t.size;rw[bK,bK];lia
 | again n a p t e b=>show(p.fl++t.fl).length+1=1+p.size+t.size;rw[bK];lia
def Ew(H:Hp)(F:Qi Fz)(b:zZ×zZ):Rp:=λn mk d=>∃a,F[n]?\(b,a)/\(∀k,mk\k->lL H a\k)/\∀z,d\z->iR H a\z
def UQ{pre a:Qi α}{x:α}(e:F=pre++x::a)(h:↑pre=k):F[k]?\x:=by
 rw[e,<-h,kU<|aV _,xY];rfl
theorem Ly.ev{F:Qi Fz}{b:zZ×zZ}(h:Ly Z H n k rs L m):∀pre f:Qi Fz,F=pre++(L.fl.map (λa=>(b,a))++f)->↑pre=k->L.ev (Ew H F b):=by
 induction h with
 | nil=>exact λ_ _ _ _=>fG
 | @op n k m a r rs L h hb t u=>
  intro pre f e i;refine{{a,UQ e i,λx E=>?_,λ_ h=>nomatch h},u (pre++[(b,a)]) f (by rw[e];simp[LL.fl])<|by rw[bK,i];rfl};cases r with
  | make y z=>cases E;unfold lL;rw[h];rfl
  | _=>cases E
 | @call n k m a g x y q d X rs L h T hl C t u=>
  intro pre f e i;refine{{a,UQ e i,λ_ h=>(nomatch h),λz C=>?_},u (pre++[(b,a)]) f (by rw[e];simp[LL.fl])<|by rw[bK,i];rfl};cases C;unfold iR;rw[h];rfl
 | @again n k J m a l B rs j L h hl s t A o=>
  intro pre f e i;have:=s.len;have:=IM j;exact{A (pre++[(b,a)]) (L.fl.map (λa=>(b,a))++f) (by rw[e];simp[LL.fl]) (by rw[bK,i];rfl),o (pre++(b,a)::j.fl.map λa=>(b,a)) f (by rw[e];simp[LL.fl])<|by rw[bK,cK,aF];lia}
 | @either n k J W m a l1 l2 B M rs j L2 L h h1 h2 N O t A o G=>
  intro pre f e i;have:=N.len;have:=O.len;have:=IM j;have:=IM L2;exact{A (pre++[(b,a)]) (L2.fl.map (λa=>(b,a))++(L.fl.map (λa=>(b,a))++f)) (by rw[e];simp[LL.fl]) (by rw[bK,i];rfl),o (pre++(b,a)::j.fl.map λa=>(b,a)) (L.fl.map (λa=>(b,a))++f) (by rw[e];simp[LL.fl]) (by rw[bK,cK,aF];lia),G (pre++(b,a)::(j.fl.map (λa=>(b,a))++L2.fl.map λa=>(b,a))) f (by rw[e];simp[LL.fl])<|by rw[bK,cK,bK,aF,aF];lia}
theorem LyB.ev{F:Qi Fz}(h:LyB Z H k f i j):∀pre:Qi Fz,F=pre++cL f->↑pre=k->∀y∈(f.map (·.1)).zip i,y.2.ev (Ew H F y.1):=by
 induction h with
 | nil=>exact λ_ _ _ _ h=>nomatch h
 | @cons k n j z f L i h s l t m=>
  intro pre e d;have b:F=pre++(L.fl.map (λa=>(z.1,a))++cL f):=by rw[e,l.2];rfl
  have:=s.len;have:=IM L;exact vn4.mpr {s.ev pre (cL f) b d,m (pre++L.fl.map λa=>(z.1,a)) (by rw[b];simp)<|by rw[bK,aF];lia}
def yA{p:LL->Prop}{n:Pr}(l:Qi (Pr×LL)):∀a,p a->(∀z∈l,z.1=n->p z.2)->p (l.foldl (λa z=>if z.1=n then z.2 else a) a):=by
 induction l with
 | nil=>exact λa h _=>h
 | cons z l d=>
  intro a h g;refine d _ ?_ λy b=>g y<|.tail _ b;show p (if z.1=n then z.2 else a)
  split
  .next e=>exact g z (.head _) e
  .exact h
section
variable{R:Rx Y}
def PgAt.up_in(h:PgAt R tr kq)(hx:Up tr x l):x∈R.G.nm/\R.G.ln x=l:=by
 obtain⟨i,g,b⟩:=hx.at;have a:x∈R.G.nm:=by rw[<-h.nm];exact vj2.mpr {_,dM b,U}
 exact{a,Up.inj h.ok (h.ln x a) hx}
def PgAt.kqOk(h:PgAt R tr kq)(f:NK R.Z ks tr):jV R.Z tr kq:=by
 refine{λk d x l m j b=>?_,f.dl};obtain⟨i,e⟩:=h.up_in j;obtain⟨g,pt,v,a,_⟩:=h.ca k d m x i (by rw[e];exact b);rw[e]at a;exact{_,a,j.mem _<|oE a}
def PgAt.lnOk(h:PgAt R tr kq)(hz:Pz R.G)(hl:∀k,k∉tr.map (·.1)->R.G.ln k=[]):nA R.G:=by
 refine{hz.nm,λk x f y a=>?_}
 by_cases c:k∈tr.map (·.1)
 .obtain⟨e,b,d⟩:=(h.ln k<|by rw[<-h.nm];exact c).suf x f;rw[(h.up_in b).2]at a;exact d.subset a
 .rw[hl k c]at f;cases f
def GR(h:PgAt R tr kq)(M:ProgIs R.Z H p ks W)(O:LyB R.Z H 0 (bQ ks W) Ls k')(T:∀n d,R.G.bo n d=mJ (((bQ ks W).map (·.1)).zip Ls) (n,d))(C:∀x∈ss,∃l,Up tr x l)
  (md:MdOk H kq tr (cL<|bQ ks W) ss come kinds) (A:∀q∈cL (bQ ks W),Sat H kq tr ss come kinds q):Cl R.G (Ew H<|cL<|bQ ks W) (·∈come) (·∈kinds) (·∈ss):=by
 refine{md.m0,λb n k j he N=>?_,λb n q d x j he hx r=>?_,λf d=>?_}
 .obtain⟨a,m,J,_⟩:=he;exact(A _ (dM m) j).1 k<|xs2.mpr {J k rfl,N}
 .obtain⟨a,m,_,i⟩:=he;have i:=i _ rfl;have u:=dM m;refine(A _ u j).2 _ ?_;obtain⟨l,o⟩:=C x (md.kt x hx).1;obtain⟨I,s⟩:=h.up_in o;rw[s]at r;obtain⟨w,rest,a1,B,_⟩:=pC M.rows _ u;obtain⟨rfl,_,_,_,_,_,rfl,X,hz⟩|⟨_,X⟩:=xC a1 B
  .rw[i]at X;cases X;obtain⟨g,pt,v,E,_⟩:=h.ca q d hz x I (by rw[s];exact r);unfold clL;rw[i];refine vj2.mpr {x,vq0.mpr {hx,?_},?_}
   .rw[<-yL h.ok o];exact cN r
   .unfold ansOf;rw[LK h.ok o,<-s,E];rfl
  .rw[i]at X;cases X
 .rw[T];exact yA (p:=λL=>L.ev<|Ew H (cL<|bQ ks W) (f,d)) _ _ fG λz hz e=>by rw[<-e];exact O.ev [] rfl rfl z hz
def IC{H0:Hp}(h:PgAt R tr kq)(m:ProgIs R.Z H0 p ks m0)(tp:Tup H0 H)(s:∀x∈ss,∃l,Up tr x l/\∀y∈l,y∈ss)
  (md:MdOk H kq tr (cL<|bQ ks m0) ss come kinds) (e:Dd R.G (Ew H<|cL<|bQ ks m0) (·∈come) (·∈kinds) n x f):Dw H0 tr (cL<|bQ ks m0) ss come kinds n x f:=by
 obtain⟨b,q,d,⟨a,o,_,i⟩,r,hx,z,rfl,O⟩:=e;have i:=i _ rfl;have E:=dM o;have L:=pC m.rows _ E;rw[(IZ L tp).2]at i;obtain⟨hs,_⟩:=md.kt x hx;obtain⟨l,u,_⟩:=s x hs;rw[(h.up_in u).2]at z;refine{b,a,q,d,o,i,r,hx,hs,by rw[<-yL h.ok u];exact cN z,?_,O};obtain rfl|⟨q',hq',_,_,X⟩:=md.co b r
 .exact Qm.or_eq_true_iff.mpr<|.inl<|cN rfl
 .refine Qm.or_eq_true_iff.mpr<|.inr<|cN ?_;have I:=pC (m.keep tp).rows _ hq';obtain⟨w,rest,N,W,_⟩:=I;unfold clL at X;obtain⟨rfl,_,_,k2,d2,_,rfl,e4,hz⟩|⟨_,e4⟩:=xC N W
  .rw[e4]at X;obtain⟨y,J,rfl⟩:=vj2.mp X;obtain⟨C,B⟩:=vq0.mp J;obtain⟨ly,a1,M⟩:=s y (md.kt y C).1;rw[<-yL h.ok a1]at B;obtain⟨T,A⟩:=h.up_in a1;obtain⟨g,pt,v,j,_⟩:=h.ca k2 d2 hz y T (by rw[A];exact dH B);rw[A]at j;show(ansOf kq tr y d2).getD ""∈ss;unfold ansOf;rw[LK h.ok a1,j];exact M _<|oE j
  .rw[e4]at X;cases X
end
def _root_.L2.A2.tk{b a:Type}{R:b->a->Prop}{as:Qi b}{bs:Qi a}(h:A2 R as bs):∀n,A2 R (as.take n) (bs.take n):=by
 induction h with
 | nil=>exact λn=>by rw[G9,G9];exact .nil
 | cons h _ d=>exact λn=>match n with
  | 0=>.nil
  | n+1=>.cons h<|d n
def Om{K:Fq}{a:eH}{xs:Qi V}{n:Qk}{H:Hp}{Q:VK}(h:H a\.tup xs)(d:n<=↑xs)(q:∀p H',FrS [] H H'->H' p\(.tup<|xs.take n)->Q (.ref p) H'):GN K (.ref a) Qq (Qp (n:Ql)) H Q\/AT K (.ref a) Qq (Qp (n:Ql)) H Q:=by
 have e:HT.sIx ↑xs 0 Qq=0:=rfl;have b:HT.sIx ↑xs ↑xs (Qp (n:Ql))=n:=by rw[HT.FV];exact zB d
 obtain c|c:=A8 d
 .refine .inl ⟨a,xs,rfl,T2 h,λz=>?_,λp f=>q p _ (S0 f) ?_⟩
  .rw[b]at z;exact absurd z.2<|dB c
  .rw[zb0];unfold dU;rw[b,e];rfl
 .exact .inr ⟨a,xs,rfl,T2 h,⟨e,by rw[b,c]⟩,q a H FrS.refl<|by rw[cW<|Yo c.symm];exact h⟩
theorem KindsAt.inj(a:KindsAt H p tr)(b:KindsAt H p tr'):tr=tr':=by
 obtain⟨E,ts,x,y,s,q,j,z⟩:=a;obtain⟨G,a1,B,C,f,m,u,r⟩:=b;rw[s]at f;cases f;rw[q]at m;have e:ts=a1:=(Vl λa b h=>R7.inj h).mp<|HO.tup.inj<|iZ m;subst e;refine Qi.ext_getElem (j.symm.trans u) λi J n=>?_;have l:i<↑ts:=by rw[j];exact J
 obtain⟨v,o⟩:=z i _ _ (bM l)<|bM J;obtain⟨A,d⟩:=r i _ _ (bM l)<|bM n;rw[o]at d;injection d with d;injection d with d;injection d with d e3;injection e3 with e3 _;refine pO (R6.inj d) ?_;generalize tr[i].2=x at e3;generalize tr'[i].2=y at e3;cases x <;> cases y <;> cases e3 <;> rfl
theorem PgAt.keep{R:Rx Y}(h:PgAt R tr kq)(f:Tup R.H0 H'):PgAt ({R with H0:=H'}:Rx Y) tr kq:=
 {kn:=h.kn.keepT f,dq:=h.dq.keep f,ok:=h.ok,l12:=h.l12,nm:=h.nm,ln:=h.ln,z0:=h.z0,ch:=h.ch,fn:=h.fn,ca:=λk d q x r j=>by
   obtain⟨g,pt,v,m,e,l,o,i,n,a,b⟩:=h.ca k d q x r j;exact{g,pt,v,m,e,f _ _ l,f _ _ o,i,n,a,b}}
def yz1:x∈hr0 tr late↔x∈tr.map (·.1)/\x∉late:=by
 unfold hr0;rw[vq0,DW]
def UO(ok:TrOk tr)(lo:rO tr late)(h:Up tr x l)(hx:x∈hr0 tr late):∀y∈l,y∈hr0 tr late:=by
 induction h with
 | root b=>exact vn4.mpr {hx,λ_ h=>nomatch h}
 | @step i n e l b f d=>
  refine vn4.mpr {hx,d ?_};obtain⟨j,_,g,a⟩:=ok.up i n e b;exact yz1.mpr {vj2.mpr {_,dM a,U},λhl=>(yz1.mp hx).2<|lo _ (dM b) e rfl hl}
section
variable{R:Rx Y}
def YE(h:PgAt R tr kq)(hz:Pz R.G)(hl:∀k,k∉tr.map (·.1)->R.G.ln k=[])(lo:rO tr b)(C:Cl R.G E come kinds ss)(h0:∀x∈hr0 tr b,ss x)(t:Rn R.G mo 0 (st0 R.G<|hr0 tr b) S' e v):Jx R.G E come kinds ss (hr0 tr b) S':=by
 refine Rn.within (h.lnOk hz hl) C (h.ok.nd.sublist<|Zi (p:=λx=>decide<|x∉b)) (λx d=>?_) h0 t;have a:x∈R.G.nm:=by rw[<-h.nm];exact(yz1.mp d).1
 exact{a,UO h.ok lo (h.ln x a) d}
def Db(G:Pg):Cl G (λ_ _ _ _=>True) (λ_=>True) (λ_=>True) (λ_=>True):=⟨fG,λ_ _ _ _ _ _=>fG,λ_ _ _ _ _ _ _ _ _=>fG,λf d=>NB _⟩
def RL(Z:Z0)(p:eH)(ks:Qi (zZ×Qi Dz))(b:Dz)(tr:Tr)(kq:Kq)(ss:Z2)(H:Hp)(lg:Qi (Qi V)):Prop:=∀(d:Hp) come a,FrS [] H d->MdOk d kq tr (cL<|bQ ks b) ss come a->(∀q∈cL (bQ ks b),Sat d kq tr ss come a q)->∀r∈lg,Ev (Dw H tr (cL<|bQ ks b) ss come a) r
def rW(g:HX R R.H0 ks m0 tr late Ls k')(h:PgAt R tr kq)(hl:∀k,k∉tr.map (·.1)->R.G.ln k=[])(lo:rO tr late)(t:Rn R.G mo 0 (st0 R.G<|hr0 tr late) S' e v)
  (ss:Z2) (h0:∀x∈hr0 tr late,x∈ss) (m:∀x∈ss,∃l,Up tr x l/\∀y∈l,y∈ss) {H:Hp} (f:FrS [] R.H0 H) {lg:Qi (Qi V)}
  (u:(∀x∈S'.hr,x∈ss)/\lg=S'.lg\/∀B k L,S'.lg=B++mI k::L->∀r∈lg,r∈B) (hs:∀r∈lg,r∈S'.lg):RL R.Z R.pg ks m0 tr kq ss H lg:=by
 intro d come j q M a1;have s:=f.trans q;have E:=T4 s;have i:PgAt ({R with H0:=d}:Rx Y) tr kq:=h.keep E;have C:=GR (R:=({R with H0:=d}:Rx Y)) i (g.p.keep E) (g.b.keep E) g.bo (λx N=>let ⟨l,a,_⟩:=m x N;⟨l,a⟩) M a1;have J:=YE (R:=({R with H0:=d}:Rx Y)) i g.pz hl lo C h0 t;have o:∀r,Ev (Dd R.G (Ew d<|cL<|bQ ks m0) (·∈come) (·∈j)) r->Ev (Dw H tr (cL<|bQ ks m0) ss come j) r:=λr A=>A.imp λn x z e=>IC (R:=({R with H0:=d}:Rx Y)) i (g.p.keep<|T4 f) (T4 q) m M e;intro r A;obtain⟨_,_,a⟩|⟨b,B,k,L,e,a⟩:=J.lf
 .exact o r<|a r<|hs r A
 .obtain⟨c,_⟩|c:=u
  .exact absurd c b
  .exact o r<|a r<|c B k L e r A
def Rn.lgl(a:Pz G)(t:Rn G mo i S l e v)(h:Wf G S i)(hd:i<=mo):l.lg.length<=12*mo:=by
 induction t with
 | done _=>exact fM h.lg<|Zt 12 hd
 | back e t j=>exact j (h.back e) hd
 | long e b m=>exact fM h.lg<|Zt 12 hd
 | @stop i n S l d r e f b m o=>
  have w:=(h.pop f b).doR a (h.sz d<|by rw[f];exact .head _) b (h.pop f b).td;rw[o]at w;have:=w.lg;lia
 | @go i n S q l d r e v f b m o t j=>
  have w:=(h.pop f b).doR a (h.sz d<|by rw[f];exact .head _) b (h.pop f b).td;rw[o]at w;exact j w m
def ZQ(h:PgAt R tr kq)(J:Jx R.G E come kinds ss hz S){l:Z2}(hp:l.Perm S.hr):↑l<=12/\∀x∈l,∃f,Up tr x f/\∀y∈f,y∈l:=by
 refine{?_,λx e=>?_}
 .rw[hp.length_eq];have:=KL S.hr (tr.map (·.1)) J.nd λx e=>by rw[h.nm];exact(J.up x e).1
  rw[aF]at this;have:=h.l12;lia
 .obtain⟨a,b⟩:=J.up x<|hp.mem_iff.mp e;exact{_,h.ln x a,λy d=>hp.mem_iff.mpr<|b y d}
def Lj{lg:Qi (Qi V)}(h:gE (lg.take n)=[]):∀a k b,lg=a++mI k::b->∀r∈lg.take n,r∈a:=by
 intro a k b e r d;obtain c|c:=nN ↑a n
 .exfalso;have:mI k∈lg.take n:=by
   refine vn2.mpr {↑a,?_};rw[ML c,e,kU<|aV _,xY];rfl
  have:k∈gE (lg.take n):=Qi.mem_filterMap.mpr ⟨_,this,rfl⟩;rw[h]at this;cases this
 .rw[e,Qi.take_append_of_le_length c]at d;exact lT d
def Av{lg:Qi (Qi V)}{i:Qk}{r:Qi V}(h:lg[i]?\r):gE (lg.take<|i+1)=gE (lg.take i)++gE [r]:=by
 rw[dE,h];exact ZO _ _
def Ea(lg:Qi (Qi V)):↑(gE lg)<=↑lg:=Qi.length_filterMap_le _ _
def UE{K:Fq}{r:Qi V}{h:St}{i:Qk}{u:eH}{Q:Qm->Hp->Prop}(e:Ev D r)(hr:H u\.tup r)(a:h[i]?\(Qp<|.ref u))(d:∀k,r=mI k->Q Qr H)(b:gE [r]=[]->Q Qs H):iE (dG oF (dG (cO K) (aG i)<|tC<|.int 0)<|tC<|.str "came") h H Q:=by
 cases e with
 | say n w=>exact{_,a,u,_,_,.str "say",U,U,T2 hr,U,U,6,b rfl}
 | did n k f=>exact{_,a,u,_,_,.str "did",U,U,T2 hr,U,U,6,b rfl}
 | came k=>exact{_,a,u,_,_,.str "came",U,U,T2 hr,U,U,6,d k rfl}
end
inductive AW(K:Fq)(a:eH)(ns:Qi Ql)(i:Qk)(σ:St)(Hx:Hp):Prop
 | mk(x1 x2 x3 x4 x5 x6 x7 x8 x9 x10:Qj V)(h1:σ=[Qp<|.ref a,x1,x2,x3,x4,x5,x6,x7,x8,x9,x10])(h2:SqL K Hx a (ns.map R8)):AW K a ns i σ Hx
inductive VN(H1:Hp)(hd:eH)(xs:Qi (Qj V))(i:Qk)(σ:St)(Hx:Hp):Prop
 | mk(x1 x2 x3 x4 x5 x6:Qj V)(d m t r:Ql)(hσ:σ=xs++[x1,x2,x3,x4,x5,x6])(fr:FrS [hd] H1 Hx)(hh:Hand Hx hd d m t r)(ht:t<=10000+20*i):VN H1 hd xs i σ Hx
inductive WT(H1:Hp)(p Dl:eH)(tr:Tr)(late:Z2)(i:Qk)(σ:St)(Hx:Hp):Prop
 | mk(x y z:Qj V)(hσ:σ=[x,y,z,Qp<|.ref p])(fr:FrS [] H1 Hx)(hD:Hx Dl\(.lst<|(hr0 (tr.take i) late).map R6)):WT H1 p Dl tr late i σ Hx
inductive XD(H1:Hp)(Dl:eH)(lg:Qi (Qi V))(i:Qk)(σ:St)(Hx:Hp):Prop
 | mk(x:Qj V)(hσ:σ=[x])(fr:FrS [] H1 Hx)(hD:Hx Dl\(.lst<|(gE<|lg.take i).map R6)):XD H1 Dl lg i σ Hx
inductive XN(H1:Hp)(Dl:eH)(lg:Qi (Qi V))(i:Qk)(σ:St)(Hx:Hp):Prop
 | mk(x y:Qj V)(ns:Qi Qk)(hσ:σ=[x,y])(fr:FrS [] H1 Hx)(hD:Hx Dl\(.lst<|ns.map λn:Qk=>R8 n))(hl:↑ns<=i)(h0:ns=[]/\gE (lg.take i)=[]\/∃n ns',ns=n::ns'/\n<=↑lg/\gE (lg.take n)=[]):XN H1 Dl lg i σ Hx
def yg3:cC ["_law_script","_law_k",qH,"_law_program_here","_law_first","_law_turn","_law_log","_law_looks","_law_end","_law_came","_law_places"] ["_law_script"] (bX jZ):=cF
def xV{k:Qk}(F:Fun Y.K "law" "law" jZ f fd)(HN:X1 k "_law_hand" ["_law_script","_law_k"] (OW Y.K))(PR:X1 k "_law_program" [qH,"_law_most"] OY)(OF:X1 k "_law_of" qC (dP Y.K))(CH:X1 k "_law_choices" [qH] MY)(PL:X1 k "plain_run" ["program","choices","most"] (vO Y))(WI:X1 k "_law_within" IG wS)
  (ml:mg "len"=Qq) (mr:mg "range"=Qq) (mx:mg "max"=Qq) (mn:mg "min"=Qq) (c0:mg "sorted"=Qq) (c2:mg "tuple"=Qq) (me:mg "enumerate"=Qq):↥["_law_script"] (CQ Y.K):=by
 refine F.ok yg3 ⇑?_;obtain⟨a,ns,rfl,hS,cy,q⟩:=h;have N:=fL hr;have bd:(["_law_name","_law_elder","_law_deeds","_law_program_here"]:Z2).Nodup:=by rfl'
 have nd1:(["_law_event"]:Z2).Nodup:=by rfl'
 have nd2:(["_law_at","_law_event"]:Z2).Nodup:=by rfl'
 exists _,aJ (eZ eN rfl (oW rfl mr<|aI (fO (Iz U) rfl mx (by rfl')<|aI aQ<|aI (fO (VM U) rfl mn (by rfl')<|aI (fO lR rfl ml iP<|av 0 aA)<|aI aQ aA) aA) aA) (gL 1 yg3.nd)
   (aJ (sL 2 yg3.nd<|⇑@HN<|av 0<|av 1 aA) (aJ (sL 3 yg3.nd (⇑@PR<|av 2<|aI (⇑@OF<|av 2<|aI (cX<|aI aQ<|aI aQ<|aI aQ aA) aA) aA) (hx:=.inr rfl)) (aJ (nB (i:=4) (N':=["_law_name","_law_elder","_law_deeds","_law_program_here"]) (src:=[Qq,Qq,Qq,Qp 3]) rfl yg3.nd rfl rfl eW (gB<|eT ⇑3 aQ) (g:=eP Y.K 3<|eG (cA 0)<|eG (cA 1)<|eG (cA 2) eO) (λ_ _ _ _=>dX (n:=3) rfl<|bI (gL 0 bd)<|bI (gL 1 bd)<|bI (gL 2 bd) dV) (tt:=iE<|dG (jF Y.K Qr) (aG 0)<|dG (cO Y.K) (aG 3)<|tC<|.int 1) (λ_ _ _ _=>mV<|cG (show dW _ _ (jF Y.K Qr) from xE) ⇑0 (jK (show jN _ (cO Y.K) from lU) ⇑3 aQ λ_ _=>U) rfl) λ_ _ _ _=>pv 0) (aY (eZ eN rfl (oW rfl mr<|aI aQ aA) (gL 5 yg3.nd) (aJ (hZ (⇑@PL<|av 3<|aI (⇑@CH<|av 2 aA)<|aI (⇑@OF<|av 2<|aI (cX<|aI aQ<|aI aQ<|aI aQ aA) aA) aA)<|dX (n:=3) rfl<|bI (gL 6 yg3.nd)<|bI (gL 7 yg3.nd)<|bI (gL 8 yg3.nd) dV) (aJ (nB (i:=9) (N':=["_law_event"]) (src:=[Qq]) rfl yg3.nd rfl rfl eW (gB<|pv 6) (g:=cA 0) (λ_ _ _ _=>gL 0 nd1) (tt:=iE<|dG oF (dG (cO Y.K) (aG 0)<|tC<|.int 0)<|tC<|.str "came") (te:=dG (cO Y.K) (aG 0)<|tC<|.int 1) (λ_ _ _ _=>mV<|cG gF (jK (show jN _ (cO Y.K) from lU) ⇑0 aQ λ_ _=>U) bW<|cS _) λ_ _ _ _=>jK (show jN _ (cO Y.K) from lU) ⇑0 aQ λ_ _=>U) (aJ (cY (QZ<|HW<|⇑@WI<|av 3<|aI (eV gR rfl c2 (by rfl')<|aI (fO MC rfl c0 (by rfl')<|aI (cM qN ⇑4<|pv 9) aA) aA)<|av 6 aA) (aY<|bR nX) dJ)
    (aJ (sL 10 yg3.nd<|cM qN (jB (N':=["_law_at","_law_event"]) (src:=[Qq,Qq]) rfl eW (OH Qr rfl me<|av 6 aA) (g:=eP Y.K 2<|eG (cA 0)<|eG (cA 1) eO) (λ_ _ _ _=>dX (n:=2) rfl<|bI (gL 0 nd2)<|bI (gL 1 nd2) dV) (tt:=iE<|dG oF (dG (cO Y.K) (aG 1)<|tC<|.int 0)<|tC<|.str "came") (λ_ _ _ _=>mV<|cG gF (jK (show jN _ (cO Y.K) from lU) ⇑1 aQ λ_ _=>U) bW<|cS _) λ_ _ _ _=>pv 0)<|cX<|aI (fO lR rfl ml iP<|av 6 aA) aA)<|aY<|cY (QZ<|HW<|⇑@WI<|av 3<|aI (eV gR rfl c2 (by rfl')<|aI (fO MC rfl c0 (by rfl')<|av 4 aA) aA)<|aI (kT (xp1.or Kr) ⇑6 mR<|kM<|jK ZT ⇑10 aQ λ_ _=>U) aA) (aY<|bR nX) dJ))))))))))
  (aY<|bR nX)
 ac_rfl
 exists 6,a,6,.inl hS,_,6,_,6;obtain⟨nk,cw,dh⟩:∃nk:Ql,(if (if (3:Ql)<((↑(ns.map R8):Qk):Ql) then(3:Ql) else((↑(ns.map R8):Qk):Ql)) > 1 then(if (3:Ql)<((↑(ns.map R8):Qk):Ql) then(3:Ql) else((↑(ns.map R8):Qk):Ql)) else 1)=nk/\nk<=3/\1<=nk:=by
  exists 6,?_
  .split <;> (try split) <;> lia
  .split <;> (try split) <;> lia
 rw[cw];have s3:3<=sizeLine:=cQ (bS<|by decide);refine{nk,U,∅,∅,?_};refine pB (lo:=0) (n:=nk.toNat) (AW Y.K a ns) {_,_,_,_,_,_,_,_,_,6,hS} ?_ λσ Hx _=>q Hx;rintro i σ Hx hi ⟨x1,x2,x3,x4,x5,x6,x7,x8,x9,dt,rfl,cc⟩;refine{6,6,a,ns,i,by rw[M6];rfl,cc,cy,∅,λhd d m aw hok=>?_};generalize R8 (0+(i:Qk))=d7;have bi:Hand (upd Hx hd<|hl d m 0 0) hd d m 0 0:=Hand.at hok;have k0:∀b o,Hx b\o->upd Hx hd (hl d m 0 0) b\o:=λb o e=>by rw[aE<|bF e aw];exact e
 generalize upd Hx hd (hl d m 0 0)=Hh at bi k0;refine{6,6,s3,λpl ax=>?_};have dd:pl≠hd:=λz=>by rw[z,bi.1]at ax;cases ax
 refine{hd,pl,d,m,0,0,6,bi.new ax,by decide,dd,T1 zb0,by simp,by show 3<1000;decide,λy d1 m1 t1 hy b7 ds=>?_};obtain⟨c,rfl,hc⟩:∃c:Ql,y=.int c/\0<=c/\c<=80:=by
  simp only[vj0,aN,eC]at hy;obtain rfl|rfl|rfl:=hy <;> exact{6,by decide,by decide}
 have bx:Hand (upd (upd Hh pl<|.lst [.int 12,.int 30,.int 80]) hd<|hl d1 m1 t1 0) hd d1 m1 t1 0:=Hand.at b7;have k1:∀b o,b≠hd->Hh b\o->upd (upd Hh pl<|.lst [.int 12,.int 30,.int 80]) hd (hl d1 m1 t1 0) b\o:=λb o n e=>by rw[aE n,aE<|bF e ax];exact e
 generalize upd (upd Hh pl<|.lst [.int 12,.int 30,.int 80]) hd (hl d1 m1 t1 0)=H0 at bx k1;refine{hd,c,d1,m1,t1,0,U,hc,bx,∅,λp ks m0 tr r Z H1 d2 m2 t2 r2 f1 hP hK b1 au ci hN hh ht=>?_};have k3:∀b o,Hx b\o->H1 b\o:=λb o e=>f1 b o ⇑[bF e aw]<|k1 b o (bF e aw)<|k0 b o e
 obtain⟨kt,ts,x',y',hp,hk,ar,cr⟩:=id hK;obtain⟨dk,lt,df,d9,cn,dn,b0,_⟩:=id ci;refine{6,p,_,_,6,U,T2 hp,U,kt,U,{_,T2 hk},λfl b2=>?_};refine gG (xs:=ts.map R7) (WT H1 p fl tr r) {_,_,6,(FrS.refl).put b2,zb0} ?_ ?_ ?_
 .rintro i σ Hy hi ⟨_,_,_,_,fr,_⟩;exact T2<|fr _ _ aN hk
 .rintro i x σ Hy hx ⟨x0,y0,z0,rfl,fr,an⟩;rw[bP,vh8]at hx;obtain⟨u,N,rfl⟩:=hx;have hi:i<↑tr:=by rw[<-ar];exact(vh2.mp N).1
  have hz:tr[i]?=Qp tr[i]:=bM hi;obtain⟨v,hv⟩:=cr i u _ N hz;have e:hr0 (tr.take<|i+1) r=hr0 (tr.take i) r++[tr[i].1].filter (λx=>decide<|x∉r):=by
   unfold hr0;rw[dE,hz,bU,zO];rfl
  exists u,6,T2<|fr _ _ aN hv,U,_,6,_,6,_,6,U;exists 6,6,p,_,_,6,U,T2<|fr _ _ aN d9,U,lt,6,.inr<|T2<|fr _ _ aN cn,U,jL _,6;show if (!gC (.str tr[i].1) (r.map R6))=Qr then _ else _
  rw[jS];refine bE (λc=>?_) λc=>?_
  .have c:tr[i].1∉r:=⇑[c]
   have hl:↑(hr0 (tr.take i) r)<=12:=by
    have:=jJ (λx=>decide<|x∉r)<|(tr.take i).map (·.1);rw[aF,dR]at this;unfold hr0;lia
   exact{6,_,an,bS (by rw[aF];lia),_,_,6,fr.put b2,by rw[zb0,e,show [tr[i].1].filter (λx=>decide<|x∉r)=[tr[i].1] by simp[c],bU];rfl}
  .have c:¬tr[i].1∉r:=⇑[c]
   exact{_,_,6,fr,by rw[e,show [tr[i].1].filter (λx=>decide<|x∉r)=[] by simpa using c,eA];exact an}
 rintro σ Hy ⟨x0,y0,z0,rfl,fr,an⟩;rw[aF,ar,cW<|aV _]at an;have c7:Hand Hy hd d2 m2 t2 r2:=⟨fr _ _ aN hh.1,hh.2⟩;refine{3,U,by decide,by decide,?_};refine pB (lo:=0) (n:=3) (VN Hy hd [Qp<|.ref a,Qp d7,Qp<|.ref hd,Qp<|.ref p,Qp<|.ref fl]) {_,_,_,_,_,_,d2,m2,t2,r2,U,FrS.refl,c7,∅} ?_ ?_
 .rintro j σ Hz hj ⟨y1,y2,y3,y4,y5,y6,dx,cf,tx,O,rfl,fz,c5,d3⟩;refine{6,6,hd,dx,cf,tx,O,U,c5,∅,λch cs H4 d4 m4 t4 f4 ay d8 bc dl=>?_};refine{6,s3,λag a7=>?_};have bh:ag≠hd:=λz=>by rw[z,bc.1]at a7;cases a7
  refine{hd,ag,d4,m4,t4,O,6,bc.new a7,∅,bh,T1 zb0,by simp,by show 3<1000;decide,λy d5 m5 t5 hy bm di=>?_};obtain⟨mo,rfl,dg⟩:∃mo:Qk,y=.int (mo:Qk)/\mo<=600:=by
   simp only[vj0,aN,eC]at hy;obtain rfl|rfl|rfl:=hy
   .exact⟨12,rfl,by decide⟩
   .exact⟨60,rfl,by decide⟩
   .exact⟨600,rfl,by decide⟩
  have f5:FrS [hd] Hy (upd (upd H4 ag<|.lst [.int 12,.int 60,.int 600]) hd<|hl d5 m5 t5 O):=((fz.trans f4).trans<|S0 a7).put'<|.head _;have bb:Hand (upd (upd H4 ag<|.lst [.int 12,.int 60,.int 600]) hd<|hl d5 m5 t5 O) hd d5 m5 t5 O:=Hand.at bm;have af:upd (upd H4 ag<|.lst [.int 12,.int 60,.int 600]) hd (hl d5 m5 t5 O) ch\(.tup<|cs.map R8):=by
   rw[aE (λz=>by rw[z,bc.1]at ay;cases ay),aE<|bF ay a7];exact ay
  generalize upd (upd H4 ag<|.lst [.int 12,.int 60,.int 600]) hd (hl d5 m5 t5 O)=X at f5 bb af;have bn:Tup H1 X:=(T4 fr).trans<|f5.tup1 c7.1;have b6:=hP.keep bn;have az:=hK.keepT bn;obtain⟨G,Ls,k',hG,ae,bj⟩:=QA b6 az b1 au (ci.keep bn) hN cs d8;obtain⟨B,e,v,t⟩:=Rn.all G mo _ 0 (st0 G<|hr0 tr r)<|aV _;rw[<-hG]at af;refine{⟨Z,X,p,G⟩,ch,ks,m0,tr,r,Ls,k',mo,B,e,v,U,bj,af,∅,t,λl tl el ls H6 f6 a1 a2 L a4=>?_};obtain⟨cu,kq,I⟩:=(bj X FrS.refl).pg;obtain rfl:tr=cu:=az.inj I.kn;have gA:=bj X FrS.refl;have J0:=YE (R:=(⟨Z,X,p,G⟩:Rx Y)) I gA.pz ae b0 (Db G) (λ_ _=>fG) t;have bt:B.lg.length<=12*mo:=t.lgl gA.pz (ZJ gA.pz (by
   have:=jJ (λx=>decide<|x∉r)<|tr.map (·.1);rw[aF]at this;unfold hr0;lia) gA.nm) (cE _)
  exists l,6,T2 a1,U,_,6,_,6,_,6,U;refine{6,tl,U,{_,T2 a2},λcl cd=>?_};refine gG (xs:=ls.map R7) (XD H6 cl B.lg) {6,(FrS.refl).put cd,zb0} ?_ ?_ ?_
  .rintro i σ Hw hi ⟨_,_,W,_⟩;exact T2<|W _ _ aN a2
  .rintro i x σ Hw hx ⟨x0,rfl,W,ai⟩;rw[bP,vh8]at hx;obtain⟨u,N,rfl⟩:=hx;have ab:i<B.lg.length:=by rw[L.len];exact(vh2.mp N).1
   obtain⟨u',aj,bl⟩:=L.get<|bM ab;rw[N]at aj;cases aj;have a5:=W _ _ aN bl;have ev:=J0.ev _<|fP ab;have e1:=Av<|bM ab;have cx:↑(gE<|B.lg.take i)<=12*mo:=fM (Ea _)<|fM (Qi.length_take_le' _ _) bt;generalize B.lg[i]=rw at a5 ev e1;refine UE ev a5 rfl (λk e=>fX ?_) λe=>cT {6,W,by rw[e1,e,eA];exact ai}
   subst e;exact{6,u,_,_,.str k,U,U,T2 a5,U,_,ai,jM (by rw[aF];lia),6,W.put cd,by rw[zb0,e1,bU];rfl}
  rintro σ Hw ⟨dr,rfl,W,ai⟩;rw[aF,<-L.len,cW<|aV _]at ai;have ap:X fl\(.lst<|(hr0 tr r).map R6):=f5 _ _ (by simpa using λz:fl=hd=>by rw[z,hh.1]at b2;cases b2) an;have c4:=f6.trans W;have cg:=jJ (λx=>decide<|x∉r)<|tr.map (·.1);rw[aF]at cg;have bo:↑(hr0 tr r)<=12:=fM cg au;have bf:↑(hr0 tr r++gE B.lg)<=12:=by rw[<-J0.hr];exact(ZQ I J0<|.refl _).1
  have ak:=bf;rw[bK]at ak;refine{6,6,6,fl,cl,_,6,U,c4 _ _ aN ap,ai,cQ (bS<|by rw[aF,aF];lia),λcp ck=>?_};refine{cp,hr0 tr r++gE B.lg,U,T1 (by rw[bU];exact zb0),∅,λso J db bz _=>?_};refine{so,6,.inl {T1 zb0,λtp co=>?_}};have b5:FrS [] Hw (upd (upd (upd Hw cp<|.lst<|(hr0 tr r).map R6++(gE B.lg).map R6) so<|.lst<|J.map R6) tp<|.tup<|J.map R6):=((S0 ck).trans<|S0 db).trans<|S0 co;have bv:(upd (upd (upd Hw cp<|.lst<|(hr0 tr r).map R6++(gE B.lg).map R6) so<|.lst<|J.map R6) tp<|.tup<|J.map R6) tp\(.tup<|J.map R6):=zb0;generalize upd (upd (upd Hw cp<|.lst<|(hr0 tr r).map R6++(gE B.lg).map R6) so<|.lst<|J.map R6) tp (.tup<|J.map R6)=Hq at b5 bv;have fq:=c4.trans b5;have b8:=W.trans b5;have aq:J.Perm B.hr:=by rw[J0.hr];exact bz
  obtain⟨bp,ce⟩:=ZQ I J0 aq;have tq:=T4 fq;have c6:=I.kqOk hN;refine{6,Z,p,tp,tl,ks,m0,tr,J,kq,ls,B.lg,U,b6.keep tq,az.keepT tq,b1,au,c6,I.dq.keep tq,bv,λx hx=>let ⟨l,a,_⟩:=ce x hx;⟨l,a⟩,bp,b8 _ _ aN a2,L.imp λ_ _ h=>b8 _ _ aN h, rW (R:=(⟨Z,X,p,G⟩:Rx Y)) gA I ae b0 t J (λx hx=>bz.mem_iff.mpr<|nC _ hx) ce fq (.inl ⟨λx hx=>aq.mem_iff.mpr hx,rfl⟩) λ_ h=>h,λH7 f7=>?_}
  refine{6,cT ?_};have cj:=fq.trans f7;have bq:=b8.trans f7;have b4:=bq _ _ aN a2;refine{6,tl,6,T2 b4,λDp bu=>?_};refine ND (tp:=Qr) (xs:=ls.map R7) (XN H7 Dp B.lg) {_,_,[],U,(FrS.refl).put bu,zb0,aV _,.inl ⟨rfl,rfl⟩} ?_ ?_ ?_
  .rintro i σ dm hi ⟨_,_,_,_,fx,_⟩;exact T2<|fx _ _ aN b4
  .rintro i x pp σ T hx ⟨x0,y0,M,rfl,fv,am,ba,h0⟩ c3;rw[bP,vh8]at hx;obtain⟨u,N,rfl⟩:=hx;have ab:i<B.lg.length:=by rw[L.len];exact(vh2.mp N).1
   obtain⟨u',aj,bl⟩:=L.get<|bM ab;rw[N]at aj;cases aj;have as:=fv.trans<|S0 (o:=.tup [.int (i:Qk),.ref u]) c3;have a5:=as _ _ aN<|bq _ _ aN bl;have ad:upd T pp (.tup [.int (i:Qk),.ref u]) Dp\(.lst<|M.map λn:Qk=>R8 n):=by rw[aE<|bF am c3];exact am
   have ah:upd T pp (.tup [.int (i:Qk),.ref u]) pp\.tup [.int (i:Qk),.ref u]:=zb0;have ev:=J0.ev _<|fP ab;have e1:=Av<|bM ab;generalize B.lg[i]=rw at a5 ev e1;generalize upd T pp (.tup [.int (i:Qk),.ref u])=dv at as a5 ad ah;exists pp,6,T2 ah,U,_,6,_,6,U;refine UE ev a5 rfl (λk e=>fX ?_) λe=>cT {_,_,M,U,as,ad,Qk.le_succ_of_le ba,by rw[e1,e,eA];exact h0}
   refine{6,_,ad,jM (by rw[aF];lia),_,_,M++[i],U,as.put bu,by rw[zb0,bU];rfl,by rw[bK,fI];lia,.inr ?_};obtain⟨rfl,h0⟩|⟨n,ac,rfl,h0,h1⟩:=h0
   .exact⟨i,[],rfl,cQ ab,h0⟩
   .exact⟨n,ac++[i],rfl,h0,h1⟩
  rintro σ T ⟨cq,d0,M,rfl,fv,am,ba,h0⟩;rw[aF,<-L.len]at ba h0;rw[cW<|aV _]at h0;obtain⟨n0,ac,en,da,cm⟩:∃(n:Qk)(ac:Qi Qk),M++[B.lg.length]=n::ac/\n<=B.lg.length/\gE (B.lg.take n)=[]:=by
   obtain⟨rfl,h0⟩|⟨n,ac,rfl,h0,h1⟩:=h0
   .exact⟨_,[],rfl,aV _,by rw[cW<|aV _];exact h0⟩
   .exact⟨n,ac++[B.lg.length],rfl,h0,h1⟩
  have cv:=fv _ _ aN b4;exists 6,tl,6,.inr<|T2 cv;have s1:1<=sizeLine:=cQ (bS<|by decide);refine{s1,λlp cb=>?_};have br:upd T lp (.lst [.int ((↑(ls.map R7):Qk):Ql)]) Dp\(.lst<|M.map λn:Qk=>R8 n):=by rw[aE<|bF am cb];exact am
  refine{Dp,lp,_,6,U,br,zb0,cQ<|jM (by rw[aF];show _+1<=_;lia),λqp de=>?_};have c8:upd (upd T lp<|.lst [.int ((↑(ls.map R7):Qk):Ql)]) qp (.lst<|(M.map λn:Qk=>R8 n)++[.int ((↑(ls.map R7):Qk):Ql)]) qp\(.lst<|(n0::ac).map λn:Qk=>R8 n):=by
   rw[zb0,<-en,bU,aF,<-L.len];rfl
  have bg:FrS [] H7 (upd (upd T lp<|.lst [.int ((↑(ls.map R7):Qk):Ql)]) qp<|.lst<|(M.map λn:Qk=>R8 n)++[.int ((↑(ls.map R7):Qk):Ql)]):=(fv.trans<|S0 cb).trans<|S0 de;generalize upd (upd T lp<|.lst [.int ((↑(ls.map R7):Qk):Ql)]) qp (.lst<|(M.map λn:Qk=>R8 n)++[.int ((↑(ls.map R7):Qk):Ql)])=H8 at c8 bg;have c1:=cj.trans bg;refine{6,6,fl,hr0 tr r,U,T1<|c1 _ _ aN ap,∅,λb3 C bk aa _=>?_};refine{b3,6,.inl {T1 zb0,λao b9=>?_}};have g8:FrS [] H8 (upd (upd H8 b3<|.lst<|C.map R6) ao<|.tup<|C.map R6):=(S0 bk).trans<|S0 b9;have al:(upd (upd H8 b3<|.lst<|C.map R6) ao<|.tup<|C.map R6) ao\(.tup<|C.map R6):=zb0;generalize upd (upd H8 b3<|.lst<|C.map R6) ao (.tup<|C.map R6)=H9 at g8 al;have cz:=c1.trans g8;have bw:=bg.trans g8;exists 6,6,qp,_,0,.int (n0:Qk),U,U,T1<|g8 _ _ aN c8,nP _ _,6;refine Om (bw _ _ aN b4) (by rw[aF,<-L.len];exact da) λsl dp bs dc=>?_
  have be:=cz.trans bs;have tx:=T4 be;have d6:=bw.trans bs;have ca:∀x∈C,∃l,Up tr x l/\∀y∈l,y∈C:=λx hx=>by
   have c9:=aa.mem_iff.mp hx;have hm:=gA.nm x c9;exact{_,I.ln x hm,λy hy=>aa.mem_iff.mpr<|UO b1 b0 (I.ln x hm) c9 y hy}
  refine{Z,p,ao,sl,ks,m0,tr,C,kq,ls.take n0,B.lg.take n0,U,b6.keep tx,az.keepT tx,b1,au,c6,I.dq.keep tx,bs _ _ aN al,λx hx=>let ⟨l,a,_⟩:=ca x hx;⟨l,a⟩,by rw[aa.length_eq];exact bo,by rw[dc,xL],((L.imp λ_ _ h=>(bq.trans d6) _ _ aN h)).tk n0,
   rW (R:=(⟨Z,X,p,G⟩:Rx Y)) gA I ae b0 t C (λx hx=>aa.mem_iff.mpr hx) ca be (.inr<|Lj cm) (λ_ h=>lT h),λdj ct=>?_}
  have fe:=be.trans ct;exact{6,cT {_,_,_,_,_,_,d5,m5,t5,O,U,λb o n e=>fe b o aN<|f5 b o n e,{fe _ _ aN bb.1,bb.2},∅}}
 .rintro σ Hz ⟨y1,y2,y3,y4,y5,y6,dx,cf,tx,O,rfl,fz,c5,d3⟩;exact{_,_,_,_,_,_,_,_,_,6,Dh cc λb o e=>fz b o ⇑[bF e aw]<|fr _ _ aN<|k3 b o e}
section
variable{k:Qk}{nm qn:zZ}{st:Qd}{ps:Z2}{sp:Sp}
structure Fy(K:Fq)(mg:zZ->Qj iH)(nm qn:zZ)(st:Qd)(ps:Z2)(f:eH)(fd:Qh):Prop where
 F:Fun K nm qn st f fd
 b:Binds K fd ps []
 k:Sm K (.ref f)=Qr
def Fh.y(p:Fh K nm qn st f)(b:∀(kV a1 e:iH)(d:Qj eH)(a ct:iH)(us:Qi iH),↑us=↑ps->D8 (Sk nm qn (qM st) (gZ st) (bX st) .none kV a1 e d a ct) ⟨us,[]⟩=pure (ps.zip us)):∃fd,Fy K mg nm qn st ps f fd:=by
 obtain⟨l,c,k⟩:=p;have F:=SQ (st:=st) l c k;exact{_,F,F.binds b,k}
theorem Fg.y{h:Qa}(p:Fg K nm st)(X:K.In h)(G:h.Ns Re mg)(d:∀(kV a1 i:iH)(e:Qj eH)(b ct:iH)(us:Qi iH),↑us=↑ps->D8 (Sk nm nm (qM st) (gZ st) (bX st) .none kV a1 i e b ct) ⟨us,[]⟩=pure (ps.zip us)):∃f fd,Fy K mg nm nm st ps f fd/\mg nm\.ref f:=by
 obtain⟨a,p⟩:=p;obtain⟨fd,y⟩:=p.y d;exact{_,fd,y,nF X G a}
def Fy.c(y:Fy K mg nm nm st ps f fd/\mg nm\.ref f)(h:aR P w K mg base bT k f fd ps sp):X1 k nm ps sp:=⟨f,fd,h,y.1.b,y.1.k,y.2⟩
def Fy.v(y:Fy K mg nm qn st ps f fd)(h:aR P w K mg base bT k f fd ps sp):tP P w K mg base k ps f sp:=⟨fd,h,y.b,y.k⟩
def zR{n:Qk}{P:Qi iH->Prop}(h:∀a r,↑r=n->P (a::r)):∀us:Qi iH,↑us=n+1->P us
 | a::r,e=>h a r<|K0 e
def Bj{P:Qi iH->Prop}(h:P [])(us:Qi iH)(e:↑us=0):P us:=Qi.eq_nil_of_length_eq_zero e▸h
def kS{P:Qi iH->Prop}(h:∀a,P [a]):∀us:Qi iH,↑us=1->P us:=zR λa=>Bj<|h a
def fZ{P:Qi iH->Prop}(h:∀a b,P [a,b]):∀us:Qi iH,↑us=2->P us:=zR λa=>kS<|h a
def iI{P:Qi iH->Prop}(h:∀a b c,P [a,b,c]):∀us:Qi iH,↑us=3->P us:=zR λa=>fZ<|h a
def vL{P:Qi iH->Prop}(h:∀a b c d,P [a,b,c,d]):∀us:Qi iH,↑us=4->P us:=zR λa=>iI<|h a
def LY{P:Qi iH->Prop}(h:∀a b c d e,P [a,b,c,d,e]):∀us:Qi iH,↑us=5->P us:=zR λa=>vL<|h a
def Pp{P:Qi iH->Prop}(h:∀a b c d e f,P [a,b,c,d,e,f]):∀us:Qi iH,↑us=6->P us:=zR λa=>LY<|h a
def Pl(F:X0 "_law_rows" OZ f fd):↥mZ (FE 0):=F.ok xc6 (λ_ _ _ _ _ _ _ _ _ h=>h.elim) λ_ _ _ _ h=>h.elim
def Jv(F:X0 "_law_flat" NR f fd):↥kA (XX 0):=F.ok zw7 (λ_ _ _ _ _ _ _ _ _ h=>h.elim) λ_ _ _ _ h=>h.elim
def Fn(F:X0 "lay" uQ f fd):↥sG (OX 0):=F.ok scLy (λ_ _ _ _ _ _ _ _ _ h=>h.elim) λ_ _ _ _ h=>h.elim
inductive DEn(w:Qb):Qi Ua->Qi (aK×iH)->Prop
 | nil:DEn w [] []
 | cons {x:zZ} {t:R3} {v:iH} {es:Qi Ua} {kvs:Qi (aK×iH)} (h:DEn w es kvs):DEn w (⟨Sr w.params x,.str x t,v⟩::es) ((Qt x,v)::kvs)
def DEn.p(h:DEn w es kvs):Pairs (cR P w) es kvs/\∀e∈es,∃k,(cR P w).is k e.key=Qr/\e.hash=(cR P w).hash k:=by
 induction h with
 | nil=>exact{.nil,λe h=>nomatch h}
 | @cons x t v es kvs _ a=>
  refine{.cons (RT x t) rfl a.1,λe he=>?_};obtain rfl|he:=vj0.mp he
  .exact⟨Qt x,RT x t,rfl⟩
  .exact a.2 e he
def Nj{a:eH}{es:Qi Ua}{n:Qk}{kvs:Qi (aK×iH)}(l:K.lookup a=Qp ⟨.type "dict",Qq,.dict es.toArray n,#[]⟩)(h:DEn w es kvs)(nd:(kvs.map (·.1)).Nodup):NZ P w K a kvs:=
 ⟨_,l,λd e=>⟨_,es.toArray,_,e,⟨rfl,rfl,rfl⟩,rfl,λe b=>h.p.2 e ⇑[b],h.p.1,nd⟩⟩
end
def AZ{K:Fq}{a:eH}{f:Qj eH}{x y:zZ}{e b n:Qk}{d:Qo (Qj iH)}(l:K.lookup a=Qp ⟨.type "tuple",f,.seq #[.str x e,.str y b] n,d⟩)(H:Hp):SqT K H a [.str x,.str y]:=
 .inr ⟨_,_,_,l,rfl,rfl,eQ rfl,.cons ⟨_,rfl⟩<|.cons ⟨_,rfl⟩ .nil⟩
def Gv{K:Fq}{a:eH}{e:Qj eH}{x:zZ}{d n:Qk}{b:Qo (Qj iH)}(l:K.lookup a=Qp ⟨.type "tuple",e,.seq #[.str x d] n,b⟩)(H:Hp):SqT K H a [.str x]:=
 .inr ⟨_,_,_,l,rfl,rfl,eQ rfl,.cons ⟨_,rfl⟩ .nil⟩
def Ck.m'{k:Qk}{x e:zZ}{st:Qd}{fs ps:Z2}{C g:eH}{d:Qh}{sp:Sp}{h:Qa}(c:Ck Y.K x e st fs C g)(X:Y.K.In h)(G:h.Ns Re mg)(y:Fy Y.K mg "__init__" e st ps g d)(o:aR P w K mg base bT k g d ps sp):iJ Y mg base k x C ps sp:=⟨g,d,o,y.b,c.m,nF X G c.a⟩
def CV:Mn Y mg base:=by
 unfold Mn
 intros
 rename_i z F0
 obtain⟨X,G,hfa,p1,p2,p3,p4,p5,p6,p7,p8,p9,ca,c0,c5,bz,bh,bq,cd,bk,bj,bt,ci,be,bx,c7,bi,bn,bv,bf,cb,c6,bs,ck,cj,bp,c2,c8,br,cf,c4,cl,cc,bd,c3,ce,c1,bw,cg,bo,c9,bg,bl,ch,bm,pL,q1,q2,q3,q4,q5,q6,q7,q8,q9,M,J,E,nd1,nd2,aM,T,aH,lH,aP,lP,aW,aB,aT,aU,aD,lD,z⟩:=z;have I:=nF X G aM;have mH:=nF X G aH;have mP:=nF X G aP;have mW:∃tk,mg "OWN"\.str "own" tk:=⟨_,nF X G aW⟩;have mB:∃tk,mg "BACK"\.str "back" tk:=⟨_,nF X G aB⟩;have mT:∃tk,mg "MOST_TIMES"\.int 9 tk:=⟨_,nF X G aT⟩;have mU:∃tk,mg "MOST_UNDER_WAY"\.int 40 tk:=⟨_,nF X G aU⟩;have mD:=nF X G aD;obtain⟨_,_,y1⟩:=p1.y (ps:=["program","kind"]) X G λ_ _ _ _ _ _=>fZ λ_ _=>rfl;obtain⟨_,_,y2⟩:=p2.y (ps:=["program","one","other"]) X G λ_ _ _ _ _ _=>iI λ_ _ _=>rfl;obtain⟨_,_,y3⟩:=p3.y (ps:=qI) X G λ_ _ _ _ _ _=>iI λ_ _ _=>rfl;obtain⟨_,_,y4⟩:=p4.y (ps:=qI) X G λ_ _ _ _ _ _=>iI λ_ _ _=>rfl;obtain⟨_,_,y5⟩:=p5.y (ps:=qI) X G λ_ _ _ _ _ _=>iI λ_ _ _=>rfl;obtain⟨_,_,y6⟩:=p6.y (ps:=qK) X G λ_ _ _ _ _ _=>kS λ_=>rfl;obtain⟨_,_,y7⟩:=p7.y (ps:=["row"]) X G λ_ _ _ _ _ _=>kS λ_=>rfl;obtain⟨_,_,u⟩:=p8.y (ps:=sG) X G λ_ _ _ _ _ _=>iI λ_ _ _=>rfl;obtain⟨_,_,y9⟩:=p9.y (ps:=["program"]) X G λ_ _ _ _ _ _=>kS λ_=>rfl;obtain⟨_,_,ah⟩:=ca.y (ps:=qK) X G λ_ _ _ _ _ _=>kS λ_=>rfl;obtain⟨_,_,ao⟩:=c0.y (ps:=qK) X G λ_ _ _ _ _ _=>kS λ_=>rfl;obtain⟨_,_,af⟩:=c5.y (ps:=yY) X G λ_ _ _ _ _ _=>iI λ_ _ _=>rfl;obtain⟨_,_,ag⟩:=bz.y (ps:=HR) X G λ_ _ _ _ _ _=>iI λ_ _ _=>rfl;obtain⟨_,_,ae⟩:=bh.y (ps:=lI) X G λ_ _ _ _ _ _=>fZ λ_ _=>rfl;obtain⟨_,_,b6⟩:=bq.y (ps:=["there","row"]) X G λ_ _ _ _ _ _=>fZ λ_ _=>rfl;obtain⟨_,_,ay⟩:=cd.y (ps:=DS) X G λ_ _ _ _ _ _=>iI λ_ _ _=>rfl;obtain⟨_,_,b2⟩:=bk.y (ps:=lI) X G λ_ _ _ _ _ _=>fZ λ_ _=>rfl;obtain⟨_,_,a7⟩:=bj.y (ps:=lI) X G λ_ _ _ _ _ _=>fZ λ_ _=>rfl;obtain⟨_,_,al⟩:=bt.y (ps:=["made"]) X G λ_ _ _ _ _ _=>kS λ_=>rfl;obtain⟨_,_,b3⟩:=ci.y (ps:=["made","came"]) X G λ_ _ _ _ _ _=>fZ λ_ _=>rfl;obtain⟨_,_,az⟩:=be.y (ps:=oS) X G λ_ _ _ _ _ _=>vL λ_ _ _ _=>rfl;obtain⟨_,_,am⟩:=bx.y (ps:=oS) X G λ_ _ _ _ _ _=>vL λ_ _ _ _=>rfl;obtain⟨_,_,ba⟩:=c7.y (ps:=eR) X G λ_ _ _ _ _ _=>fZ λ_ _=>rfl;obtain⟨_,_,b0⟩:=bi.y (ps:=["run"]) X G λ_ _ _ _ _ _=>kS λ_=>rfl;obtain⟨_,_,aw⟩:=bn.y (ps:=jR) X G λ_ _ _ _ _ _=>iI λ_ _ _=>rfl;obtain⟨_,_,bc⟩:=bv.y (ps:=IT) X G λ_ _ _ _ _ _=>iI λ_ _ _=>rfl;obtain⟨_,_,ax⟩:=bf.y (ps:=["run","due","most"]) X G λ_ _ _ _ _ _=>iI λ_ _ _=>rfl;obtain⟨_,_,ad⟩:=cb.y (ps:=["run","most"]) X G λ_ _ _ _ _ _=>fZ λ_ _=>rfl;obtain⟨_,_,b4⟩:=c6.y (ps:=LG) X G λ_ _ _ _ _ _=>vL λ_ _ _ _=>rfl;obtain⟨_,_,aa⟩:=bs.y (ps:=["program","choices","most"]) X G λ_ _ _ _ _ _=>iI λ_ _ _=>rfl;obtain⟨_,_,ak⟩:=ck.y (ps:=["_law_script","_law_k"]) X G λ_ _ _ _ _ _=>fZ λ_ _=>rfl;obtain⟨_,_,a5⟩:=cj.y (ps:=qB) X G λ_ _ _ _ _ _=>fZ λ_ _=>rfl;obtain⟨_,_,b5⟩:=bp.y (ps:=qC) X G λ_ _ _ _ _ _=>fZ λ_ _=>rfl;obtain⟨_,_,b1⟩:=c2.y (ps:=qB) X G λ_ _ _ _ _ _=>fZ λ_ _=>rfl;obtain⟨_,_,a8⟩:=c8.y (ps:=[qH]) X G λ_ _ _ _ _ _=>kS λ_=>rfl;obtain⟨_,_,ac⟩:=br.y (ps:=[qH]) X G λ_ _ _ _ _ _=>kS λ_=>rfl;obtain⟨_,_,av⟩:=cf.y (ps:=qG) X G λ_ _ _ _ _ _=>fZ λ_ _=>rfl;obtain⟨_,_,aj⟩:=c4.y (ps:=qE) X G λ_ _ _ _ _ _=>iI λ_ _ _=>rfl;obtain⟨_,_,an⟩:=cl.y (ps:=qA) X G λ_ _ _ _ _ _=>iI λ_ _ _=>rfl;obtain⟨_,_,b7⟩:=cc.y (ps:=qA) X G λ_ _ _ _ _ _=>iI λ_ _ _=>rfl;obtain⟨_,_,bb⟩:=bd.y (ps:=qA) X G λ_ _ _ _ _ _=>iI λ_ _ _=>rfl;obtain⟨_,_,ab⟩:=c3.y (ps:=qD) X G λ_ _ _ _ _ _=>LY λ_ _ _ _ _=>rfl;obtain⟨_,_,ap⟩:=ce.y (ps:=qF) X G λ_ _ _ _ _ _=>vL λ_ _ _ _=>rfl;obtain⟨_,_,au⟩:=c1.y (ps:=qA) X G λ_ _ _ _ _ _=>iI λ_ _ _=>rfl;obtain⟨_,_,ar⟩:=bw.y (ps:=nG) X G λ_ _ _ _ _ _=>LY λ_ _ _ _ _=>rfl;obtain⟨_,_,a1⟩:=cg.y (ps:=mZ) X G λ_ _ _ _ _ _=>Pp λ_ _ _ _ _ _=>rfl;obtain⟨_,_,a6⟩:=bo.y (ps:=JV) X G λ_ _ _ _ _ _=>vL λ_ _ _ _=>rfl;obtain⟨_,_,b8⟩:=c9.y (ps:=[qH,"_law_most"]) X G λ_ _ _ _ _ _=>fZ λ_ _=>rfl;obtain⟨_,_,ai⟩:=bg.y (ps:=[qH]) X G λ_ _ _ _ _ _=>kS λ_=>rfl;obtain⟨_,_,o⟩:=bl.y (ps:=kA) X G λ_ _ _ _ _ _=>kS λ_=>rfl;obtain⟨_,_,b9⟩:=ch.y (ps:=qJ) X G λ_ _ _ _ _ _=>kS λ_=>rfl;obtain⟨_,_,a4⟩:=bm.y (ps:=IG) X G λ_ _ _ _ _ _=>iI λ_ _ _=>rfl;obtain⟨_,w1⟩:=q1.y (ps:=eR) λ_ _ _ _ _ _=>fZ λ_ _=>rfl;obtain⟨_,w2⟩:=q2.y (ps:=eR) λ_ _ _ _ _ _=>fZ λ_ _=>rfl;obtain⟨_,w3⟩:=q3.y (ps:=eR) λ_ _ _ _ _ _=>fZ λ_ _=>rfl;obtain⟨_,w4⟩:=q4.y (ps:=eR) λ_ _ _ _ _ _=>fZ λ_ _=>rfl;obtain⟨_,w5⟩:=q5.y (ps:=eR) λ_ _ _ _ _ _=>fZ λ_ _=>rfl;obtain⟨_,w6⟩:=q6.y (ps:=eR) λ_ _ _ _ _ _=>fZ λ_ _=>rfl;obtain⟨_,w7⟩:=q7.y (ps:=eR) λ_ _ _ _ _ _=>fZ λ_ _=>rfl;obtain⟨_,w8⟩:=q8.y (ps:=eR) λ_ _ _ _ _ _=>fZ λ_ _=>rfl;obtain⟨_,w9⟩:=q9.y (ps:=eR) λ_ _ _ _ _ _=>fZ λ_ _=>rfl;obtain⟨_,v1⟩:=M.h.y (ps:=kW) λ_ _ _ _ _ _=>fZ λ_ _=>rfl;obtain⟨_,v2⟩:=J.h.y (ps:=jQ) λ_ _ _ _ _ _=>LY λ_ _ _ _ _=>rfl;obtain⟨_,v3⟩:=E.h.y (ps:=yV) λ_ _ _ _ _ _=>vL λ_ _ _ _=>rfl;have zz:∀x∈(["len","abs","int","range","tuple","dict","list","any","zip","enumerate","sorted","max","min","reversed","all","isinstance","bool","str"]:Z2),mg x=none:=λx hx=>PySem.W.mg_none_of X G<|z x hx;simp only[vn4]at zz;obtain⟨j,z2,z3,l,b,H,z7,z8,z9,a2,a3,bu,a9,aq,cp,co,cn,cm,_⟩:=zz;have Z:dS Y.K Y.C:=⟨⟨M.c,M.n⟩,⟨J.c,J.n⟩,⟨E.c,E.n⟩,nd1,nd2⟩;have e:X2 1 iL:=λk=>Fy.c a5<|Ll a5.1.F;have i:X2 2 (dP K):=λk=>Fy.c b5<|BC b5.1.F (e k) j;have Wd:X2 2 IN:=λk=>Fy.c b1<|Ow b1.1.F (e k) j l z3;have Tr:X2 3 QS:=λk=>Fy.c a8<|Gu a8.1.F (e<|k+1) (i k) (Wd k) j a2;have Wo:X2 4 MT:=λk=>Fy.c ac<|Ff ac.1.F (e<|k+2) (i<|k+1) (Wd<|k+1) (Tr k) H l z3;have Li:X2 1 BX:=λk=>Fy.c av<|Nh av.1.F H;have Ha:X2 2 QB:=λk=>Fy.c aj<|xT aj.1.F (Li k) z8;have A:X2 3 sT:=λk=>Fy.c an<|vI an.1.F (e<|k+1) (i k) z7;have N:X2 3 wO:=λk=>Fy.c b7<|wY b7.1.F<|i k;have Ma:X2 4 JC:=λk=>Fy.c bb<|Ib bb.1.F (e<|k+2) (i<|k+1)<|N k;have Ar:X2 4 NE:=λk=>Fy.c ab<|Of ab.1.F (e<|k+2) (i<|k+1) (A k) (Li<|k+2) b;have Ca:X2 5 GE:=λk=>Fy.c ap<|Lg ap.1.F (e<|k+3) (i<|k+2) (A<|k+1) (Li<|k+3) (N<|k+1) (Ha<|k+2) (Ma k)<|Ar k;have Fi:X2 4 OG:=λk=>Fy.c au<|Bp au.1.F (e<|k+2) (i<|k+1) (A k)<|N k;have Rz:X2 1 (FE 0):=λk=>Fy.c a1<|Pl a1.1.F;have Row:∀(n k:Qk),X1 (k+5) "_law_rows" mZ (FE n)->X1 (k+6) "_law_row" nG (NW n):=λn k R=>Fy.c ar<|wR ar.1.F (e<|k+4) (i<|k+3) (A<|k+2) (N<|k+2) (Ma<|k+1) (Fi<|k+1) (Ca k) R l j b;have B:∀(n k:Qk),X1 (k+7+2*n) "_law_rows" mZ (vV n):=by
  intro n
  induction n with
  | zero=>intro k;exact Fy.c a1<|YO a1.1.F (e<|k+5) (Row 0 k<|Rz<|k+4) l b
  | succ n ih=>
   intro k;have R1:=Row (n+1) (k+2+2*n) (by have:=ih k;rwa [show k+2+2*n+5=k+7+2*n by lia]);have R2:X1 (k+2+2*n+6+1) "_law_rows" mZ (vV<|n+1):=Fy.c a1<|YO a1.1.F (by have:=e<|k+2+2*n+5;exact this) R1 l b;rwa [show k+7+2*(n+1)=k+2+2*n+6+1 by lia]
 have R4:∀k:Qk,X1 (k+15) "_law_rows" mZ (vV 4):=λk=>B 4 k;have De:X2 16 KF:=λk=>Fy.c a6<|Cr a6.1.F (e<|k+14) (i<|k+13) (A<|k+12) (R4 k) j z7 z9 H b;have Pr:X2 17 OY:=λk=>Fy.c b8<|Fs b8.1.F (e<|k+15) (i<|k+14) (Wo<|k+12) (De k) (R4<|k+1) j l b a3;have Hn:X2 1 (OW K):=λk=>Fy.c ak<|Fu ak.1.F j z2 z3;have Bo:X2 1 (GZ K):=λk=>Fy.c y6<|Ot y6.1.F I (AZ T) b;have Wi:X2 1 NX:=λk=>Fy.c y7<|Gh y7.1.F mH<|AZ lH;have Ly:∀(n k:Qk),X1 (k+2+n) "lay" sG (lF n):=by
  intro n
  induction n with
  | zero=>intro k;exact Fy.c u<|tK u.1.F (Wi k) (Fy.c u<|Fn u.1.F) j b
  | succ n ih=>intro k;exact Fy.c u<|tK u.1.F (by have:=Wi<|k+1+n;rwa [show k+1+n+1=k+2+n by lia]at this) (ih k) j b
 have Ld:X2 7 (RE P w K):=λk=>Fy.c y9<|Co y9.1.F (Bo<|k+5)<|Ly 4 k;have L:X2 1 zP:=λk=>Fy.c y1<|Jw y1.1.F b;have Be:X2 2 CJ:=λk=>Fy.c y2<|Ek y2.1.F<|L k;have DQ:X2 1 JJ:=λk=>Fy.c y3<|Dc y3.1.F;have AQ:X2 2 oV:=λk=>Fy.c y4<|Mw y4.1.F (L k) (DQ k) aq;have KQ:X2 3 zF:=λk=>Fy.c y5<|Lb y5.1.F (L<|k+1) (AQ k) j;have FB:X2 3 (kQ K oV):=λk=>Fy.c az<|DA az.1.F<|AQ k;have CB:X2 4 (kQ K zF):=λk=>Fy.c am<|EB am.1.F<|KQ k;have Fm:X2 1 JO:=λk=>Fy.c al<|uV al.1.F;have Tb:X2 1 xN:=λk=>Fy.c b3<|EG b3.1.F b;have Mt:∀k:Qk,iJ Y mg base (k+1) "Thing" Y.C.th kW (LW Y.C.th):=λk=>Ck.m' M X G v1<|yC v1.F Z;have Md:∀k:Qk,iJ Y mg base (k+1) "Due" Y.C.du jQ (GX Y.C.du):=λk=>Ck.m' J X G v2<|wU v2.F Z;have En:X2 1 (PN Y):=λk=>Fy.c ba<|xH ba.1.F Z;have Nx:X2 1 (JL Y):=λk=>Fy.c b0<|vU b0.1.F Z j;have O:X2 3 (yQ Y):=λk=>Fy.c aw<|wP aw.1.F Z (Md k) aq;have St:X2 5 (vF Y):=λk=>Fy.c bc<|Ho bc.1.F Z (FB<|k+1) (CB k) (DQ<|k+3) (O<|k+1) (Md<|k+2) z9 mP (Gv lP) mW mB;have Ds:∀k:Qk,sB Y mg base (k+6):=λk=>by
  refine{_,_,mD,Nj lD (.cons<|.cons<|.cons<|.cons<|.cons<|.cons<|.cons<|.cons<|.cons<|.nil) (by show([Qt "make",Qt "copy",Qt "put",Qt "take",Qt "say",Qt "either",Qt "again",Qt "bring",Qt "call"]:Qi aK).Nodup;rfl'),λd hn hz=>?_};cases d with
  | op n a r m=>
   cases r with
   | make x y=>exact{_,6,w1.v<|BJ w1.F Z<|Mt<|k+3,{_,_,_,_,6}}
   | copy x y=>exact{_,6,w2.v<|Kc w2.F Z,{_,_,_,_,6}}
   | put x f y=>exact{_,6,w3.v<|uH w3.F Z,{_,_,_,_,_,6}}
   | take x y f=>exact{_,6,w4.v<|DJ w4.F Z,{_,_,_,_,_,6}}
   | say x=>exact{_,6,w5.v<|tR w5.F Z,{_,_,_,6}}
   | bring x=>exact{_,6,w8.v<|FH w8.F Z (L<|k+4) (Tb<|k+4)<|Fm<|k+4,{_,_,_,6}}
  | call n a x y q d as m=>exact{_,6,w9.v<|Jq w9.F Z (Be<|k+3) (St k) mU,{_,_,_,_,_,_,_,6}}
  | either n a p q m=>exact{_,6,w6.v<|DC w6.F Z (Nx<|k+4)<|O<|k+2,{_,_,_,_,6,hz}}
  | again n a p m=>exact{_,6,w7.v<|CL w7.F Z (Nx<|k+4) (O<|k+2) a9 l mT,{_,_,_,6,hz}}
  | back x g s m=>cases hn
 have DR:X2 7 (RC Y):=λk=>Fy.c ax<|Nz ax.1.F Z<|Ds k;have RO:X2 8 (vX Y):=λk=>Fy.c ad<|Mz ad.1.F Z (En<|k+6) (DR k) mB;have Mr:∀k:Qk,iJ Y mg base (k+8) "Run" Y.C.rn yV (LN Y):=λk=>Ck.m' E X G v3<|Js v3.F Z (Fm<|k+6)<|Ld k;have WH:X2 10 (yD Y):=λk=>Fy.c b4<|Gf b4.1.F Z (Mr k) (O<|k+6) (RO<|k+1) I (AZ T) b;have PL:X2 11 (vO Y):=λk=>Fy.c aa<|Og aa.1.F<|WH k;have Ch:X2 3 MY:=λk=>Fy.c ai<|vG ai.1.F (e<|k+1) (i k) l b;have Ls:∀(n k:Qk),X1 (k+2+n) "_law_flat" kA (IJ n):=by
  intro n
  induction n with
  | zero=>intro k;exact Fy.c o<|WG o.1.F<|Fy.c o<|Jv o.1.F
  | succ n ih=>intro k;exact Fy.c o<|WG o.1.F<|ih k
 have Nu:X2 7 (IQ K):=λk=>Fy.c ah<|Nc ah.1.F (Bo<|k+5) (Ly 4 k) b;have Cs:X2 8 (OM K):=λk=>Fy.c ao<|Ec ao.1.F (Nu k) b;have AB:X2 3 EH:=λk=>Fy.c af<|Mx af.1.F<|Be k;have KB:X2 1 PJ:=λk=>Fy.c b6<|Hi b6.1.F;have BB:X2 4 QY:=λk=>Fy.c ay<|Ku ay.1.F (AQ<|k+1)<|AB k;have Am:X2 9 (JH K):=λk=>Fy.c ag<|Cy ag.1.F (Cs k) (AB<|k+5) b;have Bt:X2 10 tZ:=λk=>Fy.c ae<|HP ae.1.F (Bo<|k+8) (Am k) I<|AZ T;have MP:X2 8 (JX K):=λk=>Fy.c b2<|Ix b2.1.F (Nu k) (KB<|k+6) (BB<|k+3) I (AZ T) b a3 j z7;have Bm:X2 10 (OB K):=λk=>Fy.c a7<|Ex a7.1.F (MP<|k+1)<|Am k;have N2:X2 7 (RU K):=λk=>Fy.c b9<|Bu b9.1.F (Ls 4 k) a2;have In:X2 11 wS:=λk=>Fy.c a4<|DG a4.1.F (N2<|k+3) (Bt k) (Bm k) (MP<|k+2) H;exact xV F0 (Hn 258) (Pr 242) (i 257) (Ch 256) (PL 248) (In 248) j l bu a9 a3 b a2
def uX{l:Vz}{w:Qb}{K:Fq}{mg:zZ->Qj iH}(z:Fa w K h mg fa am ah ap ad odm odh odp slm slh slp tm1 tm2 nm th1 th2 nh tp np nd tw tb tt tu e1 e2 e3 e4 e5 e6 e7 e8 e9 g1 g2 g3 g4 g5 g6 g7 g8 g9 c1 c2 c3 i1 i2 i3):
  ∃fd:Qh,(∀(s:Pw)(v:iH),Yi s fd ⟨[v],[]⟩ [("_law_script",v)])/\∀base:Qa,K.In base->base.Ns Re mg->aR l.prog w K mg base bT 260 fa fd ["_law_script"] (CQ K):=by
 obtain⟨a,@⟨_,e,_,_,kV,m,f,i,j,d,c,b⟩⟩:=z.pL;cases z.hfa.symm.trans (nF z.X z.G a);exact{Sk "law" "law" (qM jZ) (gZ jZ) (bX jZ) .none kV m f e i j,λs v=>.of_eq rfl,λbase _ _=>wI @CV {⟨c1,c2,c3⟩,l.prog,w,K,z.nd1,z.nd2} mg base z<|SQ (st:=jZ) d c b}
def MG{l:Vz}{q:Py}{i:Z2}{j:(zZ->Qj iH)->Qa->Prop}{e:Qb->Qa->Prop}{d:DefRec}{K:O8->Fq}(o:l.most\63)(a1:d.params.defaults=[])
  (r:∀(w:Qb)(h:Qa),e w h->(K w.params).In h)
  (F:∀(w:Qb)(mg:zZ->Qj iH)(b:eH)(h:Qa),(K w.params).In h->h.Ns Re mg->mg d.name\.ref b-> ∃fd:Qh,(∀(s:Pw)(u:iH),Yi s fd ⟨[u],[]⟩ [("_law_script",u)])/\∀base:Qa,(K w.params).In base->base.Ns Re mg->aR l.prog w (K w.params) mg base bT 260 b fd ["_law_script"] (CQ<|K w.params)):
  B8 q i j e l.row.toRowW d [] (λf vs=>Ze f vs):=
 L2.Eu (n:=63) (k:=260) (x:="_law_script") (CX:=λ_=>bT) (sp:=λw=>CQ<|K w.params) o ↥?_ a1 ⟨rfl,by decide,by decide⟩ r F (λ_ _ a m hl _ A=>⟨a,m,rfl,A,hl,λ_=>U⟩) λ_ _ _ _ _ z=>z
end Gn
namespace PySem.W.Fast
def tw3115381887318754677:=0
def tw16256876177887094503:=0
def tw8845701332641076802:=0
def tw10179042438940432129:=0
def tw7078302158279391975:=0
def tw9458653259708298485:=0
def tw11916101949510621574:=0
def tw6641145914129020894:=0
def tw18267121853014539784:=0
def tw7900611437038424387:=0
def tw15898146407891245522:=0
def tw6854571136629967382:=0
def tw5749619830077889688:=0
def tw7648199145004996629:=0
def tw5515664901265718765:=0
def tw16000091544934569093:=0
def tw16344342368929351613:=0
def tw12964744021746727623:=0
def tw18239897142947089349:=0
def tw8883145612127928290:=0
def tw9851804688495288998:=0
def tw2805747045355074456:=0
def tw5954350069555830392:=0
def tw15844591400959638385:=0
def tw15794639809451565473:=0
def tw9379247117632299411:=0
def tw3048987467718816530:=0
def tw1988839803601700741:=0
def tw10648654806104115715:=0
def tw1259055077161406941:=0
def tw6507911274318970382:=0
def tw12779197408069188202:=0
def tw8701264665623914792:=0
def tw1547766551367578434:=0
def tw2355186614807485199:=0
def tw17236650491314475778:=0
def tw10092723142771768064:=0
def tw12445548874655561379:=0
def tw14631156518324975256:=0
def tw3289311074991091460:=0
def tw14149942985355661557:=0
def tw14890655770964609157:=0
def tw4611116908050940103:=0
def tw10062864851944785498:=0
def tw3599741535039191550:=0
def tw8938055034499723921:=0
def tw1315582060988702484:=0
def tw5168707320843591046:=0
def tw12296774630179530803:=0
def tw7362354192369479029:=0
def tw15456001077872666618:=0
def tw16641193669383049951:=0
def tw2201327852719926015:=0
def tw4689482827330133689:=0
def tw485088782545261474:=0
def tw10030852688007207767:=0
def tw14178583165201904497:=0
def tw11727877219318887719:=0
def tw13468100163596914385:=0
def tw14384850492000825527:=0
def tw16630548749399038414:=0
def tw11322326607900231579:=0
def tw16714483008022099393:=0
def tw11920491350219572176:=0
def tw10871991456428720907:=0
def tw1814146056706288377:=0
def tw15092661610098305027:=0
def tw15287948782959071849:=0
def tw7787164753500211109:=0
def tw4767249499193606359:=0
def tw4528120098738726694:=0
def tw2922970335780012679:=0
def tw14742702522169705958:=0
def tw10109387107981412084:=0
def tw16072164951818779462:=0
def tw7409220867621752279:=0
def tw5979244560571529676:=0
def tw15541801003330516282:=0
def tw7094359008240737979:=0
def tw2973474930638879834:=0
def tw6205247231648719723:=0
def tw4526528793138419554:=0
def tw5671305109977871833:=0
def tw15904085979831144516:=0
def tw5524274735276569215:=0
def tw2104778132259750177:=0
def tw9264916405213135175:=0
def tw2029657085626122034:=0
def tw13592162673147383669:=0
def tw17197024913986452490:=0
def tw785137824738346939:=0
def tw12816426932611004557:=0
def tw5668511143327115494:=0
def tw5381800835085423948:=0
def tw12429871255767279017:=0
def tw3598313082767637327:=0
def tw80547160874393989:=0
def tw6206510571975150290:=0
def tw16631553993063248786:=0
def tw12779020091559868994:=0
def tw6134523426866054460:=0
def tw11578074138544706406:=0
def tw8800754085442170746:=0
def tw8051616140092540722:=0
def tw2423164712035618038:=0
def tw2113048392276611579:=0
def tw17255074909737821577:=0
def tw14600156651037934918:=0
def tw8749237857595303051:=0
def tw6337103475769565971:=0
def tw12066741800463844850:=0
def tw12912388491681715854:=0
def tw6490367975337450371:=0
def tw13335038237645229579:=0
def tw10144604365826755082:=0
def tw6925018849971264100:=0
def tw7037013019845629146:=0
def tw7729459075879691863:=0
def tw13480139246377654343:=0
def tw16188862676418396583:=0
def tw2325589676726600266:=0
def tw9503587666542753179:=0
def tw3649734404999204101:=0
def tw8637014917948282908:=0
def tw12044794510712147212:=0
def tw13769806412612510603:=0
def tw2595477536766958816:=0
def tw10403541854452945036:=0
def tw765357253266667824:=0
def tw12301100249938993749:=0
def tw11198682639080894222:=0
def tw17467989592081636006:=0
def tw72053480837930225:=0
def tw11583651524674803189:=0
def tw17893196788423471996:=0
def tw15233643228273682532:=0
def tw10545594616698409771:=0
def tw13624987906867703096:=0
def tw3185489334448534284:=0
def tw1808171585195360102:=0
def tw14428077776640422824:=0
def tw12424377178365967294:=0
def tw14721918466777237330:=0
def tw12282220674193407132:=0
def tw5771455529622675379:=0
def tw6661824945273054706:=0
def tw8979797170822984166:=0
def tw7497671389512200058:=0
def tw14559360857229782515:=0
def tw13635307516003214225:=0
def tw1109571499316821551:=0
def tw1783748181708970208:=0
def tw12293331788104641535:=0
def tw4659617619688791797:=0
def tw13258123848358961852:=0
def tw8599236189606454186:=0
def tw14011860583959814444:=0
def tw16665370705312109108:=0
def tw14615746714376282421:=0
def tw13539161273974127754:=0
def tw10549901346532549403:=0
def tw14851565313117464263:=0
def tw333593358354916200:=0
def tw11821737413768061359:=0
def tw2905044288131894377:=0
def tw17530442129363486924:=0
def tw7512286067452621272:=0
def tw3848567099807988174:=0
def tw9786209242414383745:=0
def tw13547148697911414368:=0
def tw6708585144492737623:=0
def tw10317348013707123973:=0
def tw18085519447743971082:=0
def tw15358561844808468980:=0
def tw16685941607373448991:=0
def tw17586622475550186083:=0
def tw11862903454742135460:=0
def tw4389620451005042520:=0
def tw1856012838459619363:=0
def tw141489051275194888:=0
def tw9341531660203999237:=0
def tw5308137721091025075:=0
def tw17478736225836033795:=0
def tw14837098817747694669:=0
def tw17279919585070725648:=0
def tw3290790820349177657:=0
def tw6713748050956338407:=0
def tw9565637262912867592:=0
def tw4375505032255055871:=0
def tw13422648821004841581:=0
def tw15199360923077635959:=0
def tw12482080038508505004:=0
def tw15783760844087568122:=0
def tw353008445061310356:=0
def tw5815722978332064348:=0
def tw946537834125136409:=0
def tw8505481016902897933:=0
def tw6529875446022480974:=0
def tw17157592892751953164:=0
def tw11585869783917984322:=0
end PySem.W.Fast
end
open PySem PySem.W PyProof.Rows
set_option maxRecDepth 100000 in
set_option maxHeartbeats 0 in
theorem PySem.Challenge.cw_surecall_k18_whole_runs_stay_within_holds : PySem.Challenge.rw_surecall_k18_whole_runs_stay_within.Holds := by
 w_on;o_law;k_head;(case hw=>w_witness2)
 k_fill
 refine Gn.MG (l:=PySem.Challenge.rw_surecall_k18_whole_runs_stay_within) rfl rfl (fun w h Y=>PySem.W.kIn_of Y) ?F
 case F=>
  intro w mg fa h KX G a0;refine' Gn.uX (.mk KX G a0 ⟨?_,?_,?_,?_⟩ ⟨?_,?_,?_,?_⟩ ⟨?_,?_,?_,?_⟩ ⟨?_,?_,?_,?_⟩ ⟨?_,?_,?_,?_⟩ ⟨?_,?_,?_,?_⟩ ⟨?_,?_,?_,?_⟩ ⟨?_,?_,?_,?_⟩ ⟨?_,?_,?_,?_⟩ ⟨?_,?_,?_,?_⟩ ⟨?_,?_,?_,?_⟩ ⟨?_,?_,?_,?_⟩ ⟨?_,?_,?_,?_⟩ ⟨?_,?_,?_,?_⟩ ⟨?_,?_,?_,?_⟩ ⟨?_,?_,?_,?_⟩ ⟨?_,?_,?_,?_⟩ ⟨?_,?_,?_,?_⟩ ⟨?_,?_,?_,?_⟩ ⟨?_,?_,?_,?_⟩ ⟨?_,?_,?_,?_⟩ ⟨?_,?_,?_,?_⟩ ⟨?_,?_,?_,?_⟩ ⟨?_,?_,?_,?_⟩ ⟨?_,?_,?_,?_⟩ ⟨?_,?_,?_,?_⟩ ⟨?_,?_,?_,?_⟩ ⟨?_,?_,?_,?_⟩ ⟨?_,?_,?_,?_⟩ ⟨?_,?_,?_,?_⟩ ⟨?_,?_,?_,?_⟩ ⟨?_,?_,?_,?_⟩ ⟨?_,?_,?_,?_⟩ ⟨?_,?_,?_,?_⟩ ⟨?_,?_,?_,?_⟩ ⟨?_,?_,?_,?_⟩ ⟨?_,?_,?_,?_⟩ ⟨?_,?_,?_,?_⟩ ⟨?_,?_,?_,?_⟩ ⟨?_,?_,?_,?_⟩ ⟨?_,?_,?_,?_⟩ ⟨?_,?_,?_,?_⟩ ⟨?_,?_,?_,?_⟩ ⟨?_,?_,?_,?_⟩ ⟨?_,?_,?_,?_⟩ ⟨?_,?_,?_,?_⟩ ⟨?_,?_,?_,?_⟩ ⟨?_,?_,?_,?_⟩ ⟨?_,?_,?_,?_⟩ ⟨?_,?_,?_,?_⟩ ⟨?_,?_,?_,?_⟩ ⟨?_,?_,?_,?_⟩ ⟨?_,?_,?_,?_⟩ ⟨?_,?_,?_⟩ ⟨?_,?_,?_⟩ ⟨?_,?_,?_⟩ ⟨?_,?_,?_⟩ ⟨?_,?_,?_⟩ ⟨?_,?_,?_⟩ ⟨?_,?_,?_⟩ ⟨?_,?_,?_⟩ ⟨?_,?_,?_⟩ ⟨?_,⟨?_,?_,?_,?_⟩,?_,⟨?_,?_,?_,?_⟩,?_,?_,?_⟩ ⟨?_,⟨?_,?_,?_,?_⟩,?_,⟨?_,?_,?_,?_⟩,?_,?_,?_⟩ ⟨?_,⟨?_,?_,?_,?_⟩,?_,⟨?_,?_,?_,?_⟩,?_,?_,?_⟩ ?_ ?_ ?_ ?_ ?_ ?_ ?_ ?_ ?_ ?_ ?_ ?_ ?_ ?_ ?_)
  try any_goals (show(_:Prop);k_is)
  try any_goals (show(_:Prop);k_is)
  any_goals (show(_:Prop);first | decide | (simp only[vn4];and_intros <;> first | k_is | exact fun _ h=>nomatch h))
#print axioms PySem.Challenge.cw_surecall_k18_whole_runs_stay_within_holds
end
